import PyProof.Rows.All
import Wide.All
import OpenK.AllK
import Wide.FinOn
import Lean
import PyProof.EqAt
import PyProof.EqKinds
import PyProof.TupleCall
import PyProof.NeKinds
import PyProof.ListRange
import PyProof.MaxThree
import PyProof.DictWalks
import PyProof.Rows.SortWalk
import PySem.Challenge.RW_hissroom_k17_best_makes_counted
set_option Elab.async false
set_option linter.all false
set_option maxRecDepth 100000
local macro_rules | `(tactic| omega) => `(tactic| lia)
set_option genSizeOf false
set_option maxHeartbeats 4000000
theorem gxA {α:Type _}{l:List α}{i:Nat}(h:i<l.length):l[i]?=some l[i]:=List.getElem?_eq_getElem h
theorem gxB {α:Type _}{l:List α}{i:Nat}{a:α}(h:l[i]?=some a):∃ h:i<l.length,l[i]=a:=List.getElem?_eq_some_iff.mp h
theorem gxC {α β:Type _}{as:List α}(f:α->β):(as.map f).length=as.length:=List.length_map f
theorem gxD {α:Type _}{l:List α}{i:Nat}{a:α}(e:l[i]?=some a):a∈l:=List.mem_of_getElem? e
theorem gxE {α:Type _}{as bs:List α}:(as++bs).length=as.length+bs.length:=List.length_append
theorem gxF {α:Type _}{l₁ l₂:List α}{i:Nat}(h:i<l₁.length):(l₁++l₂)[i]?=l₁[i]?:=List.getElem?_append_left h
theorem gxG {α:Type _}{l₁ l₂:List α}{i:Nat}(h:l₁.length<=i):(l₁++l₂)[i]?=l₂[i - l₁.length]?:=List.getElem?_append_right h
theorem gxI {α:Type _}{a:α}(b:α){l:List α}(h:a∈l):a∈b::l:=List.mem_cons_of_mem b h
theorem gxJ {n:Nat}:(List.range n).length=n:=List.length_range
theorem gxK (n:Nat):(n:Int).toNat=n:=Int.toNat_natCast n
theorem gxL {h:PySem.Heap}{a:PySem.Addr}{u:PySem.Obj}(v:PySem.Obj)(e:h.get? a=some u):(h.push v).get? a=some u:=PySem.Heap.get?_push_of_some v e
theorem gxM {α β:Type}{M:PySem.Model}{A:PySem.Around}{E:PySem.Value->PySem.Shared->Prop}{s:PySem.Shared}{m:PySem.Sem α}{f:α->PySem.Sem β}{Q:β->PySem.Shared->Prop}(h:PySem.wpAny M A m (fun a s=>PySem.wpAny M A (f a) Q E s) E s):PySem.wpAny M A (m >>= f) Q E s:=PySem.wpAny_bind h
theorem gxN {h:PySem.Heap}{a:PySem.Addr}{o:PySem.Obj}(e:h.get? a=some o):a<h.objs.size:=PySem.Heap.lt_size e
theorem gxH {α β:Type _}{f:α->β}{l:List α}{i:Nat}:(l.map f)[i]?=(l[i]?).map f:=List.getElem?_map ..
namespace L2
open PySem PySem.Spec PyProof.Rows
abbrev Key:=Sum Int Str
def keyIs:Key->Value->Bool
 | .inl k,v=>Value.isInt k v
 | .inr x,v=>Value.isStrOf x v
def keyH (w:World):Key->Int
 | .inl k=>hashInt k
 | .inr x=>hashStr w x
theorem keyIs_shape:∀ {k:Key} {v:Value},keyIs k v=true->(∃ i t,k=Sum.inl i/\v=Value.int i t)\/(∃ x t,k=Sum.inr x/\v=Value.str x t)
 | .inl i,v,h=>by
  obtain⟨t,e⟩:=Value.isInt_shape (k:=i) (v:=v) h
  exact .inl ⟨i,t,rfl,e⟩
 | .inr x,v,h=>by
  obtain⟨t,e⟩:=Value.isStrOf_shape (x:=x) (v:=v) h
  exact .inr ⟨x,t,rfl,e⟩
theorem keyIs_int (i:Int)(t:Tok):keyIs (.inl i) (.int i t)=true:=by simp[keyIs,Value.isInt]
theorem keyIs_str (x:Str)(t:Tok):keyIs (.inr x) (.str x t)=true:=by simp[keyIs,Value.isStrOf]
theorem key_ll (a b:Int):decide ((Sum.inl a:Key)=Sum.inl b)=(a==b):=by
 by_cases e:a=b
 ·subst e;simp
 ·have h:¬ (Sum.inl a:Key)=Sum.inl b:=fun q=>e (Sum.inl.inj q)
  rw[decide_eq_false h]
  exact(beq_eq_false_iff_ne.mpr e).symm
theorem key_rr (a b:Str):decide ((Sum.inr a:Key)=Sum.inr b)=decide (a=b):=by
 by_cases e:a=b
 ·subst e;simp
 ·have h:¬ (Sum.inr a:Key)=Sum.inr b:=fun q=>e (Sum.inr.inj q)
  rw[decide_eq_false h,decide_eq_false e]
theorem key_lr (a:Int)(b:Str):decide ((Sum.inl a:Key)=Sum.inr b)=false:=decide_eq_false (fun q=>nomatch q)
theorem key_rl (a:Str)(b:Int):decide ((Sum.inr a:Key)=Sum.inl b)=false:=decide_eq_false (fun q=>nomatch q)
def mixKind (prog:Program)(w:World):PySem.KeyKind prog w Key where
 is:=keyIs
 hash:=keyH w
 inj:=fun v a b ha hb=>by
  rcases keyIs_shape ha with⟨i,t,rfl,rfl⟩ | ⟨x,t,rfl,rfl⟩
  ·rcases keyIs_shape hb with⟨j,u,rfl,e⟩ | ⟨y,u,rfl,e⟩
   ·injection e with e1 _;rw[e1]
   ·exact nomatch e
  ·rcases keyIs_shape hb with⟨j,u,rfl,e⟩ | ⟨y,u,rfl,e⟩
   ·exact nomatch e
   ·injection e with e1 _;rw[e1]
 byValue:=fun k v h=>by
  rcases keyIs_shape h with⟨i,t,rfl,rfl⟩ | ⟨x,t,rfl,rfl⟩<;> rfl
 pyHash:=fun hv h=>by
  rcases keyIs_shape hv with⟨i,t,rfl,rfl⟩ | ⟨x,t,rfl,rfl⟩
  ·exact wpAny_pyHash_int h
  ·exact wpAny_pyHash_str h
 eqBool:=fun hu hv h=>by
  rcases keyIs_shape hu with⟨i,t,rfl,rfl⟩ | ⟨x,t,rfl,rfl⟩
  ·rcases keyIs_shape hv with⟨j,u,rfl,rfl⟩ | ⟨y,u,rfl,rfl⟩
   ·rw[key_ll]at h;exact wpAny_eqBool_int h
   ·rw[key_lr]at h;exact SeqAt.EqAt.int_str i t y u _ _ _ _ h
  ·rcases keyIs_shape hv with⟨j,u,rfl,rfl⟩ | ⟨y,u,rfl,rfl⟩
   ·rw[key_rl]at h;exact SeqAt.EqAt.str_int x t j u _ _ _ _ h
   ·rw[key_rr]at h;exact wpAny_eqBool_str h
 «strs»:=fun k x t v h=>by
  rcases keyIs_shape h with⟨i,u,rfl,e⟩ | ⟨y,u,rfl,e⟩
  ·exact nomatch e
  ·injection e with e1 _
   subst e1
   cases v <;> rfl
theorem mixKind_int (prog:Program)(w:World)(i:Int)(t:Tok):(mixKind prog w).is (.inl i) (.int i t)=true:=keyIs_int i t
theorem mixKind_str (prog:Program)(w:World)(x:Str)(t:Tok):(mixKind prog w).is (.inr x) (.str x t)=true:=keyIs_str x t
inductive V where
 | non | bl (b:Bool) | int (i:Int) | str (x:Str) | byt (b:Array UInt8) | flt (b:UInt64) | ref (a:Addr) | ty (n:String)
 deriving DecidableEq
def RelV:V->Value->Prop
 | .non,u=>u=Value.none
 | .bl b,u=>u=Value.bool b
 | .int i,u=>∃ t,u=Value.int i t
 | .str x,u=>∃ t,u=Value.str x t
 | .byt b,u=>∃ t,u=Value.bytes b t
 | .flt b,u=>∃ t,u=Value.float b t
 | .ref a,u=>u=Value.ref a
 | .ty n,u=>u=Value.type n
abbrev Vals:List V->List Value->Prop:=Paired RelV
theorem Vals.length {xs:List V}{us:List Value}(r:Vals xs us):xs.length=us.length:=Paired.length r
theorem Vals.get:∀ {xs:List V} {us:List Value} {i:Nat} {x:V},Vals xs us->xs[i]?=some x->∃ u,us[i]?=some u/\RelV x u
 | _,_,_,_,.nil,e=>by simp at e
 | _,_,0,_,.cons r _,e=>by simp at e;subst e;exact⟨_,rfl,r⟩
 | _,_,i+1,x,.cons _ t,e=>by
  obtain⟨u,h1,h2⟩:=Vals.get (i:=i) (x:=x) t (by simpa using e)
  exact⟨u,by simpa using h1,h2⟩
theorem Vals.set {x:V}{u:Value}(r:RelV x u):∀ {xs:List V} {us:List Value} (i:Nat),Vals xs us->Vals (xs.set i x) (us.set i u)
 | _,_,_,.nil=>.nil
 | _,_,0,.cons _ t=>.cons r t
 | _,_,i+1,.cons q t=>.cons q (Vals.set r i t)
theorem Vals.append {xs ys:List V}{us ws:List Value}(h:Vals xs us)(s:Vals ys ws):Vals (xs++ys) (us++ws):=by
 induction h with
 | nil=>exact s
 | cons r t ih=>exact .cons r ih
theorem Vals.take:∀ {xs:List V} {us:List Value} (n:Nat),Vals xs us->Vals (xs.take n) (us.take n)
 | _,_,0,_=>.nil
 | _,_,_+1,.nil=>.nil
 | _,_,n+1,.cons r t=>.cons r (Vals.take n t)
theorem Vals.drop:∀ {xs:List V} {us:List Value} (n:Nat),Vals xs us->Vals (xs.drop n) (us.drop n)
 | _,_,0,r=>r
 | _,_,_+1,.nil=>.nil
 | _,_,n+1,.cons _ t=>Vals.drop n t
theorem Vals.none_of:∀ {xs:List V} {us:List Value} {i:Nat},Vals xs us->xs[i]?=none->us[i]?=none:=fun {xs us i} r e=>by
 have h1:=r.length
 have h2:xs.length<=i:=List.getElem?_eq_none_iff.mp e
 exact List.getElem?_eq_none_iff.mpr (by omega)
def RelO:Option V->Option Value->Prop
 | some v,some u=>RelV v u
 | none,none=>True
 | _,_=>False
def KV {κ:Type}:List (κ×V)->List (κ×Value)->Prop:=Paired fun(p:κ×V) (q:κ×Value)=>p.1=q.1/\RelV p.2 q.2
def kV:Key->V
 | .inl i=>.int i
 | .inr x=>.str x
inductive HO where
 | lst (xs:List V)
 | tup (xs:List V)
 | dK (kvs:List (Key×V)) | dT (kvs:List (List Key×V))
 | set (S:Int->Bool) (n:Nat)
 | ins (C dx:Addr) (fs:List (Str×V))
 | own (x:Addr)
 | xd (fs:List (Str×V))
 | met (f x:Addr)
 | rng (lo hi:Int)
 | frz (o:Obj) (u:HO)
 | tbl (ps:Array Value)
 | ext (φ:Heap->Prop)
abbrev Hp:=Addr->Option HO
def upd (H:Hp)(a:Addr)(o:HO):Hp:=fun b=>if b=a then some o else H b
theorem upd_same {H:Hp}{a:Addr}{o:HO}:upd H a o a=some o:=by unfold upd;rw[if_pos rfl]
theorem upd_ne {H:Hp}{a b:Addr}{o:HO}(h:b≠a):upd H a o b=H b:=by unfold upd;rw[if_neg h]
theorem ne_of {H:Hp}{a b:Addr}{o u:HO}(h:H a=some o)(h':H b=some u)(d:o≠u):a≠b:=by
 intro e;subst e;rw[h]at h';exact d (Option.some.inj h')
theorem ne_of_none {H:Hp}{a b:Addr}{o:HO}(h:H a=some o)(h':H b=none):a≠b:=by
 intro e;subst e;rw[h]at h';cases h'
section
variable (P:Program)(w:World)
def ObjOk (H:Hp)(h:Heap)(a:Addr):HO->Prop
 | .lst xs=>xs.length<=sizeLine/\∃(its:List Value) (n:Nat),Vals xs its/\h.get? a=some { cls:=.type "list",data:=.seq its.toArray n}
 | .tup xs=>xs.length<=sizeLine/\∃ its:List Value,Vals xs its/\IsTup h a its.toArray
 | .dK kvs=>kvs.length<=sizeLine/\(a==sysModules)=false/\∃ vs,KV kvs vs/\h.DictOf (mixKind P w) a vs
 | .dT kvs=>kvs.length<=sizeLine/\(a==sysModules)=false/\∃ xs:List (List Key×Addr×Value),
  Paired (fun(p:List Key×V) (q:List Key×Addr×Value)=>p.1=q.1/\H q.2.1=some (.tup (p.1.map kV))/\RelV p.2 q.2.2) kvs xs /\
  ∃ o es ep,h.get? a=some o/\o.ExactDict/\o.data=.dict es ep/\es.toList=xs.map (entryOfKey (tupleKind (mixKind P w)))/\(xs.map (·.1)).Nodup
 | .set S n=>h.SetOf (intKind P w) a S n
 | .ins C dx fs=>H dx=some (.own a)/\fs.length<=1000/\dx≠a/\h.get? a=some (PySem.W.instObj C dx) /\
  ∃ mA,h.Ns1 dx mA/\(∀ f,RelO (fs.lookup f) (mA f))/\PySem.Within mA (fs.map (·.1))
 | .own _=>∃ o,h.get? a=some o
 | .xd fs=>∃ mA,h.Ns1 a mA/\∀ f,RelO (fs.lookup f) (mA f)
 | .rng lo hi=>∃ t u v,h.get? a=some { cls:=.type "range",data:=.fields #[.int lo t,.int hi u,.int 1 v]}
 | .frz o u=>h.get? a=some o/\ObjOk H h a u
 | .tbl ps=>h.get? a=some { cls:=.none,data:=.fields ps}
 | .met f x=>h.get? a=some (PySem.W.methodObj (.ref f) (.ref x))
 | .ext φ=>φ h/\(∃ o,h.get? a=some o)/\∀ h1 h2:Heap,φ h1->(∀ o,h1.get? a=some o->h2.get? a=some o)->φ h2
def HOk (H:Hp)(h:Heap):Prop:=∀ a o,H a=some o->ObjOk P w H h a o
end
section
variable {P:Program}{w:World}{H H':Hp}{h h':Heap}{a:Addr}{o:HO}
theorem ObjOk.lt (x:ObjOk P w H h a o):a<h.objs.size:=by
 cases o with
 | lst xs=>obtain⟨_,_,_,_,e⟩:=x;exact gxN e
 | tup xs=>obtain⟨_,_,_,p⟩:=x;exact p.lt
 | dK kvs=>obtain⟨_,_,_,_,o,_,_,e,_⟩:=x;exact gxN e
 | dT kvs=>obtain⟨_,_,_,_,o,_,_,e,_⟩:=x;exact gxN e
 | set S n=>obtain⟨o,_,_,_,e,_⟩:=x;exact gxN e
 | ins C dx fs=>obtain⟨_,_,_,e,_⟩:=x;exact gxN e
 | own y=>obtain⟨_,e⟩:=x;exact gxN e
 | xd fs=>obtain⟨_,⟨_,_,_,e,_⟩,_⟩:=x;exact gxN e
 | rng lo hi=>obtain⟨_,_,_,e⟩:=x;exact gxN e
 | frz ob u=>obtain⟨e,_⟩:=x;exact gxN e
 | tbl ps=>exact gxN (show h.get? a=some _ from x)
 | met f y=>exact gxN (show h.get? a=some _ from x)
 | ext φ=>obtain⟨_,⟨_,e⟩,_⟩:=x;exact gxN e
theorem Paired.mapP {α β:Type}{F G:α->β->Prop}{l₁:List α}{l₂:List β}(h:Paired F l₁ l₂)(f:∀ a b,F a b->G a b):Paired G l₁ l₂:=by
 induction h with
 | nil=>exact .nil
 | cons r t ih=>exact .cons (f _ _ r) ih
theorem ObjOk.stay (x:ObjOk P w H h a o)(k:∀ b u,(b=a\/H b=some (.own a))->h.get? b=some u->h'.get? b=some u)
 (ho:∀ b,H b=some (.own a)->H' b=some (.own a)) (ht:∀ b xs,H b=some (.tup xs)->H' b=some (.tup xs)):ObjOk P w H' h' a o:=by
 induction o with
 | lst xs=>obtain⟨z,its,n,r,e⟩:=x;exact⟨z,its,n,r,k _ _ (.inl rfl) e⟩
 | tup xs=>obtain⟨z,its,r,ob,e,c⟩:=x;exact⟨z,its,r,ob,k _ _ (.inl rfl) e,c⟩
 | dK kvs=>obtain⟨z,y,vs,r,ob,es,ep,e,c⟩:=x;exact⟨z,y,vs,r,ob,es,ep,k _ _ (.inl rfl) e,c⟩
 | dT kvs =>
  obtain⟨z,y,xs,r,ob,es,ep,e,c⟩:=x
  exact⟨z,y,xs,Paired.mapP r fun p q z=>⟨z.1,ht _ _ z.2.1,z.2.2⟩,ob,es,ep,k _ _ (.inl rfl) e,c⟩
 | set S n=>obtain⟨ob,es,ep,t,e,c⟩:=x;exact⟨ob,es,ep,t,k _ _ (.inl rfl) e,c⟩
 | ins C dx fs =>
  obtain⟨d,z,ne,e,mA,⟨od,es,ep,e2,c⟩,r⟩:=x
  exact⟨ho _ d,z,ne,k _ _ (.inl rfl) e,mA,⟨od,es,ep,k _ _ (.inr d) e2,c⟩,r⟩
 | own y=>obtain⟨ob,e⟩:=x;exact⟨ob,k _ _ (.inl rfl) e⟩
 | xd fs=>obtain⟨mA,⟨od,es,ep,e,c⟩,r⟩:=x;exact⟨mA,⟨od,es,ep,k _ _ (.inl rfl) e,c⟩,r⟩
 | rng lo hi=>obtain⟨t,u,v,e⟩:=x;exact⟨t,u,v,k _ _ (.inl rfl) e⟩
 | frz ob u ih=>obtain⟨e,q⟩:=x;exact⟨k _ _ (.inl rfl) e,ih q⟩
 | tbl ps =>
  have e:h.get? a=some { cls:=.none,data:=.fields ps}:=x
  show h'.get? a=some { cls:=.none,data:=.fields ps}
  exact k a _ (.inl rfl) e
 | met f y =>
  have e:h.get? a=some (PySem.W.methodObj (.ref f) (.ref y)):=x
  show h'.get? a=some (PySem.W.methodObj (.ref f) (.ref y))
  exact k a _ (.inl rfl) e
 | ext φ=>obtain⟨p,⟨o,e⟩,st⟩:=x;exact⟨st _ _ p fun o q=>k _ _ (.inl rfl) q,⟨o,k _ _ (.inl rfl) e⟩,st⟩
theorem HOk.lt (x:HOk P w H h)(e:H a=some o):a<h.objs.size:=(x a o e).lt
theorem HOk.fresh (x:HOk P w H h)(e:h.objs.size<=a):H a=none:=by
 cases q:H a with
 | none=>rfl
 | some u=>exact absurd (Nat.lt_of_lt_of_le (x.lt q) e) (Nat.lt_irrefl _)
theorem HOk.kept (x:HOk P w H h)(k:∀ b u,h.get? b=some u->h'.get? b=some u):HOk P w H h':=fun a o e =>
 (x a o e).stay (fun b u _ q=>k b u q) (fun _ q=>q) fun _ _ q=>q
theorem HOk.laid (x:HOk P w H h)(k:∀ b u,h.get? b=some u->h'.get? b=some u)(hp:h.objs.size<=a)(new:ObjOk P w (upd H a o) h' a o):HOk P w (upd H a o) h':=fun b u e=>by
 have hn:=x.fresh hp
 by_cases hb:b=a
 ·subst hb;rw[upd_same]at e;cases e;exact new
 ·rw[upd_ne hb]at e
  exact(x b u e).stay (fun c v _ q=>k c v q) (fun c q=>by rw[upd_ne (ne_of_none q hn)];exact q) fun c xs q=>by rw[upd_ne (ne_of_none q hn)];exact q
end
def Rd (H:Hp)(a:Addr)(u:HO):Prop:=H a=some u\/∃ o,H a=some (.frz o u)
theorem Rd.ok {P:Program}{w:World}{H:Hp}{h:Heap}{a:Addr}{u:HO}(r:Rd H a u)(x:HOk P w H h):ObjOk P w H h a u:=by
 rcases r with r | ⟨o,r⟩
 ·exact x a u r
 ·obtain⟨_,q⟩:=x a _ r
  exact q
def Mut:Option HO->Prop
 | some (.lst _)=>True
 | some (.dK _)=>True
 | some (.dT _)=>True
 | some (.set _ _)=>True
 | some (.ins _ _ _)=>True
 | some (.ext _)=>True
 | _=>False
section
variable {P:Program}{w:World}{H:Hp}{h h':Heap}{x e:Addr}{o':HO}
theorem HOk.write (ok:HOk P w H h)(mu:Mut (H x))(he:e=x\/H e=some (.own x))(k:∀ b u,b≠e->h.get? b=some u->h'.get? b=some u)(heo:∃ u,h'.get? e=some u)
 (new:ObjOk P w (upd H x o') h' x o'):HOk P w (upd H x o') h':=fun b u q=>by
 have nown:∀ c y,H c=some (.own y)->c≠x:=fun c y r z=>by subst z;rw[r]at mu;exact mu
 have ntup:∀ c xs,H c=some (.tup xs)->c≠x:=fun c xs r z=>by subst z;rw[r]at mu;exact mu
 by_cases hb:b=x
 ·subst hb;rw[upd_same]at q;cases q;exact new
 ·rw[upd_ne hb]at q
  by_cases hbe:b=e
  ·have q':H b=some (.own x):=by
    rcases he with z | z
    ·exact absurd (hbe.trans z) hb
    ·rw[hbe];exact z
   rw[q]at q';cases q'
   obtain⟨v,hv⟩:=heo
   exact⟨v,by rw[hbe];exact hv⟩
  ·refine(ok b u q).stay (fun c v hc r=>k c v ?_ r) (fun c r=>by rw[upd_ne (nown c b r)];exact r) fun c xs r=>by rw[upd_ne (ntup c xs r)];exact r
   rcases hc with rfl | hc
   ·exact hbe
   ·rintro rfl
    rcases he with z | z
    ·exact nown c b hc z
    ·rw[hc]at z;cases z;exact hb rfl
end
structure Un (fs ex:List Addr)(H H':Hp)(h h':Heap):Prop where
 keep:∀ b o,h.get? b=some o->H b=none->b∉fs->b∉ex->h'.get? b=some o
 slot:∀ b o,h.get? b=some o->H b=none->b∈fs->b∉ex->∃ sl,h'.get? b=some { o with slots:=sl}
 free:∀ b o,h.get? b=some o->H b=none->b∉ex->H' b=none
 there:∀ b o,h.get? b=some o->b∉ex->∃ o',h'.get? b=some o'
 tups:∀ b xs,H b=some (.tup xs)->H' b=some (.tup xs)
 frzs:∀ b o u,H b=some (.frz o u)->H' b=some (.frz o u)
 tbls:∀ b ps,H b=some (.tbl ps)->∃ more,H' b=some (.tbl (ps++more))
section
variable {fs fs' ex ex':List Addr}{H H1 H2:Hp}{h h1 h2 h':Heap}{a x e:Addr}{o:HO}
theorem Un.any (u:Un fs ex H H1 h h1){b:Addr}{ob:Obj}(q:h.get? b=some ob)(n:H b=none)(hx:b∉ex):∃ sl,h1.get? b=some { ob with slots:=sl}:=by
 by_cases hb:b∈fs
 ·exact u.slot b ob q n hb hx
 ·exact⟨ob.slots,u.keep b ob q n hb hx⟩
theorem Un.kept (k:∀ b u,h.get? b=some u->h'.get? b=some u):Un fs ex H H h h' :=
 ⟨fun b ob q _ _ _=>k b ob q,fun b ob q _ _ _=>⟨ob.slots,k b ob q⟩,fun _ _ _ n _=>n,fun b ob q _=>⟨ob,k b ob q⟩,fun _ _ q=>q,fun _ _ _ q=>q,fun _ ps q=>⟨#[],by rw[q];simp⟩⟩
theorem Un.refl:Un fs ex H H h h:=Un.kept fun _ _ q=>q
theorem Un.laid (k:∀ b u,h.get? b=some u->h'.get? b=some u)(hp:h.objs.size<=a)(hn:H a=none):Un fs ex H (upd H a o) h h' where
 keep:=fun b u q _ _ _=>k b u q
 slot:=fun b u q _ _ _=>⟨u.slots,k b u q⟩
 free:=fun b u q n _=>by rw[upd_ne (Nat.ne_of_lt (Nat.lt_of_lt_of_le (gxN q) hp))];exact n
 there:=fun b u q _=>⟨u,k b u q⟩
 tups:=fun b xs q=>by rw[upd_ne (ne_of_none q hn)];exact q
 frzs:=fun b u xs q=>by rw[upd_ne (ne_of_none q hn)];exact q
 tbls:=fun b ps q=>⟨#[],by rw[upd_ne (ne_of_none q hn),q];simp⟩
theorem Un.write (mu:Mut (H x))(he:e=x\/H e=some (.own x))(k:∀ b u,b≠e->h.get? b=some u->h'.get? b=some u)(heo:∃ u,h'.get? e=some u):Un fs ex H (upd H x o) h h':=by
 have hx:∀ b,H b=none->b≠x:=fun b n z=>by subst z;rw[n]at mu;exact mu
 have hb:∀ b,H b=none->b≠e:=fun b n z=>by
  subst z
  rcases he with r | r
  ·exact hx b n r
  ·rw[n]at r;cases r
 have hm:∀ b u,H b=some u->¬ Mut (some u)->b≠x:=fun b u q nm z=>by subst z;rw[q]at mu;exact nm mu
 refine⟨fun b u q n _ _=>k b u (hb b n) q,fun b u q n _ _=>⟨u.slots,k b u (hb b n) q⟩,fun b u q n _=>by rw[upd_ne (hx b n)];exact n,fun b u q _=>?_,
  fun b xs q=>by rw[upd_ne (hm b _ q fun z=>z)];exact q,fun b u xs q=>by rw[upd_ne (hm b _ q fun z=>z)];exact q,fun b ps q=>⟨#[],by rw[upd_ne (hm b _ q fun z=>z),q];simp⟩⟩
 by_cases hbe:b=e
 ·subst hbe;exact heo
 ·exact⟨u,k b u hbe q⟩
end
def trk (h:Heap)(H:Hp):List Addr:=(List.range h.objs.size).filter fun a=>(H a).isSome
def hidT (h:Heap)(H:Hp):Heap:=PySem.W.hideAll h (trk h H)
theorem hidT_size (h:Heap)(H:Hp):(hidT h H).objs.size=h.objs.size:=PySem.W.hideAll_size _ _
theorem hidT_get {h:Heap}{H:Hp}{b:Addr}{o:Obj}(e:h.get? b=some o)(n:H b=none):(hidT h H).get? b=some o :=
 PySem.W.hideAll_get _ e fun hm=>by
  have q:(H b).isSome=true:=(List.mem_filter.mp hm).2
  rw[n]at q;simp at q
theorem of_hidT {h:Heap}{H:Hp}{b:Addr}{o:Obj}(e:(hidT h H).get? b=some o):h.get? b=some o/\H b=none:=by
 have e':h.get? b=some o:=PySem.W.of_hideAll (trk h H) e
 refine⟨e',?_⟩
 cases q:H b with
 | none=>rfl
 | some x =>
  have hm:b∈trk h H:=List.mem_filter.mpr ⟨List.mem_range.mpr (gxN e'),by simp[q]⟩
  have z:(hidT h H).get? b=none:=PySem.W.hideAll_none (trk h H) hm
  rw[z]at e;cases e
def allNews (g h:Heap)(L:Addr):List (Addr×Obj):=(List.range h.objs.size).filterMap fun a=>if a=L\/(g.get? a).isSome=true then none else(h.get? a).map fun o=>(a,o)
def rest (g h:Heap)(L d:Addr):List (Addr×Obj):=(allNews g h L).filter fun p=>decide (p.1≠d)
structure Mod (K:PySem.W.Frag)(mg:Str->Option Value)(base:Heap):Prop where
 kin:K.In base
 glob:base.Ns mainGlobals mg
 blt:∃ mb,base.Ns builtinsNs mb/\∀ x:Str,x ≠ "__name__"->mb x=bootBuiltins x
 nolimit:base.NoLimit
structure Cx where
 prog:Program
 w:World
 K:PySem.W.Frag
 mg:Str->Option Value
 base:Heap
 A:Around
 N:List Str
 s₀:Shared
 H₀:Hp
 env:Env
 outer:List Env
 stack:List Env
 ex:List Addr
 fn:Str->Bool
 calm:Bool
 pn:List (Addr×Obj)
 xe:Value->Shared->Prop
def frs (l:List Env):List Addr:=l.filterMap (·.frame)
abbrev Cx.fs (X:Cx):List Addr:=frs X.outer
def Vis (sc:Scope)(x:Str):Prop:=sc.names.lookup x=some .local\/sc.names.lookup x=some .cell\/sc.names.lookup x=some .free
def Loc (sc:Scope)(x:Str):Prop:=sc.names.lookup x=some .local\/sc.names.lookup x=some .cell
def Look (env:Env)(h:Heap)(m:Str->Option Value)(x:Str)(u:Value):Prop :=
 (env.kindOf x=some .local/\m x=some u)\/((env.kindOf x=some .cell\/env.kindOf x=some .free)/\∃ c,env.cells.lookup x=some c/\h.IsCell c (some u))
structure Cx.Ok (X:Cx):Prop where
 mod:Mod X.K X.mg X.base
 kind:X.env.scope.kind=.function
 glob:X.env.globals=mainGlobals
 blt:X.env.builtins=builtinsNs
 above:X.s₀.heap.objs.size<=X.env.locals
 inj:∀ x y c,X.env.cells.lookup x=some c->X.env.cells.lookup y=some c->x=y
 has:∀ x,(X.env.kindOf x=some .cell\/X.env.kindOf x=some .free)->∃ c,X.env.cells.lookup x=some c
 cab:∀ x c,X.fn x=true->X.env.cells.lookup x=some c->X.s₀.heap.objs.size<=c
 hd:X.calm=true->X.A.handled=none
 frames:X.A.frames=some X.stack
 stk:X.stack=X.outer\/(X.stack=X.env::X.outer/\X.env.frame=some X.env.locals)
 exf:∀ b∈X.ex,b≠X.env.locals/\∀ x c,X.env.cells.lookup x=some c->c≠b
 bs:∀ b o,X.base.get? b=some o->X.s₀.heap.get? b=some o/\X.H₀ b=none
 bsz:X.base.objs.size<=X.s₀.heap.objs.size
 noex:∀ b o,X.base.get? b=some o->b∉X.ex
 exfs:∀ b∈X.ex,b∉X.fs
 funs:X.s₀.heap.FunFrames X.base X.outer
 frf:∀ b∈X.fs,X.H₀ b=none
structure Inv (X:Cx)(pins:List (Addr×Obj))(σ:List (Option V))(H:Hp)(s:Shared):Prop where
 ok:X.Ok
 os:s.os=X.s₀.os
 bare:AllBare s.gens
 base:Un X.fs X.ex X.H₀ H X.s₀.heap s.heap
 loc:∃ m,s.heap.Ns X.env.locals m/\∀(i:Nat) (x:Str) (v:V),X.N[i]?=some x->σ[i]?=some (some v)->Vis X.env.scope x->∃ u,RelV v u/\Look X.env s.heap m x u
 cell:∀ x c,X.env.cells.lookup x=some c->∃ v,s.heap.IsCell c v
 free:H X.env.locals=none
 freeC:∀ x c,X.env.cells.lookup x=some c->H c=none
 pin:∀ p∈X.pn++pins,s.heap.get? p.1=some p.2/\H p.1=none/\p.1≠X.env.locals/\p.1∉X.fs/\∀ v,p.2.data≠.cell v
 hok:HOk X.prog X.w H s.heap
 len:σ.length=X.N.length
section
variable {X:Cx}{pins:List (Addr×Obj)}{σ:List (Option V)}{H H':Hp}{s:Shared}{h':Heap}
theorem Cx.Ok.nofr (ok:X.Ok){b:Addr}{o:Obj}(e:X.base.get? b=some o):b∉X.fs:=fun hb=>by
 have:=(ok.funs.mem hb).1
 rw[e]at this;cases this
theorem Inv.bs (I:Inv X pins σ H s):∀ b o,X.base.get? b=some o->s.heap.get? b=some o/\H b=none:=fun b o e =>
 ⟨I.base.keep b o (I.ok.bs b o e).1 (I.ok.bs b o e).2 (I.ok.nofr e) (I.ok.noex b o e),I.base.free b o (I.ok.bs b o e).1 (I.ok.bs b o e).2 (I.ok.noex b o e)⟩
theorem Inv.bk (I:Inv X pins σ H s):∀ b o,X.base.get? b=some o->s.heap.get? b=some o:=fun b o e=>(I.bs b o e).1
theorem Inv.mod (I:Inv X pins σ H s):Mod X.K X.mg X.base:=I.ok.mod
theorem Inv.kIn (I:Inv X pins σ H s):X.K.In s.heap:=I.ok.mod.kin.keeps I.bk
theorem Inv.fr (I:Inv X pins σ H s):∃ m,Fr X.base X.env.locals s.heap m :=
 let ⟨m,hn,_⟩:=I.loc
 ⟨m,hn,I.bk,Nat.le_trans I.ok.bsz I.ok.above⟩
theorem Inv.lt (I:Inv X pins σ H s):X.env.locals<s.heap.objs.size:=let ⟨_,hn,_⟩:=I.loc;hn.lt
theorem Inv.sz (I:Inv X pins σ H s):X.s₀.heap.objs.size<=s.heap.objs.size:=Nat.le_trans I.ok.above (Nat.le_of_lt I.lt)
theorem Inv.nofs (I:Inv X pins σ H s){a:Addr}(h:s.heap.objs.size<=a):a∉X.fs:=fun hb=>by
 obtain⟨_,o,ho,_⟩:=I.ok.funs.mem hb
 exact absurd (Nat.lt_of_lt_of_le (gxN ho) (Nat.le_trans I.sz h)) (Nat.lt_irrefl _)
theorem Inv.cne (I:Inv X pins σ H s):∀ x c,X.env.cells.lookup x=some c->c≠X.env.locals:=fun x c e z=>by
 obtain⟨v,o,ho,hd⟩:=I.cell x c e
 obtain⟨m,⟨o',es,ep,ho',hd',_⟩,_⟩:=I.loc
 rw[z,ho']at ho;cases ho;rw[hd']at hd;cases hd
theorem Inv.funs (I:Inv X pins σ H s):s.heap.FunFrames X.base X.outer:=by
 have all:∀(l:List Env),(∀ b∈frs l,b∈X.fs)->X.s₀.heap.FunFrames X.base l->s.heap.FunFrames X.base l:=by
  intro l
  induction l with
  | nil=>intro _ _;trivial
  | cons env r ih =>
   intro hs hl
   obtain⟨hk,⟨L,o,hf,hn,ho,hd⟩,hr⟩:=hl
   have hL:L∈X.fs:=hs L (by unfold frs;rw[List.filterMap_cons,hf];exact List.mem_cons_self)
   obtain⟨sl,e⟩:=I.base.slot L o ho (I.ok.frf L hL) hL fun z=>I.ok.exfs L z hL
   exact⟨hk,⟨L,_,hf,hn,e,hd⟩,ih (fun b hb=>hs b (by unfold frs;rw[List.filterMap_cons,hf];exact gxI _ hb)) hr⟩
 exact all X.outer (fun _ hb=>hb) I.ok.funs
theorem Inv.stack (I:Inv X pins σ H s):s.heap.FunFrames X.base X.stack:=by
 rcases I.ok.stk with e | ⟨e,hf⟩
 ·rw[e];exact I.funs
 ·rw[e]
  obtain⟨m,hn,_⟩:=I.loc
  refine .cons (by rw[I.ok.kind];decide) hf hn ?_ I.funs
  exact Heap.get?_none_of_le (Nat.le_trans I.ok.bsz I.ok.above)
theorem Inv.stkSub (I:Inv X pins σ H s):∀ b∈frs X.stack,b∈X.env.locals::X.fs:=fun b hb=>by
 rcases I.ok.stk with e | ⟨e,hf⟩
 ·rw[e]at hb;exact gxI _ hb
 ·rw[e]at hb
  unfold frs at hb
  rw[List.filterMap_cons,hf]at hb
  exact hb
theorem Inv.stkFree (I:Inv X pins σ H s):∀ b∈frs X.stack,H b=none:=fun b hb=>by
 rcases List.mem_cons.mp (I.stkSub b hb)with e | hb
 ·rw[e];exact I.free
 ·obtain⟨_,o,ho,_⟩:=I.ok.funs.mem hb
  exact I.base.free b o ho (I.ok.frf b hb) fun z=>I.ok.exfs b z hb
theorem Inv.step {g':Array GenState}{t':Nat}{d':Drawn}{ch:List Addr}(I:Inv X pins σ H s)
 (hch:∀ b∈ch,(b∈X.ex\/X.s₀.heap.objs.size<=b)/\b≠X.env.locals/\(∀ x c,X.env.cells.lookup x=some c->c≠b)/\∀ p∈X.pn++pins,p.1≠b)
 (keep:∀ b o,b≠X.env.locals->b∉X.fs->b∉ch->s.heap.get? b=some o->H b=none->h'.get? b=some o)
 (slot:∀ b o,b≠X.env.locals->b∈X.fs->b∉ch->s.heap.get? b=some o->H b=none->∃ sl,h'.get? b=some { o with slots:=sl}) (free:∀ b o,b∉ch->s.heap.get? b=some o->H b=none->H' b=none)
 (there:∀ b o,b∉ch->s.heap.get? b=some o->∃ o',h'.get? b=some o')
 (tups:∀ b xs,H b=some (.tup xs)->H' b=some (.tup xs)) (frzs:∀ b o u,H b=some (.frz o u)->H' b=some (.frz o u)) (tbls:∀ b ps,H b=some (.tbl ps)->∃ more,H' b=some (.tbl (ps++more)))
 (ns:∀ m,s.heap.Ns X.env.locals m->h'.Ns X.env.locals m) (hok:HOk X.prog X.w H' h') (hg:AllBare g') :
 Inv X pins σ H' { s with heap:=h',gens:=g',drawn:=d',toks:=t'}:=by
 have neL:∀ b o,X.s₀.heap.get? b=some o->b≠X.env.locals:=fun b o e=>Nat.ne_of_lt (Nat.lt_of_lt_of_le (gxN e) I.ok.above)
 have neC:∀ b o,X.s₀.heap.get? b=some o->b∉X.ex->b∉ch:=fun b o e hx hb=>by
  rcases(hch b hb).1 with z | z
  ·exact hx z
  ·exact absurd (Nat.lt_of_lt_of_le (gxN e) z) (Nat.lt_irrefl _)
 have cellK:∀ x c,X.env.cells.lookup x=some c->∀ v,s.heap.IsCell c v->h'.IsCell c v:=fun x c e v ⟨o,ho,hd⟩=>by
  have nch:c∉ch:=fun z=>(hch c z).2.2.1 x c e rfl
  by_cases hc:c∈X.fs
  ·obtain⟨sl,q⟩:=slot c o (I.cne x c e) hc nch ho (I.freeC x c e)
   exact⟨_,q,hd⟩
  ·exact⟨o,keep c o (I.cne x c e) hc nch ho (I.freeC x c e),hd⟩
 refine⟨I.ok,I.os,hg,⟨fun b o e n hb hx=>?_,fun b o e n hb hx=>?_,fun b o e n hx=>?_,fun b o e hx=>?_,fun b xs e=>tups b xs (I.base.tups b xs e),fun b o xs e=>frzs b o xs (I.base.frzs b o xs e),fun b ps e=>?_⟩,?_,fun x c e=>?_,?_,fun x c e=>?_,fun p hp=>?_,hok,I.len⟩
 ·exact keep b o (neL b o e) hb (neC b o e hx) (I.base.keep b o e n hb hx) (I.base.free b o e n hx)
 ·obtain⟨sl,e1⟩:=I.base.slot b o e n hb hx
  obtain⟨sl',e2⟩:=slot b _ (neL b o e) hb (neC b o e hx) e1 (I.base.free b o e n hx)
  exact⟨sl',e2⟩
 ·obtain⟨o',e1⟩:=I.base.there b o e hx
  exact free b o' (neC b o e hx) e1 (I.base.free b o e n hx)
 ·obtain⟨o',e1⟩:=I.base.there b o e hx
  exact there b o' (neC b o e hx) e1
 ·obtain⟨m1,e1⟩:=I.base.tbls b ps e
  obtain⟨m2,e2⟩:=tbls b _ e1
  exact⟨m1++m2,by rw[e2,Array.append_assoc]⟩
 ·obtain⟨m,hn,hl⟩:=I.loc
  refine⟨m,ns m hn,fun i x v e1 e2 e3=>?_⟩
  obtain⟨u,r,l⟩:=hl i x v e1 e2 e3
  refine⟨u,r,?_⟩
  rcases l with l | ⟨k,c,e,z⟩
  ·exact .inl l
  ·exact .inr ⟨k,c,e,cellK x c e _ z⟩
 ·obtain⟨v,z⟩:=I.cell x c e
  exact⟨v,cellK x c e v z⟩
 ·obtain⟨m,⟨o,_,_,ho,_⟩,_⟩:=I.loc
  exact free _ o (fun z=>(hch _ z).2.1 rfl) ho I.free
 ·obtain⟨v,o,ho,hd⟩:=I.cell x c e
  exact free c o (fun z=>(hch c z).2.2.1 x c e rfl) ho (I.freeC x c e)
 ·obtain⟨e,n,ne,nf,d⟩:=I.pin p hp
  have nch:p.1∉ch:=fun z=>(hch p.1 z).2.2.2 p hp rfl
  exact⟨keep p.1 p.2 ne nf nch e n,free p.1 p.2 nch e n,ne,nf,d⟩
theorem Inv.un {t':Nat}(I:Inv X pins σ H s)(u:Un X.fs [] H H' s.heap h')(hok:HOk X.prog X.w H' h'):Inv X pins σ H' { s with heap:=h',toks:=t'}:=by
 obtain⟨m,⟨o,es,ep,ho,r⟩,_⟩:=id I.loc
 obtain⟨sl,hL⟩:=u.any ho I.free (by simp)
 exact I.step (g':=s.gens) (d':=s.drawn) (ch:=[]) (fun _ z=>nomatch z) (fun b o _ hb _ e n=>u.keep b o e n hb (by simp)) (fun b o _ hb _ e n=>u.slot b o e n hb (by simp)) (fun b o _ e n=>u.free b o e n (by simp)) (fun b o _ e=>u.there b o e (by simp)) u.tups u.frzs u.tbls (fun m' hm=>by
  obtain⟨o',es',ep',ho',r'⟩:=hm
  rw[ho]at ho';cases ho'
  exact⟨_,es',ep',hL,r'⟩) hok I.bare
theorem Inv.call {g':Array GenState}{t':Nat}{d':Drawn}{ch:List Addr}(I:Inv X pins σ H s)(u:Un (frs X.stack) ch H H' s.heap h')(hok:HOk X.prog X.w H' h')(hg:AllBare g')
 (hch:∀ b∈ch,(b∈X.ex\/X.s₀.heap.objs.size<=b)/\b≠X.env.locals/\(∀ x c,X.env.cells.lookup x=some c->c≠b)/\∀ p∈X.pn++pins,p.1≠b) :
 Inv X pins σ H' { s with heap:=h',gens:=g',drawn:=d',toks:=t'}:=by
 obtain⟨m,⟨o,es,ep,ho,r⟩,_⟩:=id I.loc
 obtain⟨sl,hL⟩:=u.any ho I.free fun z=>(hch _ z).2.1 rfl
 exact I.step (ch:=ch) hch (fun b o hL hb hc e n=>u.keep b o e n (fun z=>(List.mem_cons.mp (I.stkSub b z)).elim hL hb) hc) (fun b o _ _ hc e n=>u.any e n hc) (fun b o hc e n=>u.free b o e n hc) (fun b o hc e=>u.there b o e hc) u.tups u.frzs u.tbls (fun m' hm=>by
  obtain⟨o',es',ep',ho',r'⟩:=hm
  rw[ho]at ho';cases ho'
  exact⟨_,es',ep',hL,r'⟩) hok hg
theorem Inv.turned {t':Nat}{it:Addr}(I:Inv X pins σ H s)(k:∀ b o,b≠it->s.heap.get? b=some o->h'.get? b=some o)(hn:H it=none)(hL:it≠X.env.locals)
 (h1:it∈X.ex\/X.s₀.heap.objs.size<=it) (h2:∀ x c,X.env.cells.lookup x=some c->c≠it) (h3:∀ p∈X.pn++pins,p.1≠it):Inv X pins σ H { s with heap:=h',toks:=t'}:=by
 have nit:∀ b u,H b=some u->b≠it:=fun b u e z=>by rw[z,hn]at e;cases e
 refine I.step (g':=s.gens) (d':=s.drawn) (ch:=[it]) (fun b hb=>?_) (fun b o _ _ hc e _=>k b o (fun z=>hc (by simp[z])) e) (fun b o _ _ hc e _=>⟨o.slots,k b o (fun z=>hc (by simp[z])) e⟩) (fun _ _ _ _ n=>n)
  (fun b o hc e=>⟨o,k b o (fun z=>hc (by simp[z])) e⟩) (fun _ _ e=>e) (fun _ _ _ e=>e) (fun b ps e=>⟨#[],by rw[e];simp⟩) (fun m hm=>?_) (fun b u e=>?_) I.bare
 ·have e:b=it:=by simpa using hb
  subst e
  exact⟨h1,hL,h2,h3⟩
 ·obtain⟨o,es,ep,ho,r⟩:=hm
  exact⟨o,es,ep,k _ o (Ne.symm hL) ho,r⟩
 ·refine(I.hok b u e).stay (fun c v hc q=>k c v ?_ q) (fun _ q=>q) fun _ _ q=>q
  rcases hc with z | z
  ·rw[z];exact nit b u e
  ·exact nit c _ z
theorem Inv.tok (I:Inv X pins σ H s)(t:Nat):Inv X pins σ H { s with toks:=t}:=I.un (h':=s.heap) (t':=t) Un.refl I.hok
theorem Inv.kept {t':Nat}(I:Inv X pins σ H s)(k:∀ b u,s.heap.get? b=some u->h'.get? b=some u):Inv X pins σ H { s with heap:=h',toks:=t'}:=I.un (Un.kept k) (I.hok.kept k)
theorem Inv.laid {a:Addr}{o:HO}{t':Nat}(I:Inv X pins σ H s)(k:∀ b u,s.heap.get? b=some u->h'.get? b=some u)(hp:s.heap.objs.size<=a)(new:ObjOk X.prog X.w (upd H a o) h' a o) :
 Inv X pins σ (upd H a o) { s with heap:=h',toks:=t'}:=I.un (Un.laid k hp (I.hok.fresh hp)) (I.hok.laid k hp new)
theorem Inv.write {x e:Addr}{o:HO}{t':Nat}(I:Inv X pins σ H s)(mu:Mut (H x))(he:e=x\/H e=some (.own x))(k:∀ b u,b≠e->s.heap.get? b=some u->h'.get? b=some u)(heo:∃ u,h'.get? e=some u)
 (new:ObjOk X.prog X.w (upd H x o) h' x o):Inv X pins σ (upd H x o) { s with heap:=h',toks:=t'}:=I.un (Un.write mu he k heo) (I.hok.write mu he k heo new)
theorem Inv.weak {σ':List (Option V)}(I:Inv X pins σ H s)(hl:σ'.length=σ.length)(w:∀(i:Nat) v,σ'[i]?=some (some v)->σ[i]?=some (some v)):Inv X pins σ' H s :=
 ⟨I.ok,I.os,I.bare,I.base,let ⟨m,hn,hl'⟩:=I.loc;⟨m,hn,fun i x v e1 e2 e3=>hl' i x v e1 (w i v e2) e3⟩,I.cell,I.free,I.freeC,I.pin,I.hok,hl.trans I.len⟩
theorem Inv.pins_of {pins':List (Addr×Obj)}(I:Inv X pins σ H s)(h:∀ p∈pins',s.heap.get? p.1=some p.2/\H p.1=none/\p.1≠X.env.locals/\p.1∉X.fs/\∀ v,p.2.data≠.cell v):Inv X pins' σ H s :=
 ⟨I.ok,I.os,I.bare,I.base,I.loc,I.cell,I.free,I.freeC,fun p hp=>(List.mem_append.mp hp).elim (fun z=>I.pin p (List.mem_append_left _ z)) (h p),I.hok,I.len⟩
theorem nodup_ix {N:List Str}(hN:N.Nodup){i j:Nat}{x:Str}(a:N[i]?=some x)(b:N[j]?=some x):i=j:=by
 obtain⟨h1,e1⟩:=gxB a
 obtain⟨h2,e2⟩:=gxB b
 exact(List.getElem_inj hN).mp (e1.trans e2.symm)
theorem store_ok2 {M:Model}{A:Around}{E:Value->Shared->Prop}{i:Nat}{x:Str}{v:V}{u:Value}{Q:Unit->Shared->Prop}(I:Inv X pins σ H s)(hN:X.N.Nodup)(hi:X.N[i]?=some x)(hx:Loc X.env.scope x)(r:RelV v u)
 (h:∀ s',Inv X pins (σ.set i (some v)) H s'->(∃ a,Heap.SameBut a s.heap s'.heap/\(a=X.env.locals\/X.env.cells.lookup x=some a))->Q () s') (hf:X.fn x=true\/X.env.scope.names.lookup x=some .local:=by first | exact .inl rfl | exact .inr rfl | assumption):wpAny M A (storeName X.env x u) Q E s:=by
 obtain⟨m,hn,hl⟩:=id I.loc
 have hcls:(X.env.scope.kind==.class||(X.env.scope.kind==.module&&X.env.locals != X.env.globals))=false:=by rw[I.ok.kind];rfl
 have hiσ:i<σ.length:=by rw[I.len];exact(gxB hi).1
 have cne:=I.cne
 have tracked:∀ {a:Addr} {h':Heap},(∃ o,s.heap.get? a=some o/\H a=none)->Heap.SameBut a s.heap h'->HOk X.prog X.w H h':=fun {a h'} ha hs b ob e=>by
  obtain⟨_,_,hfree⟩:=ha
  refine(I.hok b ob e).stay (fun c w' hc q=>(hs.2 c ?_).trans q) (fun _ q=>q) fun _ _ q=>q
  rintro rfl
  rcases hc with rfl | hc
  ·rw[hfree]at e;cases e
  ·rw[hfree]at hc;cases hc
 rcases hx with hk | hk
 ·refine wpAny_storeName_local hk hn (fun h' hn' hs=>?_) hcls
  obtain⟨oL,_,_,hoL,_⟩:=id hn
  refine h _ ⟨I.ok,I.os,I.bare,⟨fun b o e n hb hx=>?_,fun b o e n hb hx=>?_,I.base.free,fun b o e hx=>?_,I.base.tups,I.base.frzs,I.base.tbls⟩,⟨_,hn',fun j y v' e1 e2 e3=>?_⟩,fun y c e=>?_,I.free,I.freeC,fun p hp=>?_,tracked ⟨oL,hoL,I.free⟩ hs,by simpa using I.len⟩ ⟨_,hs,.inl rfl⟩
  ·exact(hs.2 b (Nat.ne_of_lt (Nat.lt_of_lt_of_le (gxN e) I.ok.above))).trans (I.base.keep b o e n hb hx)
  ·obtain⟨sl,e1⟩:=I.base.slot b o e n hb hx
   exact⟨sl,(hs.2 b (Nat.ne_of_lt (Nat.lt_of_lt_of_le (gxN e) I.ok.above))).trans e1⟩
  ·obtain⟨o',e1⟩:=I.base.there b o e hx
   exact⟨o',(hs.2 b (Nat.ne_of_lt (Nat.lt_of_lt_of_le (gxN e) I.ok.above))).trans e1⟩
  ·by_cases hj:j=i
   ·subst hj
    rw[hi]at e1;cases e1
    rw[List.getElem?_set_self hiσ]at e2
    cases e2
    exact⟨u,r,.inl ⟨hk,by simp⟩⟩
   ·rw[List.getElem?_set_ne (Ne.symm hj)]at e2
    obtain⟨u',r',q⟩:=hl j y v' e1 e2 e3
    refine⟨u',r',?_⟩
    rcases q with⟨k,e⟩ | ⟨k,c,e,z⟩
    ·refine .inl ⟨k,?_⟩
     have:y≠x:=fun e=>hj (nodup_ix hN e1 (e▸hi))
     simp[this,e]
    ·exact .inr ⟨k,c,e,z.sameBut hs (cne y c e)⟩
  ·obtain⟨w',z⟩:=I.cell y c e
   exact⟨w',z.sameBut hs (cne y c e)⟩
  ·obtain⟨e,n,ne,nf,d⟩:=I.pin p hp
   exact⟨(hs.2 p.1 ne).trans e,n,ne,nf,d⟩
 ·have hfn:X.fn x=true:=by
   rcases hf with z | z
   ·exact z
   ·rw[z]at hk;cases hk
  obtain⟨c,hc⟩:=I.ok.has x (.inl hk)
  obtain⟨w',z⟩:=I.cell x c hc
  refine wpAny_storeName_cell I.ok.kind hk hc z (fun h' hc' hs=>?_)
  obtain⟨oc,hoc,hocd⟩:=id z
  refine h { s with heap:=h'} ⟨I.ok,I.os,I.bare,⟨fun b o e n hb hx=>?_,fun b o e n hb hx=>?_,I.base.free,fun b o e hx=>?_,I.base.tups,I.base.frzs,I.base.tbls⟩,⟨m,hn.sameBut hs (Ne.symm (cne x c hc)),fun j y v' e1 e2 e3=>?_⟩,fun y c' e=>?_,I.free,I.freeC,fun p hp=>?_,tracked ⟨oc,hoc,I.freeC x c hc⟩ hs,by simpa using I.len⟩ ⟨c,hs,.inr hc⟩
  ·exact(hs.2 b (Nat.ne_of_lt (Nat.lt_of_lt_of_le (gxN e) (I.ok.cab x c hfn hc)))).trans (I.base.keep b o e n hb hx)
  ·obtain⟨sl,e1⟩:=I.base.slot b o e n hb hx
   exact⟨sl,(hs.2 b (Nat.ne_of_lt (Nat.lt_of_lt_of_le (gxN e) (I.ok.cab x c hfn hc)))).trans e1⟩
  ·obtain⟨o',e1⟩:=I.base.there b o e hx
   exact⟨o',(hs.2 b (Nat.ne_of_lt (Nat.lt_of_lt_of_le (gxN e) (I.ok.cab x c hfn hc)))).trans e1⟩
  ·by_cases hj:j=i
   ·subst hj
    rw[hi]at e1;cases e1
    rw[List.getElem?_set_self hiσ]at e2
    cases e2
    exact⟨u,r,.inr ⟨.inl hk,c,hc,hc'⟩⟩
   ·rw[List.getElem?_set_ne (Ne.symm hj)]at e2
    obtain⟨u',r',q⟩:=hl j y v' e1 e2 e3
    refine⟨u',r',?_⟩
    rcases q with q | ⟨k,c',e,z'⟩
    ·exact .inl q
    ·refine .inr ⟨k,c',e,z'.sameBut hs ?_⟩
     rintro rfl
     exact hj (nodup_ix hN e1 (I.ok.inj _ _ _ e hc▸hi))
  ·by_cases hcc:c'=c
   ·subst hcc;exact⟨_,hc'⟩
   ·obtain⟨w2,z2⟩:=I.cell y c' e
    exact⟨w2,z2.sameBut hs hcc⟩
  ·obtain⟨e,n,ne,nf,d⟩:=I.pin p hp
   refine⟨(hs.2 p.1 ?_).trans e,n,ne,nf,d⟩
   intro q
   rw[q,hoc]at e
   have q':oc=p.2:=Option.some.inj e
   exact d w' (by rw[<- q'];exact hocd)
theorem store_ok {M:Model}{A:Around}{E:Value->Shared->Prop}{i:Nat}{x:Str}{v:V}{u:Value}{Q:Unit->Shared->Prop}(I:Inv X pins σ H s)(hN:X.N.Nodup)(hi:X.N[i]?=some x)(hx:Loc X.env.scope x)(r:RelV v u)
 (h:∀ s',Inv X pins (σ.set i (some v)) H s'->Q () s') (hf:X.fn x=true\/X.env.scope.names.lookup x=some .local:=by first | exact .inl rfl | exact .inr rfl | assumption):wpAny M A (storeName X.env x u) Q E s :=
 store_ok2 I hN hi hx r (fun s' I' _=>h s' I') hf
theorem Inv.call' {s':Shared}{ch:List Addr}(I:Inv X pins σ H s)(ho:s'.os=s.os)(u:Un (frs X.stack) ch H H' s.heap s'.heap)(hok:HOk X.prog X.w H' s'.heap)(hg:AllBare s'.gens)
 (hch:∀ b∈ch,(b∈X.ex\/X.s₀.heap.objs.size<=b)/\b≠X.env.locals/\(∀ x c,X.env.cells.lookup x=some c->c≠b)/\∀ p∈X.pn++pins,p.1≠b):Inv X pins σ H' s':=by
 obtain⟨h',g',d',t',o'⟩:=s'
 have e:o'=s.os:=ho
 subst e
 exact I.call (g':=g') (t':=t') (d':=d') u hok hg hch
end
abbrev XK:=Value->Option Addr->Hp->Prop
abbrev St:=List (Option V)
abbrev VK:=V->Hp->Prop
abbrev TE:=St->Hp->VK->Prop
abbrev TT:=St->Hp->(Bool->Hp->Prop)->Prop
abbrev TA:=St->Hp->(List V->Hp->Prop)->Prop
structure Ends where
 nx:St->Hp->Prop
 rt:VK
 bk:St->Hp->Prop:=fun _ _=>False
 ct:St->Hp->Prop:=fun _ _=>False
abbrev TS:=Ends->St->Hp->Prop
def EP (X:Cx)(pins:List (Addr×Obj))(σ:St)(Q:VK)(u:Value)(s':Shared):Prop:=∃ v H',Inv X pins σ H' s'/\RelV v u/\Q v H'
def TP (X:Cx)(pins:List (Addr×Obj))(σ:St)(Q:Bool->Hp->Prop)(b:Bool)(s':Shared):Prop:=∃ H',Inv X pins σ H' s'/\Q b H'
def AP (X:Cx)(pins:List (Addr×Obj))(σ:St)(Q:List V->Hp->Prop)(us:List Value)(s':Shared):Prop:=∃ vs H',Inv X pins σ H' s'/\Vals vs us/\Q vs H'
def SP (X:Cx)(pins:List (Addr×Obj))(D:Ends)(f:Flow)(s':Shared):Prop :=
 match f with
 | .next=>∃ σ' H',Inv X pins σ' H' s'/\D.nx σ' H'
 | .brk=>∃ σ' H',Inv X pins σ' H' s'/\D.bk σ' H'
 | .cont=>∃ σ' H',Inv X pins σ' H' s'/\D.ct σ' H'
 | .ret u=>∃ v σ' H',Inv X pins σ' H' s'/\RelV v u/\D.rt v H'
def PE (X:Cx)(e:Expr)(t:TE):Prop :=
 ∀(pins:List (Addr×Obj)) (s:Shared) (σ:St) (H:Hp) (Q:VK),Inv X pins σ H s->t σ H Q->wpAny (model X.prog X.w) X.A (eval e X.env) (EP X pins σ Q) X.xe s
def PT (X:Cx)(e:Expr)(t:TT):Prop :=
 ∀(pins:List (Addr×Obj)) (s:Shared) (σ:St) (H:Hp) (Q:Bool->Hp->Prop),Inv X pins σ H s->t σ H Q->wpAny (model X.prog X.w) X.A (isTrue e X.env (eval e X.env)) (TP X pins σ Q) X.xe s
def PW (X:Cx)(e:Expr)(t:TT):Prop :=
 ∀(whole:Sem Value) (pins:List (Addr×Obj)) (s:Shared) (σ:St) (H:Hp) (Q:Bool->Hp->Prop),Inv X pins σ H s->t σ H Q->wpAny (model X.prog X.w) X.A (isTrue e X.env whole) (TP X pins σ Q) X.xe s
theorem PW.pt {X:Cx}{e:Expr}{t:TT}(h:PW X e t):PT X e t:=h _
def PA (X:Cx)(es:List Expr)(t:TA):Prop :=
 ∀(pos:Pos) (pins:List (Addr×Obj)) (s:Shared) (σ:St) (H:Hp) (Q:List V->Hp->Prop),Inv X pins σ H s->t σ H Q->wpAny (model X.prog X.w) X.A (spliced (backTo pos (starEach es X.env))) (AP X pins σ Q) X.xe s
def PS (X:Cx)(st:Stmt)(t:TS):Prop :=
 ∀(pins:List (Addr×Obj)) (s:Shared) (σ:St) (H:Hp) (D:Ends),Inv X pins σ H s->t D σ H->wpAny (model X.prog X.w) X.A (exec st X.env) (SP X pins D) X.xe s
def PSs (X:Cx)(st:List Stmt)(t:TS):Prop :=
 ∀(pins:List (Addr×Obj)) (s:Shared) (σ:St) (H:Hp) (D:Ends),Inv X pins σ H s->t D σ H->wpAny (model X.prog X.w) X.A (execs st X.env) (SP X pins D) X.xe s
theorem thn {α:Type}{t:Sem α}{Q Q':α->Shared->Prop}{M:Model}{A:Around}{E:Value->Shared->Prop}{s:Shared}(h:wpAny M A t Q E s)(hQ:∀ a s,Q a s->Q' a s):wpAny M A t Q' E s:=wpAny_mono h hQ fun _ _ x=>x
section
variable {X:Cx}
theorem bin {a b:Expr}{ta tb:TE}(ha:PE X a ta)(hb:PE X b tb){pins:List (Addr×Obj)}{s:Shared}{σ:St}{H:Hp}{R:V->V->Hp->Prop}(I:Inv X pins σ H s)(h:ta σ H fun x H1=>tb σ H1 fun y H2=>R x y H2)
 {α:Type} {Q:α->Shared->Prop} {f:Value->Value->Sem α}
 (hf:∀ v u s2 x y H2,Inv X pins σ H2 s2->RelV x v->RelV y u->R x y H2->wpAny (model X.prog X.w) X.A (f v u) Q X.xe s2) :
 wpAny (model X.prog X.w) X.A (eval a X.env) (fun v s₁=>wpAny (model X.prog X.w) X.A (eval b X.env) (fun u s₂=>wpAny (model X.prog X.w) X.A (f v u) Q X.xe s₂) X.xe s₁) X.xe s:=by
 refine thn (ha pins s σ H _ I h) fun v s1 hq2=>?_
 obtain⟨x,H1,I1,r1,q1⟩:=hq2
 refine thn (hb pins s1 σ H1 _ I1 q1) fun u s2 hq3=>?_
 obtain⟨y,H2,I2,r2,q2⟩:=hq3
 exact hf v u s2 x y H2 I2 r1 r2 q2
def tVar (i:Nat):TE:=fun σ H Q=>∃ v,σ[i]?=some (some v)/\Q v H
def tC (v:V):TE:=fun _ H Q=>Q v H
theorem pe_var {i:Nat}{x:Str}{pos:Pos}(hN:X.N[i]?=some x)(hv:Vis X.env.scope x)(hd:(x==("__debug__" : Str))=false:=by decide)(hcd:(x==("__classdict__" : Str))=false:=by decide):PE X (.Name x pos) (tVar i):=by
 intro pins s σ H Q I h
 obtain⟨v,e,h⟩:=h
 obtain⟨m,hn,hl⟩:=I.loc
 obtain⟨u,r,l⟩:=hl i x v hN e hv
 have fin:EP X pins σ Q u s:=⟨v,H,I,r,h⟩
 rcases l with⟨hk,hm⟩ | ⟨hk,c,hc,hcell⟩
 ·exact wpAny_Name (wpAny_loadName_local I.ok.kind hk hn hm fin) hd
 ·rcases hk with hk | hk
  ·exact wpAny_Name (wpAny_loadName_cell I.ok.kind hk hc hcell fin) hd
  ·exact wpAny_Name (wpAny_loadName_free I.ok.kind hk hc hcell fin hcd) hd
theorem pe_int {i j pos}:PE X (.Constant (.int i) j pos) (tC (.int i)):=fun _ _ _ H _ I h=>wpAny_Constant_int ⟨.int i,H,I.tok _,⟨_,rfl⟩,h⟩
theorem pe_bl {b j pos}:PE X (.Constant (.bool b) j pos) (tC (.bl b)):=fun _ _ _ H _ I h=>Constant_bool ⟨.bl b,H,I,rfl,h⟩
theorem pe_non {j pos}:PE X (.Constant .none j pos) (tC .non):=fun _ _ _ H _ I h=>Constant_none ⟨.non,H,I,rfl,h⟩
theorem pe_str {x j pos}:PE X (.Constant (.str x) j pos) (tC (.str x)):=fun _ _ _ H _ I h=>Calls.Constant_str ⟨.str x,H,I.tok _,⟨_,rfl⟩,h⟩
def Gl (X:Cx)(x:Str):Prop:=X.env.kindOf x=some .globalImplicit
theorem ld_glob {E:Value->Shared->Prop}{pins:List (Addr×Obj)}{s:Shared}{σ:St}{H:Hp}{x:Str}{u:Value}{pos:Pos}{Q:Value->Shared->Prop}(I:Inv X pins σ H s)(hg:Gl X x)(hm:X.mg x=some u)(h:Q u s)
 (hd:(x==("__debug__" : Str))=false:=by decide):wpAny (model X.prog X.w) X.A (eval (.Name x pos) X.env) Q E s :=
 Calls.Name_function_global I.ok.kind hg (Calls.loadGlobal_global (by rw[I.ok.glob];exact I.mod.glob.keeps I.bk) hm h) hd
theorem ld_blt {E:Value->Shared->Prop}{pins:List (Addr×Obj)}{s:Shared}{σ:St}{H:Hp}{x:Str}{u:Value}{pos:Pos}{Q:Value->Shared->Prop}(I:Inv X pins σ H s)(hg:Gl X x)(hm:X.mg x=none)(hv:bootBuiltins x=some u)(h:Q u s)
 (hn:x ≠ "__name__":=by decide) (hd:(x==("__debug__" : Str))=false:=by decide):wpAny (model X.prog X.w) X.A (eval (.Name x pos) X.env) Q E s:=by
 obtain⟨mb,h1,h2⟩:=I.mod.blt
 exact Calls.Name_function_global I.ok.kind hg (Calls.loadGlobal_builtin (by rw[I.ok.glob];exact I.mod.glob.keeps I.bk) hm (by rw[I.ok.blt];exact h1.keeps I.bk) ((h2 x hn).trans hv) h) hd
theorem pe_bltn {x:Str}{v:V}{u:Value}{pos:Pos}(hg:Gl X x)(hm:X.mg x=none)(hv:bootBuiltins x=some u)(r:RelV v u)(hn:x ≠ "__name__":=by decide)(hd:(x==("__debug__" : Str))=false:=by decide):PE X (.Name x pos) (tC v) :=
 fun _ _ _ H _ I h=>ld_blt I hg hm hv ⟨v,H,I,r,h⟩ hn hd
variable {a b:Expr}{ta tb:TE}{pos:Pos}
def PC (X:Cx)(op:CmpOp)(a b:Expr)(t:TE):Prop :=
 ∀(pins:List (Addr×Obj)) (s:Shared) (σ:St) (H:Hp) (Q:VK),Inv X pins σ H s->t σ H Q ->
  wpAny (model X.prog X.w) X.A (eval a X.env) (fun v s₁=>wpAny (model X.prog X.w) X.A (eval b X.env) (fun u s₂=>wpAny (model X.prog X.w) X.A (compareOp op v u) (EP X pins σ Q) X.xe s₂) X.xe s₁) X.xe s
theorem nobehind (b:Expr){op:CmpOp}(h:op≠.In)(h2:op≠.NotIn):behindInMarks op b=false:=by
 have e1:(op==CmpOp.In)=false:=by cases op <;> first | rfl | exact absurd rfl h
 have e2:(op==CmpOp.NotIn)=false:=by cases op <;> first | rfl | exact absurd rfl h2
 cases b <;> simp[behindInMarks,e1,e2]
def tNotN (ta:TE):TE:=fun σ H Q=>ta σ H fun x H1=>Q (.bl (!decide (x=.non))) H1
theorem RelV.none_iff {x:V}{v:Value}(r:RelV x v):(v==Value.none)=decide (x=.non):=by
 cases x with
 | non=>cases r;rfl
 | bl _=>cases r;rfl
 | int _=>obtain⟨t,rfl⟩:=r;rfl
 | str _=>obtain⟨t,rfl⟩:=r;rfl
 | byt _=>obtain⟨t,rfl⟩:=r;rfl
 | flt _=>obtain⟨t,rfl⟩:=r;rfl
 | ref _=>cases r;rfl
 | ty _=>cases r;rfl
theorem pc_notN {j pos'}(ha:PE X a ta):PC X .IsNot a (.Constant .none j pos') (tNotN ta):=by
 intro pins s σ H Q I h
 refine thn (ha pins s σ H _ I h) fun v s1 hq4=>?_
 obtain⟨x,H1,I1,r1,q1⟩:=hq4
 exact Constant_none (isnot_none_gen ⟨.bl _,H1,I1,by rw[r1.none_iff];rfl,q1⟩)
def tB (t:TE):TT:=fun σ H Q=>t σ H fun x H1=>∃ c,x=.bl c/\Q c H1
theorem pt_cmp {op:CmpOp}{t:TE}(h:PC X op a b t)(h1:behindInMarks op b=false:=by first | exact nobehind _ (by decide) (by decide) | rfl):PT X (.Compare a [op] [b] pos) (tB t):=by
 intro pins s σ H Q I hw
 refine wpAny_isTrue_Compare1 (thn (h pins s σ H _ I hw) fun v s1 h1=>thn h1 fun u s2 h2=>thn h2 fun c s3 hq5=>?_) h1
 obtain⟨x,H1,I1,r1,q1⟩:=hq5
 obtain⟨d,rfl,q⟩:=q1
 cases r1
 exact wpAny_truthy_bool ⟨H1,I1,q⟩
variable {tA tB':TT}{rest:List Expr}
def tAnd (t u:TT):TT:=fun σ H Q=>t σ H fun c H1=>if c=true then u σ H1 Q else Q false H1
def tOr (t u:TT):TT:=fun σ H Q=>t σ H fun c H1=>if c=true then Q true H1 else u σ H1 Q
def tNot (t:TT):TT:=fun σ H Q=>t σ H fun c H1=>Q (!c) H1
theorem pw_and1 (ha:PT X a tA):PW X (.BoolOp .And [a] pos) tA:=by
 intro wh pins s σ H Q I h
 refine isTrue_and (thn (ha pins s σ H Q I h) fun c s1 e=>?_)
 cases c with
 | true=>exact isTrue_and_nil e
 | false=>exact e
theorem pw_or1 (ha:PT X a tA):PW X (.BoolOp .Or [a] pos) tA:=by
 intro wh pins s σ H Q I h
 refine isTrue_or (thn (ha pins s σ H Q I h) fun c s1 e=>?_)
 cases c with
 | false=>exact isTrue_or_nil e
 | true=>exact e
theorem pw_and (ha:PT X a tA)(hb:PW X (.BoolOp .And (b::rest) pos) tB'):PW X (.BoolOp .And (a::b::rest) pos) (tAnd tA tB'):=by
 intro wh pins s σ H Q I h
 refine isTrue_and (thn (ha pins s σ H _ I h) fun c s1 hq6=>?_)
 obtain⟨H1,I1,q1⟩:=hq6
 cases c with
 | true=>exact hb wh pins s1 σ H1 Q I1 q1
 | false=>exact⟨H1,I1,q1⟩
theorem pw_or (ha:PT X a tA)(hb:PW X (.BoolOp .Or (b::rest) pos) tB'):PW X (.BoolOp .Or (a::b::rest) pos) (tOr tA tB'):=by
 intro wh pins s σ H Q I h
 refine isTrue_or (thn (ha pins s σ H _ I h) fun c s1 hq0=>?_)
 obtain⟨H1,I1,q1⟩:=hq0
 cases c with
 | true=>exact⟨H1,I1,q1⟩
 | false=>exact hb wh pins s1 σ H1 Q I1 q1
theorem pt_not (ha:PT X a tA):PT X (.UnaryOp .Not a pos) (tNot tA):=by
 intro pins s σ H Q I h
 exact isTrue_not (ha pins s σ H (fun c H1=>Q (!c) H1) I h)
theorem pe_one {op}{t:TE}(h:PE X a t):PE X (.BoolOp op [a] pos) t:=fun pins s σ H Q I hw=>BoolOp_one (h pins s σ H Q I hw)
def tIf (t:TT)(ta tb:TE):TE:=fun σ H Q=>t σ H fun c H1=>if c=true then ta σ H1 Q else tb σ H1 Q
theorem pe_ifExp {c:Expr}(hc:PT X c tA)(ha:PE X a ta)(hb:PE X b tb):PE X (.IfExp c a b pos) (tIf tA ta tb):=by
 intro pins s σ H Q I h
 refine wpAny_IfExp (thn (hc pins s σ H _ I h) fun d s1 hq1=>?_)
 obtain⟨H1,I1,q1⟩:=hq1
 cases d with
 | true=>exact ha pins s1 σ H1 Q I1 q1
 | false=>exact hb pins s1 σ H1 Q I1 q1
end
def SqL (K:PySem.W.Frag)(H:Hp)(a:Addr)(xs:List V):Prop :=
 Rd H a (.lst xs) \/
  ∃(o:Obj) (its:Array Value) (n:Nat),K.lookup a=some o/\o.cls=.type "list"/\o.dict=none/\o.data=.seq its n/\its.size<=sizeLine/\Vals xs its.toList
def SqT (K:PySem.W.Frag)(H:Hp)(a:Addr)(xs:List V):Prop :=
 Rd H a (.tup xs) \/
  ∃(o:Obj) (its:Array Value) (n:Nat),K.lookup a=some o/\o.cls=.type "tuple"/\o.data=.seq its n/\its.size<=sizeLine/\Vals xs its.toList
def absV:Value->Option V
 | .none=>some .non
 | .bool b=>some (.bl b)
 | .int i _=>some (.int i)
 | .str x _=>some (.str x)
 | .bytes b _=>some (.byt b)
 | .float b _=>some (.flt b)
 | .ref a=>some (.ref a)
 | .type n=>some (.ty n)
 | _=>none
theorem RelV.abs {x:V}{u:Value}(r:RelV x u):absV u=some x:=by
 cases x with
 | non=>cases r;rfl
 | bl _=>cases r;rfl
 | int _=>obtain⟨t,rfl⟩:=r;rfl
 | str _=>obtain⟨t,rfl⟩:=r;rfl
 | byt _=>obtain⟨t,rfl⟩:=r;rfl
 | flt _=>obtain⟨t,rfl⟩:=r;rfl
 | ref _=>cases r;rfl
 | ty _=>cases r;rfl
theorem RelV.inj {x y:V}{u:Value}(r:RelV x u)(q:RelV y u):x=y:=Option.some.inj (r.abs.symm.trans q.abs)
theorem Vals.inj {xs ys:List V}{us:List Value}(h:Vals xs us)(g:Vals ys us):xs=ys:=by
 induction h generalizing ys with
 | nil=>cases g;rfl
 | cons r t ih =>
  cases g with
  | cons r' t'=>rw[r.inj r',ih t']
section
variable {X:Cx}{pins:List (Addr×Obj)}{σ:St}{H:Hp}{s:Shared}{a:Addr}{xs ys:List V}
theorem SqL.of {K:PySem.W.Frag}(h:H a=some (.lst xs)):SqL K H a xs:=.inl (.inl h)
theorem SqT.of {K:PySem.W.Frag}(h:H a=some (.tup xs)):SqT K H a xs:=.inl (.inl h)
theorem Inv.list (I:Inv X pins σ H s)(h:SqL X.K H a xs):∃ its:List Value,Vals xs its/\PlainL s.heap a its.toArray/\xs.length<=sizeLine:=by
 rcases h with h | ⟨o,its,n,hk,hc,hd,hs,hz,r⟩
 ·obtain⟨z,its,n,r,e⟩:=h.ok I.hok
  exact⟨its,r,⟨_,n,e,rfl,rfl,rfl⟩,z⟩
 ·refine⟨its.toList,r,⟨o,n,I.kIn a o hk,hc,hd,by simpa using hs⟩,?_⟩
  have e:=r.length
  simp only[Array.length_toList]at e
  omega
theorem Inv.tuple (I:Inv X pins σ H s)(h:SqT X.K H a xs):∃ its:List Value,Vals xs its/\IsTup s.heap a its.toArray/\xs.length<=sizeLine:=by
 rcases h with h | ⟨o,its,n,hk,hc,hs,hz,r⟩
 ·obtain⟨z,its,r,p⟩:=h.ok I.hok
  exact⟨its,r,p,z⟩
 ·refine⟨its.toList,r,⟨o,I.kIn a o hk,hc,n,by simpa using hs⟩,?_⟩
  have e:=r.length
  simp only[Array.length_toList]at e
  omega
theorem Inv.list_inj (I:Inv X pins σ H s)(h:SqL X.K H a xs)(h':SqL X.K H a ys):xs=ys:=by
 obtain⟨its,r,⟨o,n,e,_,_,d⟩,_⟩:=I.list h
 obtain⟨its',r',⟨o',n',e',_,_,d'⟩,_⟩:=I.list h'
 rw[e]at e';cases e'
 rw[d]at d'
 injection d' with d1 _
 have:its=its':=by simpa using congrArg Array.toList d1
 subst this
 exact r.inj r'
end
abbrev Cx.wish (X:Cx)(E:Value->Shared->Prop):Cx:={ X with xe:=E}
abbrev Cx.nox (X:Cx):Cx:=X.wish fun _ _=>False
theorem Cx.Ok.wish {X:Cx}(ok:X.Ok)(E:Value->Shared->Prop):(X.wish E).Ok :=
 ⟨ok.mod,ok.kind,ok.glob,ok.blt,ok.above,ok.inj,ok.has,ok.cab,ok.hd,ok.frames,ok.stk,ok.exf,ok.bs,ok.bsz,ok.noex,ok.exfs,ok.funs,ok.frf⟩
theorem Cx.Ok.unwish {X:Cx}{E:Value->Shared->Prop}(ok:(X.wish E).Ok):X.Ok :=
 ⟨ok.mod,ok.kind,ok.glob,ok.blt,ok.above,ok.inj,ok.has,ok.cab,ok.hd,ok.frames,ok.stk,ok.exf,ok.bs,ok.bsz,ok.noex,ok.exfs,ok.funs,ok.frf⟩
section
variable {X:Cx}{pins:List (Addr×Obj)}{σ:St}{H:Hp}{s:Shared}{E:Value->Shared->Prop}
theorem Inv.wish (I:Inv X pins σ H s)(E:Value->Shared->Prop):Inv (X.wish E) pins σ H s:=⟨I.ok.wish E,I.os,I.bare,I.base,I.loc,I.cell,I.free,I.freeC,I.pin,I.hok,I.len⟩
theorem Inv.unwish (I:Inv (X.wish E) pins σ H s):Inv X pins σ H s:=⟨I.ok.unwish,I.os,I.bare,I.base,I.loc,I.cell,I.free,I.freeC,I.pin,I.hok,I.len⟩
theorem SP.unwish {D:Ends}{f:Flow}{s':Shared}(h:SP (X.wish E) pins D f s'):SP X pins D f s':=by
 cases f with
 | next=>obtain⟨σ',H',I,q⟩:=h;exact⟨σ',H',I.unwish,q⟩
 | brk=>obtain⟨σ',H',I,q⟩:=h;exact⟨σ',H',I.unwish,q⟩
 | cont=>obtain⟨σ',H',I,q⟩:=h;exact⟨σ',H',I.unwish,q⟩
 | ret u=>obtain⟨v,σ',H',I,r,q⟩:=h;exact⟨v,σ',H',I.unwish,r,q⟩
theorem PSs.nox {st:List Stmt}{t:TS}(h:PSs X.nox st t):PSs X st t:=fun pins s σ H D I hw =>
 wpAny_mono (h pins s σ H D (I.wish _) hw) (fun _ _ q=>q.unwish) fun _ _ z=>False.elim z
end
section
variable {X:Cx}{st:Stmt}{rest:List Stmt}{t u:TS}{e:Expr}{te:TE}{pos:Pos}
def tNext:TS:=fun D σ H=>D.nx σ H
def tSeq (t u:TS):TS:=fun D σ H=>t { D with nx:=u D} σ H
theorem pss_nil:PSs X [] tNext:=fun _ _ σ H _ I h=>wpAny_execs_nil ⟨σ,H,I,h⟩
theorem pss_cons (h1:PS X st t)(h2:PSs X rest u):PSs X (st::rest) (tSeq t u):=by
 intro pins s σ H D I h
 refine wpAny_execs_cons (thn (h1 pins s σ H { D with nx:=u D} I h) fun f s1 q=>?_)
 cases f with
 | next =>
  obtain⟨σ',H',I',q⟩:=q
  exact h2 pins s1 σ' H' D I' q
 | ret v=>exact q
 | brk=>exact q
 | cont=>exact q
theorem pss_one (h1:PS X st t):PSs X [st] t:=by
 intro pins s σ H D I h
 refine wpAny_execs_cons (thn (h1 pins s σ H D I h) fun f s1 q=>?_)
 cases f with
 | next=>exact wpAny_execs_nil q
 | ret v=>exact q
 | brk=>exact q
 | cont=>exact q
theorem Inv.quiet {pins:List (Addr×Obj)}{σ:St}{H:Hp}{s:Shared}(I:Inv X pins σ H s):interactive X.env=false:=by simp[interactive,I.ok.kind]
def tDrop (te:TE):TS:=fun D σ H=>te σ H fun _ H1=>D.nx σ H1
theorem ps_expr (he:PE X e te)(hs:swapsWith e none pos.line X.env=pure false:=by rfl):PS X (.Expr e pos) (tDrop te):=by
 intro pins s σ H D I h
 exact wpAny_Expr_any (thn (he pins s σ H _ I h) fun v s1 hq2=>by obtain⟨x,H1,I1,r1,q1⟩:=hq2;exact⟨σ,H1,I1,q1⟩) I.quiet hs
def tRet (te:TE):TS:=fun D σ H=>te σ H D.rt
theorem ps_ret (he:PE X e te):PS X (.Return (some e) pos) (tRet te):=by
 intro pins s σ H D I h
 exact wpAny_Return_some (thn (he pins s σ H _ I h) fun v s1 hq3=>by obtain⟨x,H1,I1,r1,q1⟩:=hq3;exact⟨x,σ,H1,I1,r1,q1⟩)
def tIfS (c:TT)(t u:TS):TS:=fun D σ H=>c σ H fun b H1=>if b=true then t D σ H1 else u D σ H1
theorem ps_if {c:Expr}{a b:List Stmt}{tc:TT}(hc:PT X c tc)(ha:PSs X a t)(hb:PSs X b u):PS X (.If c a b pos) (tIfS tc t u):=by
 intro pins s σ H D I h
 refine wpAny_If (thn (hc pins s σ H _ I h) fun d s1 hq4=>?_)
 obtain⟨H1,I1,q1⟩:=hq4
 cases d with
 | true=>exact ha pins s1 σ H1 D I1 q1
 | false=>exact hb pins s1 σ H1 D I1 q1
end
abbrev TG:=V->St->Hp->(St->Hp->Prop)->Prop
abbrev TGs:=List V->St->Hp->(St->Hp->Prop)->Prop
def PG (X:Cx)(target:Expr)(t:TG):Prop :=
 ∀(pins:List (Addr×Obj)) (s:Shared) (σ:St) (H:Hp) (v:V) (u:Value) (Q:St->Hp->Prop),Inv X pins σ H s->RelV v u->t v σ H Q ->
  wpAny (model X.prog X.w) X.A (assign target X.env u) (fun _ s'=>∃ σ' H',Inv X pins σ' H' s'/\Q σ' H') X.xe s
def PGs (X:Cx)(ts:List Expr)(t:TGs):Prop :=
 ∀(pins:List (Addr×Obj)) (s:Shared) (σ:St) (H:Hp) (vs:List V) (us:List Value) (Q:St->Hp->Prop),Inv X pins σ H s->Vals vs us->t vs σ H Q ->
  wpAny (model X.prog X.w) X.A (assignInOrder ((assignEach ts X.env).map (·.2)) us) (fun _ s'=>∃ σ' H',Inv X pins σ' H' s'/\Q σ' H') X.xe s
abbrev TSet:=V->V->V->Hp->(Hp->Prop)->Prop
def PSet (X:Cx)(t:TSet):Prop :=
 ∀(pins:List (Addr×Obj)) (s:Shared) (σ:St) (H:Hp) (o i v:V) (ov iv u:Value) (Q:Hp->Prop),Inv X pins σ H s->RelV o ov->RelV i iv->RelV v u->t o i v H Q ->
  wpAny (model X.prog X.w) X.A (setItem ov iv u) (fun _ s'=>∃ H',Inv X pins σ H' s'/\Q H') X.xe s
abbrev TIp:=V->V->Hp->VK->Prop
def PIp (X:Cx)(op:Operator)(t:TIp):Prop :=
 ∀(pins:List (Addr×Obj)) (s:Shared) (σ:St) (H:Hp) (x y:V) (v u:Value) (Q:VK),Inv X pins σ H s->RelV x v->RelV y u->t x y H Q ->
  wpAny (model X.prog X.w) X.A (inplaceOp op v u) (EP X pins σ Q) X.xe s
section
variable {X:Cx}{pos:Pos}
def gName (i:Nat):TG:=fun v σ H Q=>Q (σ.set i (some v)) H
theorem pg_name {i:Nat}{x:Str}(hN:X.N.Nodup)(hi:X.N[i]?=some x)(hx:Loc X.env.scope x)(hf:X.fn x=true\/X.env.scope.names.lookup x=some .local:=by first | exact .inl rfl | exact .inr rfl | assumption):PG X (.Name x pos) (gName i):=by
 intro pins s σ H v u Q I r h
 exact wpAny_assign_Name (store_ok I hN hi hx r (fun s' I'=>⟨_,H,I',h⟩) hf)
def gNil:TGs:=fun vs σ H Q=>vs=[]/\Q σ H
def gCons (t:TG)(u:TGs):TGs:=fun vs σ H Q=>∃ v r,vs=v::r/\t v σ H fun σ' H'=>u r σ' H' Q
theorem pgs_nil:PGs X [] gNil:=by
 intro pins s σ H vs us Q I r h
 obtain⟨e,h⟩:=h
 subst e
 cases r
 exact assignInOrder_nil ⟨σ,H,I,h⟩
theorem pgs_cons {e:Expr}{es:List Expr}{t:TG}{u:TGs}(h1:PG X e t)(h2:PGs X es u)
 (hs:(assignEach (e::es) X.env).map (·.2)=assign e X.env::(assignEach es X.env).map (·.2):=by rfl):PGs X (e::es) (gCons t u):=by
 intro pins s σ H vs us Q I r h
 obtain⟨v,vr,e1,h⟩:=h
 subst e1
 cases r with
 | cons r rr =>
  rw[hs]
  refine assignInOrder_cons (thn (h1 pins s σ H _ _ _ I r h) fun _ s1 hq5=>?_)
  obtain⟨σ1,H1,I1,q1⟩:=hq5
  exact h2 pins s1 σ1 H1 _ _ Q I1 rr q1
def gTup (K:PySem.W.Frag)(n:Nat)(t:TGs):TG:=fun v σ H Q=>∃ a xs,v=.ref a/\SqT K H a xs/\xs.length=n/\t xs σ H Q
theorem pg_tup {es:List Expr}{k:Nat}{t:TGs}{n:Nat}(hc:X.calm=true)(h:PGs X es t)
 (hn:(assignEach es X.env).length=n:=by rfl) (hst:(assignEach es X.env).findIdx? (·.1)=none:=by rfl):PG X (.Tuple es k pos) (gTup X.K n t):=by
 intro pins s σ H v u Q I r hw
 obtain⟨a,xs,e1,hq,hl,hw⟩:=hw
 subst e1
 cases r
 obtain⟨its,rv,ht,hz⟩:=I.tuple hq
 refine assign_Tuple_tuple (I.ok.hd hc) ht (by simp[hn,<- hl,rv.length]) hst fun h' hx=>?_
 have I1:Inv X pins σ H { s with heap:=h'}:=I.kept (t':=s.toks) fun b o e=>hx b o (Nat.ne_of_lt (gxN e)) e
 exact h pins _ σ H xs _ Q I1 (by simpa using rv) hw
def gSub (to ti:TE)(t:TSet):TG:=fun v σ H Q=>to σ H fun o H1=>ti σ H1 fun i H2=>t o i v H2 fun H3=>Q σ H3
theorem pg_sub {o i:Expr}{to ti:TE}{t:TSet}(ho:PE X o to)(hi:PE X i ti)(hs:PSet X t)
 (ha:∀ v,assign (.Subscript o i pos) X.env v=(do
   let ov <- holding [v] (eval o X.env)
   let iv <- holding [v,ov] (eval i X.env)
   standAt pos
   holding [v,ov,iv] (setItem ov iv v)
   release [v,ov,iv] []):=by intro _;rfl):PG X (.Subscript o i pos) (gSub to ti t):=by
 intro pins s σ H v u Q I r h
 rw[ha]
 refine gxM (wpAny_holding (thn (ho pins s σ H _ I h) fun ov s1 hq6=>?_))
 obtain⟨x,H1,I1,r1,q1⟩:=hq6
 refine gxM (wpAny_holding (thn (hi pins s1 σ H1 _ I1 q1) fun iv s2 hq0=>?_))
 obtain⟨y,H2,I2,r2,q2⟩:=hq0
 refine gxM (wpAny_standAt (gxM (wpAny_holding (thn (hs pins s2 σ H2 x y v ov iv u _ I2 r1 r2 r q2) fun _ s3 hq1=>?_))))
 obtain⟨H3,I3,q3⟩:=hq1
 exact wpAny_release ⟨σ,H3,I3,q3⟩
def tAsg (te:TE)(g:TG):TS:=fun D σ H=>te σ H fun x H1=>g x σ H1 D.nx
theorem ps_asg {tg e:Expr}{te:TE}{g:TG}(he:PE X e te)(hg:PG X tg g)(hs:swapsWithSole [tg] e pos.line X.env=pure false:=by rfl)(hw:swappedStores [tg] e X.env=pure none:=by rfl)
 (h1:(assignEach [tg] X.env).map (·.2)=[assign tg X.env]:=by rfl):PS X (.Assign [tg] e pos) (tAsg te g):=by
 intro pins s σ H D I h
 refine wpAny_Assign_stores (thn (he pins s σ H _ I h) fun v s1 hq2=>?_) hs hw
 obtain⟨x,H1,I1,r1,q1⟩:=hq2
 rw[h1]
 exact thn (hg pins s1 σ H1 x v _ I1 r1 q1) fun _ s2 q=>q
theorem ps_set {i:Nat}{x:Str}{e:Expr}{te:TE}{pos':Pos}(hN:X.N.Nodup)(hi:X.N[i]?=some x)(hx:Loc X.env.scope x)(he:PE X e te)(hs:swapsWith e (some (.Name x pos')) pos.line X.env=pure false:=by rfl)(hf:X.fn x=true\/X.env.scope.names.lookup x=some .local:=by first | exact .inl rfl | exact .inr rfl | assumption) :
 PS X (.Assign [.Name x pos'] e pos) (tAsg te (gName i)):=by
 intro pins s σ H D I h
 refine wpAny_Assign_Name (thn (he pins s σ H _ I h) fun v s1 hq3=>?_) hs
 obtain⟨y,H1,I1,r1,q1⟩:=hq3
 exact store_ok I1 hN hi hx r1 (fun s2 I2=>⟨_,H1,I2,q1⟩) hf
def tAug (i:Nat)(te:TE)(ti:TIp):TS:=fun D σ H=>∃ x,σ[i]?=some (some x)/\te σ H fun y H1=>ti x y H1 fun z H2=>D.nx (σ.set i (some z)) H2
theorem ps_aug {i:Nat}{x:Str}{e:Expr}{te:TE}{op:Operator}{ti:TIp}{pos':Pos}(hN:X.N.Nodup)(hi:X.N[i]?=some x)(hx:Loc X.env.scope x)(he:PE X e te)(ho:PIp X op ti)(hf:X.fn x=true\/X.env.scope.names.lookup x=some .local:=by first | exact .inl rfl | exact .inr rfl | assumption) :
 PS X (.AugAssign (.Name x pos') op e pos) (tAug i te ti):=by
 intro pins s σ H D I h
 obtain⟨v,e1,h⟩:=h
 obtain⟨m,hn,hl⟩:=I.loc
 have vis:Vis X.env.scope x:=by rcases hx with k | k;exact .inl k;exact .inr (.inl k)
 obtain⟨u,r,l⟩:=hl i x v hi e1 vis
 refine wpAny_AugAssign_Name ?_
 have go:wpAny (model X.prog X.w) X.A (eval e X.env) (fun w s₂=>wpAny (model X.prog X.w) X.A (inplaceOp op u w) (fun r s₃=>wpAny (model X.prog X.w) X.A (storeName X.env x r) (fun _=>SP X pins D .next) X.xe s₃) X.xe s₂) X.xe s:=by
  refine thn (he pins s σ H _ I h) fun w s1 hq4=>?_
  obtain⟨y,H1,I1,r1,q1⟩:=hq4
  refine thn (ho pins s1 σ H1 v y u w _ I1 r r1 q1) fun z s2 hq5=>?_
  obtain⟨zv,H2,I2,r2,q2⟩:=hq5
  exact store_ok I2 hN hi hx r2 (fun s3 I3=>⟨_,H2,I3,q2⟩) hf
 rcases l with⟨hk,hm⟩ | ⟨hk,c,hc,hcell⟩
 ·exact wpAny_loadName_local I.ok.kind hk hn hm go
 ·rcases hk with hk | hk
  ·exact wpAny_loadName_cell I.ok.kind hk hc hcell go
  ·rcases hx with k | k
   ·have:X.env.scope.names.lookup x=some .free:=hk
    rw[k]at this;cases this
   ·have:X.env.scope.names.lookup x=some .free:=hk
    rw[k]at this;cases this
def tAugS (to ti te:TE)(tget:V->V->Hp->VK->Prop)(tip:TIp)(tset:TSet):TS:=fun D σ H=>to σ H fun o H1=>ti σ H1 fun i H2=>tget o i H2 fun x H3=>te σ H3 fun y H4=>tip x y H4 fun z H5=>tset o i z H5 fun H6=>D.nx σ H6
def PGet (X:Cx)(t:V->V->Hp->VK->Prop):Prop :=
 ∀(pins:List (Addr×Obj)) (s:Shared) (σ:St) (H:Hp) (o i:V) (ov iv:Value) (Q:VK),Inv X pins σ H s->RelV o ov->RelV i iv->t o i H Q ->
  wpAny (model X.prog X.w) X.A (getItem ov iv) (EP X pins σ Q) X.xe s
theorem ps_augS {o i e:Expr}{to ti te:TE}{tget:V->V->Hp->VK->Prop}{tip:TIp}{tset:TSet}{op:Operator}{tpos:Pos}(ho:PE X o to)(hi:PE X i ti)(hg:PGet X tget)(he:PE X e te)(hp:PIp X op tip)(hs:PSet X tset)
 (ha:∀ ov iv new,augStore i ov iv new=(do holding [new,ov,iv] (setItem ov iv new);release [new,ov,iv] [];pure .next):=by intros;rfl):PS X (.AugAssign (.Subscript o i tpos) op e pos) (tAugS to ti te tget tip tset):=by
 intro pins s σ H D I h
 refine wpAny_AugAssign_SubscriptAny (thn (ho pins s σ H _ I h) fun ov s1 hq6=>?_) ha
 obtain⟨x1,H1,I1,r1,q1⟩:=hq6
 refine thn (hi pins s1 σ H1 _ I1 q1) fun iv s2 hq0=>?_
 obtain⟨x2,H2,I2,r2,q2⟩:=hq0
 refine thn (hg pins s2 σ H2 x1 x2 ov iv _ I2 r1 r2 q2) fun old s3 hq1=>?_
 obtain⟨x3,H3,I3,r3,q3⟩:=hq1
 refine thn (he pins s3 σ H3 _ I3 q3) fun v s4 hq2=>?_
 obtain⟨x4,H4,I4,r4,q4⟩:=hq2
 refine thn (hp pins s4 σ H4 x3 x4 old v _ I4 r3 r4 q4) fun new s5 hq3=>?_
 obtain⟨x5,H5,I5,r5,q5⟩:=hq3
 exact thn (hs pins s5 σ H5 x1 x2 x5 ov iv new _ I5 r1 r2 r5 q5) fun _ s6 hq4=>by obtain⟨H6,I6,q6⟩:=hq4;exact⟨σ,H6,I6,q6⟩
def ipI (f:Int->Int->Int):TIp:=fun x y H Q=>∃ i j,x=.int i/\y=.int j/\Q (.int (f i j)) H
theorem ip_add:PIp X .Add (ipI fun i j=>i+j):=by
 intro pins s σ H x y v u Q I r1 r2 h
 obtain⟨i,j,e1,e2,q⟩:=h
 subst e1;subst e2
 obtain⟨t,rfl⟩:=r1
 obtain⟨t',rfl⟩:=r2
 exact iadd_int ⟨.int _,H,I.tok _,⟨_,rfl⟩,q⟩
end
section
variable {X:Cx}{pos:Pos}
def tWhile (c:TT)(tb:TS):TS:=fun D σ H=>∃ W:Nat->St->Hp->Prop,(∃ m,W m σ H)/\∀ m σ H,W m σ H ->
 c σ H fun b H1=>if b=true then ∃ N:St->Hp->Prop,(∀ σ' H',N σ' H'->∃ m',m'<m/\W m' σ' H')/\tb { D with nx:=N,ct:=N,bk:=D.nx} σ H1 else D.nx σ H1
theorem ps_while {c:Expr}{body:List Stmt}{tc:TT}{tb:TS}(hp:PassesOwn (model X.prog X.w) X.A X.env X.xe)(hc:PT X c tc)(hb:PSs X body tb):PS X (.While c body [] pos) (tWhile tc tb):=by
 intro pins s σ H D I h
 obtain⟨W,⟨m0,w0⟩,turn⟩:=h
 refine wpAny_While (codeAny_whileLoop (fun n s'=>∃ σ' H',Inv X pins σ' H' s'/\W n σ' H') ?_ m0 ⟨σ,H,I,w0⟩)
 rintro n s1 ⟨σ1,H1,I1,w1⟩
 refine wpAny_passesOwn hp (thn (hc pins s1 σ1 H1 _ I1 (turn n σ1 H1 w1)) fun b s2 hq5=>?_)
 obtain⟨H2,I2,q2⟩:=hq5
 cases b with
 | true =>
  obtain⟨N,hN,q2⟩:=q2
  rw[if_pos rfl]
  refine wpAny_passesOwn hp (thn (hb pins s2 σ1 H2 _ I2 q2) fun f s3 q3=>?_)
  cases f with
  | next =>
   obtain⟨σ3,H3,I3,n3⟩:=q3
   obtain⟨m',hm,w3⟩:=hN σ3 H3 n3
   exact⟨m',hm,σ3,H3,I3,w3⟩
  | cont =>
   obtain⟨σ3,H3,I3,n3⟩:=q3
   obtain⟨m',hm,w3⟩:=hN σ3 H3 n3
   exact⟨m',hm,σ3,H3,I3,w3⟩
  | brk=>exact q3
  | ret v=>exact q3
 | false =>
  rw[if_neg Bool.false_ne_true]
  exact wpAny_execs_nil ⟨σ1,H2,I2,q2⟩
end
structure It where
 go:Nat->Hp->Prop
 yld:Nat->Hp->V->Hp->Prop
 stop:Nat->Hp->Prop
def FpOk (X:Cx)(pins:List (Addr×Obj))(H:Hp)(b:Addr):Prop :=
 H b=none/\b≠X.env.locals/\b∉X.fs/\(b∈X.ex\/X.s₀.heap.objs.size<=b)/\(∀ x c,X.env.cells.lookup x=some c->c≠b)/\∀ p∈X.pn++pins,p.1≠b
theorem Inv.fpOk {X:Cx}{pins:List (Addr×Obj)}{σ:St}{H H':Hp}{s:Shared}{b:Addr}(I:Inv X pins σ H s)(hb:s.heap.objs.size<=b)(hn:H' b=none):FpOk X pins H' b:=by
 refine⟨hn,Nat.ne_of_gt (Nat.lt_of_lt_of_le I.lt hb),I.nofs hb,.inr (Nat.le_trans I.sz hb),fun x c e z=>?_,fun p hp z=>?_⟩
 ·obtain⟨v,q⟩:=I.cell x c e
  exact absurd (Nat.lt_of_lt_of_le q.lt (by rw[z];exact hb)) (Nat.lt_irrefl _)
 ·exact absurd (Nat.lt_of_lt_of_le (gxN (I.pin p hp).1) (by rw[z];exact hb)) (Nat.lt_irrefl _)
structure Turn (P:Program)(w:World)(K:PySem.W.Frag)(tg:Expr)(J:It)(fp:List Addr)(it:Addr)(tn:Nat->Heap->Prop):Prop where
 mem:it∈fp
 obj:∀ i h,tn i h->∀ b∈fp,∃ o,h.get? b=some o/\∀ v,o.data≠.cell v
 keep:∀ i h h',tn i h->(∀ b∈fp,∀ o,h.get? b=some o->h'.get? b=some o)->tn i h'
 item:∀(X:Cx),X.prog=P->X.w=w->X.K=K->X.calm=true->∀(i:Nat) (pins:List (Addr×Obj)) (s:Shared) (σ:St) (H:Hp) (E:Value->Shared->Prop),Inv X pins σ H s->(∀ b∈fp,FpOk X pins H b)->tn i s.heap->J.go i H ->
  wpAny (model P w) X.A (pyNext (.ref it)) (fun r s1=>∃ u,r=some u /\
   wpAny (model P w) X.A (letOwnedTupleGo tg (.ref it) u) (fun _ s2=>∃ x H',Inv X pins σ H' s2/\RelV x u/\J.yld i H x H'/\tn (i+1) s2.heap/\∀ b∈fp,H' b=none) E s1) E s
 done:∀(X:Cx),X.prog=P->X.w=w->X.K=K->X.calm=true->∀(i:Nat) (pins:List (Addr×Obj)) (s:Shared) (σ:St) (H:Hp) (E:Value->Shared->Prop),Inv X pins σ H s->(∀ b∈fp,FpOk X pins H b)->tn i s.heap->J.stop i H ->
  wpAny (model P w) X.A (pyNext (.ref it)) (fun r s1=>r=none/\Inv X pins σ H s1) E s
 self:∀(A:Around) (i:Nat) (s:Shared) (Q:Value->Shared->Prop) (E:Value->Shared->Prop),tn i s.heap->Q (.ref it) s->wpAny (model P w) A (pyIter (.ref it)) Q E s
abbrev TI:=St->Hp->(It->Hp->Prop)->Prop
def PIE (X:Cx)(pins:List (Addr×Obj))(σ:St)(tg:Expr)(R:It->Hp->Prop)(itv:Value)(s2:Shared):Prop :=
 ∃(it:Addr) (fp:List Addr) (tn:Nat->Heap->Prop) (J:It) (H':Hp),itv=.ref it/\Inv X pins σ H' s2/\Turn X.prog X.w X.K tg J fp it tn/\tn 0 s2.heap/\(∀ b∈fp,FpOk X pins H' b)/\R J H'
def PI (X:Cx)(tg iter:Expr)(wi:TI):Prop :=
 ∀(pins:List (Addr×Obj)) (s:Shared) (σ:St) (H:Hp) (R:It->Hp->Prop),Inv X pins σ H s->wi σ H R ->
  wpAny (model X.prog X.w) X.A (eval iter X.env) (fun v s1=>wpAny (model X.prog X.w) X.A (pyIter v) (PIE X pins σ tg R) X.xe s1) X.xe s
theorem go_of {M:Model}{A:Around}{E:Value->Shared->Prop}{s:Shared}{tg:Expr}{it:Addr}{u:Value}{o:Obj}{n:String}{vs:Array Value}{Q:Unit->Shared->Prop}(ho:s.heap.get? it=some o)(hc:o.cls=.type n)(hd:o.data=.fields vs)
 (hn:["enumerate", "zip", "dict_itemiterator", "dict_reverseitemiterator", "odict_iterator", "itertools.zip_longest", "itertools.pairwise"].contains n=false) (hQ:Q () s):wpAny M A (letOwnedTupleGo tg (.ref it) u) Q E s:=by
 unfold letOwnedTupleGo
 cases tg <;> first
  | exact wpAny_pure hQ
  | (cases u <;> first
      | exact wpAny_pure hQ
      | (refine gxM (wpAny_load ho ?_)
         rw[hc,hd]
         show wpAny M A (if(["enumerate", "zip", "dict_itemiterator", "dict_reverseitemiterator", "odict_iterator", "itertools.zip_longest", "itertools.pairwise"].contains n&&vs[0]?==some (rawInt _))=true then _ else _) Q E s
         rw[if_neg (by intro h;rw[hn,Bool.false_and]at h;cases h)]
         exact wpAny_pure hQ))
def Itl (K:PySem.W.Frag)(a:Addr):It :=
 ⟨fun i H=>∃ xs x,SqL K H a xs/\xs[i]?=some x,fun i H x H'=>H'=H/\∀ xs,SqL K H a xs->xs[i]?=some x,fun i H=>∃ xs,SqL K H a xs/\xs.length<=i⟩
def Itr (lo:Int)(n:Nat):It:=⟨fun i _=>i<n,fun i H x H'=>H'=H/\x=.int (lo+i),fun i _=>n<=i⟩
theorem turn_list {P:Program}{w:World}{K:PySem.W.Frag}{tg:Expr}(a it:Addr):Turn P w K tg (Itl K a) [it] it (fun i h=>h.IsListIter it a i) where
 mem:=by simp
 obj:=fun i h st b hb=>by
  have e:b=it:=by simpa using hb
  subst e
  obtain⟨o,e,c,d⟩:=st
  exact⟨o,e,fun v z=>by rw[d]at z;cases z⟩
 keep:=fun i h h' st k=>st.at fun o e=>k it (by simp) o e
 item:=by
  intro X hP hw hK hc i pins s σ H E I hf st hg
  subst hP hw hK
  obtain⟨xs,x,hq,hx⟩:=hg
  obtain⟨its,rv,p,hz⟩:=I.list hq
  obtain⟨u,hu,ru⟩:=rv.get hx
  obtain⟨f0,f1,f2,f3,f4,f5⟩:=hf it (by simp)
  refine wpAny_pyNext_list_item st p.isList (x:=u) (by simpa using hu) fun h' st' sb=>?_
  have I1:Inv X pins σ H { s with heap:=h'}:=I.turned (t':=s.toks) (fun b o hb e=>(sb.2 b hb).trans e) f0 f1 f3 f4 f5
  obtain⟨o,e,c,d⟩:=id st'
  exact⟨u,rfl,go_of (s:={ s with heap:=h'}) e c d (by decide) ⟨x,H,I1,ru,⟨rfl,fun ys hy=>by rw[I.list_inj hy hq];exact hx⟩,st',fun b hb=>(hf b hb).1⟩⟩
 done:=by
  intro X hP hw hK hc i pins s σ H E I hf st hg
  subst hP hw hK
  obtain⟨xs,hq,hx⟩:=hg
  obtain⟨its,rv,p,hz⟩:=I.list hq
  obtain⟨f0,f1,f2,f3,f4,f5⟩:=hf it (by simp)
  have hl:=rv.length
  exact wpAny_pyNext_list_end (I.ok.hd hc) st p.isList (by simp;omega) fun h' eb=>⟨rfl,I.turned (t':=s.toks) (fun b o hb e=>eb b o hb e) f0 f1 f3 f4 f5⟩
 self:=fun _ _ _ _ _ st h=>wpAny_pyIter_listiter st h
theorem turn_range {P:Program}{w:World}{K:PySem.W.Frag}{tg:Expr}(it:Addr)(lo:Int)(n:Nat):Turn P w K tg (Itr lo n) [it] it (fun i h=>IsRangeIter h it (lo+(i:Nat)*1) ((n:Int) - (i:Nat)) 1) where
 mem:=by simp
 obj:=fun i h st b hb=>by
  have e:b=it:=by simpa using hb
  subst e
  exact⟨_,st,fun v z=>by
   have z':Data.fields _=Data.cell v:=z
   cases z'⟩
 keep:=fun i h h' st k=>k it (by simp) _ st
 item:=by
  intro X hP hw hK hc i pins s σ H E I hf st hg
  subst hP hw hK
  obtain⟨f0,f1,f2,f3,f4,f5⟩:=hf it (by simp)
  have W:=Walks.range (prog:=X.prog) (w:=X.w) (I.ok.hd hc) it lo 1 n
  refine W.item i s _ _ hg st fun v h' tk hv st' kk=>?_
  obtain⟨t,rfl⟩:=hv
  have I1:Inv X pins σ H { s with heap:=h',toks:=tk}:=I.turned (fun b o hb e=>kk b o (by simpa using hb) e) f0 f1 f3 f4 f5
  refine⟨_,rfl,go_of (s:={ s with heap:=h',toks:=tk}) (n := "range_iterator") st' rfl rfl (by decide) ⟨.int (lo+i),H,I1,⟨t,?_⟩,⟨rfl,rfl⟩,st',fun b hb=>(hf b hb).1⟩⟩
  rw[Int.mul_one]
 done:=by
  intro X hP hw hK hc i pins s σ H E I hf st hg
  subst hP hw hK
  obtain⟨f0,f1,f2,f3,f4,f5⟩:=hf it (by simp)
  exact wpAny_pyNext_range_end (I.ok.hd hc) st (by have:n<=i:=hg;omega) fun h' eb=>⟨rfl,I.turned (t':=s.toks) (fun b o hb e=>eb b o hb e) f0 f1 f3 f4 f5⟩
 self:=fun _ _ _ _ _ st h=>wpAny_pyIter_rangeiter st h
section
variable {X:Cx}{tg:Expr}
def iList (K:PySem.W.Frag)(tl:TE):TI:=fun σ H R=>tl σ H fun x H1=>∃ a,x=.ref a/\(∃ xs,SqL K H1 a xs)/\R (Itl K a) H1
theorem pi_list {l:Expr}{tl:TE}(hl:PE X l tl):PI X tg l (iList X.K tl):=by
 intro pins s σ H R I h
 refine thn (hl pins s σ H _ I h) fun v s1 hq6=>?_
 obtain⟨x,H1,I1,r1,q1⟩:=hq6
 obtain⟨a,e,⟨xs,hq⟩,q⟩:=q1
 subst e
 cases r1
 obtain⟨its,rv,p,hz⟩:=I1.list hq
 refine wpAny_pyIter_list p.isList ?_
 refine⟨s1.heap.objs.size,[s1.heap.objs.size],_,_,H1,rfl,I1.kept (t':=s1.toks) fun b o e=>gxL _ e,turn_list a _,⟨_,Heap.get?_push_size _ rfl,rfl,rfl⟩,fun b hb=>?_,q⟩
 have e:b=s1.heap.objs.size:=by simpa using hb
 subst e
 exact I1.fpOk (Nat.le_refl _) (I1.hok.fresh (Nat.le_refl _))
theorem range_it {pins:List (Addr×Obj)}{σ:St}{H:Hp}{s:Shared}{R:It->Hp->Prop}{E:Value->Shared->Prop}{lo hi:Int}{t u v:Tok}{tk:Nat}(I:Inv X pins σ H s)(h1:-(2 ^ 62)<=lo)(h2:lo<2 ^ 62)(h3:-(2 ^ 62)<=hi)(h4:hi<2 ^ 62)
 (q:R (Itr lo (hi - lo).toNat) H):wpAny (model X.prog X.w) X.A (pyIter (.ref s.heap.objs.size)) (PIE X pins σ tg R) E { s with heap:=s.heap.push { cls:=.type "range",data:=.fields #[.int lo t,.int hi u,.int 1 v]},toks:=tk}:=by
 refine wpAny_pyIter_range (IsRange.new ..) (small_one h1 h2 h3 h4) ?_
 have I1:Inv X pins σ H { s with heap:=s.heap.push { cls:=.type "range",data:=.fields #[.int lo t,.int hi u,.int 1 v]},toks:=tk}:=I.kept fun b o e=>gxL _ e
 refine⟨(s.heap.push { cls:=.type "range",data:=.fields #[.int lo t,.int hi u,.int 1 v]}).objs.size,[(s.heap.push { cls:=.type "range",data:=.fields #[.int lo t,.int hi u,.int 1 v]}).objs.size],_,_,H,rfl,
  I1.kept (t':=tk) fun b o e=>gxL _ e,turn_range _ lo (hi - lo).toNat,?_,fun b hb=>?_,q⟩
 ·have e1:lo+((0:Nat):Int)*1=lo:=by simp
  have e2:(((hi - lo).toNat:Nat):Int) - ((0:Nat):Int)=Builtin.Range.rangeSize lo hi 1:=by rw[rangeSize_one];split <;> omega
  show IsRangeIter _ _ (lo+((0:Nat):Int)*1) ((((hi - lo).toNat:Nat):Int) - ((0:Nat):Int)) 1
  rw[e1,e2]
  exact Heap.get?_push_size _ rfl
 ·have e:b=(s.heap.push { cls:=.type "range",data:=.fields #[.int lo t,.int hi u,.int 1 v]}).objs.size:=by simpa using hb
  subst e
  exact I1.fpOk (Nat.le_refl _) (I1.hok.fresh (Nat.le_refl _))
def iRng1 (ta:TA):TI:=fun σ H R=>ta σ H fun vs H1=>∃ j:Int,vs=[.int j] /\ -(2 ^ 62)<=j/\j<2 ^ 62/\R (Itr 0 j.toNat) H1
def iRng2 (ta:TA):TI:=fun σ H R=>ta σ H fun vs H1=>∃ i j:Int,vs=[.int i,.int j]/\(-(2 ^ 62)<=i/\i<2 ^ 62 /\ -(2 ^ 62)<=j/\j<2 ^ 62)/\R (Itr i (j - i).toNat) H1
theorem pi_range1 {a:Expr}{ta:TA}{p pos:Pos}(hg:Gl X "range")(hm:X.mg "range"=none)(ha:PA X [a] ta)(hs:starEach [a] X.env=[(false,eval a X.env)]:=by rfl):PI X tg (.Call (.Name "range" p) [a] [] pos) (iRng1 ta):=by
 intro pins s σ H R I h
 refine Call_ (ld_blt I hg hm boot_range (PyProof.Rows.callWith_type1 (thn (ha pos pins s σ H _ I h) fun us s1 hq0=>?_) hs rfl))
 obtain⟨vs,H1,I1,r1,q1⟩:=hq0
 obtain⟨j,e,q1,q2,q⟩:=q1
 subst e
 cases r1 with
 | cons r rr =>
  cases rr
  obtain⟨t,rfl⟩:=r
  exact call_range_1 (range_it I1 (by omega) (by omega) q1 q2 (by simpa using q))
theorem pi_range2 {a b:Expr}{ta:TA}{p pos:Pos}(hg:Gl X "range")(hm:X.mg "range"=none)(ha:PA X [a,b] ta)(hs:starEach [a,b] X.env=[(false,eval a X.env),(false,eval b X.env)]:=by rfl)(hs2:starEach [b] X.env=[(false,eval b X.env)]:=by rfl) :
 PI X tg (.Call (.Name "range" p) [a,b] [] pos) (iRng2 ta):=by
 intro pins s σ H R I h
 refine Call_ (ld_blt I hg hm boot_range (PyProof.Rows.callWith_type1 (thn (ha pos pins s σ H _ I h) fun us s1 hq1=>?_) (by rw[hs,hs2]) (by rw[hs2];rfl)))
 obtain⟨vs,H1,I1,r1,q1⟩:=hq1
 obtain⟨i,j,e,⟨q1,q2,q3,q4⟩,q⟩:=q1
 subst e
 cases r1 with
 | cons r rr =>
  cases rr with
  | cons r' rr =>
   cases rr
   obtain⟨t,rfl⟩:=r
   obtain⟨t',rfl⟩:=r'
   exact call_range_2 (range_it I1 q1 q2 q3 q4 q)
def tFor (wi:TI)(g:TG)(tb:TS):TS:=fun D σ H=>wi σ H fun J H1=>∃ W:Nat->Nat->St->Hp->Prop,(∃ m,W 0 m σ H1)/\∀ i m σ H,W i m σ H ->
 (J.stop i H/\D.nx σ H)\/(J.go i H/\∃ N:St->Hp->Prop,(∀ σ' H',N σ' H'->∃ m',m'<m/\W (i+1) m' σ' H')/\∀ x H',J.yld i H x H'->g x σ H' fun σ2 H2=>tb { D with nx:=N,ct:=N,bk:=D.nx} σ2 H2)
def pinsAt (fp:List Addr)(h:Heap):List (Addr×Obj):=fp.filterMap fun b=>(h.get? b).map fun o=>(b,o)
theorem mem_pinsAt {fp:List Addr}{h:Heap}{b:Addr}{o:Obj}(hb:b∈fp)(e:h.get? b=some o):(b,o)∈pinsAt fp h:=List.mem_filterMap.mpr ⟨b,hb,by rw[e];rfl⟩
theorem of_pinsAt {fp:List Addr}{h:Heap}{p:Addr×Obj}(hp:p∈pinsAt fp h):p.1∈fp/\h.get? p.1=some p.2:=by
 obtain⟨b,hb,e⟩:=List.mem_filterMap.mp hp
 cases q:h.get? b with
 | none=>rw[q]at e;cases e
 | some o =>
  rw[q]at e
  have e':(b,o)=p:=Option.some.inj e
  subst e'
  exact⟨hb,q⟩
theorem Inv.pinned {pins:List (Addr×Obj)}{σ:St}{H:Hp}{s:Shared}{fp:List Addr}(I:Inv X pins σ H s)(hf:∀ b∈fp,FpOk X pins H b)(ho:∀ b∈fp,∃ o,s.heap.get? b=some o/\∀ v,o.data≠.cell v):Inv X (pins++pinsAt fp s.heap) σ H s :=
 I.pins_of fun p hp=>(List.mem_append.mp hp).elim (fun z=>I.pin p (List.mem_append_right _ z)) fun z=>by
  obtain⟨hb,e⟩:=of_pinsAt z
  obtain⟨f0,f1,f2,_⟩:=hf p.1 hb
  obtain⟨o,e',d⟩:=ho p.1 hb
  rw[e]at e';cases e'
  exact⟨e,f0,f1,f2,d⟩
theorem Inv.unpinned {pins pl:List (Addr×Obj)}{σ:St}{H:Hp}{s:Shared}(I:Inv X (pins++pl) σ H s):Inv X pins σ H s:=I.pins_of fun p hp=>I.pin p (List.mem_append_right _ (List.mem_append_left _ hp))
theorem ps_for {iter:Expr}{body:List Stmt}{wi:TI}{g:TG}{tb:TS}{pos:Pos}(hp:PassesOwn (model X.prog X.w) X.A X.env X.xe)(hc:X.calm=true)(hi:PI X tg iter wi)(hg:PG X tg g)(hb:PSs X body tb)
 (hs:∀ x,foldedSetIterable iter X.env x=pure x:=by intro _;rfl):PS X (.For tg iter body [] pos) (tFor wi g tb):=by
 intro pins s σ H D I h
 refine wpAny_For (thn (hi pins s σ H _ I h) fun v s1 h1=>thn h1 fun itv s2 h2=>?_) hs
 obtain⟨it,fp,tn,J,H2,e,I2,T,st2,f2,W,⟨m0,w0⟩,turn⟩:=h2
 subst e
 have stat:∀ {H':Hp},(∀ b∈fp,H' b=none)->∀ b∈fp,FpOk X pins H' b:=fun hn b hb=>⟨hn b hb,(f2 b hb).2⟩
 refine codeAny_forLoop_any (fun n s'=>∃ i σ' H',Inv X pins σ' H' s'/\tn i s'.heap/\(∀ b∈fp,H' b=none)/\W i n σ' H') ?_ m0 ⟨0,σ,H2,I2,st2,fun b hb=>(f2 b hb).1,w0⟩
 rintro n s3 ⟨i,σ3,H3,I3,st3,fr3,w3⟩
 rcases turn i n σ3 H3 w3 with⟨stop,qn⟩ | ⟨go,N,hN,step⟩
 ·refine wpAny_passesOwn hp (thn (T.done X rfl rfl rfl hc i pins s3 σ3 H3 X.xe I3 (stat fr3) st3 stop) fun r s4 hq2=>?_)
  obtain⟨hr,I4⟩:=hq2
  subst hr
  exact wpAny_execs_nil ⟨σ3,H3,I4,qn⟩
 ·refine wpAny_passesOwn hp (thn (T.item X rfl rfl rfl hc i pins s3 σ3 H3 X.xe I3 (stat fr3) st3 go) fun r s4 hq3=>?_)
  obtain⟨u,hr,h4⟩:=hq3
  subst hr
  refine wpAny_passesOwn hp (thn h4 fun _ s5 hq4=>?_)
  obtain⟨x,H5,I5,r5,y5,st5,fr5⟩:=hq4
  have I5':=I5.pinned (stat fr5) (T.obj _ _ st5)
  refine wpAny_passesOwn hp (thn (hg _ s5 σ3 H5 x u _ I5' r5 (step x H5 y5)) fun _ s6 hq5=>?_)
  obtain⟨σ6,H6,I6,q6⟩:=hq5
  refine wpAny_passesOwn hp (thn (hb _ s6 σ6 H6 _ I6 q6) fun f s7 q7=>?_)
  have again:∀ {σ7:St} {H7:Hp},Inv X (pins++pinsAt fp s5.heap) σ7 H7 s7->N σ7 H7->∃ m,m<n/\∃ i σ' H',Inv X pins σ' H' s7/\tn i s7.heap/\(∀ b∈fp,H' b=none)/\W i m σ' H':=fun {σ7 H7} I7 n7=>by
   obtain⟨m',hm,w7⟩:=hN σ7 H7 n7
   refine⟨m',hm,i+1,σ7,H7,I7.unpinned,T.keep _ _ _ st5 fun b hb o e=>(I7.pin (b,o) (List.mem_append_right _ (List.mem_append_right _ (mem_pinsAt hb e)))).1,fun b hb=>?_,w7⟩
   obtain⟨o,e,d⟩:=T.obj _ _ st5 b hb
   exact(I7.pin (b,o) (List.mem_append_right _ (List.mem_append_right _ (mem_pinsAt hb e)))).2.1
  cases f with
  | next=>obtain⟨σ7,H7,I7,n7⟩:=q7;exact again I7 n7
  | cont=>obtain⟨σ7,H7,I7,n7⟩:=q7;exact again I7 n7
  | brk=>obtain⟨σ7,H7,I7,q7⟩:=q7;exact⟨σ7,H7,I7.unpinned,q7⟩
  | ret v=>obtain⟨x7,σ7,H7,I7,r7,q7⟩:=q7;exact⟨x7,σ7,H7,I7.unpinned,r7,q7⟩
end
abbrev R2:=V->V->Hp->VK->Prop
def OpR (X:Cx)(f:Value->Value->Sem Value)(r:R2):Prop :=
 ∀(pins:List (Addr×Obj)) (s:Shared) (σ:St) (H:Hp) (x y:V) (v u:Value) (Q:VK),Inv X pins σ H s->RelV x v->RelV y u->r x y H Q ->
  wpAny (model X.prog X.w) X.A (f v u) (EP X pins σ Q) X.xe s
def UnR (X:Cx)(f:Value->Sem Value)(r:V->Hp->VK->Prop):Prop :=
 ∀(pins:List (Addr×Obj)) (s:Shared) (σ:St) (H:Hp) (x:V) (v:Value) (Q:VK),Inv X pins σ H s->RelV x v->r x H Q ->
  wpAny (model X.prog X.w) X.A (f v) (EP X pins σ Q) X.xe s
def CallR (X:Cx)(f:Value)(r:List V->Hp->VK->Prop):Prop :=
 ∀(pins:List (Addr×Obj)) (s:Shared) (σ:St) (H:Hp) (xs:List V) (us:List Value) (Q:VK),Inv X pins σ H s->Vals xs us->r xs H Q ->
  wpAny (model X.prog X.w) X.A (call f us) (EP X pins σ Q) X.xe s
def tOp (r:R2)(ta tb:TE):TE:=fun σ H Q=>ta σ H fun x H1=>tb σ H1 fun y H2=>r x y H2 Q
def tUn (r:V->Hp->VK->Prop)(ta:TE):TE:=fun σ H Q=>ta σ H fun x H1=>r x H1 Q
def rI (C:Int->Int->Prop)(g:Int->Int->V):R2:=fun x y H Q=>∃ i j,x=.int i/\y=.int j/\C i j/\Q (g i j) H
def rI0 (g:Int->Int->V):R2:=fun x y H Q=>∃ i j,x=.int i/\y=.int j/\Q (g i j) H
def rU (g:Int->V):V->Hp->VK->Prop:=fun x H Q=>∃ i,x=.int i/\Q (g i) H
section
variable {X:Cx}{a b c:Expr}{ta tb tc:TE}{pos:Pos}
theorem binT (ha:PE X a ta)(hb:PE X b tb){pins:List (Addr×Obj)}{s:Shared}{σ:St}{H:Hp}{R:V->V->Hp->Prop}(I:Inv X pins σ H s)
 (h:ta σ H fun x H1=>tb σ H1 fun y H2=>R x y H2) {Q:Value->Shared->Prop} {f:Value->Value->Sem Value}
 (hf:∀ v u s2 x y H2,Inv X pins σ H2 s2->RelV x v->RelV y u->R x y H2->wpAny (model X.prog X.w) X.A (f v u) Q X.xe s2) :
 wpAny (model X.prog X.w) X.A (eval a X.env) (fun v s₁=>wpAny (model X.prog X.w) X.A (eval b X.env) (fun u s₂=>wpAny (model X.prog X.w) X.A (f v u) Q X.xe s₂) X.xe s₁) X.xe s:=by
 refine thn (ha pins s σ H _ I h) fun v s1 hq6=>?_
 obtain⟨x,H1,I1,r1,q1⟩:=hq6
 refine thn (hb pins s1 σ H1 _ I1 q1) fun u s2 hq0=>?_
 obtain⟨y,H2,I2,r2,q2⟩:=hq0
 exact hf v u s2 x y H2 I2 r1 r2 q2
theorem pe_op {op:Operator}{r:R2}(ho:OpR X (binaryOp op) r)(ha:PE X a ta)(hb:PE X b tb):PE X (.BinOp a op b pos) (tOp r ta tb):=by
 intro pins s σ H Q I h
 exact wpAny_BinOp (binT ha hb I h fun v u s2 x y H2 I2 rx ry q=>ho pins s2 σ H2 x y v u Q I2 rx ry q)
theorem pe_un {op:UnaryOp}{r:V->Hp->VK->Prop}(ho:UnR X (unaryOp op) r)(ha:PE X a ta):PE X (.UnaryOp op a pos) (tUn r ta):=by
 intro pins s σ H Q I h
 exact UnaryOp_ (thn (ha pins s σ H _ I h) fun v s1 hq1=>by obtain⟨x,H1,I1,r1,q1⟩:=hq1;exact ho pins s1 σ H1 x v Q I1 r1 q1)
theorem opI {f:Value->Value->Sem Value}{C:Int->Int->Prop}{g:Int->Int->Int}
 (rule:∀(i j:Int) (t u:Tok) (s:Shared) (Q:Value->Shared->Prop) (E:Value->Shared->Prop),C i j->Q (.int (g i j) s.toks) { s with toks:=s.toks+1}->wpAny (model X.prog X.w) X.A (f (.int i t) (.int j u)) Q E s) :
 OpR X f (rI C fun i j=>.int (g i j)):=by
 intro pins s σ H x y v u Q I rx ry h
 obtain⟨i,j,rfl,rfl,hc,q⟩:=h
 obtain⟨t,rfl⟩:=rx
 obtain⟨t',rfl⟩:=ry
 exact rule i j t t' s _ _ hc ⟨.int (g i j),H,I.tok _,⟨_,rfl⟩,q⟩
theorem opI0 {f:Value->Value->Sem Value}{g:Int->Int->Int}
 (rule:∀(i j:Int) (t u:Tok) (s:Shared) (Q:Value->Shared->Prop) (E:Value->Shared->Prop),Q (.int (g i j) s.toks) { s with toks:=s.toks+1}->wpAny (model X.prog X.w) X.A (f (.int i t) (.int j u)) Q E s) :
 OpR X f (rI0 fun i j=>.int (g i j)):=by
 intro pins s σ H x y v u Q I rx ry h
 obtain⟨i,j,rfl,rfl,q⟩:=h
 obtain⟨t,rfl⟩:=rx
 obtain⟨t',rfl⟩:=ry
 exact rule i j t t' s _ _ ⟨.int (g i j),H,I.tok _,⟨_,rfl⟩,q⟩
theorem opB0 {f:Value->Value->Sem Value}{g:Int->Int->Bool}
 (rule:∀(i j:Int) (t u:Tok) (s:Shared) (Q:Value->Shared->Prop) (E:Value->Shared->Prop),Q (.bool (g i j)) s->wpAny (model X.prog X.w) X.A (f (.int i t) (.int j u)) Q E s) :
 OpR X f (rI0 fun i j=>.bl (g i j)):=by
 intro pins s σ H x y v u Q I rx ry h
 obtain⟨i,j,rfl,rfl,q⟩:=h
 obtain⟨t,rfl⟩:=rx
 obtain⟨t',rfl⟩:=ry
 exact rule i j t t' s _ _ ⟨.bl (g i j),H,I,rfl,q⟩
def CDiv (i j:Int):Prop:=0<j/\j<1073741824
def CPow (i j:Int):Prop:=0<=j/\j<=1000000/\i.natAbs<2 ^ 64
def CMul (i j:Int):Prop:=(-(2 ^ 64)<i/\i<2 ^ 64)\/(-(2 ^ 64)<j/\j<2 ^ 64)
theorem CMul.ok {i j:Int}(h:CMul i j):IntMulOk i j:=by
 rcases h with⟨h1,h2⟩ | ⟨h1,h2⟩
 ·exact .of_left (intBits_le_64 h1 h2)
 ·exact .of_right (intBits_le_64 h1 h2)
theorem op_add:OpR X (binaryOp .Add) (rI0 fun i j=>.int (i+j)):=opI0 fun _ _ _ _ _ _ _ q=>add_int q
theorem op_sub:OpR X (binaryOp .Sub) (rI0 fun i j=>.int (i - j)):=opI0 fun _ _ _ _ _ _ _ q=>sub_int q
theorem op_mul:OpR X (binaryOp .Mult) (rI CMul fun i j=>.int (i*j)):=opI fun _ _ _ _ _ _ _ hc q=>mul_int q hc.ok
theorem op_fdiv:OpR X (binaryOp .FloorDiv) (rI CDiv fun i j=>.int (i / j)):=opI fun i j _ _ _ _ _ hc q=>by
 have h1:(0:Int)<j:=hc.1
 have h2:j<1073741824:=hc.2
 exact floordiv_int (by omega) (by rw[Int.fdiv_eq_ediv_of_nonneg i (by omega)];exact q) (.inl (PyProof.noPylong_small (by omega)))
theorem op_mod:OpR X (binaryOp .Mod) (rI (fun _ j=>0<j) fun i j=>.int (i%j)):=opI fun i j _ _ _ _ _ hc q=>by
 have h1:(0:Int)<j:=hc
 exact mod_int' (by omega) (by rw[Int.fmod_eq_emod_of_nonneg i (by omega)];exact q)
theorem op_pow:OpR X (binaryOp .Pow) (rI CPow fun i j=>.int (i ^ j.toNat)):=opI fun _ _ _ _ _ _ _ hc q=>pow_int_small hc.1 hc.2.1 hc.2.2 q
theorem unI {f:Value->Sem Value}{g:Int->Int}
 (rule:∀(i:Int) (t:Tok) (s:Shared) (Q:Value->Shared->Prop) (E:Value->Shared->Prop),Q (.int (g i) s.toks) { s with toks:=s.toks+1}->wpAny (model X.prog X.w) X.A (f (.int i t)) Q E s) :
 UnR X f (rU fun i=>.int (g i)):=by
 intro pins s σ H x v Q I rx h
 obtain⟨i,rfl,q⟩:=h
 obtain⟨t,rfl⟩:=rx
 exact rule i t s _ _ ⟨.int (g i),H,I.tok _,⟨_,rfl⟩,q⟩
theorem un_neg:UnR X (unaryOp .USub) (rU fun i=>.int (-i)):=unI fun _ _ _ _ _ q=>neg_int q
end
def scal:V->V->Bool
 | .non,.non=>true | .non,.int _=>true | .int _,.non=>true | .non,.bl _=>true | .bl _,.non=>true | .non,.str _=>true | .str _,.non=>true
 | .int _,.int _=>true | .bl _,.bl _=>true | .str _,.str _=>true | .byt _,.byt _=>true
 | .int _,.str _=>true | .str _,.int _=>true | .bl _,.str _=>true | .str _,.bl _=>true
 | _,_=>false
def rEq:R2:=fun x y H Q=>scal x y=true/\Q (.bl (decide (x=y))) H
def rNe:R2:=fun x y H Q=>scal x y=true/\Q (.bl (!decide (x=y))) H
theorem dec_int {i j:Int}:decide (V.int i=V.int j)=(i==j):=by
 rw[Bool.eq_iff_iff]
 simp
theorem dec_bl {i j:Bool}:decide (V.bl i=V.bl j)=(i==j):=by
 rw[Bool.eq_iff_iff]
 simp
theorem dec_str {i j:Str}:decide (V.str i=V.str j)=(i==j):=by
 rw[Bool.eq_iff_iff]
 simp
theorem dec_byt {i j:Array UInt8}:decide (V.byt i=V.byt j)=(i.toList==j.toList):=by
 rw[Bool.eq_iff_iff]
 cases i
 cases j
 simp
section
variable {X:Cx}{a b c:Expr}{ta tb tc:TE}{pos:Pos}
theorem fin_bl {pins:List (Addr×Obj)}{σ:St}{H:Hp}{s:Shared}{Q:VK}{k k':Bool}(I:Inv X pins σ H s)(q:Q (.bl k) H)(e:k=k'):EP X pins σ Q (.bool k') s:=by
 subst e
 exact⟨.bl k,H,I,rfl,q⟩
theorem op_eq:OpR X (compareOp .Eq) rEq:=by
 intro pins s σ H x y v u Q I rx ry h
 obtain⟨hs,q⟩:=h
 cases x with
 | non =>
  cases rx
  cases y with
  | non=>cases ry;exact PySem.EqNone.eq_none_none (fin_bl I q (by simp))
  | bl j=>cases ry;exact PySem.EqNone.eq_none_bool (fin_bl I q (by simp))
  | int j=>obtain⟨t',rfl⟩:=ry;exact PySem.EqNone.eq_none_int (fin_bl I q (by simp))
  | str j=>obtain⟨t',rfl⟩:=ry;exact PySem.EqNone.eq_none_str (fin_bl I q (by simp))
  | _=>exact absurd (show false=true from hs) Bool.false_ne_true
 | bl i =>
  cases rx
  cases y with
  | non=>cases ry;exact PySem.EqNone.eq_bool_none (fin_bl I q (by simp))
  | bl j=>cases ry;exact eq_bool (fin_bl I q dec_bl)
  | str j=>obtain⟨t',rfl⟩:=ry;exact PySem.EqMixed.eq_bool_str (fin_bl I q (by simp))
  | _=>exact absurd (show false=true from hs) Bool.false_ne_true
 | int i =>
  obtain⟨t,rfl⟩:=rx
  cases y with
  | non=>cases ry;exact PySem.EqNone.eq_int_none (fin_bl I q (by simp))
  | int j=>obtain⟨t',rfl⟩:=ry;exact eq_int (fin_bl I q dec_int)
  | str j=>obtain⟨t',rfl⟩:=ry;exact PySem.EqMixed.eq_int_str (fin_bl I q (by simp))
  | _=>exact absurd (show false=true from hs) Bool.false_ne_true
 | str i =>
  obtain⟨t,rfl⟩:=rx
  cases y with
  | non=>cases ry;exact PySem.EqNone.eq_str_none (fin_bl I q (by simp))
  | bl j=>cases ry;exact PySem.EqMixed.eq_str_bool (fin_bl I q (by simp))
  | int j=>obtain⟨t',rfl⟩:=ry;exact PySem.EqMixed.eq_str_int (fin_bl I q (by simp))
  | str j=>obtain⟨t',rfl⟩:=ry;exact eq_str (fin_bl I q dec_str)
  | _=>exact absurd (show false=true from hs) Bool.false_ne_true
 | byt i =>
  obtain⟨t,rfl⟩:=rx
  cases y with
  | byt j=>obtain⟨t',rfl⟩:=ry;exact PySem.W.eq_bytes (fin_bl I q dec_byt)
  | _=>exact absurd (show false=true from hs) Bool.false_ne_true
 | _=>cases y <;> exact absurd (show false=true from hs) Bool.false_ne_true
theorem op_ne:OpR X (compareOp .NotEq) rNe:=by
 intro pins s σ H x y v u Q I rx ry h
 obtain⟨hs,q⟩:=h
 cases x with
 | non =>
  cases rx
  cases y with
  | non=>cases ry;exact PySem.EqNone.ne_none_none (fin_bl I q (by simp))
  | bl j=>cases ry;exact PySem.EqNone.ne_none_bool (fin_bl I q (by simp))
  | int j=>obtain⟨t',rfl⟩:=ry;exact PySem.EqNone.ne_none_int (fin_bl I q (by simp))
  | str j=>obtain⟨t',rfl⟩:=ry;exact PySem.EqNone.ne_none_str (fin_bl I q (by simp))
  | _=>exact absurd (show false=true from hs) Bool.false_ne_true
 | bl i =>
  cases rx
  cases y with
  | non=>cases ry;exact PySem.EqNone.ne_bool_none (fin_bl I q (by simp))
  | bl j=>cases ry;exact ne_bool (fin_bl I q (congrArg not dec_bl))
  | str j=>obtain⟨t',rfl⟩:=ry;exact PySem.EqMixed.ne_bool_str (fin_bl I q (by simp))
  | _=>exact absurd (show false=true from hs) Bool.false_ne_true
 | int i =>
  obtain⟨t,rfl⟩:=rx
  cases y with
  | non=>cases ry;exact PySem.EqNone.ne_int_none (fin_bl I q (by simp))
  | int j=>obtain⟨t',rfl⟩:=ry;exact ne_int (fin_bl I q (congrArg not dec_int))
  | str j=>obtain⟨t',rfl⟩:=ry;exact PySem.EqMixed.ne_int_str (fin_bl I q (by simp))
  | _=>exact absurd (show false=true from hs) Bool.false_ne_true
 | str i =>
  obtain⟨t,rfl⟩:=rx
  cases y with
  | non=>cases ry;exact PySem.EqNone.ne_str_none (fin_bl I q (by simp))
  | bl j=>cases ry;exact PySem.EqMixed.ne_str_bool (fin_bl I q (by simp))
  | int j=>obtain⟨t',rfl⟩:=ry;exact PySem.EqMixed.ne_str_int (fin_bl I q (by simp))
  | str j=>obtain⟨t',rfl⟩:=ry;exact ne_str (fin_bl I q (congrArg not dec_str))
  | _=>exact absurd (show false=true from hs) Bool.false_ne_true
 | byt i =>
  obtain⟨t,rfl⟩:=rx
  cases y with
  | byt j=>obtain⟨t',rfl⟩:=ry;exact PySem.W.ne_bytes (fin_bl I q (congrArg not dec_byt))
  | _=>exact absurd (show false=true from hs) Bool.false_ne_true
 | _=>cases y <;> exact absurd (show false=true from hs) Bool.false_ne_true
theorem op_lt:OpR X (compareOp .Lt) (rI0 fun i j=>.bl (decide (i<j))):=opB0 fun _ _ _ _ _ _ _ q=>lt_int q
theorem op_le:OpR X (compareOp .LtE) (rI0 fun i j=>.bl (decide (i<=j))):=opB0 fun _ _ _ _ _ _ _ q=>le_int q
theorem op_gt:OpR X (compareOp .Gt) (rI0 fun i j=>.bl (decide (j<i))):=opB0 fun _ _ _ _ _ _ _ q=>gt_int q
theorem op_ge:OpR X (compareOp .GtE) (rI0 fun i j=>.bl (decide (j<=i))):=opB0 fun _ _ _ _ _ _ _ q=>ge_int q
theorem op_in_str:OpR X (compareOp .In) (fun x y H Q=>∃ i j,x=.str i/\y=.str j/\Q (.bl (!(Builtin.Str.occurrences j i 0 j.length 1).isEmpty)) H):=by
 intro pins s σ H x y v u Q I rx ry h
 obtain⟨i,j,rfl,rfl,q⟩:=h
 obtain⟨t,rfl⟩:=rx
 obtain⟨t',rfl⟩:=ry
 exact in_str (fin_bl I q rfl)
theorem OpR.or {f:Value->Value->Sem Value}{r r':R2}(h:OpR X f r)(h':OpR X f r'):OpR X f (fun x y H Q=>r x y H Q\/r' x y H Q):=by
 intro pins s σ H x y v u Q I rx ry q
 rcases q with q | q
 ·exact h pins s σ H x y v u Q I rx ry q
 ·exact h' pins s σ H x y v u Q I rx ry q
theorem nomark (b:Expr){op:CmpOp}(h:op≠.In:=by decide)(h2:op≠.NotIn:=by decide):behindInMarks op b=false:=by
 have e1:(op==CmpOp.In)=false:=by cases op <;> first | rfl | exact absurd rfl h
 have e2:(op==CmpOp.NotIn)=false:=by cases op <;> first | rfl | exact absurd rfl h2
 cases b <;> simp[behindInMarks,e1,e2]
theorem pe_cmpR {op:CmpOp}{r:R2}(ho:OpR X (compareOp op) r)(ha:PE X a ta)(hb:PE X b tb)(hm:behindInMarks op b=false):PE X (.Compare a [op] [b] pos) (tOp r ta tb):=by
 intro pins s σ H Q I h
 exact wpAny_Compare1 (binT ha hb I h fun v u s2 x y H2 I2 rx ry q=>ho pins s2 σ H2 x y v u Q I2 rx ry q) hm
theorem line63:(sizeLine:Nat)<2 ^ 63:=by rw[sizeLine_eq];decide
theorem op_add_str:OpR X (binaryOp .Add) (fun x y H Q=>∃ i j,x=.str i/\y=.str j/\i.length+j.length<=sizeLine/\Q (.str (i++j)) H):=by
 intro pins s σ H x y v u Q I rx ry h
 obtain⟨i,j,rfl,rfl,hz,q⟩:=h
 obtain⟨t,rfl⟩:=rx
 obtain⟨t',rfl⟩:=ry
 exact add_str (fun t' tk=>⟨.str (i++j),H,I.tok _,⟨_,rfl⟩,q⟩) hz
theorem vals1 {x:V}{us:List Value}(r:Vals [x] us):∃ u,us=[u]/\RelV x u:=by
 cases r with
 | cons r1 r2=>cases r2;exact⟨_,rfl,r1⟩
theorem vals2 {x y:V}{us:List Value}(r:Vals [x,y] us):∃ u w',us=[u,w']/\RelV x u/\RelV y w':=by
 cases r with
 | cons r1 r2 =>
  cases r2 with
  | cons r3 r4=>cases r4;exact⟨_,_,rfl,r1,r3⟩
theorem call_max2 (hc:X.calm=true):CallR X (.builtin "max") (fun xs H Q=>∃ i j,xs=[.int i,.int j]/\Q (.int (if j>i then j else i)) H):=by
 intro pins s σ H xs us Q I r h
 obtain⟨i,j,rfl,q⟩:=h
 obtain⟨u,w',rfl,⟨t,rfl⟩,⟨t',rfl⟩⟩:=vals2 r
 refine max_two_ints (I.ok.hd hc) fun h' tk k=>⟨_,H,I.kept k,?_,q⟩
 by_cases hj:j>i
 ·rw[if_pos hj,if_pos hj];exact⟨_,rfl⟩
 ·rw[if_neg hj,if_neg hj];exact⟨_,rfl⟩
end
structure ObjM (h:Heap)(x dx C:Addr)(mA:Str->Option Value):Prop where
 obj:h.get? x=some (PySem.W.instObj C dx)
 ns:h.Ns1 dx mA
 ne:dx≠x
theorem lookIn_ns {h:Heap}{dx:Addr}{mA:Str->Option Value}(n:h.Ns1 dx mA):∃ od,h.get? dx=some od/\∀ name,PySem.W.lookIn name od=some (mA name):=by
 obtain⟨o,es,ep,ho,hd,hk,_,hm⟩:=n
 refine⟨o,ho,fun name=>?_⟩
 have e:=hm name
 unfold nsFind findBy at e
 rw[<- Array.find?_toList]at e
 unfold PySem.W.lookIn
 rw[hd]
 dsimp only
 split
 ·rename_i y q
  rw[q]at e
  exact congrArg some e
 ·rename_i q
  rw[q]at e
  have a:es.toList.any (·.refKey)=false:=by
   rw[List.any_eq_false]
   intro y hy
   obtain⟨z,t,hkey⟩:=hk y (Array.mem_toList_iff.mp hy)
   simp[DictEntry.refKey,hkey]
  have a':¬ es.toList.any (·.refKey)=true:=by rw[a];exact Bool.false_ne_true
  rw[if_neg a']
  exact congrArg some e
theorem ObjM.look {h:Heap}{x dx C:Addr}{mA:Str->Option Value}(I:ObjM h x dx C mA):∃ od,PySem.W.InstAt h x (PySem.W.instObj C dx) C (some od)/\∀ name,PySem.W.lookIn name od=some (mA name) :=
 let ⟨od,ho,hl⟩:=lookIn_ns I.ns
 ⟨od,⟨I.obj,rfl,rfl,ho⟩,hl⟩
section
variable {prog:Program}{w:World}{A:Around}{E:Value->Shared->Prop}{s:Shared}{K:PySem.W.Frag}{x dx C f:Addr}{mA:Str->Option Value}{name:Str}{v:Value}
theorem get_map {expr:Bool}{Q:Value->Shared->Prop}(X:K.In s.heap)(I:ObjM s.heap x dx C mA)(hg:PySem.W.plainGet K C name=true)(hh:PySem.W.hasDictIn K C=true)
 (ha:PySem.W.findIn K (.ref C) name=some none) (hv:mA name=some v) (hv':PySem.W.handedIn v=true) (h:Q v { s with toks:=s.toks+1}) :
 wpAny (model prog w) A (getAttr (.ref x) name expr) Q E s:=by
 obtain⟨od,J,hl⟩:=I.look
 exact PySem.W.get_value X J (PySem.W.plainGet_of hg).1 (PySem.W.findObj_own hh ha rfl (by rw[hl,hv])) hv' h
theorem get_meth {pl:Sem Bool}{Q:Value×List Value->Shared->Prop}(X:K.In s.heap)(I:ObjM s.heap x dx C mA)(hg:PySem.W.plainGet K C name=true)
 (hf:PySem.W.findIn K (.ref C) name=some (some (.ref f))) (ht:PySem.W.isFn K (.ref f)=true) (hv:mA name=none) (h:Q (.ref f,[.ref x]) s) :
 wpAny (model prog w) A (getMethod (.ref x) name pl) Q E s:=by
 obtain⟨od,J,hl⟩:=I.look
 exact PySem.W.method_fn X J (PySem.W.plainGet_of hg).1 (PySem.W.plainGet_of hg).2 hf (beq_iff_eq.mp ht) (by show(PySem.W.lookIn name od).map (·.isSome)=some false;rw[hl,hv];rfl) h
theorem set_map {ns:List Str}{Q:Unit->Shared->Prop}(X:K.In s.heap)(I:ObjM s.heap x dx C mA)
 (hs:PySem.W.findIn K (.ref C) "__setattr__"=some (some (.builtin "object.__setattr__"))) (hp:PySem.W.plainOver K C=true) (ht:PySem.W.takerIn K C name=some none) (hh:PySem.W.hasDictIn K C=true)
 (hw:PySem.Within mA ns) (hsz:ns.length<=sizeLine)
 (h:∀ h',ObjM h' x dx C (fun y=>if y=name then some v else mA y)->Heap.SameBut dx s.heap h'->Q () { s with heap:=h',toks:=s.toks+2}) :
 wpAny (model prog w) A (setAttr (.ref x) name v) Q E s:=by
 obtain⟨od,J,hl⟩:=I.look
 refine PySem.W.set_plain X J hs (PySem.W.osa_open (s:={ s with toks:=s.toks+1}) (r:=none) X J hp ht fun b=>?_)
 obtain⟨cd,hc,hd'⟩:=PySem.W.any_some hh
 have hx:s.heap.get? x=some ⟨.ref C,some dx,.plain,#[]⟩:=I.obj
 refine gxM (wpAny_pure (gxM (gxM (wpAny_loadPart hx (gxM (PySem.W.Looks.here (s:={ s with toks:=s.toks+1}) (PySem.W.looks_clsIn X hc) ?_))))))
 rw[hd']
 refine wpAny_pure (a:=some dx) (gxM (wpAny_pure (gxM ?_)))
 refine wpAny_nsSet1 (s:={ s with toks:=s.toks+1}) I.ns fun h' hn2 hs2=>?_
 obtain⟨oD,esD,epD,hoD,hdD,hcD⟩:=hn2.count (PySem.Within.cons name v hw)
 refine gxM (wpAny_lookBehind hoD (by rw[hdD];exact pastItsLine_dict (Nat.le_trans hcD (by rw[List.length_cons];omega))) ?_)
 exact wpAny_pure (h _ ⟨(hs2.2 _ (Ne.symm I.ne)).trans I.obj,hn2,I.ne⟩ hs2)
theorem make_map {R:Result->Shared->Prop}{vs:List Value}{kw:List (Str×Value)}(X:K.In s.heap)(hm:PySem.W.makesIn K C=true)
 (hi:PySem.W.findIn K (.ref C) "__init__"=some (some (.ref f))) (hf:PySem.W.typeIn K (.ref f)=some (.type "function"))
 (h:codeAny (model prog w) (A.under (.builtin "type.__call__" ⟨.ref C::vs,kw⟩)) (.call (.ref f) ⟨.ref (s.heap.objs.size+1)::vs,kw⟩) (PySem.W.InitBack (s.heap.objs.size+1) R)
   { s with heap:=(s.heap.push PySem.W.emptyDict).push (PySem.W.instObj C s.heap.objs.size)}) :
 codeAny (model prog w) A (.call (.ref C) ⟨vs,kw⟩) R s:=by
 obtain⟨hh,g,d,t,os⟩:=s
 exact PySem.W.make_core (PySem.W.makes_of X hm) (PySem.W.looks_findIn X hi) (fun self=>PySem.W.bind_fn X self hf) (.inl rfl) h
end
def putF (f:Str)(v:V):List (Str×V)->List (Str×V)
 | []=>[(f,v)]
 | (g,x)::r=>if g=f then(g,v)::r else(g,x)::putF f v r
theorem lookup_putF (f g:Str)(v:V):∀ fs:List (Str×V),(putF f v fs).lookup g=if g=f then some v else fs.lookup g
 | []=>by
  show List.lookup g [(f,v)]=_
  by_cases h:g=f
  ·have hb:(g==f)=true:=beq_iff_eq.mpr h
   simp only[List.lookup,hb,if_pos h]
  ·have hb:(g==f)=false:=beq_eq_false_iff_ne.mpr h
   simp only[List.lookup,hb,if_neg h]
 | (k,x)::r=>by
  have ih:=lookup_putF f g v r
  rw[show putF f v ((k,x)::r)=(if k=f then(k,v)::r else(k,x)::putF f v r)from rfl]
  by_cases hk:k=f
  ·rw[if_pos hk]
   by_cases h:g=k
   ·have hb:(g==k)=true:=beq_iff_eq.mpr h
    simp only[List.lookup,hb,if_pos (h.trans hk)]
   ·have hb:(g==k)=false:=beq_eq_false_iff_ne.mpr h
    simp only[List.lookup,hb,if_neg (fun e:g=f=>h (e.trans hk.symm))]
  ·rw[if_neg hk]
   by_cases h:g=k
   ·have hb:(g==k)=true:=beq_iff_eq.mpr h
    simp only[List.lookup,hb,if_neg (fun e:g=f=>hk (h.symm.trans e))]
   ·have hb:(g==k)=false:=beq_eq_false_iff_ne.mpr h
    simp only[List.lookup,hb]
    exact ih
theorem keys_putF (f:Str)(v:V):∀ fs:List (Str×V),f∈(putF f v fs).map (·.1)/\∀ g,g∈fs.map (·.1)->g∈(putF f v fs).map (·.1)
 | []=>⟨by simp[putF],fun g h=>by simp at h⟩
 | (k,x)::r=>by
  obtain⟨i1,i2⟩:=keys_putF f v r
  rw[show putF f v ((k,x)::r)=(if k=f then(k,v)::r else(k,x)::putF f v r)from rfl]
  by_cases hk:k=f
  ·rw[if_pos hk]
   subst hk
   exact⟨by simp,fun g h=>by simpa using h⟩
  ·rw[if_neg hk]
   refine⟨?_,fun g h=>?_⟩
   ·rw[List.map_cons]
    exact gxI _ i1
   ·rw[List.map_cons]at h ⊢
    rcases List.mem_cons.mp h with e | e
    ·exact List.mem_cons.mpr (.inl e)
    ·exact gxI _ (i2 g e)
theorem length_putF (f:Str)(v:V):∀ fs:List (Str×V),(putF f v fs).length<=fs.length+1
 | []=>by simp[putF]
 | (k,x)::r=>by
  have ih:=length_putF f v r
  rw[show putF f v ((k,x)::r)=(if k=f then(k,v)::r else(k,x)::putF f v r)from rfl]
  by_cases hk:k=f
  ·rw[if_pos hk,List.length_cons,List.length_cons];omega
  ·rw[if_neg hk,List.length_cons,List.length_cons];omega
theorem RelO.some_of {v:V}{o:Option Value}(r:RelO (some v) o):∃ u,o=some u/\RelV v u:=by
 cases o with
 | none=>exact(show False from r).elim
 | some u=>exact⟨u,rfl,r⟩
theorem RelO.none_of {o:Option Value}(r:RelO none o):o=none:=by
 cases o with
 | none=>rfl
 | some u=>exact(show False from r).elim
theorem handed_of {v:V}{u:Value}(r:RelV v u):PySem.W.handedIn u=true:=by
 cases v with
 | non=>cases(show u=Value.none from r);rfl
 | bl b=>cases(show u=Value.bool b from r);rfl
 | int i=>obtain⟨t,e⟩:=(show ∃ t,u=Value.int i t from r);cases e;rfl
 | str x=>obtain⟨t,e⟩:=(show ∃ t,u=Value.str x t from r);cases e;rfl
 | byt b=>obtain⟨t,e⟩:=(show ∃ t,u=Value.bytes b t from r);cases e;rfl
 | flt b=>obtain⟨t,e⟩:=(show ∃ t,u=Value.float b t from r);cases e;rfl
 | ref a=>cases(show u=Value.ref a from r);rfl
 | ty n=>cases(show u=Value.type n from r);rfl
section
variable {P:Program}{w:World}{H H':Hp}{h h':Heap}{a C dx:Addr}{fs fs':List (Str×V)}
theorem ins_get (hok:HOk P w H h)(e:H a=some (.ins C dx fs)):∃ mA,ObjM h a dx C mA/\(∀ f,RelO (fs.lookup f) (mA f))/\PySem.Within mA (fs.map (·.1))/\fs.length<=1000/\H dx=some (.own a):=by
 obtain⟨d,z,ne,ob,mA,n,r,q⟩:=(show ObjOk P w H h a (.ins C dx fs)from hok a _ e)
 exact⟨mA,⟨ob,n,ne⟩,r,q,z,d⟩
end
structure Cls (K:PySem.W.Frag)(C:Addr):Prop where
 pg:PySem.W.plainGet K C Str.empty=true
 hd:PySem.W.hasDictIn K C=true
 po:PySem.W.plainOver K C=true
 sa:PySem.W.findIn K (.ref C) "__setattr__"=some (some (.builtin "object.__setattr__"))
theorem Cls.get {K:PySem.W.Frag}{C:Addr}(c:Cls K C)(f:Str):PySem.W.plainGet K C f=true:=c.pg
def NoAttr (K:PySem.W.Frag)(C:Addr)(f:Str):Prop:=PySem.W.findIn K (.ref C) f=some none
theorem NoAttr.taker {K:PySem.W.Frag}{C:Addr}{f:Str}(n:NoAttr K C f):PySem.W.takerIn K C f=some none:=by
 unfold PySem.W.takerIn
 rw[show PySem.W.findIn K (.ref C) f=some none from n]
 rfl
structure Meth (K:PySem.W.Frag)(C:Addr)(m:Str)(f:Addr):Prop where
 at_:PySem.W.findIn K (.ref C) m=some (some (.ref f))
 fn:PySem.W.isFn K (.ref f)=true
 kp:PySem.W.keepIn K (.ref f)=true
section
variable {X:Cx}{pins:List (Addr×Obj)}{σ:St}{H:Hp}{s:Shared}{a C dx:Addr}{fs:List (Str×V)}{f:Str}{v:V}{A:Around}{E:Value->Shared->Prop}
theorem getattr_ok {b:Bool}{Q:Value->Shared->Prop}(I:Inv X pins σ H s)(e:H a=some (.ins C dx fs))(c:Cls X.K C)(n:NoAttr X.K C f)(l:fs.lookup f=some v)
 (h:∀ u s',Inv X pins σ H s'->RelV v u->Q u s'):wpAny (model X.prog X.w) A (getAttr (.ref a) f b) Q E s:=by
 obtain⟨mA,O,r,_,_,_⟩:=ins_get I.hok e
 obtain⟨u,hu,ru⟩:=RelO.some_of (v:=v) (o:=mA f) (by rw[<- l];exact r f)
 exact get_map I.kIn O (c.get f) c.hd n hu (handed_of ru) (h u _ (I.tok _) ru)
theorem getmeth_ok {m:Str}{g:Addr}{pl:Sem Bool}{Q:Value×List Value->Shared->Prop}(I:Inv X pins σ H s)(e:H a=some (.ins C dx fs))(c:Cls X.K C)(k:Meth X.K C m g)(l:fs.lookup m=none)
 (h:Q (.ref g,[.ref a]) s):wpAny (model X.prog X.w) A (getMethod (.ref a) m pl) Q E s:=by
 obtain⟨mA,O,r,_,_,_⟩:=ins_get I.hok e
 have hn:mA m=none:=RelO.none_of (by rw[<- l];exact r m)
 exact get_meth I.kIn O (c.get m) k.at_ k.fn hn h
theorem setattr_ok {y:V}{u:Value}{Q:Unit->Shared->Prop}(I:Inv X pins σ H s)(e:H a=some (.ins C dx fs))(c:Cls X.K C)(n:NoAttr X.K C f)(hl:fs.length<1000)(ry:RelV y u)
 (h:∀ s',Inv X pins σ (upd H a (.ins C dx (putF f y fs))) s'->Q () s'):wpAny (model X.prog X.w) A (setAttr (.ref a) f u) Q E s:=by
 obtain⟨mA,O,r,wi,_,ho⟩:=ins_get I.hok e
 have hz:(fs.map (·.1)).length<=sizeLine:=by rw[gxC,sizeLine_eq];omega
 refine set_map I.kIn O c.sa c.po n.taker c.hd wi hz fun h' O' sb=>h _ ?_
 have hd:∃ o,h'.get? dx=some o:=let ⟨o,_,_,e',_⟩:=O'.ns;⟨o,e'⟩
 refine I.write (x:=a) (e:=dx) (by rw[e];exact True.intro) (.inr ho) (fun b q hb z=>(sb.2 b hb).trans z) hd ?_
 refine⟨by rw[upd_ne O.ne];exact ho,?_,O.ne,O'.obj,_,O'.ns,fun g=>?_,fun g hg=>?_⟩
 ·have:=length_putF f y fs;omega
 ·show RelO ((putF f y fs).lookup g) (if g=f then some u else mA g)
  rw[lookup_putF]
  by_cases q:g=f
  ·rw[if_pos q,if_pos q];exact ry
  ·rw[if_neg q,if_neg q];exact r g
 ·by_cases q:g=f
  ·rw[q];exact(keys_putF f y fs).1
  ·refine(keys_putF f y fs).2 g (wi g fun z=>hg ?_)
   show(if g=f then some u else mA g)=none
   rw[if_neg q];exact z
theorem Inv.made (I:Inv X pins σ H s):Inv X pins σ (upd (upd H s.heap.objs.size (.own (s.heap.objs.size+1))) (s.heap.objs.size+1) (.ins C s.heap.objs.size []))
 { s with heap:=(s.heap.push PySem.W.emptyDict).push (PySem.W.instObj C s.heap.objs.size)}:=by
 have e1:(s.heap.push PySem.W.emptyDict).get? s.heap.objs.size=some PySem.W.emptyDict:=Heap.get?_push_size s.heap rfl
 have e2:((s.heap.push PySem.W.emptyDict).push (PySem.W.instObj C s.heap.objs.size)).get? (s.heap.objs.size+1)=some (PySem.W.instObj C s.heap.objs.size):=by
  have:=Heap.get?_push_size (s.heap.push PySem.W.emptyDict) (o:=PySem.W.instObj C s.heap.objs.size) rfl
  rwa [Heap.size_push]at this
 have e3:(s.heap.push PySem.W.emptyDict).Ns s.heap.objs.size (fun _=>none):=⟨PySem.W.emptyDict,#[],_,e1,rfl,(fun e he=>absurd he (by simp)),fun _=>rfl⟩
 have I1:=I.laid (a:=s.heap.objs.size) (o:=.own (s.heap.objs.size+1)) (h':=s.heap.push PySem.W.emptyDict) (t':=s.toks) (fun b u q=>gxL _ q) (Nat.le_refl _) ⟨_,e1⟩
 refine I1.laid (a:=s.heap.objs.size+1) (o:=.ins C s.heap.objs.size []) (t':=s.toks) (fun b u q=>gxL _ q) (Nat.le_of_eq (Heap.size_push _ _)) ?_
 have ne:s.heap.objs.size≠s.heap.objs.size+1:=Nat.ne_of_lt (Nat.lt_succ_self _)
 refine⟨by rw[upd_ne ne,upd_same],Nat.zero_le _,ne,e2,fun _=>none,(Heap.Ns1.of_empty e3).at fun o q=>gxL _ q,fun _=>True.intro,fun y hy=>absurd rfl hy⟩
theorem attr_of {prog:Program}{w:World}{env:Env}{e:Expr}{f:Str}{pos:Pos}{s:Shared}{Q:Value->Shared->Prop}(hb:attributeBase e f env (eval e env)=eval e env)
 (h:wpAny (model prog w) A (eval e env) (fun o s₁=>wpAny (model prog w) A (getAttr o f true) Q E s₁) E s):wpAny (model prog w) A (eval (.Attribute e f pos) env) Q E s :=
 Attribute_any_ h (by rw[arm_eval_Attribute,hb])
end
def tFld (K:PySem.W.Frag)(ta:TE)(f:Str):TE:=fun σ H Q=>ta σ H fun x H1=>∃ a C dx fs v,x=.ref a/\H1 a=some (.ins C dx fs)/\Cls K C/\NoAttr K C f/\fs.lookup f=some v/\Q v H1
def sFld (K:PySem.W.Frag)(ta tv:TE)(f:Str):TS:=fun D σ H=>tv σ H fun y H1=>ta σ H1 fun x H2=>∃ a C dx fs,x=.ref a/\H2 a=some (.ins C dx fs)/\Cls K C/\NoAttr K C f/\fs.length<1000 /\
 D.nx σ (upd H2 a (.ins C dx (putF f y fs)))
section
variable {X:Cx}{o e value:Expr}{f:Str}{pos pos' tpos:Pos}{ta tv:TE}
theorem pe_fld (he:PE X e ta)(hb:attributeBase e f X.env (eval e X.env)=eval e X.env):PE X (.Attribute e f pos) (tFld X.K ta f):=by
 intro pins s σ H Q I h
 refine attr_of hb (thn (he pins s σ H _ I h) fun u s1 hq2=>?_)
 obtain⟨x,H1,I1,rx,a,C,dx,fs,v,ex,ea,c,n,l,q⟩:=hq2
 subst ex
 obtain rfl:u=Value.ref a:=rx
 exact getattr_ok I1 ea c n l fun u' s2 I2 ru=>⟨v,H1,I2,ru,q⟩
theorem ps_fld (ha:PE X o ta)(hv:PE X value tv)(hs:swapsWith value (some (.Attribute o f pos')) pos.line X.env=pure false):PS X (.Assign [.Attribute o f pos'] value pos) (sFld X.K ta tv f):=by
 intro pins s σ H D I h
 refine plainObj_wpAny_Assign_Attribute (thn (hv pins s σ H _ I h) fun u s1 hq3=>?_) hs
 obtain⟨y,H1,I1,ry,q⟩:=hq3
 refine thn (ha pins s1 σ H1 _ I1 q) fun ov s2 hq4=>?_
 obtain⟨x,H2,I2,rx,a,C,dx,fs,ex,ea,c,n,l,q2⟩:=hq4
 subst ex
 obtain rfl:ov=Value.ref a:=rx
 exact setattr_ok I2 ea c n l ry fun s3 I3=>⟨σ,_,I3,q2⟩
theorem methcall_of {pl:Sem Bool}{m:Str}{apos:Pos}{args:List Expr}{pins:List (Addr×Obj)}{s:Shared}{σ:St}{H:Hp}{Q:Value->Shared->Prop}{te:TE}(he:PE X e te)(I:Inv X pins σ H s)
 (h:te σ H fun x H1=>∃ a C dx fs g,x=.ref a/\H1 a=some (.ins C dx fs)/\Cls X.K C/\Meth X.K C m g/\fs.lookup m=none /\
   ∀ s1,Inv X pins σ H1 s1->wpAny (model X.prog X.w) X.A (callWith pos (.ref g) [.ref a] (backTo pos (starEach args X.env)) (backToKw pos (keywordEach [] X.env))) Q X.xe s1)
 (ht:eval (.Call (.Attribute e m apos) args [] pos) X.env=(do
   let ov <- eval e X.env
   standAt apos.atName
   let (f,first) <- holding [ov] (getMethod ov m pl)
   callWith pos f first (backTo pos (starEach args X.env)) (backToKw pos (keywordEach [] X.env)))) :
 wpAny (model X.prog X.w) X.A (eval (.Call (.Attribute e m apos) args [] pos) X.env) Q X.xe s:=by
 refine PySem.W.methodCall_KW (pl:=pl) (thn (he pins s σ H _ I h) fun u s1 hq5=>?_) ht
 obtain⟨x,H1,I1,rx,a,C,dx,fs,g,ex,ea,c,k,l,q⟩:=hq5
 subst ex
 obtain rfl:u=Value.ref a:=rx
 exact getmeth_ok I1 ea c k l (q s1 I1)
end
section
variable {X:Cx}{pins:List (Addr×Obj)}{σ:St}{H:Hp}{s:Shared}{A:Around}{E:Value->Shared->Prop}{Q:Value->Shared->Prop}{c:Value}{b:Bool}
inductive TyOf (K:PySem.W.Frag)(H:Hp):V->Value->Prop where
 | non:TyOf K H .non (.type "NoneType")
 | bl (x:Bool):TyOf K H (.bl x) (.type "bool")
 | int (i:Int):TyOf K H (.int i) (.type "int")
 | str (x:Str):TyOf K H (.str x) (.type "str")
 | flt (x:UInt64):TyOf K H (.flt x) (.type "float")
 | lst {a:Addr} {xs:List V} (e:H a=some (.lst xs)):TyOf K H (.ref a) (.type "list")
 | frz {a:Addr} {o:Obj} {xs:List V} (e:H a=some (.frz o (.lst xs))):TyOf K H (.ref a) (.type "list")
 | tup {a:Addr} {xs:List V} (e:H a=some (.tup xs)):TyOf K H (.ref a) (.type "tuple")
 | dK {a:Addr} {kvs:List (Key×V)} (e:H a=some (.dK kvs)):TyOf K H (.ref a) (.type "dict")
 | dT {a:Addr} {kvs:List (List Key×V)} (e:H a=some (.dT kvs)):TyOf K H (.ref a) (.type "dict")
 | ins {a C dx:Addr} {fs:List (Str×V)} (e:H a=some (.ins C dx fs)) (cl:Cls K C) (ha:PySem.W.findIn K (.ref C) "__class__"=some (some (.builtin "object.__class__")))
  (hn:PySem.W.specialIn K (.builtin "object.__class__") "__get__"=some (some (.builtin "getset_descriptor.__get__"))) (htk:PySem.W.takesIn K (.builtin "object.__class__")=some true)
  (hm:PySem.W.mroIn K C (.type "object")=some true):TyOf K H (.ref a) (.ref C)
theorem isinst_ok {x:V}{u t:Value}(I:Inv X pins σ H s)(rx:RelV x u)(ty:TyOf X.K H x t)(e:PySem.W.kitOne X.K t c=some b)(h:∀ tk,Q (.bool b) { s with toks:=tk}) :
 wpAny (model X.prog X.w) A (call (.builtin "isinstance") [u,c]) Q E s:=by
 cases ty with
 | non=>cases(show u=Value.none from rx);exact PySem.W.kia_one PySem.W.kitx_none I.kIn True.intro e (fun z=>nomatch z) h
 | bl y=>cases(show u=Value.bool y from rx);exact PySem.W.kia_one PySem.W.kitx_bool I.kIn True.intro e (fun z=>nomatch z) h
 | int i=>obtain⟨t,q⟩:=(show ∃ t,u=Value.int i t from rx);cases q;exact PySem.W.kia_one PySem.W.kitx_int I.kIn True.intro e (fun z=>nomatch z) h
 | str y=>obtain⟨t,q⟩:=(show ∃ t,u=Value.str y t from rx);cases q;exact PySem.W.kia_one PySem.W.kitx_str I.kIn True.intro e (fun z=>nomatch z) h
 | flt y=>obtain⟨t,q⟩:=(show ∃ t,u=Value.float y t from rx);cases q;exact PySem.W.kia_one PySem.W.kitx_float I.kIn True.intro e (fun z=>nomatch z) h
 | @lst a xs ea =>
  cases(show u=Value.ref a from rx)
  obtain⟨_,_,n,_,h1⟩:=(show ObjOk X.prog X.w H s.heap a (.lst xs)from I.hok a _ ea)
  exact PySem.W.kia_one PySem.W.kitx_list I.kIn ⟨_,h1,rfl⟩ e (fun z=>nomatch z) h
 | @frz a ob xs ea =>
  cases(show u=Value.ref a from rx)
  obtain⟨_,_,_,n,_,h1⟩:=(show ObjOk X.prog X.w H s.heap a (.frz ob (.lst xs))from I.hok a _ ea)
  exact PySem.W.kia_one PySem.W.kitx_list I.kIn ⟨_,h1,rfl⟩ e (fun z=>nomatch z) h
 | @tup a xs ea =>
  cases(show u=Value.ref a from rx)
  obtain⟨_,_,_,p⟩:=(show ObjOk X.prog X.w H s.heap a (.tup xs)from I.hok a _ ea)
  obtain⟨o,h1,h2,_⟩:=p
  exact PySem.W.kia_one PySem.W.kitx_tuple I.kIn ⟨o,h1,h2⟩ e (fun z=>nomatch z) h
 | @dK a kvs ea =>
  cases(show u=Value.ref a from rx)
  obtain⟨_,_,vs,_,p⟩:=(show ObjOk X.prog X.w H s.heap a (.dK kvs)from I.hok a _ ea)
  obtain⟨o,es,ep,h1,h2,_⟩:=p
  exact PySem.W.kia_one PySem.W.kitx_dict I.kIn ⟨o,h1,h2.1⟩ e (fun z=>nomatch z) h
 | @dT a kvs ea =>
  cases(show u=Value.ref a from rx)
  obtain⟨_,_,xs,_,o,es,ep,h1,h2,_⟩:=(show ObjOk X.prog X.w H s.heap a (.dT kvs)from I.hok a _ ea)
  exact PySem.W.kia_one PySem.W.kitx_dict I.kIn ⟨o,h1,h2.1⟩ e (fun z=>nomatch z) h
 | @ins a C dx fs ea cl ha hn htk hm =>
  cases(show u=Value.ref a from rx)
  obtain⟨mA,O,_⟩:=ins_get I.hok ea
  obtain⟨od,J,_⟩:=O.look
  exact PySem.W.kia_one (PySem.W.kitx_own (cl.get _) cl.hd ha hn htk hm) I.kIn J e (fun z=>nomatch z) h
end
structure Room (k:Nat)(A:Around):Prop where
 hd:A.handled=none
 dp:A.depth+3*k+5<recursionLimit
 un:A.units+16*k+200<cLine
theorem Room.mono {j k:Nat}{A:Around}(r:Room k A)(h:j<=k):Room j A:=⟨r.hd,by have:=r.dp;omega,by have:=r.un;omega⟩
theorem Room.deeper {k:Nat}{A:Around}(r:Room (k+1) A)(env:Env):Room k (A.deeper env) :=
 ⟨r.hd,by have:=r.dp;show A.depth+1+3*k+5<_;omega,by have:=r.un;show A.units+3+16*k+200<_;omega⟩
theorem make_depth {A:Around}{C:Addr}{us:List Value}{kw:List (Str×Value)}:(A.under (.builtin "type.__call__" ⟨.ref C::us,kw⟩)).depth=A.depth+1:=by
 first | rfl | simp[Around.under,Code.weight,Code.isCreation,Code.isGuard,Code.isCaller,Code.frames,Code.isFrame,guardIds]
theorem make_units {A:Around}{C:Addr}{us:List Value}{kw:List (Str×Value)}:(A.under (.builtin "type.__call__" ⟨.ref C::us,kw⟩)).units=A.units+1:=by
 first | rfl | simp[Around.under,Code.cUnits,Code.frames,Code.isFrame]
theorem Room.make {k:Nat}{A:Around}(r:Room (k+1) A)(C:Addr)(us:List Value)(kw:List (Str×Value)):Room k (A.under (.builtin "type.__call__" ⟨.ref C::us,kw⟩)) :=
 ⟨r.hd,by have:=r.dp;rw[make_depth];omega,by have:=r.un;rw[make_units];omega⟩
theorem Room.depth {k:Nat}{A:Around}(r:Room k A):A.depth<recursionLimit:=by have:=r.dp;omega
theorem Room.units {k:Nat}{A:Around}(r:Room k A):A.units+64<cLine:=by have:=r.un;omega
def tNil:TA:=fun _ H Q=>Q [] H
def tCons (ta:TE)(tr:TA):TA:=fun σ H Q=>ta σ H fun x H1=>tr σ H1 fun xs H2=>Q (x::xs) H2
section
variable {X:Cx}{e:Expr}{es:List Expr}{te:TE}{t:TA}{pos:Pos}
theorem pa_nil:PA X [] tNil:=fun _ _ _ _ H Q I h=>Calls.spliced_nil ⟨[],H,I,.nil,h⟩
theorem pa_cons (ha:PE X e te)(hr:PA X es t)(hs:starEach (e::es) X.env=(false,eval e X.env)::starEach es X.env:=by rfl):PA X (e::es) (tCons te t):=by
 intro pos pins s σ H Q I h
 rw[hs]
 show wpAny _ _ (spliced ((false,eval e X.env)::backTo pos (starEach es X.env))) _ _ s
 refine Calls.spliced_cons (thn (ha pins s σ H _ I h) fun u s1 hq6=>?_)
 obtain⟨x,H1,I1,r1,q1⟩:=hq6
 exact thn (hr pos pins s1 σ H1 _ I1 q1) fun us s2 hq0=>by obtain⟨xs,H2,I2,r2,q2⟩:=hq0;exact⟨x::xs,H2,I2,.cons r1 r2,q2⟩
def tTup (t:TA):TE:=fun σ H Q=>t σ H fun xs H1=>xs.length<=sizeLine/\∀ p,H1 p=none->Q (.ref p) (upd H1 p (.tup xs))
def tLst (t:TA):TE:=fun σ H Q=>t σ H fun xs H1=>xs.length<=sizeLine/\∀ p,H1 p=none->Q (.ref p) (upd H1 p (.lst xs))
theorem pe_tup {x1}(h:PA X es t):PE X (.Tuple es x1 pos) (tTup t):=by
 intro pins s σ H Q I hq
 refine wpAny_Tuple_spliced (thn (h pos pins s σ H _ I hq) fun us s1 ⟨xs,H1,I1,r,z,q⟩=>⟨by rw[<- r.length];exact z,?_⟩)
 have hf:H1 s1.heap.objs.size=none:=I1.hok.fresh (Nat.le_refl _)
 refine⟨.ref s1.heap.objs.size,upd H1 s1.heap.objs.size (.tup xs),I1.laid (t':=s1.toks) (fun b u e=>gxL _ e) (Nat.le_refl _) ?_,rfl,q _ hf⟩
 exact⟨z,us,r,⟨_,Heap.get?_push_size _ rfl,rfl,_,rfl⟩⟩
theorem pe_lst (h:PA X es t):PE X (.List es pos) (tLst t):=by
 intro pins s σ H Q I hq
 refine wpAny_List_spliced (thn (h pos pins s σ H _ I hq) fun us s1 ⟨xs,H1,I1,r,z,q⟩=>⟨by rw[<- r.length];exact z,?_⟩)
 have hf:H1 s1.heap.objs.size=none:=I1.hok.fresh (Nat.le_refl _)
 refine⟨.ref s1.heap.objs.size,upd H1 s1.heap.objs.size (.lst xs),I1.laid (t':=s1.toks) (fun b u e=>gxL _ e) (Nat.le_refl _) ?_,rfl,q _ hf⟩
 exact⟨z,us,0,r,Heap.get?_push_size _ rfl⟩
end
abbrev Sp:=List V->Hp->VK->XK->Prop
abbrev CXT:=List Env->Hp->Shared->XK->Value->Shared->Prop
structure Env0 (P:Program)(w:World)(K:PySem.W.Frag)(mg:Str->Option Value)(base:Heap)(A:Around)(outer:List Env)(s:Shared)(H:Hp):Prop where
 frames:A.frames=some outer
 mod:Mod K mg base
 bs:∀ b o,base.get? b=some o->s.heap.get? b=some o/\H b=none
 bsz:base.objs.size<=s.heap.objs.size
 funs:s.heap.FunFrames base outer
 frf:∀ b∈frs outer,H b=none
 hok:HOk P w H s.heap
 bare:AllBare s.gens
def CE (outer:List Env)(P:Program)(w:World)(H:Hp)(s:Shared)(Q:VK)(u:Value)(s':Shared):Prop :=
 ∃ v H',s'.os=s.os/\AllBare s'.gens/\Un (frs outer) [] H H' s.heap s'.heap/\HOk P w H' s'.heap/\RelV v u/\Q v H'
def CR (CX:CXT)(outer:List Env)(P:Program)(w:World)(H:Hp)(s:Shared)(Q:VK)(E:XK)(r:Result)(s':Shared):Prop :=
 match r with
 | .ok (.ret u)=>CE outer P w H s Q u s'
 | .ok _=>False
 | .error e=>CX outer H s E e s'
structure FnOk (P:Program)(w:World)(K:PySem.W.Frag)(mg:Str->Option Value)(base:Heap)(CX:CXT)(k:Nat)(f:Addr)(fd:FuncData)(ps:List Str)(sp:Sp):Prop where
 len:∀ vs H Q E,sp vs H Q E->vs.length=ps.length
 run:∀(A:Around) (outer:List Env) (s:Shared) (H:Hp) (args:Args) (us:List Value) (vs:List V) (Q:VK) (E:XK),Room k A->Env0 P w K mg base A outer s H->BindsTo s fd args (ps.zip us)->Vals vs us->sp vs H Q E ->
  codeAny (model P w) A (.call (.ref f) args) (CR CX outer P w H s Q E) s
theorem FnOk.imp {P:Program}{w:World}{K:PySem.W.Frag}{mg:Str->Option Value}{base:Heap}{CX:CXT}{k:Nat}{f:Addr}{fd:FuncData}{ps:List Str}{sp sp':Sp}(F:FnOk P w K mg base CX k f fd ps sp)
 (h:∀ vs H Q E,sp' vs H Q E->sp vs H Q E):FnOk P w K mg base CX k f fd ps sp' :=
 ⟨fun vs H Q E q=>F.len vs H Q E (h _ _ _ _ q),fun A outer s H args us vs Q E hr he hb hv hs=>F.run A outer s H args us vs Q E hr he hb hv (h _ _ _ _ hs)⟩
theorem Env0.make {P:Program}{w:World}{K:PySem.W.Frag}{mg:Str->Option Value}{base:Heap}{A:Around}{outer:List Env}{s:Shared}{H:Hp}(e:Env0 P w K mg base A outer s H)(C:Addr)(us:List Value)(kw:List (Str×Value)) :
 Env0 P w K mg base (A.under (.builtin "type.__call__" ⟨.ref C::us,kw⟩)) outer s H:=⟨by first | exact e.frames | (simpa [Around.under,Code.envs,Code.isFrame,pushEnvs]using e.frames),e.mod,e.bs,e.bsz,e.funs,e.frf,e.hok,e.bare⟩
section
variable {X:Cx}{pins:List (Addr×Obj)}{σ:St}{H:Hp}{s s':Shared}
theorem Inv.env0 (I:Inv X pins σ H s):Env0 X.prog X.w X.K X.mg X.base X.A X.stack s H :=
 ⟨I.ok.frames,I.ok.mod,I.bs,Nat.le_trans I.ok.bsz I.sz,I.stack,I.stkFree,I.hok,I.bare⟩
theorem Inv.after {Q:VK}{u:Value}(I:Inv X pins σ H s)(h:CE X.stack X.prog X.w H s Q u s'):EP X pins σ Q u s':=by
 obtain⟨v,H',os,bare,un,hok,r,q⟩:=h
 obtain⟨hh,g,d,t,os'⟩:=s'
 obtain rfl:os'=s.os:=os
 exact⟨v,H',I.call (h':=hh) (g':=g) (d':=d) (t':=t) (ch:=[]) un hok bare (fun b z=>absurd z (by simp)),r,q⟩
end
def tCall (sp:Sp)(dvs:List V)(E:XK)(t:TA):TE:=fun σ H Q=>t σ H fun vs H1=>sp (vs++dvs) H1 Q E
def tMeth (C:Addr)(m:Str)(sp:Sp)(dvs:List V)(E:XK)(ta:TE)(t:TA):TE:=fun σ H Q=>ta σ H fun x H1=>∃ a dx fs,x=.ref a/\H1 a=some (.ins C dx fs)/\fs.lookup m=none /\
 t σ H1 fun vs H2=>sp (x::(vs++dvs)) H2 Q E
def tMake (C:Addr)(sp:Sp)(dvs:List V)(E:XK)(t:TA):TE:=fun σ H Q=>t σ H fun vs H1=>∀ x dx,H1 x=none->H1 dx=none->dx≠x ->
 sp (.ref x::(vs++dvs)) (upd (upd H1 dx (.own x)) x (.ins C dx [])) (fun v H2=>v=.non/\Q (.ref x) H2) E
def Binds (K:PySem.W.Frag)(fd:FuncData)(ps:List Str)(ds:List Value):Prop :=
 ∀(s:Shared) (us:List Value),K.In s.heap->(us++ds).length=ps.length->BindsTo s fd ⟨us,[]⟩ (ps.zip (us++ds))
theorem Binds.all {K:PySem.W.Frag}{fd:FuncData}{ps:List Str}(h:∀ us:List Value,us.length=ps.length->bindArgs fd ⟨us,[]⟩=pure (ps.zip us)):Binds K fd ps []:=fun s us _ hl=>by
 rw[List.append_nil]at hl ⊢
 exact .of_eq (h us hl)
def Passes (CX:CXT)(X:Cx)(E:XK):Prop:=∀(pins:List (Addr×Obj)) (σ:St) (H:Hp) (s:Shared) (e:Value) (s':Shared),Inv X pins σ H s->CX X.stack H s E e s'->X.xe e s'
section
variable {X:Cx}{CX:CXT}{k:Nat}{f C:Addr}{fd:FuncData}{ps:List Str}{sp:Sp}{dvs:List V}{ds:List Value}{E:XK}{x m:Str}{p pos apos:Pos}{e o:Expr}{es:List Expr}{ta:TE}{t:TA}
theorem run_fn {pins:List (Addr×Obj)}{σ:St}{H:Hp}{s:Shared}{Q:VK}{us:List Value}{vs:List V}(F:FnOk X.prog X.w X.K X.mg X.base CX k f fd ps sp)(hr:Room k X.A)(hb:Binds X.K fd ps ds)(hd:Vals dvs ds)(hx:Passes CX X E)
 (I:Inv X pins σ H s) (r:Vals vs us) (h:sp (vs++dvs) H Q E):wpAny (model X.prog X.w) X.A (call (.ref f) us) (EP X pins σ Q) X.xe s:=by
 have r2:Vals (vs++dvs) (us++ds):=r.append hd
 have hl:(us++ds).length=ps.length:=by rw[<- r2.length];exact F.len _ _ _ _ h
 refine wpAny_call (codeAny_mono (F.run X.A X.stack s H ⟨us,[]⟩ (us++ds) (vs++dvs) Q E hr I.env0 (hb s us I.kIn hl) r2 h) fun r s' hq=>?_)
 cases r with
 | error e=>exact hx pins σ H s e s' I hq
 | ok fl =>
  cases fl with
  | ret u=>exact I.after hq
  | next=>exact False.elim hq
  | brk=>exact False.elim hq
  | cont=>exact False.elim hq
theorem pe_call (F:FnOk X.prog X.w X.K X.mg X.base CX k f fd ps sp)(hr:Room k X.A)(hg:Gl X x)(hm:X.mg x=some (.ref f))(hk:PySem.W.keepIn X.K (.ref f)=true)(hb:Binds X.K fd ps ds)(hd:Vals dvs ds)(hx:Passes CX X E)
 (ha:PA X (e::es) t) (hdb:(x==("__debug__" : Str))=false:=by decide) (he:starEach (e::es) X.env=(false,eval e X.env)::starEach es X.env:=by rfl) (hpl:(backTo pos (starEach es X.env)).any (·.1)=false:=by rfl) :
 PE X (.Call (.Name x p) (e::es) [] pos) (tCall sp dvs E t):=by
 intro pins s σ H Q I h
 refine wpAny_Call_Name_kw (ld_glob I hg hm ?_ hdb)
 refine PySem.W.callWith_K (h₀:=X.base) I.ok.mod.kin hk (thn (ha pos pins s σ H _ I h) fun us s1 hq3=>?_) he hpl
 obtain⟨vs,H1,I1,r,q⟩:=hq3
 refine⟨I1.kIn,?_⟩
 exact run_fn F hr hb hd hx I1 r q
theorem pe_meth {pl:Sem Bool}(he:PE X o ta)(c:Cls X.K C)(hm:Meth X.K C m f)(F:FnOk X.prog X.w X.K X.mg X.base CX k f fd ps sp)(hr:Room k X.A)(hb:Binds X.K fd ps ds)(hd:Vals dvs ds)(hx:Passes CX X E)(ha:PA X (e::es) t)
 (hst:starEach (e::es) X.env=(false,eval e X.env)::starEach es X.env:=by rfl) (hpl:(backTo pos (starEach es X.env)).any (·.1)=false:=by rfl)
 (ht:eval (.Call (.Attribute o m apos) (e::es) [] pos) X.env=(do
   let ov <- eval o X.env
   standAt apos.atName
   let (f,first) <- holding [ov] (getMethod ov m pl)
   callWith pos f first (backTo pos (starEach (e::es) X.env)) (backToKw pos (keywordEach [] X.env))):=by rfl) :
 PE X (.Call (.Attribute o m apos) (e::es) [] pos) (tMeth C m sp dvs E ta t):=by
 intro pins s σ H Q I h
 refine PySem.W.methodCall_KW (pl:=pl) (thn (he pins s σ H _ I h) fun u s1 hq4=>?_) ht
 obtain⟨x,H1,I1,rx,a,dx,fs,ex,ea,l,q⟩:=hq4
 subst ex
 obtain rfl:u=Value.ref a:=rx
 refine getmeth_ok I1 ea c hm l ?_
 refine PySem.W.callWith_K (first:=[.ref a]) (h₀:=X.base) I.ok.mod.kin hm.kp (thn (ha pos pins s1 σ H1 _ I1 q) fun us s2 hq5=>?_) hst hpl
 obtain⟨vs,H2,I2,r,q2⟩:=hq5
 refine⟨I2.kIn,?_⟩
 exact run_fn (us:=.ref a::us) (vs:=.ref a::vs) F hr hb hd hx I2 (.cons rfl r) q2
structure Mk (K:PySem.W.Frag)(C f:Addr):Prop where
 makes:PySem.W.makesIn K C=true
 init:PySem.W.findIn K (.ref C) "__init__"=some (some (.ref f))
 fn:PySem.W.isFn K (.ref f)=true
 kp:PySem.W.keepIn K (.ref C)=true
theorem run_make {pins:List (Addr×Obj)}{σ:St}{H:Hp}{s:Shared}{Q:VK}{us:List Value}{vs:List V}(M:Mk X.K C f)(F:FnOk X.prog X.w X.K X.mg X.base CX k f fd ps sp)(hr:Room (k+1) X.A)(hb:Binds X.K fd ps ds)(hd:Vals dvs ds)
 (hx:Passes CX X E) (I:Inv X pins σ H s) (r:Vals vs us)
 (h:∀ x dx,H x=none->H dx=none->dx≠x->sp (.ref x::(vs++dvs)) (upd (upd H dx (.own x)) x (.ins C dx [])) (fun v H2=>v=.non/\Q (.ref x) H2) E) :
 wpAny (model X.prog X.w) X.A (call (.ref C) us) (EP X pins σ Q) X.xe s:=by
 have hq:=h (s.heap.objs.size+1) s.heap.objs.size (I.hok.fresh (Nat.le_succ _)) (I.hok.fresh (Nat.le_refl _)) (Nat.ne_of_lt (Nat.lt_succ_self _))
 have I2:=Inv.made (C:=C) I
 have r2:Vals (V.ref (s.heap.objs.size+1)::(vs++dvs)) (Value.ref (s.heap.objs.size+1)::(us++ds)):=.cons rfl (r.append hd)
 have hl:(Value.ref (s.heap.objs.size+1)::us++ds).length=ps.length:=by
  have e:=r2.length
  rw[F.len _ _ _ _ hq]at e
  exact e.symm
 refine wpAny_call (make_map (f:=f) I.kIn M.makes M.init (beq_iff_eq.mp M.fn) (codeAny_mono (F.run _ X.stack _ _ ⟨Value.ref (s.heap.objs.size+1)::us,[]⟩ (Value.ref (s.heap.objs.size+1)::(us++ds)) _ _ E (hr.make C us [])
  (I2.env0.make C us []) (hb _ (Value.ref (s.heap.objs.size+1)::us) I2.kIn hl) r2 hq) fun r s' hq'=>?_))
 cases r with
 | error e=>exact hx pins σ _ _ e s' I2 hq'
 | ok fl =>
  cases fl with
  | ret u =>
   obtain⟨v,H',I3,rv,ev,q3⟩:=I2.after hq'
   subst ev
   exact⟨rv,⟨V.ref (s.heap.objs.size+1),H',I3,rfl,q3⟩⟩
  | next=>exact False.elim hq'
  | brk=>exact False.elim hq'
  | cont=>exact False.elim hq'
theorem pe_make (M:Mk X.K C f)(F:FnOk X.prog X.w X.K X.mg X.base CX k f fd ps sp)(hr:Room (k+1) X.A)(hg:Gl X x)(hm:X.mg x=some (.ref C))(hb:Binds X.K fd ps ds)(hd:Vals dvs ds)(hx:Passes CX X E)
 (ha:PA X (e::es) t) (hdb:(x==("__debug__" : Str))=false:=by decide) (he:starEach (e::es) X.env=(false,eval e X.env)::starEach es X.env:=by rfl) (hpl:(backTo pos (starEach es X.env)).any (·.1)=false:=by rfl) :
 PE X (.Call (.Name x p) (e::es) [] pos) (tMake C sp dvs E t):=by
 intro pins s σ H Q I h
 refine wpAny_Call_Name_kw (ld_glob I hg hm ?_ hdb)
 refine PySem.W.callWith_K (h₀:=X.base) I.ok.mod.kin M.kp (thn (ha pos pins s σ H _ I h) fun us s1 hq6=>?_) he hpl
 obtain⟨vs,H1,I1,r,q⟩:=hq6
 refine⟨I1.kIn,?_⟩
 exact run_make M F hr hb hd hx I1 r q
end
def PK (X:Cx)(kws:List Keyword)(t:TA):Prop :=
 ∀(pos:Pos) (pins:List (Addr×Obj)) (s:Shared) (σ:St) (H:Hp) (Q:List V->Hp->Prop),Inv X pins σ H s->t σ H Q->wpAny (model X.prog X.w) X.A (evalAll ((backToKw pos (keywordEach kws X.env)).map (·.2))) (AP X pins σ Q) X.xe s
section
variable {X:Cx}{CX:CXT}{k:Nat}{f C:Addr}{fd:FuncData}{ps ks:List Str}{sp:Sp}{E:XK}{x m:Str}{p pos apos kpos:Pos}{e o:Expr}{es:List Expr}{kws:List Keyword}{te ta:TE}{t tk:TA}{nm:Option Str}
theorem pk_nil:PK X [] tNil:=fun _ _ _ _ H Q I h=>wpAny_evalAll_nil ⟨[],H,I,.nil,h⟩
theorem pk_cons (ha:PE X e te)(hr:PK X kws t):PK X (⟨nm,e,kpos⟩::kws) (tCons te t):=by
 intro pos pins s σ H Q I h
 show wpAny _ _ (evalAll ((do let v <- eval e X.env;standAt pos;pure v)::(backToKw pos (keywordEach kws X.env)).map (·.2))) _ _ s
 refine wpAny_evalAll_cons (gxM (thn (ha pins s σ H _ I h) fun u s1 hq0=>?_))
 obtain⟨x,H1,I1,r1,q1⟩:=hq0
 refine gxM (wpAny_standAt (wpAny_pure ?_))
 exact thn (hr pos pins s1 σ H1 _ I1 q1) fun us s2 hq1=>by obtain⟨xs,H2,I2,r2,q2⟩:=hq1;exact⟨x::xs,H2,I2,.cons r1 r2,q2⟩
variable {g:List Value->List Value->List Value}{gV:List V->List V->List V}
end
structure FnScope (N P:List Str)(sc:Scope):Prop where
 kind:sc.kind=.function
 co:sc.isCoroutine=false
 gen:sc.isGenerator=false
 nd:N.Nodup
 pre:N.take P.length=P
 par:∀ x∈P,sc.names.lookup x=some .local\/sc.names.lookup x=some .cell
 nofree:∀ y∈sc.names,y.2≠.free
theorem bindL_out {kindOf:Str->Option NameKind}{x:Str}:∀ {binds:List (Str×Value)} {m:Str->Option Value},(∀ v,(x,v)∉binds)->bindL kindOf binds m x=m x
 | [],_,_=>rfl
 | (n,v)::r,m,h=>by
  unfold bindL
  rw[bindL_out fun w hw=>h w (gxI _ hw)]
  split
  ·have:x≠n:=by rintro rfl;exact h v List.mem_cons_self
   simp[this]
  ·rfl
theorem bindC_out {kindOf:Str->Option NameKind}{x:Str}:∀ {binds:List (Str×Value)} {m:Str->Option Value},(∀ v,(x,v)∉binds)->bindC kindOf binds m x=m x
 | [],_,_=>rfl
 | (n,v)::r,m,h=>by
  unfold bindC
  rw[bindC_out fun w hw=>h w (gxI _ hw)]
  split
  ·rfl
  ·have:x≠n:=by rintro rfl;exact h v List.mem_cons_self
   simp[this]
theorem bindL_get {kindOf:Str->Option NameKind}{x:Str}{v:Value}:∀ {P:List Str} {vs:List Value} {i:Nat} {m:Str->Option Value},P.Nodup->P[i]?=some x->vs[i]?=some v->kindOf x=some .local ->
 bindL kindOf (P.zip vs) m x=some v
 | [],_,_,_,_,h,_,_=>by simp at h
 | _::_,[],_,_,_,_,h,_=>by simp at h
 | p::P,w::vs,0,m,nd,h1,h2,hk=>by
  simp at h1 h2;subst h1;subst h2
  show bindL kindOf ((p,w)::P.zip vs) m p=_
  unfold bindL
  rw[bindL_out fun v hv=>(List.nodup_cons.mp nd).1 (List.of_mem_zip hv).1,if_pos hk]
  simp
 | p::P,w::vs,i+1,m,nd,h1,h2,hk=>by
  show bindL kindOf ((p,w)::P.zip vs) m x=_
  unfold bindL
  exact bindL_get (i:=i) (List.nodup_cons.mp nd).2 (by simpa using h1) (by simpa using h2) hk
theorem bindC_get {kindOf:Str->Option NameKind}{x:Str}{v:Value}:∀ {P:List Str} {vs:List Value} {i:Nat} {m:Str->Option Value},P.Nodup->P[i]?=some x->vs[i]?=some v->kindOf x≠some .local ->
 bindC kindOf (P.zip vs) m x=some v
 | [],_,_,_,_,h,_,_=>by simp at h
 | _::_,[],_,_,_,_,h,_=>by simp at h
 | p::P,w::vs,0,m,nd,h1,h2,hk=>by
  simp at h1 h2;subst h1;subst h2
  show bindC kindOf ((p,w)::P.zip vs) m p=_
  unfold bindC
  rw[bindC_out fun v hv=>(List.nodup_cons.mp nd).1 (List.of_mem_zip hv).1,if_neg hk]
  simp
 | p::P,w::vs,i+1,m,nd,h1,h2,hk=>by
  show bindC kindOf ((p,w)::P.zip vs) m x=_
  unfold bindC
  exact bindC_get (i:=i) (List.nodup_cons.mp nd).2 (by simpa using h1) (by simpa using h2) hk
def start (N:List Str)(vs:List V):St:=vs.map some++List.replicate (N.length - vs.length) none
def cxOf (CX:CXT)(P:Program)(w:World)(K:PySem.W.Frag)(mg:Str->Option Value)(base:Heap)(N:List Str)(qual:Str)(scope:Scope)(f:Addr)(cd:Value)(A:Around)(outer:List Env)(s:Shared)(H:Hp)(E:XK):Cx where
 prog:=P
 w:=w
 K:=K
 mg:=mg
 base:=base
 A:=A.deeper (envOfC qual scope s.heap.objs.size f cd)
 N:=N
 s₀:=s
 H₀:=H
 env:=envOfC qual scope s.heap.objs.size f cd
 outer:=outer
 stack:=envOfC qual scope s.heap.objs.size f cd::outer
 ex:=[]
 calm:=true
 fn:=fun _=>true
 pn:=[]
 xe:=fun e s'=>wpAny (model P w) (A.deeper (envOfC qual scope s.heap.objs.size f cd)) (leaving (envOfC qual scope s.heap.objs.size f cd) e) (fun _ s''=>CX outer H s E e s'') (fun e' s''=>CX outer H s E e' s'') s'
theorem cell_has {sc:Scope}{n:Nat}{x:Str}(h:sc.names.lookup x=some .cell):∃ c,(cellsFrom n sc.names []).lookup x=some c:=by
 have q:=PySem.W.cellsFrom_some sc.names n [] (.inl h)
 exact Option.isSome_iff_exists.mp q
theorem inv_start {CX:CXT}{P:Program}{w:World}{K:PySem.W.Frag}{mg:Str->Option Value}{base:Heap}{N ps:List Str}{qual:Str}{scope:Scope}{f:Addr}{cd:Value}{A:Around}{outer:List Env}{s s1:Shared}{H:Hp}{E:XK}{us:List Value}{vs:List V}
 (S:FnScope N ps scope) (hd:A.handled=none) (e0:Env0 P w K mg base A outer s H) (hl:vs.length=ps.length) (r:Vals vs us)
 (x:InCallC s s.heap.objs.size (bindL (envOfC qual scope s.heap.objs.size f cd).kindOf (ps.zip us) fun _=>none) (cellsFrom (s.heap.objs.size+1) scope.names []) (bindC (envOfC qual scope s.heap.objs.size f cd).kindOf (ps.zip us) fun _=>none) s1) :
 Inv (cxOf CX P w K mg base N qual scope f cd A outer s H E) [] (start N vs) H s1:=by
 have hpl:ps.length<=N.length:=by have:=congrArg List.length S.pre;rw[List.length_take]at this;omega
 obtain⟨h1,tk,rfl,hk⟩:=x.done
 have noA:∀ b:Addr,b∉(cxOf CX P w K mg base N qual scope f cd A outer s H E).ex:=fun b z=>absurd (show b∈([]:List Addr)from z) (by simp)
 refine⟨⟨e0.mod,S.kind,rfl,rfl,Nat.le_refl _,fun y z c h1 h2=>?_,fun y hy=>?_,fun y c _ h=>?_,fun _=>hd,Around.frames_deeper e0.frames,.inr ⟨rfl,rfl⟩,fun b z=>absurd z (noA b),e0.bs,e0.bsz,fun b _ _=>noA b,fun b z=>absurd z (noA b),e0.funs,e0.frf⟩,
  rfl,e0.bare,Un.kept hk,⟨_,x.toInCall.ns,fun i y v h1 h2 h3=>?_⟩,fun y c h=>⟨_,x.cell y c h⟩,e0.hok.fresh (Nat.le_refl _),fun y c h=>?_,fun p hp=>absurd (show p∈([]:List (Addr×Obj))from hp) (by simp),e0.hok.kept hk,?_⟩
 ·exact name_of_addr x.apart (PySem.mem_of_lookup h1) (PySem.mem_of_lookup h2)
 ·have hy:scope.names.lookup y=some .cell\/scope.names.lookup y=some .free:=hy
  rcases hy with hy | hy
  ·exact cell_has hy
  ·exact absurd rfl (S.nofree _ (PySem.mem_of_lookup hy))
 ·exact Nat.le_of_lt (x.above y c (PySem.mem_of_lookup h))
 ·have hi:i<vs.length:=by
   unfold start at h2
   by_cases hi:i<vs.length
   ·exact hi
   ·rw[gxG (by simpa using hi)]at h2
    rw[List.getElem?_replicate]at h2
    split at h2 <;> cases h2
  have ha:vs[i]?=some v:=by
   unfold start at h2
   rw[gxF (by simpa using hi),gxH]at h2
   cases e:vs[i]? with
   | none=>rw[e]at h2;cases h2
   | some a=>rw[e]at h2;cases h2;rfl
  obtain⟨u,hu,rv⟩:=r.get ha
  have hp:ps[i]?=some y:=by
   rw[<- S.pre,List.getElem?_take_of_lt (by omega)];exact h1
  have ndP:ps.Nodup:=by rw[<- S.pre];exact S.nd.sublist (List.take_sublist _ _)
  refine⟨u,rv,?_⟩
  rcases S.par y (gxD hp)with k | k
  ·exact .inl ⟨k,bindL_get ndP hp hu k⟩
  ·obtain⟨c,e⟩:=cell_has (n:=s.heap.objs.size+1) k
   refine .inr ⟨.inl k,c,e,?_⟩
   have q:=x.cell y c e
   rw[bindC_get ndP hp hu (by show scope.names.lookup y≠_;rw[k];decide)]at q
   exact q
 ·exact e0.hok.fresh (Nat.le_of_lt (x.above y c (PySem.mem_of_lookup h)))
 ·unfold start
  show _=N.length
  rw[gxE,gxC,List.length_replicate]
  omega
theorem fn_of {CX:CXT}{P:Program}{w:World}{K:PySem.W.Frag}{mg:Str->Option Value}{base:Heap}{k:Nat}{f:Addr}{name qual:Str}{params:Arguments}{body:List Stmt}{scope:Scope}{dV kV doc pm cdv ct oc:Value}{an od:Option Addr}
 {osl:Array (Option Value)} {N ps:List Str} {sp:Sp} (lk:K.lookup f=some ⟨oc,od,.func (PySem.W.fnOf name qual params body scope dV kV doc pm an cdv ct),osl⟩) (hcd:PySem.W.codeIn K cdv qual=true) (S:FnScope N ps scope)
 (len:∀ vs H Q E,sp vs H Q E->vs.length=ps.length)
 (hbody:∀(A:Around) (outer:List Env) (s:Shared) (H:Hp) (vs:List V) (Q:VK) (E:XK),Room k (A.deeper (envOfC qual scope s.heap.objs.size f cdv))->sp vs H Q E ->
   ∃ t,PSs (cxOf CX P w K mg base N qual scope f cdv A outer s H E) body t/\t { nx:=fun _ H'=>Q .non H',rt:=Q} (start N vs) H) :
 FnOk P w K mg base CX (k+1) f (PySem.W.fnOf name qual params body scope dV kV doc pm an cdv ct) ps sp:=by
 refine⟨len,fun A outer s H args us vs Q E hr e0 hb r hsp=>?_⟩
 have hl:=len _ _ _ _ hsp
 have KX:K.In s.heap:=e0.mod.kin.keeps fun b o e=>(e0.bs b o e).1
 have lim:s.heap.NoLimit:=e0.mod.nolimit.keeps fun b o e=>(e0.bs b o e).1
 have hkind:∀ y∈ps.zip us,scope.names.lookup y.1=some .local\/(scope.names.lookup y.1=some .cell/\((cellsFrom (s.heap.objs.size+1) scope.names []).lookup y.1).isSome=true):=fun⟨n,v⟩ hy=>by
  rcases S.par n (List.of_mem_zip hy).1 with q | q
  ·exact .inl q
  ·exact .inr ⟨q,PySem.W.cellsFrom_some _ _ _ (.inl q)⟩
 refine codeAny_call_function hr.depth (KX _ _ lk) rfl S.co S.gen rfl (PySem.W.codeRec_of KX hcd) (hb _ _ _ _ ?_)
 refine wpAny_newFunctionEnv_cells S.kind hkind fun env he s1 x=>?_
 subst he
 refine⟨lim.keeps x.toInCall.keep,codeAny_func ?_⟩
 obtain⟨t,ht,hq⟩:=hbody A outer s H vs Q E (hr.deeper _) hsp
 have I:Inv (cxOf CX P w K mg base N qual scope f cdv A outer s H E) [] (start N vs) H s1:=inv_start S hr.hd e0 hl r x
 refine wpAny_mono (ht [] s1 (start N vs) H _ I hq) (fun fl s' hs=>?_) fun e s' hs=>hs
 have fin:∀ {σ':St} {H':Hp} {v:V} {u:Value},Inv (cxOf CX P w K mg base N qual scope f cdv A outer s H E) [] σ' H' s'->RelV v u->Q v H'->CE outer P w H s Q u s' :=
  fun {σ' H' v u} J rv q=>⟨v,H',J.os,J.bare,J.base,J.hok,rv,q⟩
 cases fl with
 | ret u =>
  obtain⟨v,σ',H',J,rv,q⟩:=hs
  exact fin J rv q
 | next =>
  obtain⟨σ',H',J,q⟩:=hs
  exact fin (v:=V.non) (u:=Value.none) J rfl q
 | brk =>
  obtain⟨_,_,_,q⟩:=hs
  exact False.elim q
 | cont =>
  obtain⟨_,_,_,q⟩:=hs
  exact False.elim q
section
variable {X:Cx}{x:Str}{p pos:Pos}{e:Expr}{es:List Expr}{t:TA}{id T:String}{r:List V->Hp->VK->Prop}
def tCB (r:List V->Hp->VK->Prop)(t:TA):TE:=fun σ H Q=>t σ H fun vs H1=>r vs H1 Q
theorem pe_callB (hc:CallR X (.builtin id) r)(hg:Gl X x)(hm:X.mg x=none)(hv:bootBuiltins x=some (.builtin id))(ha:PA X (e::es) t)(hn:x ≠ "__name__":=by decide)(hdb:(x==("__debug__" : Str))=false:=by decide)
 (he:starEach (e::es) X.env=(false,eval e X.env)::starEach es X.env:=by rfl) (hpl:(backTo pos (starEach es X.env)).any (·.1)=false:=by rfl):PE X (.Call (.Name x p) (e::es) [] pos) (tCB r t):=by
 intro pins s σ H Q I h
 refine wpAny_Call_Name_kw (ld_blt I hg hm hv ?_ hn hdb)
 exact PyProof.Rows.callWith_builtin1 (thn (ha pos pins s σ H _ I h) fun us s1 hq2=>by obtain⟨vs,H1,I1,r1,q1⟩:=hq2;exact hc pins s1 σ H1 vs us Q I1 r1 q1) he hpl
theorem pe_callTy (hc:CallR X (.type T) r)(hg:Gl X x)(hm:X.mg x=none)(hv:bootBuiltins x=some (.type T))(ha:PA X (e::es) t)(hn:x ≠ "__name__":=by decide)(hdb:(x==("__debug__" : Str))=false:=by decide)
 (he:starEach (e::es) X.env=(false,eval e X.env)::starEach es X.env:=by rfl) (hpl:(backTo pos (starEach es X.env)).any (·.1)=false:=by rfl):PE X (.Call (.Name x p) (e::es) [] pos) (tCB r t):=by
 intro pins s σ H Q I h
 refine wpAny_Call_Name_kw (ld_blt I hg hm hv ?_ hn hdb)
 exact PyProof.Rows.callWith_type1 (thn (ha pos pins s σ H _ I h) fun us s1 hq3=>by obtain⟨vs,H1,I1,r1,q1⟩:=hq3;exact hc pins s1 σ H1 vs us Q I1 r1 q1) he hpl
end
end L2
namespace HT
open PySem PyProof.Rows
section
variable {prog:Program}{w:World}{A:Around}{E:Value->Shared->Prop}{s:Shared}
def sIx (n d:Nat):Option Int->Nat
 | none=>d
 | some v=>if v<0 then(v+(n:Int)).toNat else min v.toNat n
theorem sIx_none (n d:Nat):sIx n d none=d:=rfl
theorem sIx_nat (n d k:Nat):sIx n d (some (k:Int))=min k n:=by
 show(if(k:Int)<0 then((k:Int)+(n:Int)).toNat else min (k:Int).toNat n)=min k n
 rw[if_neg (by omega),gxK]
theorem sIx_le (n d:Nat)(hd:d<=n)(o:Option Int):sIx n d o<=n:=by
 cases o with
 | none=>exact hd
 | some v =>
  show(if v<0 then(v+(n:Int)).toNat else min v.toNat n)<=n
  by_cases hv:v<0
  ·rw[if_pos hv];omega
  ·rw[if_neg hv];exact Nat.min_le_right _ _
end
end HT
namespace L2
open PySem PySem.Spec PyProof.Rows
abbrev TO:=St->Hp->(Option Int->Hp->Prop)->Prop
def PO (X:Cx)(e:Option Expr)(t:TO):Prop :=
 ∀(pins:List (Addr×Obj)) (s:Shared) (σ:St) (H:Hp) (Q:Option Int->Hp->Prop),Inv X pins σ H s->t σ H Q ->
  wpAny (model X.prog X.w) X.A (evalPart e X.env) (fun u s'=>∃ o H',Inv X pins σ H' s'/\IsPart u o/\Q o H') X.xe s
def tNoPart:TO:=fun _ H Q=>Q none H
section
variable {X:Cx}{e:Expr}{te:TE}{lo hi:Option Expr}{tl th:TO}{pos p2:Pos}
theorem po_none:PO X none tNoPart:=by
 intro pins s σ H Q I h
 rw[evalPart_none]
 exact wpAny_pure ⟨none,H,I,.none,h⟩
def SlR (X:Cx)(r:V->Option Int->Option Int->Hp->VK->Prop):Prop :=
 ∀(pins:List (Addr×Obj)) (s:Shared) (σ:St) (H:Hp) (x:V) (v vl vu:Value) (lo hi:Option Int) (sl:Addr) (Q:VK),Inv X pins σ H s->RelV x v->s.heap.IsSliceOf sl vl vu .none->IsPart vl lo->IsPart vu hi->r x lo hi H Q ->
  ∃ T id,typeLookup (.type T) "__getitem__"=pure (some (.builtin id))/\s.TypeIs v T/\wpAny (model X.prog X.w) X.A (getItem v (.ref sl)) (EP X pins σ Q) X.xe s
def tSl (r:V->Option Int->Option Int->Hp->VK->Prop)(te:TE)(tl th:TO):TE:=fun σ H Q=>te σ H fun x H1=>tl σ H1 fun l H2=>th σ H2 fun u H3=>r x l u H3 Q
theorem pe_slice {r:V->Option Int->Option Int->Hp->VK->Prop}(hr:SlR X r)(he:PE X e te)(hl:PO X lo tl)(hu:PO X hi th):PE X (.Subscript e (.Slice lo hi none p2) pos) (tSl r te tl th):=by
 intro pins s σ H Q I h
 refine Subscript_ (thn (he pins s σ H _ I h) fun v s1 hq4=>?_)
 obtain⟨x,H1,I1,r1,q1⟩:=hq4
 refine wpAny_Slice (thn (hl pins s1 σ H1 _ I1 q1) fun vl s2 hq5=>?_)
 obtain⟨l,H2,I2,pl,q2⟩:=hq5
 refine thn (hu pins s2 σ H2 _ I2 q2) fun vu s3 hq6=>?_
 obtain⟨u,H3,I3,pu,q3⟩:=hq6
 rw[evalPart_none]
 refine wpAny_pure ?_
 have I4:Inv X pins σ H3 { s3 with heap:=s3.heap.push { cls:=.type "slice",data:=.fields #[vl,vu,.none]}}:=I3.kept (t':=s3.toks) fun b ob q=>gxL _ q
 obtain⟨T,id,hT,ht,hg⟩:=hr pins { s3 with heap:=s3.heap.push { cls:=.type "slice",data:=.fields #[vl,vu,.none]}} σ H3 x v vl vu l u s3.heap.objs.size Q I4 r1 (Heap.IsSliceOf.new ..) pl pu q3
 show wpAny (model X.prog X.w) X.A (subscriptTail e (.Slice lo hi none p2) v (.ref s3.heap.objs.size)) (EP X pins σ Q) X.xe { s3 with heap:=s3.heap.push { cls:=.type "slice",data:=.fields #[vl,vu,.none]}}
 exact tail_any (ops:=[.ref s3.heap.objs.size,v]) ht hT hg (by with_unfolding_all rfl)
def cutV (xs:List V)(lo hi:Option Int):List V:=(xs.drop (HT.sIx xs.length 0 lo)).take (HT.sIx xs.length xs.length hi - HT.sIx xs.length 0 lo)
theorem cutV_length (xs:List V)(lo hi:Option Int):(cutV xs lo hi).length<=xs.length:=by
 unfold cutV
 rw[List.length_take,List.length_drop]
 omega
end
def ixN (n:Nat)(i:Int):Option Nat:=if 0<=i then(if i<n then some i.toNat else none)else if -(n:Int)<=i then some (i+n).toNat else none
def atI {α:Type}(xs:List α)(i:Int):Option α:=(ixN xs.length i).bind fun j=>xs[j]?
theorem ixN_seq {n:Nat}{i:Int}{j:Nat}(h:ixN n i=some j):seqIndex? i n=some j/\j<n /\ -(n:Int)<=i/\i<n:=by
 unfold ixN at h
 by_cases h0:0<=i
 ·rw[if_pos h0]at h
  by_cases h1:i<n
  ·rw[if_pos h1]at h
   have e:i.toNat=j:=Option.some.inj h
   exact⟨by rw[seqIndex_of h0 h1,e],by omega,by omega,h1⟩
  ·rw[if_neg h1]at h;cases h
 ·rw[if_neg h0]at h
  by_cases h1:-(n:Int)<=i
  ·rw[if_pos h1]at h
   have e:(i+n).toNat=j:=Option.some.inj h
   exact⟨by rw[seqIndex_neg (by omega) h1,e],by omega,h1,by omega⟩
  ·rw[if_neg h1]at h;cases h
theorem atI_get {α:Type}{xs:List α}{i:Int}{v:α}(h:atI xs i=some v):∃ j,seqIndex? i xs.length=some j/\xs[j]?=some v/\j<xs.length /\ -(xs.length:Int)<=i/\i<xs.length:=by
 unfold atI at h
 cases e:ixN xs.length i with
 | none=>rw[e]at h;cases h
 | some j =>
  rw[e]at h
  obtain⟨h1,h2,h3,h4⟩:=ixN_seq e
  exact⟨j,h1,h,h2,h3,h4⟩
theorem atI_nat {α:Type}{xs:List α}{j:Nat}{v:α}(h:xs[j]?=some v):atI xs (j:Int)=some v:=by
 have hj:j<xs.length:=(gxB h).1
 have e:ixN xs.length (j:Int)=some j:=by
  unfold ixN
  rw[if_pos (by omega),if_pos (by omega)];simp
 unfold atI;rw[e];exact h
theorem atI_last {α:Type}(xs:List α)(v:α):atI (xs++[v]) (-1)=some v:=by
 have hl:(xs++[v]).length=xs.length+1:=by simp
 have e:ixN (xs++[v]).length (-1)=some xs.length:=by
  unfold ixN
  rw[hl,if_neg (by decide),if_pos (by omega)]
  congr 1
  omega
 unfold atI
 rw[e]
 show(xs++[v])[xs.length]?=some v
 simp
def PlainIx (b:Expr):Prop:=∀ o i,subscripted b false o i=operate [o,i] (getItem o i)
def IxR (X:Cx)(r:R2):Prop :=
 ∀(value slice:Expr) (pins:List (Addr×Obj)) (s:Shared) (σ:St) (H:Hp) (x y:V) (v u:Value) (Q:VK),Inv X pins σ H s->RelV x v->RelV y u->r x y H Q ->
  subscripted slice false v u=operate [v,u] (getItem v u)->wpAny (model X.prog X.w) X.A (subscriptTail value slice v u) (EP X pins σ Q) X.xe s
def MtR (X:Cx)(id:String)(r:V->List V->Hp->VK->Prop):Prop :=
 ∀(pins:List (Addr×Obj)) (s:Shared) (σ:St) (H:Hp) (x:V) (xs:List V) (v:Value) (us:List Value) (Q:VK),Inv X pins σ H s->RelV x v->Vals xs us->r x xs H Q ->
  wpAny (model X.prog X.w) X.A (call (.builtin id) (v::us)) (EP X pins σ Q) X.xe s
section
variable {X:Cx}{a b:Expr}{ta tb:TE}{pos:Pos}
theorem IxR.or {r r':R2}(h:IxR X r)(h':IxR X r'):IxR X (fun x y H Q=>r x y H Q\/r' x y H Q):=by
 intro value slice pins s σ H x y v u Q I rx ry q hs
 rcases q with q | q
 ·exact h value slice pins s σ H x y v u Q I rx ry q hs
 ·exact h' value slice pins s σ H x y v u Q I rx ry q hs
theorem pe_ix {r:R2}(hr:IxR X r)(ha:PE X a ta)(hb:PE X b tb)(hs:PlainIx b):PE X (.Subscript a b pos) (tOp r ta tb):=by
 intro pins s σ H Q I h
 exact Subscript_ (binT ha hb I h fun v u s2 x y H2 I2 rx ry q=>hr a b pins s2 σ H2 x y v u Q I2 rx ry q (hs _ _))
def rIxL (K:PySem.W.Frag):R2:=fun x y H Q=>∃ p xs i v,x=.ref p/\y=.int i/\SqL K H p xs/\atI xs i=some v/\Q v H
def rIxT (K:PySem.W.Frag):R2:=fun x y H Q=>∃ p xs i v,x=.ref p/\y=.int i/\SqT K H p xs/\atI xs i=some v/\Q v H
def rIxS:R2:=fun x y H Q=>∃ z i c,x=.str z/\y=.int i/\z.length<=sizeLine/\atI z.cps.toList i=some c/\Q (.str ⟨#[c]⟩) H
theorem ix_list:IxR X (rIxL X.K):=by
 intro value slice pins s σ H x y v u Q I rx ry h hs
 obtain⟨p,xs,i,z,rfl,rfl,hq,he,q⟩:=h
 cases rx
 obtain⟨t,rfl⟩:=ry
 obtain⟨its,r,pl,hz⟩:=I.list hq
 obtain⟨j,h1,h2,h3,h4,h5⟩:=atI_get he
 obtain⟨w,ew,rw'⟩:=r.get h2
 have hl:=r.length
 have hn:=line63
 have fin:EP X pins σ Q w s:=⟨z,H,I,rw',q⟩
 by_cases h0:0<=i
 ·have hj:i.toNat=j:=by
   rw[seqIndex_of h0 h5]at h1
   exact Option.some.inj h1
  exact item_listR pl.isList h0 (by omega) (by rw[hj];simpa using ew) fin hs
 ·have hj:(i+(its.toArray.size:Int)).toNat=j:=by
   rw[seqIndex_neg (by omega) h4]at h1
   rw[List.size_toArray,<- hl]
   exact Option.some.inj h1
  exact subscriptTail_builtinR (x:=w) pl.isList.typeIs slot_list_getitem.lookup
   (wpAny_getItem_list_neg (Q:=fun r s'=>r=w/\EP X pins σ Q r s') pl.isList (by omega) (by rw[List.size_toArray]<;> omega) (by omega) (by rw[hj];simpa using ew) ⟨rfl,fin⟩) hs
theorem ix_tup:IxR X (rIxT X.K):=by
 intro value slice pins s σ H x y v u Q I rx ry h hs
 obtain⟨p,xs,i,z,rfl,rfl,hq,he,q⟩:=h
 cases rx
 obtain⟨t,rfl⟩:=ry
 obtain⟨its,r,pl,hz⟩:=I.tuple hq
 obtain⟨j,h1,h2,h3,h4,h5⟩:=atI_get he
 obtain⟨w,ew,rw'⟩:=r.get h2
 have hl:=r.length
 have hn:=line63
 have fin:EP X pins σ Q w s:=⟨z,H,I,rw',q⟩
 exact subscriptTail_builtinR (x:=w) pl.typeIs slot_tuple_getitem.lookup
  (getItem_tuple (j:=j) (Q:=fun r s'=>r=w/\EP X pins σ Q r s') pl (by omega) (by omega) (by rw[List.size_toArray,<- hl];exact h1) (by simpa using ew) ⟨rfl,fin⟩) hs
theorem ix_str:IxR X rIxS:=by
 intro value slice pins s σ H x y v u Q I rx ry h hs
 obtain⟨z,i,c,rfl,rfl,hz,he,q⟩:=h
 obtain⟨t,rfl⟩:=rx
 obtain⟨t',rfl⟩:=ry
 obtain⟨j,h1,h2,h3,h4,h5⟩:=atI_get he
 have hl:z.cps.toList.length=z.length:=by simp[Str.length]
 rw[hl]at h1 h4 h5
 have hn:=line63
 exact tail_any (typeIs_str s z t) slot_str_getitem.lookup (getItem_str (c:=c) (by
  have e1:decide (i < -(2 ^ 63:Int))=false:=decide_eq_false (by omega)
  have e2:decide (i≥2 ^ 63)=false:=decide_eq_false (by omega)
  rw[e1,e2,Bool.or_false]) (by rw[h1];simpa using h2) ⟨.str ⟨#[c]⟩,H,I.tok _,⟨_,rfl⟩,q⟩) hs
def rIx (K:PySem.W.Frag):R2:=fun x y H Q=>rIxL K x y H Q\/rIxT K x y H Q\/rIxS x y H Q
theorem ix_seq:IxR X (rIx X.K):=ix_list.or (ix_tup.or ix_str)
theorem mapSeq_set (its:List Value)(n j:Nat)(u:Value):Obj.mapSeq (·.setIfInBounds j u) { cls:=.type "list",data:=.seq its.toArray n}={ cls:=.type "list",data:=.seq (its.set j u).toArray n}:=by
 simp[Obj.mapSeq]
theorem Inv.lst {pins:List (Addr×Obj)}{σ:St}{H:Hp}{s:Shared}{p:Addr}{xs:List V}(I:Inv X pins σ H s)(h:H p=some (.lst xs)) :
 ∃(its:List Value) (n:Nat),Vals xs its/\s.heap.get? p=some { cls:=.type "list",data:=.seq its.toArray n}/\xs.length<=sizeLine:=by
 obtain⟨z,its,n,r,e⟩:=I.hok p _ h
 exact⟨its,n,r,e,z⟩
theorem Inv.lstUpd {pins:List (Addr×Obj)}{σ:St}{H:Hp}{s:Shared}{p:Addr}{xs ys:List V}{its its':List Value}{n n':Nat}{f:Obj->Obj}(I:Inv X pins σ H s)(h:H p=some (.lst xs))
 (ho:s.heap.get? p=some { cls:=.type "list",data:=.seq its.toArray n}) (hf:f { cls:=.type "list",data:=.seq its.toArray n}={ cls:=.type "list",data:=.seq its'.toArray n'}) (r:Vals ys its') (hz:ys.length<=sizeLine) (t:Nat) :
 Inv X pins σ (upd H p (.lst ys)) { s with heap:=s.heap.update p f,toks:=t}:=by
 have e:(s.heap.update p f).get? p=some { cls:=.type "list",data:=.seq its'.toArray n'}:=by
  rw[Heap.get?_update_self f ho (by rw[hf]<;> rfl),hf]
 refine I.write (x:=p) (e:=p) (by rw[h];trivial) (.inl rfl) (fun b u hb q=>(Heap.get?_update_other _ _ (Ne.symm hb)).trans q) ⟨_,e⟩ ?_
 exact⟨hz,its',n',r,e⟩
def rSetL:V->V->V->Hp->(Hp->Prop)->Prop:=fun o i v H Q=>∃ p xs k j,o=.ref p/\i=.int k/\H p=some (.lst xs)/\ixN xs.length k=some j/\Q (upd H p (.lst (xs.set j v)))
theorem set_list:PSet X rSetL:=by
 intro pins s σ H o i v ov iv u Q I ro ri rv h
 obtain⟨p,xs,k,j,rfl,rfl,hp,hj,q⟩:=h
 cases ro
 obtain⟨t,rfl⟩:=ri
 obtain⟨its,n,r,ho,hz⟩:=I.lst hp
 obtain⟨h1,h2,h3,h4⟩:=ixN_seq hj
 have hl:=r.length
 have hn:=line63
 have I':Inv X pins σ (upd H p (.lst (xs.set j v))) { s with heap:=s.heap.update p (Obj.mapSeq (·.setIfInBounds j u))} :=
  I.lstUpd hp ho (mapSeq_set its n j u) (r.set rv j) (by rw[List.length_set];exact hz) s.toks
 by_cases h0:0<=k
 ·have hk:k.toNat=j:=by
   rw[seqIndex_of h0 h4]at h1
   exact Option.some.inj h1
  exact PySem.W.ki_setAt ho h0 (by omega) (by rw[List.size_toArray,<- hl];exact h4) (by rw[hk];exact⟨_,I',q⟩)
 ·have hk:(k+(its.toArray.size:Int)).toNat=j:=by
   rw[seqIndex_neg (by omega) h3]at h1
   rw[List.size_toArray,<- hl]
   exact Option.some.inj h1
  exact PySem.W.ki_setBack ho (by omega) (by rw[List.size_toArray,<- hl];exact h3) (by omega) (by rw[hk];exact⟨_,I',q⟩)
theorem slice_bounds (lo hi:Option Int)(n:Nat):(sliceBounds lo hi none n).1=((HT.sIx n 0 lo:Nat):Int)/\(sliceBounds lo hi none n).2.1=((HT.sIx n n hi:Nat):Int)/\(sliceBounds lo hi none n).2.2=1:=by
 refine⟨?_,?_,rfl⟩
 ·cases lo with
  | none=>simp[sliceBounds,HT.sIx]
  | some i =>
   simp only[sliceBounds,HT.sIx,Option.getD_none,show(1:Int)>0 by decide,if_true]
   by_cases h:i<0
   ·simp only[h,if_true]<;> omega
   ·simp only[h,if_false]<;> omega
 ·cases hi with
  | none=>simp[sliceBounds,HT.sIx]
  | some i =>
   simp only[sliceBounds,HT.sIx,Option.getD_none,show(1:Int)>0 by decide,if_true]
   by_cases h:i<0
   ·simp only[h,if_true]<;> omega
   ·simp only[h,if_false]<;> omega
theorem slicePick_cut (its:List Value)(lo hi:Option Int):slicePick its.toArray lo hi none=((its.drop (HT.sIx its.length 0 lo)).take (HT.sIx its.length its.length hi - HT.sIx its.length 0 lo)).toArray:=by
 obtain⟨h1,h2,h3⟩:=slice_bounds lo hi its.toArray.size
 unfold slicePick
 rw[h1,h2,h3]
 simp only[sliceRange_one,pick_run,List.size_toArray]<;> rfl
def rSlL (K:PySem.W.Frag):V->Option Int->Option Int->Hp->VK->Prop:=fun x lo hi H Q=>∃ a xs,x=.ref a/\SqL K H a xs/\∀ p,H p=none->Q (.ref p) (upd H p (.lst (cutV xs lo hi)))
theorem sl_list:SlR X (rSlL X.K):=by
 intro pins s σ H x v vl vu lo hi sl Q I rx hs pl pu h
 obtain⟨a,xs,rfl,hx,q⟩:=h
 cases rx
 obtain⟨its,r,ht,hz⟩:=I.list hx
 have hlen:=r.length
 refine⟨"list",_,slot_list_getitem.lookup,ht.isList.typeIs,?_⟩
 refine wpAny_getItem_list_slice ht.isList hs pl pu .none (by simp) ?_ (by rw[List.size_toArray]<;> omega)
 rw[slicePick_cut,<- hlen]
 refine⟨.ref s.heap.objs.size,_,I.laid (t':=s.toks) (o:=.lst (cutV xs lo hi)) (fun b ob q=>gxL _ q) (Nat.le_refl _) ?_,rfl,q _ (I.hok.fresh (Nat.le_refl _))⟩
 exact⟨Nat.le_trans (cutV_length xs lo hi) hz,_,0,(r.drop (HT.sIx xs.length 0 lo)).take (HT.sIx xs.length xs.length hi - HT.sIx xs.length 0 lo),Heap.get?_push_size _ rfl⟩
def flatV:V->Bool
 | .non=>true
 | .bl _=>true
 | .int _=>true
 | .str _=>true
 | _=>false
def eqV:V->V->Bool
 | .non,.non=>true
 | .bl a,.bl b=>a==b
 | .bl a,.int b=>(if a then 1 else 0)==b
 | .int a,.bl b=>a==(if b then 1 else 0)
 | .int a,.int b=>a==b
 | .str a,.str b=>a==b
 | _,_=>false
theorem eqAt_V {A:Around}{s:Shared}{y x:V}{u v:Value}(ry:RelV y u)(rx:RelV x v)(fy:flatV y=true)(fx:flatV x=true):SeqAt.EqAt A s u v (eqV y x):=by
 cases y with
 | non =>
  cases ry
  cases x with
  | non=>cases rx;exact SeqAt.EqAt.same _
  | bl b=>cases rx;exact SeqAt.EqAt.none_bool b
  | int b=>obtain⟨t,rfl⟩:=rx;exact SeqAt.EqAt.none_int b t
  | str b=>obtain⟨t,rfl⟩:=rx;exact SeqAt.EqAt.none_str b t
  | _=>exact absurd (show false=true from fx) Bool.false_ne_true
 | bl a =>
  cases ry
  cases x with
  | non=>cases rx;exact SeqAt.EqAt.bool_none a
  | bl b=>cases rx;exact SeqAt.EqAt.bool_bool a b
  | int b=>obtain⟨t,rfl⟩:=rx;exact SeqAt.EqAt.bool_int a b t
  | str b=>obtain⟨t,rfl⟩:=rx;exact SeqAt.EqAt.bool_str a b t
  | _=>exact absurd (show false=true from fx) Bool.false_ne_true
 | int a =>
  obtain⟨t',rfl⟩:=ry
  cases x with
  | non=>cases rx;exact SeqAt.EqAt.int_none a t'
  | bl b=>cases rx;exact SeqAt.EqAt.int_bool a t' b
  | int b=>obtain⟨t,rfl⟩:=rx;exact SeqAt.EqAt.int_int a t' b t
  | str b=>obtain⟨t,rfl⟩:=rx;exact SeqAt.EqAt.int_str a t' b t
  | _=>exact absurd (show false=true from fx) Bool.false_ne_true
 | str a =>
  obtain⟨t',rfl⟩:=ry
  cases x with
  | non=>cases rx;exact SeqAt.EqAt.str_none a t'
  | bl b=>cases rx;exact SeqAt.EqAt.str_bool a t' b
  | int b=>obtain⟨t,rfl⟩:=rx;exact SeqAt.EqAt.str_int a t' b t
  | str b=>obtain⟨t,rfl⟩:=rx;exact SeqAt.EqAt.str_str a t' b t
  | _=>exact absurd (show false=true from fx) Bool.false_ne_true
 | _=>exact absurd (show false=true from fy) Bool.false_ne_true
def eqU (x:V)(u:Value):Bool:=match u with
 | .none=>eqV .non x
 | .bool b=>eqV (.bl b) x
 | .int i _=>eqV (.int i) x
 | .str z _=>eqV (.str z) x
 | _=>false
theorem eqU_of {x y:V}{u:Value}(r:RelV y u)(f:flatV y=true):eqU x u=eqV y x:=by
 cases y with
 | non=>cases r;rfl
 | bl b=>cases r;rfl
 | int i=>obtain⟨t,rfl⟩:=r;rfl
 | str z=>obtain⟨t,rfl⟩:=r;rfl
 | _=>exact absurd (show false=true from f) Bool.false_ne_true
theorem any_eqU {x:V}:∀ {xs:List V} {us:List Value},Vals xs us->xs.all flatV=true->us.any (eqU x)=xs.any fun y=>eqV y x
 | _,_,.nil,_=>rfl
 | y::xs,u::us,.cons r t,f=>by
  rw[List.all_cons,Bool.and_eq_true]at f
  rw[List.any_cons,List.any_cons,eqU_of r f.1,any_eqU t f.2]
theorem mem_eqAt {A:Around}{s:Shared}{x:V}{v:Value}(rx:RelV x v)(fx:flatV x=true):∀ {xs:List V} {us:List Value},Vals xs us->xs.all flatV=true->∀ u∈us,SeqAt.EqAt A s u v (eqU x u)
 | _,_,.nil,_=>fun u hu=>by cases hu
 | y::xs,u::us,.cons r t,f=>fun u' hu=>by
  rw[List.all_cons,Bool.and_eq_true]at f
  rcases List.mem_cons.mp hu with rfl | hu
  ·rw[eqU_of r f.1];exact eqAt_V r rx f.1 fx
  ·exact mem_eqAt rx fx t f.2 u' hu
def inV (x:V)(xs:List V):Bool:=xs.any fun y=>eqV y x
def rIn (K:PySem.W.Frag)(neg:Bool):R2:=fun x y H Q=>∃ p xs,y=.ref p/\(SqL K H p xs\/SqT K H p xs)/\flatV x=true/\xs.all flatV=true/\Q (.bl (if neg then !inV x xs else inV x xs)) H
theorem op_in_seq:OpR X (compareOp .In) (rIn X.K false):=by
 intro pins s σ H x y v u Q I rx ry h
 obtain⟨p,xs,rfl,hq,fx,fs,q⟩:=h
 cases ry
 rcases hq with hq | hq
 ·obtain⟨its,r,pl,hz⟩:=I.list hq
  refine SeqAt.in_listAt (eqU x) pl.isList (fun w hw=>mem_eqAt rx fx r fs w (by simpa using hw)) ⟨.bl _,H,I,rfl,?_⟩
  rw[show its.toArray.any (eqU x)=its.any (eqU x) by simp,any_eqU r fs]
  exact q
 ·obtain⟨its,r,pl,hz⟩:=I.tuple hq
  refine SeqAt.in_tupleAt (eqU x) pl (fun w hw=>mem_eqAt rx fx r fs w (by simpa using hw)) ⟨.bl _,H,I,rfl,?_⟩
  rw[show its.toArray.any (eqU x)=its.any (eqU x) by simp,any_eqU r fs]
  exact q
theorem call_len_seq:CallR X (.builtin "len") (fun xs H Q=>∃ p ys,xs=[.ref p]/\(SqL X.K H p ys\/SqT X.K H p ys)/\Q (.int ys.length) H):=by
 intro pins s σ H xs us Q I r h
 obtain⟨p,ys,rfl,hq,q⟩:=h
 obtain⟨u,rfl,rx⟩:=vals1 r
 cases rx
 have hn:=line63
 rcases hq with hq | hq
 ·obtain⟨its,r',pl,hz⟩:=I.list hq
  have hlen:=r'.length
  exact Calls.call_len_list pl.isList (by simp only[List.size_toArray]<;> omega) ⟨.int ys.length,H,I.tok _,⟨s.toks+1,by rw[List.size_toArray,hlen]⟩,q⟩
 ·obtain⟨its,r',pl,hz⟩:=I.tuple hq
  have hlen:=r'.length
  exact len_tuple pl (by simp only[List.size_toArray]<;> omega) ⟨.int ys.length,H,I.tok _,⟨s.toks+1,by rw[List.size_toArray,hlen]⟩,q⟩
theorem call_len_str:CallR X (.builtin "len") (fun xs H Q=>∃ z,xs=[.str z]/\z.length<=sizeLine/\Q (.int z.length) H):=by
 intro pins s σ H xs us Q I r h
 obtain⟨z,rfl,hz,q⟩:=h
 obtain⟨u,rfl,t,rfl⟩:=vals1 r
 have hn:=line63
 exact len_str (by omega) ⟨.int z.length,H,I.tok _,⟨_,rfl⟩,q⟩
theorem CallR.or {f:Value}{r r':List V->Hp->VK->Prop}(h:CallR X f r)(h':CallR X f r'):CallR X f (fun xs H Q=>r xs H Q\/r' xs H Q):=by
 intro pins s σ H xs us Q I rs q
 rcases q with q | q
 ·exact h pins s σ H xs us Q I rs q
 ·exact h' pins s σ H xs us Q I rs q
theorem call_list_of:CallR X (.type "list") (fun xs H Q=>∃ p ys,xs=[.ref p]/\(SqL X.K H p ys\/SqT X.K H p ys)/\∀ l,H l=none->Q (.ref l) (upd H l (.lst ys))):=by
 intro pins s σ H xs us Q I r h
 obtain⟨p,ys,rfl,hq,q⟩:=h
 obtain⟨u,rfl,rx⟩:=vals1 r
 cases rx
 have fin:∀(its:List Value),Vals ys its->ys.length<=sizeLine->∀(h':Heap) (c':Nat),(∀ b o',s.heap.get? b=some o'->h'.get? b=some o') ->
  h'.get? s.heap.objs.size=some { cls:=.type "list",dict:=none,data:=.seq its.toArray c',slots:=#[]}->EP X pins σ Q (.ref s.heap.objs.size) { s with heap:=h'}:=fun its r' hz h' c' kp e =>
  ⟨.ref s.heap.objs.size,_,I.laid (t':=s.toks) kp (Nat.le_refl _) (show ObjOk X.prog X.w _ h' _ (.lst ys)from⟨hz,its,c',r',e⟩),rfl,q _ (I.hok.fresh (Nat.le_refl _))⟩
 rcases hq with hq | hq
 ·obtain⟨its,r',pl,hz⟩:=I.list hq
  have hlen:=r'.length
  obtain⟨o,ho,hc,n,hd⟩:=pl.isList
  exact call_list_seq p (.inl rfl) ho hc hd (fun h' c' kp e=>fin its r' hz h' c' kp e) (by simp only[List.size_toArray]<;> omega)
 ·obtain⟨its,r',pl,hz⟩:=I.tuple hq
  have hlen:=r'.length
  obtain⟨o,ho,hc,n,hd⟩:=pl
  exact call_list_seq p (.inr rfl) ho hc hd (fun h' c' kp e=>fin its r' hz h' c' kp e) (by simp only[List.size_toArray]<;> omega)
def tyV (K:PySem.W.Frag)(T:String)(x:V)(H:Hp):Prop:=match x with
 | .str _=>T = "str"
 | .int _=>T = "int"
 | .ref p=>(T = "list"/\∃ xs,SqL K H p xs)\/(T = "tuple"/\∃ o,K.lookup p=some o/\o.cls=.type "tuple"/\o.dict=none) \/
  (T = "dict"/\((∃ kvs,H p=some (.dK kvs))\/∃ kvs,H p=some (.dT kvs)))\/(T = "set"/\∃ S n,H p=some (.set S n))
 | _=>False
theorem tyV_is {pins:List (Addr×Obj)}{σ:St}{H:Hp}{s:Shared}{T:String}{x:V}{v:Value}(I:Inv X pins σ H s)(r:RelV x v)(ty:tyV X.K T x H) :
 s.TypeIs v T/\∀ a,v=.ref a->∃ ob,s.heap.get? a=some ob/\ob.dict=none:=by
 cases x with
 | str z =>
  obtain⟨t,rfl⟩:=r
  cases(show T = "str" from ty)
  exact⟨typeIs_str s z t,fun _ e=>nomatch e⟩
 | int i =>
  obtain⟨t,rfl⟩:=r
  cases(show T = "int" from ty)
  exact⟨typeIs_int s i t,fun _ e=>nomatch e⟩
 | ref p =>
  cases r
  rcases ty with⟨rfl,xs,hq⟩ | ⟨rfl,o,hk,hc,hd⟩ | ⟨rfl,hk⟩ | ⟨rfl,S,n,hk⟩
  ·obtain⟨its,_,pl,_⟩:=I.list hq
   refine⟨pl.isList.typeIs,fun a e=>?_⟩
   cases e
   obtain⟨o,n,e,c,hd,_⟩:=pl
   exact⟨o,e,hd⟩
  ·refine⟨⟨o,I.kIn p o hk,hc⟩,fun a e=>?_⟩
   cases e
   exact⟨o,I.kIn _ o hk,hd⟩
  ·have z:∃ o,s.heap.get? p=some o/\o.ExactDict:=by
    rcases hk with⟨kvs,hk⟩ | ⟨kvs,hk⟩
    ·obtain⟨_,_,_,_,o,_,_,e,ex,_⟩:=I.hok p _ hk
     exact⟨o,e,ex⟩
    ·obtain⟨_,_,_,_,o,_,_,e,ex,_⟩:=I.hok p _ hk
     exact⟨o,e,ex⟩
   obtain⟨o,e,ex⟩:=z
   refine⟨⟨o,e,ex.1⟩,fun a e2=>?_⟩
   cases e2
   exact⟨o,e,ex.2.1⟩
  ·obtain⟨o,_,_,_,e,ex,_⟩:=I.hok p _ hk
   refine⟨⟨o,e,ex.1⟩,fun a e2=>?_⟩
   cases e2
   exact⟨o,e,ex.2.1⟩
 | _=>exact False.elim ty
def tBM (K:PySem.W.Frag)(T:String)(r:V->List V->Hp->VK->Prop)(to:TE)(t:TA):TE:=fun σ H Q=>to σ H fun x H1=>tyV K T x H1/\t σ H1 fun xs H2=>r x xs H2 Q
variable {o e:Expr}{es:List Expr}{to:TE}{t:TA}{name:Str}{apos cpos:Pos}{T id:String}{r:V->List V->Hp->VK->Prop}
theorem pe_bm (pa:PlainAttrs T)(slot:Slot T name id)(hty:typeOf (.builtin id)=pure (.type "method_descriptor"))(hm:MtR X id r)(ho:PE X o to)(ha:PA X (e::es) t)
 (hbase:attributeBase o name X.env (eval o X.env)=eval o X.env:=by rfl)
 (hfew:((backTo cpos (starEach (e::es) X.env)).all (fun x=>!x.1)&&(backToKw cpos (keywordEach [] X.env)).all (fun x=>x.1.isSome)
   && decide ((e::es).length+([]:List Keyword).length+(if([]:List Keyword).isEmpty then 0 else 1)<30))=true:=by rfl)
 (hline:(apos.endLine==cpos.line)=true:=by rfl) (hs:starEach (e::es) X.env=(false,eval e X.env)::starEach es X.env:=by rfl) (hplain:(backTo cpos (starEach es X.env)).any (·.1)=false:=by rfl) :
 PE X (.Call (.Attribute o name apos) (e::es) [] cpos) (tBM X.K T r to t):=by
 intro pins s σ H Q I h
 refine wpAny_Call_method_late hbase hfew hline rfl (thn (ho pins s σ H _ I h) fun v s1 hq0=>?_)
 obtain⟨x,H1,I1,r1,ty,q1⟩:=hq0
 obtain⟨h1,h2⟩:=tyV_is I1 r1 ty
 refine⟨T,id,pa,slot,hty,h1,h2,?_⟩
 have hA:=ha cpos pins s1 σ H1 _ I1 q1
 rw[hs]at hA ⊢
 refine Calls.callWith_builtin (by show(false||(backTo cpos (starEach es X.env)).any (·.1))=false;rw[hplain]<;> rfl) (Calls.evalArgs_plain ?_)
 exact thn hA fun us s2 hq1=>by obtain⟨vs,H2,I2,r2,q2⟩:=hq1;exact hm pins s2 σ H2 x vs v us Q I2 r1 r2 q2
end
def MtM (X:Cx)(id:String)(r:V->List V->Hp->VK->Prop):Prop :=
 ∀(pins:List (Addr×Obj)) (s:Shared) (σ:St) (H:Hp) (x:V) (xs:List V) (v:Value) (us:List Value) (Q:VK),Inv X pins σ H s->RelV x v->Vals xs us->r x xs H Q ->
  wpAny (model X.prog X.w) X.A (call (.builtin id) (v::us)) (EP X pins σ Q) X.xe s
theorem Vals.one {x:V}{us:List Value}(h:Vals [x] us):∃ u,us=[u]/\RelV x u:=by
 cases h with
 | cons r t=>cases t;exact⟨_,rfl,r⟩
theorem Vals.two {x y:V}{us:List Value}(h:Vals [x,y] us):∃ u v,us=[u,v]/\RelV x u/\RelV y v:=by
 cases h with
 | cons r t=>obtain⟨v,rfl,q⟩:=Vals.one t;exact⟨_,v,rfl,r,q⟩
section
variable {X:Cx}{pins:List (Addr×Obj)}{σ:St}{H:Hp}{s:Shared}{l b:Addr}{xs ys zs:List V}
theorem Inv.lset {its its':List Value}{n:Nat}{f:Array Value->Array Value}{t':Nat}(I:Inv X pins σ H s)(hH:H l=some (.lst xs))
 (e:s.heap.get? l=some { cls:=.type "list",data:=.seq its.toArray n}) (hf:f its.toArray=its'.toArray) (hv:Vals ys its') (hz:ys.length<=sizeLine) :
 Inv X pins σ (upd H l (.lst ys)) { s with heap:=s.heap.update l (Obj.mapSeq f),toks:=t'}:=by
 have q:=PySem.IsL.update e f
 rw[hf]at q
 refine I.write (x:=l) (e:=l) (by rw[hH];exact trivial) (.inl rfl) (fun b' u hb hu=>(Heap.get?_update_other s.heap (Obj.mapSeq f) (Ne.symm hb)).trans hu) ⟨_,q⟩ ?_
 exact⟨hz,its',_,hv,q⟩
theorem Inv.lnew {its:List Value}{t':Nat}(I:Inv X pins σ H s)(hv:Vals ys its)(hz:ys.length<=sizeLine) :
 Inv X pins σ (upd H s.heap.objs.size (.lst ys)) { s with heap:=s.heap.push { cls:=.type "list",data:=.seq its.toArray},toks:=t'} :=
 I.laid (fun _ _ q=>gxL _ q) (Nat.le_refl _) ⟨hz,its,0,hv,Heap.get?_push_size _ rfl⟩
theorem Inv.fresh (I:Inv X pins σ H s):H s.heap.objs.size=none:=I.hok.fresh (Nat.le_refl _)
theorem Inv.lstM (I:Inv X pins σ H s)(hH:H l=some (.lst xs)):xs.length<=sizeLine/\∃(its:List Value) (n:Nat),Vals xs its/\xs.length=its.length/\s.heap.get? l=some { cls:=.type "list",data:=.seq its.toArray n}:=by
 obtain⟨z,its,n,r,e⟩:=I.hok l _ hH
 exact⟨z,its,n,r,r.length,e⟩
theorem notLongL {n:Nat}(h:n<=sizeLine):Builtin.List.listTooLong n=false:=by
 unfold Builtin.List.listTooLong
 exact decide_eq_false (by omega)
end
section
variable {X:Cx}
def rAppend:V->List V->Hp->VK->Prop:=fun x vs H Q=>∃ l xs y,x=.ref l/\vs=[y]/\H l=some (.lst xs)/\xs.length<sizeLine/\Q .non (upd H l (.lst (xs++[y])))
theorem mt_append:MtM X "list.append" rAppend:=by
 intro pins s σ H x vs v us Q I rx rv h
 obtain⟨l,xs,y,rfl,rfl,hH,hz,q⟩:=h
 cases rx
 obtain⟨u,rfl,ru⟩:=rv.one
 obtain⟨z,its,n,r,hl,e⟩:=I.lstM hH
 refine call_meets F.slot_list_append ⟨_,e,rfl⟩ F.entry_list_append (F.args_list_append_2 _ _) (PySem.list_append l its.toArray n u (by rw[List.size_toArray];omega)) ⟨e,?_⟩
 refine⟨.non,_,I.lset (its':=its++[u]) hH e (by simp) (r.append (.cons ru .nil)) ?_,rfl,q⟩
 rw[gxE,List.length_singleton]
 omega
def rExtend:V->List V->Hp->VK->Prop:=fun x vs H Q=>∃ l b xs zs,x=.ref l/\vs=[.ref b]/\H l=some (.lst xs)/\H b=some (.lst zs)/\xs.length+zs.length<=sizeLine/\Q .non (upd H l (.lst (xs++zs)))
theorem mt_extend:MtM X "list.extend" rExtend:=by
 intro pins s σ H x vs v us Q I rx rv h
 obtain⟨l,b,xs,zs,rfl,rfl,hH,hB,hz,q⟩:=h
 cases rx
 obtain⟨u,rfl,ru⟩:=rv.one
 cases ru
 obtain⟨z,its,n,r,hl,e⟩:=I.lstM hH
 obtain⟨z2,its2,n2,r2,hl2,e2⟩:=I.lstM hB
 have hsz:its.toArray.size+its2.toArray.size<=sizeLine:=by rw[List.size_toArray,List.size_toArray];omega
 have hlong:¬ (!its.toArray.isEmpty&&Builtin.List.listTooLong (its.toArray.size+its2.toArray.size))=true:=by
  rw[notLongL hsz,Bool.and_false]
  exact Bool.false_ne_true
 refine call_meets F.slot_list_extend ⟨_,e,rfl⟩ F.entry_list_extend (F.args_list_extend_2 _ _)
  (AutoSeq1.list_extend_list_list_0 l its.toArray n b its2.toArray n2 hlong (by rw[List.size_toArray];omega) (by omega)) ⟨e,e2,?_⟩
 refine⟨.non,_,I.lset (its':=its++its2) hH e (by simp) (r.append r2) ?_,rfl,q⟩
 rw[gxE]
 omega
def rCat:R2:=fun x y H Q=>∃ l b xs zs,x=.ref l/\y=.ref b/\H l=some (.lst xs)/\H b=some (.lst zs)/\xs.length+zs.length<=sizeLine/\∀ p,H p=none->Q (.ref p) (upd H p (.lst (xs++zs)))
theorem op_cat:OpR X (binaryOp .Add) rCat:=by
 intro pins s σ H x y v u Q I rx ry h
 obtain⟨l,b,xs,zs,rfl,rfl,hH,hB,hz,q⟩:=h
 cases rx
 cases ry
 obtain⟨z,its,n,r,hl,e⟩:=I.lstM hH
 obtain⟨z2,its2,n2,r2,hl2,e2⟩:=I.lstM hB
 refine PySem.P.add_list e e2 ?_ (by rw[List.size_toArray,List.size_toArray];omega)
 have ea:its.toArray++its2.toArray=(its++its2).toArray:=by simp
 rw[ea]
 exact⟨.ref _,_,I.lnew (t':=s.toks) (r.append r2) (by rw[gxE];omega),rfl,q _ I.fresh⟩
end
end L2
namespace Att
open PySem PySem.W PySem.Calls PyProof.Rows
theorem ints_of_wellAll {P:Params}{h:Heap}:∀(ns:List Int) (vs:List Value),WellAll P h vs (ns.map WData.int)->IntsAre vs ns:=by
 intro ns
 induction ns with
 | nil =>
  intro vs w
  rw[List.map_nil]at w
  cases w
  exact .nil
 | cons n ns ih =>
  intro vs w
  rw[List.map_cons]at w
  cases w with
  | cons a b =>
   cases a
   exact .cons _ _ (ih _ b)
theorem script_of {l:OpenLaw}{n:Nat}(hn:l.most=some n){P:Params}{h:Heap}{args:List WData}{vals:List Value}
 (hpre:l.row.toRowW.claim.pre args=true) (hwl:WellAll P h vals args) :
 ∃ a vs ns,vals=[Value.ref a]/\args=[WData.list (ns.map WData.int)]/\h.get? a=some { cls:=.type "list",data:=.seq vs.toArray}/\IntsAre vs ns/\ns.length<=n:=by
 have hsh:WShape.hasAll [] args [.list .int]=true:=(pre_splitW hpre).1
 have hc:l.pre.holds [] { args:=args}=true:=(pre_splitW hpre).2
 obtain⟨d,r,rfl,h1,h2⟩:=hasAllW_cons hsh
 obtain rfl:=hasAllW_nil h2
 obtain⟨xs,rfl,h3⟩:=hasW_list h1
 obtain⟨ns,rfl⟩:=items_int h3
 have hlen:ns.length<=n:=by
  unfold OpenLaw.pre at hc
  have h4:(WTm.not (.lt (.lit (.int (n:Int))) (.len (.arg 0)))).holds [] { args:=[.list (ns.map .int)]}=true:=by
   have h4:=(holds_andW hc).1
   rw[hn]at h4
   exact h4
  have h5:=condW_of h4 (w_not (w_lt w_lit (w_len_list (w_arg rfl))))
  rw[gxC]at h5
  refine Nat.le_of_not_lt fun q=>?_
  have q':(n:Int)<((ns.length:Nat):Int):=by omega
  first
   | (rw[decide_eq_true q']at h5;exact absurd h5 (by decide))
   | (simp at h5;omega)
 cases hwl with
 | cons w1 w2 =>
  cases w2
  cases w1 with
  | list ho hall=>exact⟨_,_,ns,rfl,rfl,ho,ints_of_wellAll ns _ hall,hlen⟩
theorem post_true (l:OpenLaw)(args:List WData):l.row.toRowW.claim.post args (.bool true) args=true :=
 postW_of (r:=l.row.toRowW) (X:=(true==true))
  (show WShape.has [] (.bool true) .bool=true by first | rfl | decide | simp[WShape.has,WShape.arms,WShape.armsAll])
  (show(WTm.eq .res (.lit (.bool true))).value [] { args:=args,res:=some (.bool true),after:=args}=some (.bool (true==true))from w_eq_bool (w_res rfl) w_lit) rfl
theorem attach_call {l:OpenLaw}{n:Nat}{q:Program}{loose:List Str}{XP:(Str->Option Value)->Heap->Prop}{YP:World->Heap->Prop}{d:DefRec}
 (hn:l.most=some n) (hdf:d.params.defaults=[])
 (call:∀(w:World) (s₀ s₁:Shared) (mg mb:Str->Option Value) (fa:Addr) (o:Obj) (pm cd doc:Value) (a:Addr) (vs:List Value) (ns:List Int),
   Ground q loose [] XP w s₀ mg mb s₁.heap->YP w s₁.heap ->
   s₁.heap.get? fa=some o->o.data=.func (docDef d.name d.params d.body d.scope pm cd doc)->s₁.heap.CodeRec cd d.name->mg d.name=some (.ref fa) ->
   s₁.heap.get? a=some { cls:=.type "list",data:=.seq vs.toArray}->IntsAre vs ns->ns.length<=n->s₁.gens=#[] ->
   codeAny (model l.prog w) callerA (.call (.ref fa) ⟨[.ref a],[]⟩) (fun r s'=>r=.ok (.ret (.bool true))/\OldK s₁.heap s'.heap/\s'.os=s₁.os/\AllBare s'.gens) s₁) :
 WalkO q loose XP YP l.row.toRowW d [] (fun f vs=>PySem.call f vs):=by
 intro w s₀ s₁ mg mb G Y fa o pm cd doc dV kV ho hd hcd hD hmg hg args vals as hpre hlay hrd hwl hlo
 obtain rfl:dV=.none:=Dflts.none hD hdf
 obtain rfl:kV=.none:=Dflts.noKw hD
 obtain⟨a,vs,ns,rfl,rfl,hobj,hints,hlen⟩:=script_of hn hpre hwl
 refine enter_call (codeAny_mono (call w s₀ s₁ mg mb fa o pm cd doc a vs ns G Y ho (fd_plain hd) hcd hmg hobj hints hlen hg) fun r s' hq=>?_)
 obtain⟨rfl,h2,h3,h4⟩:=hq
 exact⟨.inl ⟨.bool true,.bool true,[],rfl,fun _=>rfl,.bool true,post_true l _,fun _=>⟨List.Pairwise.nil,fun _ hm=>(nomatch hm)⟩⟩,h2,h3,h4⟩
end Att
namespace L2
open PySem PySem.Spec PyProof.Rows
theorem vals_ints {vs:List Value}{ns:List Int}(h:IntsAre vs ns):Vals (ns.map V.int) vs:=by
 induction h with
 | nil=>exact .nil
 | cons n t h ih=>exact .cons ⟨t,rfl⟩ ih
def Only (H:Hp):Prop:=∀ b,H b=none\/∃ o xs,H b=some (.frz o (.lst xs))
theorem law_call {P:Program}{w:World}{K:PySem.W.Frag}{mg mb:Str->Option Value}{CX:CXT}{k:Nat}{fa a:Addr}{fd:FuncData}{x:Str}{sp:Sp}{s₁:Shared}{vs:List Value}{ns:List Int}
 (KX:K.In s₁.heap) (hns:s₁.heap.Ns mainGlobals mg) (hb:s₁.heap.Ns builtinsNs mb) (hbb:∀ x:Str,x ≠ "__name__"->mb x=bootBuiltins x) (hlim:s₁.heap.NoLimit) (hg:s₁.gens=#[])
 (ha:s₁.heap.get? a=some { cls:=.type "list",data:=.seq vs.toArray}) (hi:IntsAre vs ns) (hl:ns.length<=sizeLine) (hr:Room k callerA)
 (F:∀ base:Heap,K.In base->base.Ns mainGlobals mg->FnOk P w K mg base CX k fa fd [x] sp) (hbind:∀(s:Shared) (u:Value),BindsTo s fd ⟨[u],[]⟩ [(x,u)])
 (hsp:∀ H:Hp,Only H->SqL K H a (ns.map V.int)->sp [.ref a] H (fun v _=>v=.bl true) fun _ _ _=>False)
 (hCX:∀ H e s',CX [] H s₁ (fun _ _ _=>False) e s'->False) :
 codeAny (model P w) callerA (.call (.ref fa) ⟨[.ref a],[]⟩) (fun r s'=>r=.ok (.ret (.bool true))/\OldK s₁.heap s'.heap/\s'.os=s₁.os/\AllBare s'.gens) s₁:=by
 have rv:=vals_ints hi
 have lenV:=hi.length
 have core:∀ H:Hp,Only H->SqL K H a (ns.map V.int)->HOk P w H s₁.heap->(∀ b,H b≠none->b=a)->(H a≠none->K.lookup a=none) ->
  codeAny (model P w) callerA (.call (.ref fa) ⟨[.ref a],[]⟩) (fun r s'=>r=.ok (.ret (.bool true))/\OldK s₁.heap s'.heap/\s'.os=s₁.os/\AllBare s'.gens) s₁:=by
  intro H hO hS hok hA hK
  have base_of:∀ {b:Addr} {o:Obj},s₁.heap.get? b=some o->H b=none->(hidT s₁.heap H).get? b=some o:=fun e n=>hidT_get e n
  have noA:∀ {b:Addr} {o:Obj} {es:Array DictEntry} {ep:Nat},s₁.heap.get? b=some o->o.data=.dict es ep->H b=none:=fun {b o es ep} e d=>by
   cases q:H b with
   | none=>rfl
   | some u =>
    have e':b=a:=hA b (by rw[q];simp)
    subst e'
    rw[ha]at e;cases e
    have d':Data.seq vs.toArray _=Data.dict es ep:=d
    cases d'
  have nsK:∀ {b:Addr} {m:Str->Option Value},s₁.heap.Ns b m->(hidT s₁.heap H).Ns b m:=fun {b m} hq2=>by obtain⟨o,es,ep,e,d,r⟩:=hq2;exact⟨o,es,ep,base_of e (noA e d),d,r⟩
  have hKb:K.In (hidT s₁.heap H):=fun b o e=>base_of (KX b o e) (by
   cases q:H b with
   | none=>rfl
   | some u =>
    have e':b=a:=hA b (by rw[q];simp)
    subst e'
    rw[hK (by rw[q];simp)]at e;cases e)
  have hM:Mod K mg (hidT s₁.heap H):=⟨hKb,nsK hns,⟨mb,nsK hb,hbb⟩,let ⟨mc,h1,h2⟩:=hlim;⟨mc,nsK h1,h2⟩⟩
  have e0:Env0 P w K mg (hidT s₁.heap H) callerA [] s₁ H:=⟨rfl,hM,fun b o e=>of_hidT e,Nat.le_of_eq (hidT_size _ _),trivial,fun b hb=>absurd (show b∈([]:List Addr)from hb) (by simp),hok,.of_eq hg⟩
  refine codeAny_mono ((F _ hKb (nsK hns)).run callerA [] s₁ H ⟨[.ref a],[]⟩ [.ref a] [.ref a] _ _ hr e0 (hbind s₁ (.ref a)) (.cons rfl .nil) (hsp H hO hS)) fun r s' h=>?_
  cases r with
  | error e=>exact(hCX H e s' h).elim
  | ok fl =>
   cases fl with
   | next=>exact False.elim h
   | brk=>exact False.elim h
   | cont=>exact False.elim h
   | ret u =>
    obtain⟨v,H',os,bare,un,hok',r',q⟩:=h
    have q':v=.bl true:=q
    subst q'
    obtain rfl:u=Value.bool true:=r'
    refine⟨rfl,OldK.of_keep fun b o e=>?_,os,bare⟩
    cases q:H b with
    | none=>exact un.keep b o e q (by intro z;exact absurd (show b∈([]:List Addr)from z) (by simp)) (by simp)
    | some u =>
     rcases hO b with z | ⟨ob,xs,z⟩
     ·rw[q]at z;cases z
     ·have z2:=un.frzs b ob _ z
      obtain⟨e1,_⟩:=hok b _ z
      obtain⟨e2,_⟩:=hok' b _ z2
      rw[e]at e1;cases e1
      exact e2
 cases hk:K.lookup a with
 | some o =>
  have e:=KX a o hk
  rw[ha]at e
  cases e
  refine core (fun _=>none) (fun _=>.inl rfl) (.inr ⟨_,vs.toArray,_,hk,rfl,rfl,rfl,by rw[List.size_toArray,lenV];exact hl,by simpa using rv⟩) (fun b u z=>by have z':(none:Option HO)=some u:=z;cases z') (fun b z=>absurd rfl z) fun z=>absurd rfl z
 | none =>
  refine core (fun b=>if b=a then some (.frz { cls:=.type "list",data:=.seq vs.toArray} (.lst (ns.map V.int)))else none) (fun b=>?_) (.inl (.inr ⟨{ cls:=.type "list",data:=.seq vs.toArray},if_pos rfl⟩)) (fun b u z=>?_) (fun b z=>?_) fun _=>hk
  ·by_cases hb:b=a
   ·exact .inr ⟨_,_,if_pos hb⟩
   ·exact .inl (if_neg hb)
  ·by_cases hb:b=a
   ·have z':=(if_pos hb).symm.trans z
    cases z'
    subst hb
    exact⟨ha,by rw[gxC];exact hl,vs,_,rv,ha⟩
   ·have z':=(if_neg hb).symm.trans z
    cases z'
  ·by_cases hb:b=a
   ·exact hb
   ·exact absurd (if_neg hb) z
theorem walk_of {l:PySem.W.OpenLaw}{n k:Nat}{q:Program}{loose:List Str}{XP:(Str->Option Value)->Heap->Prop}{YP:World->Heap->Prop}{d:DefRec}{K:Params->PySem.W.Frag}{CX:World->CXT}{sp:World->Sp}{x:Str}
 (hn:l.most=some n) (hn2:n<=sizeLine) (hdf:d.params.defaults=[]) (hr:Room k callerA)
 (hY:∀(w:World) (h:Heap),YP w h->(K w.params).In h)
 (F:∀(w:World) (mg:Str->Option Value) (fa:Addr) (h:Heap),(K w.params).In h->h.Ns mainGlobals mg->mg d.name=some (.ref fa) ->
   ∃ fd:FuncData,(∀(s:Shared) (u:Value),BindsTo s fd ⟨[u],[]⟩ [(x,u)]) /\
    ∀ base:Heap,(K w.params).In base->base.Ns mainGlobals mg->FnOk l.prog w (K w.params) mg base (CX w) k fa fd [x] (sp w))
 (hsp:∀(w:World) (H:Hp) (a:Addr) (ns:List Int),ns.length<=n->Only H->SqL (K w.params) H a (ns.map V.int)->sp w [.ref a] H (fun v _=>v=.bl true) fun _ _ _=>False)
 (hCX:∀(w:World) (H:Hp) (s:Shared) (e:Value) (s':Shared),CX w [] H s (fun _ _ _=>False) e s'->False) :
 PySem.W.WalkO q loose XP YP l.row.toRowW d [] (fun f vs=>PySem.call f vs):=by
 refine Att.attach_call hn hdf fun w s₀ s₁ mg mb fa o pm cd doc a vs ns G Y ho hd hcd hmg hobj hints hlen hg=>?_
 have KX:=hY w _ Y
 obtain⟨fd,hb,hF⟩:=F w mg fa _ KX G.T.g hmg
 exact law_call KX G.T.g G.T.b G.T.builtins G.T.nolimit hg hobj hints (Nat.le_trans hlen hn2) hr hF hb (fun H hO hS=>hsp w H a ns hlen hO hS) fun H e s'=>hCX w H s₁ e s'
def defArgs (s:Stmt):Arguments:=match s with
 | .FunctionDef _ a _ _ _ _ _ _ _ _=>a
 | _=>{ posonlyargs:=[],args:=[],vararg:=none,kwonlyargs:=[],kw_defaults:=[],kwarg:=none,defaults:=[]}
def defBody (s:Stmt):List Stmt:=match s with
 | .FunctionDef _ _ b _ _ _ _ _ _ _=>b
 | _=>[]
def defScope (s:Stmt):Scope:=match s with
 | .FunctionDef _ _ _ _ _ _ sc _ _ _=>sc
 | _=>{ kind:=.function,names:=[],isGenerator:=false,isCoroutine:=false}
abbrev CX0:CXT:=fun _ _ _ _ _ _=>False
abbrev E0:XK:=fun _ _ _=>False
theorem pass0 {X:Cx}:Passes CX0 X E0:=fun _ _ _ _ _ _ _ h=>h.elim
structure Fun (K:PySem.W.Frag)(x qual:Str)(st:Stmt)(f:Addr)(fd:FuncData):Prop where
 ex:∃(oc:Value) (od:Option Addr) (kV doc pm:Value) (an:Option Addr) (cdv ct:Value) (osl:Array (Option Value)),
  fd=PySem.W.fnOf x qual (defArgs st) (defBody st) (defScope st) .none kV doc pm an cdv ct/\K.lookup f=some ⟨oc,od,.func fd,osl⟩/\PySem.W.codeIn K cdv qual=true
 kp:PySem.W.keepIn K (.ref f)=true
section
variable {P:Program}{w:World}{K:PySem.W.Frag}{mg:Str->Option Value}{base:Heap}
theorem Fun.ok {x qual:Str}{st:Stmt}{f:Addr}{fd:FuncData}{N ps:List Str}{k:Nat}{sp:Sp}(F:Fun K x qual st f fd)(S:FnScope N ps (defScope st))(len:∀ vs H Q E,sp vs H Q E->vs.length=ps.length)
 (hbody:∀(cdv:Value) (A:Around) (outer:List Env) (s:Shared) (H:Hp) (vs:List V) (Q:VK) (E:XK),Room k (A.deeper (envOfC qual (defScope st) s.heap.objs.size f cdv))->sp vs H Q E ->
   ∃ t,PSs (cxOf CX0 P w K mg base N qual (defScope st) f cdv A outer s H E).nox (defBody st) t/\t { nx:=fun _ H'=>Q .non H',rt:=Q} (start N vs) H):FnOk P w K mg base CX0 (k+1) f fd ps sp:=by
 obtain⟨oc,od,kV,doc,pm,an,cdv,ct,osl,rfl,lk,hcd⟩:=F.ex
 refine fn_of lk hcd S len fun A outer s H vs Q E hr hsp=>?_
 obtain⟨t,h,q⟩:=hbody cdv A outer s H vs Q E hr hsp
 exact⟨t,h.nox,q⟩
theorem Fun.binds {x qual:Str}{st:Stmt}{f:Addr}{fd:FuncData}{ps:List Str}(F:Fun K x qual st f fd)
 (h:∀(kV doc pm:Value) (an:Option Addr) (cdv ct:Value) (us:List Value),us.length=ps.length->bindArgs (PySem.W.fnOf x qual (defArgs st) (defBody st) (defScope st) .none kV doc pm an cdv ct) ⟨us,[]⟩=pure (ps.zip us)):Binds K fd ps []:=by
 obtain⟨oc,od,kV,doc,pm,an,cdv,ct,osl,rfl,lk,hcd⟩:=F.ex
 exact .all (h kV doc pm an cdv ct)
theorem fun_mk {x qual:Str}{st:Stmt}{f:Addr}{oc:Value}{od an:Option Addr}{osl:Array (Option Value)}{kV doc pm cdv ct:Value}(l:K.lookup f=some ⟨oc,od,.func (PySem.W.fnOf x qual (defArgs st) (defBody st) (defScope st) .none kV doc pm an cdv ct),osl⟩)
 (c:PySem.W.codeIn K cdv qual=true) (k:PySem.W.keepIn K (.ref f)=true):Fun K x qual st f (PySem.W.fnOf x qual (defArgs st) (defBody st) (defScope st) .none kV doc pm an cdv ct):=⟨⟨oc,od,kV,doc,pm,an,cdv,ct,osl,rfl,l,c⟩,k⟩
end
theorem hu_of {A:Around}{k:Nat}(hr:Room k A):A.units+1<cLine:=Nat.lt_of_le_of_lt (Nat.add_le_add_left (by decide:1<=64) _) hr.units
theorem iteF {A B:Prop}(h:B):if false=true then A else B:=by
 rw[if_neg Bool.false_ne_true]
 exact h
theorem iteT {A B:Prop}(h:A):if true=true then A else B:=by
 rw[if_pos rfl]
 exact h
def Same (H H':Hp):Prop:=∀ b o,H b=some o->H' b=some o
theorem Same.refl (H:Hp):Same H H:=fun _ _ h=>h
theorem Same.trans {H H1 H2:Hp}(a:Same H H1)(b:Same H1 H2):Same H H2:=fun c o h=>b c o (a c o h)
theorem Same.free {H H':Hp}(e:Same H H'){l:Addr}(h:H' l=Option.none):H l=Option.none:=by
 cases q:H l with
 | none=>rfl
 | some o =>
  rw[e l o q]at h
  cases h
end L2
namespace L2
open PySem PySem.W PyProof.Rows
noncomputable abbrev twRun:=Fast.tw14082659384304107361
noncomputable abbrev twTab:=Fast.tw14364793385576792824
noncomputable abbrev twSeen:=Fast.tw4187177175401517315
noncomputable abbrev S00 (w:World)(os:OsState):Shared:=⟨boot_heap w.params,#[],boot_drawn,boot_toks,os⟩
theorem boot_size (P:Params):((boot_heap P).isNs mainGlobals,(boot_heap P).objs.size,(boot_heap P).nsMap mainGlobals "__annotations__")=(true,11,some (.ref 6)):=by kernel_rfl
theorem left_of {p q:Program}{loose:List Str}{Xt:Shared->Bool}{α:Type}{Yf:Shared->α}{Ya:World->α}{N M:Nat}
 (e:opening p=plainProg p.main.scope.names) (hN:Nat.ble 600 N=true) (f:∀ s,fenceModules? p s=some s) (le:Nat.ble M N=true)
 (h:∀(w:World) (os:OsState),(twRun twTab p w 11 (some (.ref 6)) M (S00 w os) (topStub p)).map (fun s =>
   (staticsOk (importedModules p.main.body) (boot_heap w.params) s.heap&&namesBound p s.heap&&gensDone s&&laidKept (boot_heap w.params) s.heap,twSeen q loose (importedModules p.main.body) Xt true s,Yf s))=some (true,openGood q loose,Ya w)) :
 LeftO p q loose Xt Yf Ya N:=fun w=>by
 obtain⟨⟨h0,gs,d,k,os⟩,e1,e2⟩:=Option.map_eq_some_iff.mp (boot_open e hN f w)
 obtain⟨rfl,rfl,rfl,rfl⟩:h0=boot_heap w.params/\gs=#[]/\d=boot_drawn/\k=boot_toks:=by simpa using e2
 have b:=boot_size w.params
 simp only[Prod.mk.injEq]at b
 obtain⟨s1,r,e3⟩:=Option.map_eq_some_iff.mp (h w os)
 simp only[Prod.mk.injEq]at e3
 have r':topRun treeTable p w 11 (some (.ref 6)) M (S00 w os) (topStub p)=some s1:=by
  rw[show topRun=twRun from Fast.te14082659384304107361,show treeTable=twTab from Fast.te14364793385576792824];exact r
 have r2:=topRun_mono (N - M) _ _ _ _ r'
 rw[show M+(N - M)=N by have:=Nat.le_of_ble_eq_true le;omega]at r2
 have t:topFrom treeTable p w N ⟨boot_heap w.params,#[],boot_drawn,boot_toks,os⟩=some s1:=by
  unfold topFrom
  dsimp only
  rw[b.1,b.2.1,b.2.2,r2]
  show(match staticsOk (importedModules p.main.body) (boot_heap w.params) s1.heap&&namesBound p s1.heap&&gensDone s1&&laidKept (boot_heap w.params) s1.heap with | true=>_ | false=>_)=_
  rw[e3.1]
 unfold openEnds
 rw[e1]
 show(topFrom treeTable p w N _).map _=_
 rw[t]
 refine congrArg some (Prod.ext ?_ e3.2.2)
 rw[<- e3.2.1]
 exact congrFun (congrFun (congrFun (congrFun (congrFun (congrFun Fast.te4187177175401517315 q) loose) (importedModules p.main.body)) Xt) true) s1
def enP (P:Params)(x:Str)(t:Nat)(v:Value):DictEntry:=⟨PyData.keyHash P x,.str x t,v⟩
def mainO (P:Params)(nm:Str)(t:Nat)(es:List (Str×Nat×Value)):Obj:=⟨.type "dict",none,.dict ((([("__name__",165,.str nm t),("__doc__",166,.none),("__package__",167,.none),("__loader__",168,.builtin "__main__.__loader__#opaque"),("__spec__",169,.none),("__annotations__",170,.ref 6),("__builtins__",171,.ref 4),("__file__",173,.str "/claim/cut.py" 172),("__cached__",174,.none)]:List (Str×Nat×Value))++es).map fun e=>enP P e.1 e.2.1 e.2.2).toArray (es.length+9),#[]⟩
abbrev sS (x:String):Str:=Str.ofString x
abbrev me (x:String)(t:Nat)(v:Value):Str×Nat×Value:=(Str.ofString x,t,v)
abbrev ko (a:Addr)(o:Obj):Addr×Obj:=(a,o)
abbrev sr (a:Addr):Option (Option Value):=some (some (.ref a))
def fnQ (x q:Str)(s:Stmt)(pm:Value)(c:Addr):Obj:=⟨.type "function",none,.func (fnOf x q (defArgs s) (defBody s) (defScope s) .none .none .none pm none (.ref c) .none),#[]⟩
def coQ (x q:Str)(t l a r1 r2:Nat)(v1 v2:Value)(r3 t2:Nat):Obj:=⟨.type "code",none,.fields #[.str x t,.str q (t+1),.str "/claim/cut.py" (t+2),.int l 0,.int a 0,.int 0 0,.int 0 0,.int 3 0,.ref r1,.bool true,.int 181 0,.ref r2,.none,v1,v2,.ref r3,.int t2 0,.int l 0,.str "/claim/cut.py" (t2+1)],#[]⟩
theorem fun_of {K:Frag}{x q:Str}{s:Stmt}{f c:Addr}{pm:Value}(l:K.lookup f=some (fnQ x q s pm c):=by kernel_rfl)(c':codeIn K (.ref c) q=true:=by kernel_rfl)(k:keepIn K (.ref f)=true:=by kernel_rfl):Fun K x q s f (fnOf x q (defArgs s) (defBody s) (defScope s) .none .none .none pm none (.ref c) .none):=fun_mk l c' k
theorem bn1 {α:Type}{P:List α->Prop}(h:∀ a,P [a])(us:List α)(e:us.length=1):P us:=by
 obtain⟨a,rfl⟩:=List.length_eq_one_iff.mp e
 exact h a
theorem bnS {α:Type}{P:List α->Prop}{n:Nat}(h:∀ a us,us.length=n->P (a::us))(us:List α)(e:us.length=n+1):P us:=by
 cases us with
 | nil=>cases e
 | cons a us=>exact h a us (Nat.succ.inj e)
def clsBody (s:Stmt):List Stmt:=match s with
 | .ClassDef _ _ _ b _ _ _ _ _ _ _=>b
 | _=>[]
def defPos (s:Stmt):Pos:=match s with
 | .FunctionDef _ _ _ _ _ _ _ _ _ p=>p
 | _=>⟨0,0,0,0⟩
end L2
namespace L2
open PySem PySem.Spec PyProof.Rows
def closOf (cells:List (Str×Addr)):List (Str×NameKind)->List (Str×Addr)->List (Str×Addr)
 | [],acc=>acc
 | (n,k)::r,acc=>if k==.free then closOf cells r ((n,(cells.lookup n).getD 0)::acc)else closOf cells r acc
theorem closOf_run {env:Env}(f:Str×NameKind->List (Str×Addr)->Sem (ForInStep (List (Str×Addr))))
 (hf:∀ n k cs,f (n,k) cs=if k==.free then(do let a <- cellOf env n;pure (.yield ((n,a)::cs)))else pure (.yield cs)) :
 ∀(names:List (Str×NameKind)) (acc:List (Str×Addr)),(∀ y∈names,y.2=.free->∃ c,env.cells.lookup y.1=some c) ->
  forIn names acc f=pure (closOf env.cells names acc)
 | [],acc,_=>by rw[List.forIn_nil];rfl
 | (n,k)::r,acc,h=>by
  rw[List.forIn_cons,hf]
  unfold closOf
  have hr:∀ y∈r,y.2=.free->∃ c,env.cells.lookup y.1=some c:=fun y hy=>h y (gxI _ hy)
  by_cases hk:(k==NameKind.free)=true
  ·rw[if_pos hk,if_pos hk]
   obtain⟨c,hc⟩:=h (n,k) List.mem_cons_self (by simpa using hk)
   have hc':env.cells.lookup n=some c:=hc
   have e:cellOf env n=pure c:=by unfold cellOf;rw[hc']
   rw[e,hc',pure_bind,pure_bind]
   exact closOf_run f hf r _ hr
  ·rw[if_neg hk,if_neg hk,pure_bind]
   exact closOf_run f hf r _ hr
theorem closureFor_eq {scope:Scope}{env:Env}(h:∀ y∈scope.names,y.2=.free->∃ c,env.cells.lookup y.1=some c):closureFor scope env=pure (closOf env.cells scope.names []):=by
 simp only[closureFor]
 rw[closOf_run (env:=env) _ (fun n k cs=>by
  by_cases hk:(k==NameKind.free)=true
  ·simp only[hk,if_true]
  ·simp only[Bool.not_eq_true]at hk;simp only[hk,Bool.false_eq_true,if_false]) scope.names [] h]
 rfl
theorem closOf_mem {cells:List (Str×Addr)}:∀ {names:List (Str×NameKind)} {acc:List (Str×Addr)},(∀ y∈names,y.2=.free->∃ c,cells.lookup y.1=some c) ->
 ∀ n c,(n,c)∈closOf cells names acc->(n,c)∈acc\/cells.lookup n=some c
 | [],acc,_,n,c,h=>.inl h
 | (m,k)::r,acc,hf,n,c,h=>by
  unfold closOf at h
  have hr:∀ y∈r,y.2=.free->∃ c,cells.lookup y.1=some c:=fun y hy=>hf y (gxI _ hy)
  split at h
  ·rename_i hk
   rcases closOf_mem hr n c h with h | h
   ·rcases List.mem_cons.mp h with e | h
    ·cases e
     obtain⟨c,hc⟩:=hf (m,k) List.mem_cons_self (by simpa using hk)
     have hc':cells.lookup m=some c:=hc
     exact .inr (by rw[hc'];rfl)
    ·exact .inl h
   ·exact .inr h
  ·exact closOf_mem hr n c h
theorem closOf_acc {cells:List (Str×Addr)}:∀(names:List (Str×NameKind)) (acc:List (Str×Addr)) (n:Str),(acc.lookup n).isSome=true->((closOf cells names acc).lookup n).isSome=true
 | [],acc,n,h=>h
 | (m,k)::r,acc,n,h=>by
  unfold closOf
  split
  ·refine closOf_acc r _ n ?_
   rw[List.lookup_cons]
   cases n==m
   ·exact h
   ·rfl
  ·exact closOf_acc r _ n h
theorem closOf_has {cells:List (Str×Addr)}:∀(names:List (Str×NameKind)) (acc:List (Str×Addr)) (n:Str),(n,NameKind.free)∈names->((closOf cells names acc).lookup n).isSome=true
 | (m,k)::r,acc,n,h=>by
  unfold closOf
  rcases List.mem_cons.mp h with e | h
  ·cases e
   refine closOf_acc r _ m ?_
   simp
  ·split
   ·exact closOf_has r _ n h
   ·exact closOf_has r _ n h
theorem cellsFrom_app:∀(names:List (Str×NameKind)) (n:Nat) (a b:List (Str×Addr)),cellsFrom n names (a++b)=cellsFrom n names a++b
 | [],_,_,_=>rfl
 | (m,k)::r,n,a,b=>by
  unfold cellsFrom
  split
  ·exact cellsFrom_app r (n+1) ((m,n)::a) b
  ·exact cellsFrom_app r n a b
theorem newEnv_comp {M:Model}{A:Around}{E:Value->Shared->Prop}{s:Shared}{scope:Scope}{cl:List (Str×Addr)}{env:Env}{Q:Env->Shared->Prop}
 (h:Q (newEnv scope s.heap.objs.size env.globals (cellsFrom (s.heap.objs.size+1) scope.names cl) env.qual none .none (some env) builtinsNs) { s with heap:=pushCells (s.heap.push { cls:=.type "dict",data:=.dict #[]}) scope.names}) :
 wpAny M A (newFunctionEnv scope env.globals cl [] env.qual none .none (some env)) Q E s:=by
 simp only[newFunctionEnv,Option.isSome_some,if_true]
 refine gxM (wpAny_alloc ?_)
 refine gxM (wpAny_layCells _ (fun name kind cells=>by cases hkc:kind==NameKind.cell <;> simp[hkc]) _ _ _ _ ?_)
 rw[show({ s with heap:=s.heap.push { cls:=.type "dict",data:=.dict #[]}}:Shared).heap.objs.size=s.heap.objs.size+1 from Heap.size_push ..]
 rw[List.forIn_nil]
 exact gxM (wpAny_pure (wpAny_pure h))
def startC (js:List (Option Nat))(σ:St):St:=js.map fun o=>o.bind fun j=>(σ[j]?).join
def compChk (XN:List Str)(xsc:Scope)(N:List Str)(js:List (Option Nat))(sc:Scope):Bool :=
 (sc.kind==.function)&&(sc.names.all fun y=>(y.2 != .local)||(sc.names.lookup y.1==some .local)) &&
 (sc.names.all fun y=>(y.2 != .free)||(xsc.names.lookup y.1==some .cell)||(xsc.names.lookup y.1==some .free)) &&
 (js.length==N.length)&&decide N.Nodup &&
 ((N.zip js).all fun p=>match p.2 with
   | none=>true
   | some j=>XN[j]?==some p.1&&sc.names.contains (p.1,NameKind.free)&&sc.names.lookup p.1==some .free&&!(sc.names.contains (p.1,NameKind.cell)))
structure CompOk (X:Cx)(N:List Str)(js:List (Option Nat))(sc:Scope):Prop where
 kind:sc.kind=.function
 loc:∀ y∈sc.names,y.2=.local->sc.names.lookup y.1=some .local
 free:∀ y∈sc.names,y.2=.free->X.env.kindOf y.1=some .cell\/X.env.kindOf y.1=some .free
 len:js.length=N.length
 nd:N.Nodup
 slot:∀(i:Nat) (x:Str) (j:Nat),N[i]?=some x->js[i]?=some (some j)->X.N[j]?=some x/\(x,NameKind.free)∈sc.names/\sc.names.lookup x=some .free/\(x,NameKind.cell)∉sc.names
theorem compOk {X:Cx}{XN:List Str}{xsc:Scope}{N:List Str}{js:List (Option Nat)}{sc:Scope}(h:compChk XN xsc N js sc=true)(hN:X.N=XN:=by rfl)(hs:X.env.scope=xsc:=by rfl):CompOk X N js sc:=by
 subst hN;subst hs
 unfold compChk at h
 simp only[Bool.and_eq_true,List.all_eq_true,Bool.or_eq_true,bne_iff_ne,beq_iff_eq,decide_eq_true_eq]at h
 obtain⟨⟨⟨⟨⟨h1,h2⟩,h3⟩,h4⟩,h5⟩,h6⟩:=h
 refine⟨h1,fun y hy e=>(h2 y hy).resolve_left fun z=>z e,fun y hy e=>?_,h4,h5,fun i x j e1 e2=>?_⟩
 ·rcases h3 y hy with(z | z) | z
  ·exact absurd e z
  ·exact .inl z
  ·exact .inr z
 ·have hm:(x,some j)∈N.zip js:=List.mem_iff_getElem?.mpr ⟨i,by rw[List.getElem?_zip_eq_some];exact⟨e1,e2⟩⟩
  have q:=h6 _ hm
  simp only[Bool.and_eq_true,beq_iff_eq,List.contains_iff_mem,Bool.not_eq_true',List.contains_eq_mem,decide_eq_true_eq,decide_eq_false_iff_not]at q
  exact⟨q.1.1.1,q.1.1.2,q.1.2,q.2⟩
theorem cellsFrom_mem:∀(names:List (Str×NameKind)) (n:Nat) (acc:List (Str×Addr)) (x:Str) (c:Addr),(x,c)∈cellsFrom n names acc->(x,NameKind.cell)∈names\/(x,c)∈acc
 | [],_,_,_,_,h=>.inr h
 | (m,k)::r,n,acc,x,c,h=>by
  unfold cellsFrom at h
  split at h
  ·rename_i hk
   rcases cellsFrom_mem r _ _ x c h with h | h
   ·exact .inl (gxI _ h)
   ·rcases List.mem_cons.mp h with e | h
    ·cases e
     have hk':k=NameKind.cell:=by simpa using hk
     exact .inl (by rw[hk'];exact List.mem_cons_self)
    ·exact .inr h
  ·rcases cellsFrom_mem r _ _ x c h with h | h
   ·exact .inl (gxI _ h)
   ·exact .inr h
theorem lookup_mapk {α β:Type}(g:Str->α->β):∀(l:List (Str×α)) (x:Str),(l.map fun p=>(p.1,g p.1 p.2)).lookup x=(l.lookup x).map (g x)
 | [],_=>rfl
 | (n,k)::r,x=>by
  rw[List.map_cons,List.lookup_cons,List.lookup_cons]
  cases hb:x==n with
  | true=>rw[beq_iff_eq.mp hb];rfl
  | false=>exact lookup_mapk g r x
def relK (env:Env)(x:Str)(k:NameKind):NameKind:=if(k==.free&&env.scope.kind==.function&&env.kindOf x==some .cell)then .cell else k
theorem lookup_relabel {sc:Scope}{env:Env}{x:Str}:(relabel sc env).names.lookup x=(sc.names.lookup x).map (relK env x):=by
 rw[<- lookup_mapk]
 unfold relabel
 congr 1
 refine List.map_congr_left fun p _=>?_
 obtain⟨n,k⟩:=p
 show(if _ then _ else _)=(n,relK env n k)
 unfold relK
 split <;> rfl
theorem relK_vis {env:Env}{x:Str}{k:NameKind}(h:relK env x k=.cell\/relK env x k=.free):k=.cell\/k=.free:=by
 unfold relK at h
 split at h
 ·rename_i q
  simp only[Bool.and_eq_true,beq_iff_eq]at q
  exact .inr q.1.1
 ·exact h
theorem relK_free {env:Env}{x:Str}:relK env x .free=.cell\/relK env x .free=.free:=by
 unfold relK
 split
 ·exact .inl rfl
 ·exact .inr rfl
def envC (sc:Scope)(C:Addr)(env:Env):Env where
 scope:=relabel sc env
 locals:=C
 globals:=env.globals
 cells:=cellsFrom (C+1) sc.names (closOf env.cells sc.names [])
 qual:=env.qual
 func:=none
 code:=env.code
 frame:=env.frame
 builtins:=env.builtins
def cxC (X:Cx)(N:List Str)(sc:Scope)(fp:List Addr)(s:Shared)(H:Hp):Cx where
 prog:=X.prog
 w:=X.w
 K:=X.K
 mg:=X.mg
 base:=X.base
 A:=X.A
 N:=N
 s₀:=s
 H₀:=H
 env:=envC sc (s.heap.objs.size+1) X.env
 outer:=X.stack
 stack:=X.stack
 ex:=fp
 fn:=fun x=>sc.names.lookup x==some .cell
 calm:=X.calm
 pn:=[]
 xe:=fun _ _=>False
def heapC (sc:Scope)(h:Heap):Heap:=pushCells ((h.push { cls:=.type "list",dict:=none,data:=.seq ([]:List Value).toArray}).push { cls:=.type "dict",data:=.dict #[]}) sc.names
theorem heapC_keeps {sc:Scope}{h:Heap}:∀ b o,h.get? b=some o->(heapC sc h).get? b=some o:=fun b o e=>pushCells_keeps _ _ b o (gxL _ (gxL _ e))
theorem heapC_acc {sc:Scope}{h:Heap}:(heapC sc h).get? h.objs.size=some { cls:=.type "list",dict:=none,data:=.seq ([]:List Value).toArray} :=
 pushCells_keeps _ _ _ _ (gxL _ (Heap.get?_push_size _ rfl))
theorem getStart {js:List (Option Nat)}{σ:St}{i:Nat}{v:V}(h:(startC js σ)[i]?=some (some v)):∃ j,js[i]?=some (some j)/\σ[j]?=some (some v):=by
 unfold startC at h
 rw[gxH]at h
 cases e:js[i]? with
 | none=>rw[e]at h;cases h
 | some o =>
  rw[e]at h
  cases o with
  | none=>cases h
  | some j =>
   refine⟨j,rfl,?_⟩
   have h':(σ[j]?).join=some v:=Option.some.inj h
   cases q:σ[j]? with
   | none=>rw[q]at h';cases h'
   | some z=>rw[q]at h';have:z=some v:=h';rw[this]
section
variable {X:Cx}{pins:List (Addr×Obj)}{σ:St}{H:Hp}{s:Shared}{N:List Str}{js:List (Option Nat)}{sc:Scope}{fp:List Addr}
theorem inv_comp (I:Inv X pins σ H s)(hc:CompOk X N js sc)(hf:∀ b∈fp,FpOk X pins H b)(ho:∀ b∈fp,∃ o,s.heap.get? b=some o)(tk:Nat) :
 Inv (cxC X N sc fp s H) [] (startC js σ) H { s with heap:=heapC sc s.heap,toks:=tk}:=by
 have hC:(s.heap.push { cls:=.type "list",dict:=none,data:=.seq ([]:List Value).toArray}).objs.size=s.heap.objs.size+1:=Heap.size_push ..
 have freeX:∀ y∈sc.names,y.2=.free->∃ c,X.env.cells.lookup y.1=some c:=fun y hy e=>I.ok.has y.1 (hc.free y hy e)
 have ok:=cellsFrom_ok sc.names ((s.heap.push { cls:=.type "list",dict:=none,data:=.seq ([]:List Value).toArray}).push { cls:=.type "dict",data:=.dict #[]}) (s.heap.objs.size+1+1) [] ⟨fun _ _ hm=>(nomatch hm),List.Pairwise.nil⟩
  (by rw[Heap.size_push,hC];exact Nat.le_refl _)
 rw[Heap.size_push,hC]at ok
 have eC:(envC sc (s.heap.objs.size+1) X.env).cells=cellsFrom (s.heap.objs.size+1+1) sc.names []++closOf X.env.cells sc.names []:=cellsFrom_app sc.names _ [] _
 have lk:∀ x c,(envC sc (s.heap.objs.size+1) X.env).cells.lookup x=some c->(x,c)∈cellsFrom (s.heap.objs.size+1+1) sc.names []\/X.env.cells.lookup x=some c:=fun x c e=>by
  rw[eC]at e
  rcases List.mem_append.mp (mem_of_lookup e)with h | h
  ·exact .inl h
  ·rcases closOf_mem freeX x c h with h | h
   ·cases h
   ·exact .inr h
 have big:∀(x:Str) (c:Nat),(x,c)∈cellsFrom (s.heap.objs.size+1+1) sc.names []->s.heap.objs.size+1+1<=c:=fun x c h=>(ok.empty x c h).2
 have small:∀(x:Str) (c:Nat),X.env.cells.lookup x=some c->c<s.heap.objs.size:=fun x c h=>let ⟨_,q⟩:=I.cell x c h;q.lt
 have has:∀ x,((envC sc (s.heap.objs.size+1) X.env).kindOf x=some .cell\/(envC sc (s.heap.objs.size+1) X.env).kindOf x=some .free)->∃ c,(envC sc (s.heap.objs.size+1) X.env).cells.lookup x=some c:=fun x h=>by
  have h':(relabel sc X.env).names.lookup x=some .cell\/(relabel sc X.env).names.lookup x=some .free:=h
  rw[lookup_relabel]at h'
  rw[eC,List.lookup_append]
  cases q:sc.names.lookup x with
  | none=>rw[q]at h';rcases h' with h' | h' <;> cases h'
  | some k =>
   rw[q]at h'
   have hk:=relK_vis (env:=X.env) (x:=x) (k:=k) (h'.elim (fun z=>.inl (Option.some.inj z)) fun z=>.inr (Option.some.inj z))
   rcases hk with rfl | rfl
   ·obtain⟨c,hc'⟩:=cell_has (n:=s.heap.objs.size+1+1) q
    exact⟨c,by rw[hc'];rfl⟩
   ·have z:=closOf_has (cells:=X.env.cells) sc.names [] x (mem_of_lookup q)
    obtain⟨c,hc'⟩:=Option.isSome_iff_exists.mp z
    cases q2:(cellsFrom (s.heap.objs.size+1+1) sc.names []).lookup x with
    | none=>exact⟨c,by rw[hc'];rfl⟩
    | some d=>exact⟨d,rfl⟩
 have okY:(cxC X N sc fp s H).Ok:=by
  refine⟨I.ok.mod,hc.kind,I.ok.glob,I.ok.blt,Nat.le_succ _,fun x y c h1 h2=>?_,has,fun x c hx h=>?_,I.ok.hd,I.ok.frames,.inl rfl,fun b hb=>⟨?_,fun x c h=>?_⟩,I.bs,Nat.le_trans I.ok.bsz I.sz,fun b o e hb=>?_,fun b hb hs=>?_,I.stack,I.stkFree⟩
  ·rcases lk x c h1 with g1 | g1 <;> rcases lk y c h2 with g2 | g2
   ·exact name_of_addr ok.apart g1 g2
   ·exact absurd (Nat.lt_of_lt_of_le (small _ _ g2) (Nat.le_trans (Nat.le_add_right _ 2) (big _ _ g1))) (Nat.lt_irrefl _)
   ·exact absurd (Nat.lt_of_lt_of_le (small _ _ g1) (Nat.le_trans (Nat.le_add_right _ 2) (big _ _ g2))) (Nat.lt_irrefl _)
   ·exact I.ok.inj x y c g1 g2
  ·have hx':sc.names.lookup x=some .cell:=by simpa [cxC]using hx
   have h':(envC sc (s.heap.objs.size+1) X.env).cells.lookup x=some c:=h
   rw[eC,List.lookup_append]at h'
   obtain⟨c2,hc'⟩:=cell_has (n:=s.heap.objs.size+1+1) hx'
   rw[hc']at h'
   have e:c2=c:=Option.some.inj h'
   subst e
   exact Nat.le_trans (Nat.le_add_right _ 2) (big _ _ (mem_of_lookup hc'))
  ·obtain⟨o,e⟩:=ho b hb
   exact Nat.ne_of_lt (Nat.lt_succ_of_lt (gxN e))
  ·obtain⟨o,e⟩:=ho b hb
   have l:=gxN e
   rcases lk x c h with g | g
   ·exact Nat.ne_of_gt (Nat.lt_of_lt_of_le l (Nat.le_trans (Nat.le_add_right _ 2) (big _ _ g)))
   ·exact(hf b hb).2.2.2.2.1 x c g
  ·rcases(hf b hb).2.2.2.1 with z | z
   ·exact I.ok.noex b o e z
   ·exact absurd (Nat.lt_of_lt_of_le (gxN e) (Nat.le_trans I.ok.bsz z)) (Nat.lt_irrefl _)
  ·rcases List.mem_cons.mp (I.stkSub b hs)with z | z
   ·exact(hf b hb).2.1 z
   ·exact(hf b hb).2.2.1 z
 have keepH:∀ b u,s.heap.get? b=some u->(heapC sc s.heap).get? b=some u:=heapC_keeps
 have nsC:(heapC sc s.heap).Ns (s.heap.objs.size+1) fun _=>none:=by
  have q:=(Heap.Ns.new (s.heap.push { cls:=.type "list",dict:=none,data:=.seq ([]:List Value).toArray}) (.type "dict")).keeps (pushCells_keeps sc.names _)
  rw[hC]at q
  exact q
 refine⟨okY,rfl,I.bare,Un.kept keepH,⟨_,nsC,fun i x v e1 e2 e3=>?_⟩,fun x c h=>?_,I.hok.fresh (Nat.le_succ _),fun x c h=>?_,fun p hp=>absurd (show p∈([]:List (Addr×Obj))from hp) (by simp),I.hok.kept keepH,?_⟩
 ·obtain⟨j,hj,hv⟩:=getStart e2
  obtain⟨g1,g2,g3,g4⟩:=hc.slot i x j e1 hj
  have kx:=hc.free _ g2 rfl
  obtain⟨m,hn,hl⟩:=I.loc
  obtain⟨u,r,l⟩:=hl j x v g1 hv (.inr kx)
  refine⟨u,r,?_⟩
  rcases l with⟨z,_⟩ | ⟨_,c,hcc,hcell⟩
  ·have z':X.env.kindOf x=some .local:=z
   rcases kx with k | k <;> (have k':X.env.kindOf x=_:=k;rw[z']at k';cases k')
  ·have kY:(envC sc (s.heap.objs.size+1) X.env).kindOf x=some .cell\/(envC sc (s.heap.objs.size+1) X.env).kindOf x=some .free:=by
    show(relabel sc X.env).names.lookup x=some .cell\/(relabel sc X.env).names.lookup x=some .free
    rw[lookup_relabel,g3]
    rcases relK_free (env:=X.env) (x:=x)with q | q
    ·exact .inl (show some (relK X.env x .free)=_ by rw[q])
    ·exact .inr (show some (relK X.env x .free)=_ by rw[q])
   obtain⟨c',h'⟩:=has x kY
   refine .inr ⟨kY,c',h',?_⟩
   rcases lk x c' h' with g | g
   ·rcases cellsFrom_mem _ _ _ _ _ g with z | z
    ·exact absurd z g4
    ·cases z
   ·rw[hcc]at g;cases g
    exact hcell.keeps keepH
 ·rcases lk x c h with g | g
  ·exact⟨_,(ok.empty x c g).1⟩
  ·obtain⟨v,q⟩:=I.cell x c g
   exact⟨v,q.keeps keepH⟩
 ·rcases lk x c h with g | g
  ·exact I.hok.fresh (Nat.le_trans (Nat.le_add_right _ 2) (big _ _ g))
  ·exact I.freeC x c g
 ·show(startC js σ).length=N.length
  unfold startC
  rw[gxC];exact hc.len
end
section
variable {X:Cx}{pins:List (Addr×Obj)}{σ:St}{H:Hp}{s:Shared}
theorem Inv.adopt {D:Addr}{ys:List V}{its:List Value}{n:Nat}(I:Inv X pins σ H s)(hn:H D=none)(hL:D≠X.env.locals)(h1:X.s₀.heap.objs.size<=D)(h2:∀ x c,X.env.cells.lookup x=some c->c≠D)(h3:∀ p∈X.pn++pins,p.1≠D)
 (e:s.heap.get? D=some { cls:=.type "list",data:=.seq its.toArray n}) (r:Vals ys its) (hz:ys.length<=sizeLine):Inv X pins σ (upd H D (.lst ys)) s:=by
 have ne:∀ b,b∉[D]->b≠D:=fun b h z=>h (by simp[z])
 refine I.step (g':=s.gens) (d':=s.drawn) (t':=s.toks) (h':=s.heap) (ch:=[D]) (fun b hb=>?_) (fun b o _ _ _ q _=>q) (fun b o _ _ _ q _=>⟨o.slots,q⟩) (fun b o hb q z=>by rw[upd_ne (ne b hb)];exact z) (fun b o _ q=>⟨o,q⟩)
  (fun b xs q=>by rw[upd_ne (ne_of_none q hn)];exact q) (fun b o u q=>by rw[upd_ne (ne_of_none q hn)];exact q) (fun b ps q=>⟨#[],by rw[upd_ne (ne_of_none q hn),q];simp⟩) (fun m q=>q) (fun b u q=>?_) I.bare
 ·have z:b=D:=by simpa using hb
  subst z
  exact⟨.inr h1,hL,h2,h3⟩
 ·by_cases hb:b=D
  ·subst hb;rw[upd_same]at q;cases q
   exact⟨hz,its,n,r,e⟩
  ·rw[upd_ne hb]at q
   exact(I.hok b u q).stay (fun c v _ z=>z) (fun c z=>by rw[upd_ne (ne_of_none z hn)];exact z) fun c xs z=>by rw[upd_ne (ne_of_none z hn)];exact z
def PTs (X:Cx)(ifs:List Expr)(t:TT):Prop :=
 ∀(pins:List (Addr×Obj)) (s:Shared) (σ:St) (H:Hp) (Q:Bool->Hp->Prop),Inv X pins σ H s->t σ H Q ->
  wpAny (model X.prog X.w) X.A (forIn ifs true fun c r=>if r=true then do let ok <- isTrue c X.env (eval c X.env);pure (ForInStep.yield ok)else pure (ForInStep.yield r)) (TP X pins σ Q) X.xe s
def tYes:TT:=fun _ H Q=>Q true H
theorem pts_nil:PTs X [] tYes:=fun _ _ _ H _ I h=>wpAny_tests_nil ⟨H,I,h⟩
theorem pts_one {c:Expr}{t:TT}(h:PT X c t):PTs X [c] t:=fun pins s σ H Q I q=>wpAny_tests_one (h pins s σ H Q I q)
def Ext (σ σ':St):Prop:=σ.length=σ'.length/\∀(i:Nat) v,σ[i]?=some (some v)->σ'[i]?=some (some v)
theorem Ext.own2 {v u:Option V}{r:St}:Ext (none::none::r) (v::u::r):=⟨rfl,fun i z h=>by
 match i,h with
 | 0,h=>simp at h
 | 1,h=>simp at h
 | i+2,h=>simpa using h⟩
def wComp (js:List (Option Nat))(g:TG)(tt:TT)(te:TE)(J:It)(σ:St)(H1:Hp)(fin:List V->Hp->Prop):Prop :=
 ∃ W:Nat->Nat->List V->Hp->Prop,(∃ m,W 0 m [] H1)/\∀ i m ys H,W i m ys H ->
  (J.stop i H/\fin ys H)\/(J.go i H/\∀ x H',J.yld i H x H'->g x (startC js σ) H' fun σ2 H2=>Ext (startC js σ) σ2/\tt σ2 H2 fun b H3 =>
    if b=true then te σ2 H3 fun y H4=>ys.length<sizeLine/\∃ m',m'<m/\W (i+1) m' (ys++[y]) H4 else ∃ m',m'<m/\W (i+1) m' ys H3)
theorem compLoop_any {prog:Program}{w:World}{A:Around}{R:Result->Shared->Prop}{s:Shared}{elt target iter:Expr}{ifs:List Expr}{scope:Scope}{pos:Pos}{it acc:Value}{env:Env}(I:Nat->Shared->Prop)
 (turn:∀ n s,I n s->wpAny (model prog w) A (pyNext it) (fun r s₁=>match r with
   | none=>R (.ok .next) s₁
   | some v=>wpAny (model prog w) A (letOwnedTupleGo target it v) (fun _ s₁'=>wpAny (model prog w) A (assign target env v) (fun _ s₂ =>
    wpAny (model prog w) A (forIn ifs true fun c r=>if r=true then do let ok <- isTrue c env (eval c env);pure (ForInStep.yield ok)else pure (ForInStep.yield r)) (fun ok s₃ =>
     if ok=true then wpAny (model prog w) A (eval elt env) (fun x s₄ =>
      wpAny (model prog w) A (call (.builtin "list.append") [acc,x]) (fun _ s₅=>∃ m,m<n/\I m s₅) (fun _ _=>False) s₄) (fun _ _=>False) s₃
     else ∃ m,m<n/\I m s₃) (fun _ _=>False) s₂) (fun _ _=>False) s₁') (fun _ _=>False) s₁) (fun _ _=>False) s)
 (n:Nat) (h:I n s) :
 codeAny (model prog w) A (.compLoop (.ListComp elt [⟨target,iter,ifs,0⟩] scope pos) 0 it acc env) R s:=by
 refine codeAny_loop rfl I (fun n s hI=>?_) n h
 show wpAny _ A ((compTurn (.ListComp elt [⟨target,iter,ifs,0⟩] scope pos) 0 it acc env).onRaise (fun x=>do noteFrame x env;theTreesLotGoes x)) _ _ s
 refine wpAny_noted ?_
 rw[compTurn_list]
 refine gxM (wpAny_standAt (gxM (wpAny_mono (turn n s hI) (fun r s₁ h₁=>?_) fun _ _ h'=>h'.elim)))
 cases r with
 | none=>exact wpAny_pure h₁
 | some v =>
  refine gxM (wpAny_mono h₁ (fun _ s₁' h₁'=>?_) fun _ _ h'=>h'.elim)
  refine gxM (wpAny_mono h₁' (fun _ s₂ h₂=>gxM (wpAny_mono h₂ (fun ok s₃ h₃=>?_) fun _ _ h'=>h'.elim)) fun _ _ h'=>h'.elim)
  cases ok with
  | false=>exact wpAny_pure ⟨rfl,h₃⟩
  | true =>
   exact gxM (gxM (wpAny_mono h₃ (fun x s₄ h₄=>gxM (wpAny_mono h₄ (fun _ s₅ h₅=>wpAny_pure (wpAny_pure ⟨rfl,h₅⟩)) fun _ _ h'=>h'.elim)) fun _ _ h'=>h'.elim))
variable {N:List Str}{js:List (Option Nat)}{sc:Scope}{fp:List Addr}{tg elt iter:Expr}{ifs:List Expr}{g:TG}{tt:TT}{te:TE}
def lobj (its:List Value)(n:Nat):Obj:={ cls:=.type "list",data:=.seq its.toArray n}
theorem comp_block {J:It}{it:Addr}{tn:Nat->Heap->Prop}{pos:Pos}{R:Result->Shared->Prop}{fin:List V->Hp->Prop}{tk:Nat}(I:Inv X pins σ H s)(hc:CompOk X N js sc)(calm:X.calm=true)
 (T:Turn X.prog X.w X.K tg J fp it tn) (st:tn 0 s.heap) (hf:∀ b∈fp,FpOk X pins H b)
 (hg:PG (cxC X N sc fp s H) tg g) (ht:PTs (cxC X N sc fp s H) ifs tt) (he:PE (cxC X N sc fp s H) elt te) (q:wComp js g tt te J σ H fin)
 (hR:∀ s' H' ys m,Inv X pins σ (upd H' s.heap.objs.size (.lst ys)) s'->H' s.heap.objs.size=none->fin ys H'->s'.heap.Ns (s.heap.objs.size+1) m->H' (s.heap.objs.size+1)=none->R (.ok .next) s') :
 codeAny (model X.prog X.w) X.A (.compStart (.ListComp elt [⟨tg,iter,ifs,0⟩] sc pos) 0 (.ref it) (.ref s.heap.objs.size) (envC sc (s.heap.objs.size+1) X.env)) R { s with heap:=heapC sc s.heap,toks:=tk}:=by
 have hob:∀ b∈fp,∃ o,s.heap.get? b=some o:=fun b hb=>let ⟨o,e,_⟩:=T.obj 0 s.heap st b hb;⟨o,e⟩
 have I0:=inv_comp I hc hf hob tk
 have okY:=I0.ok
 obtain⟨W,⟨m0,w0⟩,turn⟩:=q
 have small:∀ b∈fp,b≠s.heap.objs.size:=fun b hb=>let ⟨o,e⟩:=hob b hb;Nat.ne_of_lt (gxN e)
 have stat:∀ {its:List Value} {k:Nat} {H':Hp},(∀ b∈fp,H' b=none)->∀ b∈fp,FpOk (cxC X N sc fp s H) [(s.heap.objs.size,lobj its k)] H' b:=fun {its k H'} hn b hb =>
  ⟨hn b hb,(okY.exf b hb).1,okY.exfs b hb,.inl hb,(okY.exf b hb).2,fun p hp=>by
   have e:p=(s.heap.objs.size,lobj its k):=by simpa [cxC]using hp
   rw[e];exact(small b hb).symm⟩
 have st0:tn 0 (heapC sc s.heap):=T.keep 0 _ _ st fun b _ o e=>heapC_keeps b o e
 have I1:Inv (cxC X N sc fp s H) [(s.heap.objs.size,lobj [] 0)] (startC js σ) H { s with heap:=heapC sc s.heap,toks:=tk}:=I0.pins_of fun p hp=>by
  have e:p=(s.heap.objs.size,lobj [] 0):=by simpa using hp
  subst e
  refine⟨heapC_acc,I.hok.fresh (Nat.le_refl _),Nat.ne_of_lt (Nat.lt_succ_self _),fun z=>?_,fun v z=>by cases z⟩
  obtain⟨_,o,ho,_⟩:=okY.funs.mem z
  exact Nat.lt_irrefl _ (gxN ho)
 have loop:codeAny (model X.prog X.w) X.A (.compLoop (.ListComp elt [⟨tg,iter,ifs,0⟩] sc pos) 0 (.ref it) (.ref s.heap.objs.size) (envC sc (s.heap.objs.size+1) X.env)) R { s with heap:=heapC sc s.heap,toks:=tk}:=by
  refine compLoop_any (fun n s'=>∃ i ys its k H',Inv (cxC X N sc fp s H) [(s.heap.objs.size,lobj its k)] (startC js σ) H' s'/\tn i s'.heap/\(∀ b∈fp,H' b=none)/\Vals ys its/\ys.length<=sizeLine/\W i n ys H') ?_ m0
   ⟨0,[],[],0,H,I1,st0,fun b hb=>(hf b hb).1,.nil,Nat.zero_le _,w0⟩
  rintro n s3 ⟨i,ys,its,k,H3,I3,st3,fr3,rv,hz,w3⟩
  have len:=rv.length
  rcases turn i n ys H3 w3 with⟨stop,qf⟩ | ⟨go,step⟩
  ·refine thn (T.done (cxC X N sc fp s H) rfl rfl rfl calm i _ s3 _ H3 _ I3 (stat fr3) st3 stop) fun r s4 hq3=>?_
   obtain⟨hr,I4⟩:=hq3
   subst hr
   show R (.ok .next) s4
   have hD:=I4.pin (s.heap.objs.size,lobj its k) (List.mem_append_right _ List.mem_cons_self)
   obtain⟨m,hns,_⟩:=I4.loc
   have IX:Inv X pins σ H3 s4:=I.call' (ch:=fp) I4.os I4.base I4.hok I4.bare fun b hb=>by
    obtain⟨f0,f1,f2,f3,f4,f5⟩:=hf b hb
    exact⟨f3,f1,f4,f5⟩
   have neD:∀(b:Addr) (o:Obj),s.heap.get? b=some o->b≠s.heap.objs.size:=fun b o e=>Nat.ne_of_lt (gxN e)
   refine hR s4 H3 ys m (IX.adopt hD.2.1 (Nat.ne_of_gt I.lt) I.sz (fun x c e=>?_) (fun p hp=>neD _ _ (I.pin p hp).1) hD.1 rv hz) hD.2.1 qf hns I4.free
   obtain⟨v,q⟩:=I.cell x c e
   exact Nat.ne_of_lt q.lt
  ·refine thn (T.item (cxC X N sc fp s H) rfl rfl rfl calm i _ s3 _ H3 _ I3 (stat fr3) st3 go) fun r s4 hq4=>?_
   obtain⟨u,hr,h4⟩:=hq4
   subst hr
   refine thn h4 fun _ s5 hq5=>?_
   obtain⟨x,H5,I5,r5,y5,st5,fr5⟩:=hq5
   have I5':=I5.pinned (stat fr5) (T.obj _ _ st5)
   refine thn (hg _ s5 _ H5 x u _ I5' r5 (step x H5 y5)) fun _ s6 ⟨σ6,H6,I6,⟨ext6,q6⟩⟩=>?_
   refine thn (ht _ s6 σ6 H6 _ I6 q6) fun b s7 hq6=>?_
   obtain⟨H7,I7,q7⟩:=hq6
   have back:∀ {s':Shared} {H':Hp},Inv (cxC X N sc fp s H) ([(s.heap.objs.size,lobj its k)]++pinsAt fp s5.heap) σ6 H' s'->tn (i+1) s'.heap/\(∀ b∈fp,H' b=none)/\Inv (cxC X N sc fp s H) [(s.heap.objs.size,lobj its k)] (startC js σ) H' s':=fun {s' H'} I'=>by
    refine⟨T.keep _ _ _ st5 fun b hb o e=>(I'.pin (b,o) (List.mem_append_right _ (List.mem_append_right _ (mem_pinsAt hb e)))).1,fun b hb=>?_,(I'.weak ext6.1 ext6.2).unpinned⟩
    obtain⟨o,e,d⟩:=T.obj _ _ st5 b hb
    exact(I'.pin (b,o) (List.mem_append_right _ (List.mem_append_right _ (mem_pinsAt hb e)))).2.1
   cases b with
   | false =>
    rw[if_neg Bool.false_ne_true]at q7 ⊢
    obtain⟨m',hm,w7⟩:=q7
    obtain⟨t7,f7,I7'⟩:=back I7
    exact⟨m',hm,i+1,ys,its,k,H7,I7',t7,f7,rv,hz,w7⟩
   | true =>
    rw[if_pos rfl]at q7 ⊢
    refine thn (he _ s7 σ6 H7 _ I7 q7) fun y s8 hq0=>?_
    obtain⟨yv,H8,I8,ry,hlt,m',hm,w8⟩:=hq0
    obtain⟨t8,f8,I8'⟩:=back I8
    have hD:=I8'.pin (s.heap.objs.size,lobj its k) (List.mem_append_right _ List.mem_cons_self)
    have eD:s8.heap.get? s.heap.objs.size=some { cls:=.type "list",data:=.seq its.toArray k}:=hD.1
    refine call_meets F.slot_list_append ⟨_,eD,rfl⟩ F.entry_list_append (F.args_list_append_2 _ _) (PySem.list_append s.heap.objs.size its.toArray k y (by rw[List.size_toArray];omega)) ⟨eD,?_⟩
    have q:=PySem.IsL.update eD (·.push y)
    have epush:its.toArray.push y=(its++[y]).toArray:=by simp
    have keep:∀(b:Addr) (o:Obj),b≠s.heap.objs.size->s8.heap.get? b=some o->(s8.heap.update s.heap.objs.size (Obj.mapSeq (·.push y))).get? b=some o:=fun b o hb e=>(Heap.get?_update_other s8.heap (Obj.mapSeq (·.push y)) (Ne.symm hb)).trans e
    have cellD:∀ x c,(cxC X N sc fp s H).env.cells.lookup x=some c->c≠s.heap.objs.size:=fun x c e z=>by
     obtain⟨v,o,ho,hd⟩:=I8'.cell x c e
     rw[z,eD]at ho;cases ho
     cases hd
    have I9:Inv (cxC X N sc fp s H) [] (startC js σ) H8 { s8 with heap:=s8.heap.update s.heap.objs.size (Obj.mapSeq (·.push y))} :=
     (I8'.pins_of (pins':=[]) fun p hp=>absurd hp (by simp)).turned (t':=s8.toks) keep hD.2.1 hD.2.2.1 (.inr (Nat.le_refl _)) cellD (fun p hp=>absurd (show p∈([]:List (Addr×Obj))from hp) (by simp))
    rw[epush]at q
    obtain⟨k',q'⟩:∃ k',(s8.heap.update s.heap.objs.size (Obj.mapSeq (·.push y))).get? s.heap.objs.size=some (lobj (its++[y]) k'):=⟨_,q⟩
    refine⟨m',hm,i+1,ys++[yv],its++[y],k',H8,I9.pins_of fun p hp=>?_,T.keep _ _ _ t8 fun b hb o e=>keep b o (small b hb) e,f8,rv.append (.cons ry .nil),by rw[gxE,List.length_singleton];omega,w8⟩
    have e:p=(s.heap.objs.size,lobj (its++[y]) k'):=by simpa using hp
    subst e
    exact⟨q',hD.2.1,hD.2.2.1,hD.2.2.2.1,fun v z=>by cases z⟩
 exact codeAny_compStart_list loop (T.self _ 0 _ _ _ st0 loop)
def tComp (wi:TI)(js:List (Option Nat))(g:TG)(tt:TT)(te:TE):TE:=fun σ H Q=>wi σ H fun J H1=>wComp js g tt te J σ H1 fun ys H'=>∀ D,H' D=none->Q (.ref D) (upd H' D (.lst ys))
theorem pe_comp {wi:TI}{pos:Pos}(hc:CompOk X N js sc)(calm:X.calm=true)(hi:PI X tg iter wi)(hg:∀ fp s H,PG (cxC X N sc fp s H) tg g)(ht:∀ fp s H,PTs (cxC X N sc fp s H) ifs tt)(he:∀ fp s H,PE (cxC X N sc fp s H) elt te)
 (hs:∀ x,foldedSetIterable iter X.env x=pure x:=by intro _;rfl):PE X (.ListComp elt [⟨tg,iter,ifs,0⟩] sc pos) (tComp wi js g tt te):=by
 intro pins s σ H Q I h
 rw[eval_ListComp]
 refine wpAny_comprehension_free (use:=none) rfl hs (closureFor_eq fun y hy e=>I.ok.has y.1 (hc.free y hy e)) hc.kind hc.loc (thn (hi pins s σ H _ I h) fun v s1 h1=>thn h1 fun itv s2 h2=>?_)
 obtain⟨it,fp,tn,J,H2,e,I2,T,st2,f2,q⟩:=h2
 subst e
 refine wpAny_newObj_type (newEnv_comp ?_)
 have hC:(s2.heap.push { cls:=.type "list",dict:=none,data:=.seq ([]:List Value).toArray}).objs.size=s2.heap.objs.size+1:=Heap.size_push ..
 simp only[hC]
 refine comp_block (tk:=s2.toks) I2 hc calm T st2 f2 (hg fp s2 H2) (ht fp s2 H2) (he fp s2 H2) q fun s' H' ys m IX nD qf nC hn=>?_
 refine⟨m,nC,fun h' sb=>?_⟩
 have neC:∀(b:Addr) (o:Obj),s2.heap.get? b=some o->b≠s2.heap.objs.size+1:=fun b o e=>Nat.ne_of_lt (Nat.lt_succ_of_lt (gxN e))
 have IY:Inv X pins σ (upd H' s2.heap.objs.size (.lst ys)) { s' with heap:=h'}:=IX.turned (t':=s'.toks) (it:=s2.heap.objs.size+1) (fun b o hb e=>(sb.2 b hb).trans e) (by rw[upd_ne (Nat.ne_of_gt (Nat.lt_succ_self _))];exact hn)
  (Nat.ne_of_gt (Nat.lt_succ_of_lt I2.lt)) (.inr (Nat.le_succ_of_le I2.sz)) (fun x c e=>let ⟨v,z⟩:=I2.cell x c e;Nat.ne_of_lt (Nat.lt_succ_of_lt z.lt)) (fun p hp=>neC _ _ (I2.pin p hp).1)
 exact⟨.ref _,_,IY,rfl,qf _ nD⟩
theorem ps_setComp {wi:TI}{pos pos' spos:Pos}{i:Nat}{x:Str}(hc:CompOk X N js sc)(calm:X.calm=true)(hN:X.N.Nodup)(hx':X.N[i]?=some x)(hx:Loc X.env.scope x)(hi:PI X tg iter wi)(hg:∀ fp s H,PG (cxC X N sc fp s H) tg g)
 (ht:∀ fp s H,PTs (cxC X N sc fp s H) ifs tt) (he:∀ fp s H,PE (cxC X N sc fp s H) elt te) (hsw:swapsWith (.ListComp elt [⟨tg,iter,ifs,0⟩] sc pos) (some (.Name x pos')) spos.line X.env=pure true:=by rfl)
 (hs:∀ x,foldedSetIterable iter X.env x=pure x:=by intro _;rfl) (hf:X.fn x=true\/X.env.scope.names.lookup x=some .local:=by first | exact .inl rfl | exact .inr rfl | assumption) :
 PS X (.Assign [.Name x pos'] (.ListComp elt [⟨tg,iter,ifs,0⟩] sc pos) spos) (tAsg (tComp wi js g tt te) (gName i)):=by
 intro pins s σ H D I h
 rw[exec_Assign_Name_used _ _ _ _ hsw]
 refine gxM (wpAny_standAt (gxM ?_))
 show wpAny _ X.A (do let _ <- comprehension (.ListComp elt [⟨tg,iter,ifs,0⟩] sc pos) sc X.env _ (newList []) false (eval iter X.env) (some (assign (.Name x pos') X.env))) _ _ s
 refine gxM (wpAny_mono (wpAny_comprehension_free (use:=some (assign (.Name x pos') X.env)) (Q:=fun _ s'=>SP X pins D .next s') rfl hs (closureFor_eq fun y hy e=>I.ok.has y.1 (hc.free y hy e)) hc.kind hc.loc
  (thn (hi pins s σ H _ I h) fun v s1 h1=>thn h1 fun itv s2 h2=>?_)) (fun _ s' hq=>wpAny_pure (wpAny_pure hq)) fun _ _ e=>e)
 obtain⟨it,fp,tn,J,H2,e,I2,T,st2,f2,q⟩:=h2
 subst e
 refine wpAny_newObj_type (newEnv_comp ?_)
 have hC:(s2.heap.push { cls:=.type "list",dict:=none,data:=.seq ([]:List Value).toArray}).objs.size=s2.heap.objs.size+1:=Heap.size_push ..
 simp only[hC]
 refine comp_block (tk:=s2.toks) I2 hc calm T st2 f2 (hg fp s2 H2) (ht fp s2 H2) (he fp s2 H2) q fun s' H' ys m IX nD qf nC hn=>?_
 have neC:∀(b:Addr) (o:Obj),s2.heap.get? b=some o->b≠s2.heap.objs.size+1:=fun b o e=>Nat.ne_of_lt (Nat.lt_succ_of_lt (gxN e))
 have hnC:upd H' s2.heap.objs.size (.lst ys) (s2.heap.objs.size+1)=none:=by rw[upd_ne (Nat.ne_of_gt (Nat.lt_succ_self _))];exact hn
 show wpAny _ X.A (assign (.Name x pos') X.env (.ref s2.heap.objs.size)) _ _ s'
 refine wpAny_assign_Name (store_ok2 (v:=.ref s2.heap.objs.size) IX hN hx' hx rfl (fun s'' IZ ch=>?_) hf)
 obtain⟨a,sba,ha⟩:=ch
 have hac:s2.heap.objs.size+1≠a:=by
  rcases ha with z | z
  ·rw[z];exact Nat.ne_of_gt (Nat.lt_succ_of_lt I2.lt)
  ·obtain⟨v,z⟩:=I2.cell x a z
   exact Nat.ne_of_gt (Nat.lt_succ_of_lt z.lt)
 refine⟨m,nC.sameBut sba hac,fun h' sb=>?_⟩
 have IY:Inv X pins (σ.set i (some (.ref s2.heap.objs.size))) (upd H' s2.heap.objs.size (.lst ys)) { s'' with heap:=h'}:=IZ.turned (t':=s''.toks) (it:=s2.heap.objs.size+1) (fun b o hb e=>(sb.2 b hb).trans e) hnC
  (Nat.ne_of_gt (Nat.lt_succ_of_lt I2.lt)) (.inr (Nat.le_succ_of_le I2.sz)) (fun x c e=>let ⟨v,z⟩:=I2.cell x c e;Nat.ne_of_lt (Nat.lt_succ_of_lt z.lt)) (fun p hp=>neC _ _ (I2.pin p hp).1)
 exact⟨_,_,IY,qf _ nD⟩
end
open Builtin Builtin.Str
def cutL {α:Type}(xs:List α)(lo hi:Option Int):List α:=(xs.drop (HT.sIx xs.length 0 lo)).take (HT.sIx xs.length xs.length hi - HT.sIx xs.length 0 lo)
theorem clip_lo (n:Nat)(lo:Option Int):(match lo with | none=>(0:Int) | some i=>max 0 (min (if i<0 then i+(n:Int)else i) (n:Int)))=((HT.sIx n 0 lo:Nat):Int):=by
 cases lo with
 | none=>rfl
 | some i=>unfold HT.sIx;dsimp only;split <;> omega
theorem clip_hi (n:Nat)(hi:Option Int):(match hi with | none=>(n:Int) | some i=>max 0 (min (if i<0 then i+(n:Int)else i) (n:Int)))=((HT.sIx n n hi:Nat):Int):=by
 cases hi with
 | none=>rfl
 | some i=>unfold HT.sIx;dsimp only;split <;> omega
theorem sliceIx_eq (lo hi:Option Int)(n:Nat):strSliceIndices lo hi 1 n=sliceRange ((HT.sIx n 0 lo:Nat):Int) ((HT.sIx n n hi:Nat):Int) 1:=by
 rw[<- clip_lo,<- clip_hi]
 unfold strSliceIndices
 cases lo <;> cases hi <;> rfl
theorem sliced_eq (x:Str)(lo hi:Option Int):(strSliceIndices lo hi 1 x.length).filterMap (x.cps[·]?)=cutL x.cps.toList lo hi:=by
 have hl:x.cps.toList.length=x.length:=by simp[Str.length]
 unfold cutL
 rw[hl]
 have ha:=HT.sIx_le x.length 0 (Nat.zero_le _) lo
 have hb:=HT.sIx_le x.length x.length (Nat.le_refl _) hi
 by_cases hab:HT.sIx x.length 0 lo<=HT.sIx x.length x.length hi
 ·rw[<- StrLaws.sliced_plain x hab hb,sliceIx_eq,sliceIx_eq]
  congr 2
  ·rw[HT.sIx_nat,Nat.min_eq_left ha]
  ·rw[HT.sIx_nat,Nat.min_eq_left hb]
 ·rw[sliceIx_eq]
  have e:HT.sIx x.length x.length hi - HT.sIx x.length 0 lo=0:=by omega
  rw[e,List.take_zero]
  unfold sliceRange
  have h1:¬ (((HT.sIx x.length 0 lo:Nat):Int)<((HT.sIx x.length x.length hi:Nat):Int)):=by omega
  simp[h1]
theorem cutL_len {α:Type}(xs:List α)(lo hi:Option Int):(cutL xs lo hi).length<=xs.length:=by
 unfold cutL
 rw[List.length_take,List.length_drop]
 omega
section
variable {X:Cx}
def rSlS:V->Option Int->Option Int->Hp->VK->Prop:=fun x lo hi H Q=>∃ z:Str,x=.str z/\z.length<=sizeLine/\Q (.str ⟨(cutL z.cps.toList lo hi).toArray⟩) H
theorem sl_str:SlR X rSlS:=by
 intro pins s σ H x v vl vu lo hi sl Q I rx hs pl pu h
 obtain⟨z,rfl,hz,q⟩:=h
 obtain⟨t,rfl⟩:=rx
 refine⟨"str",_,F.slot_str_getitem.lookup,typeIs_str _ _ _,?_⟩
 obtain⟨l,el⟩:∃ l:Option (Int×Tok),vl=partValue l/\l.map (·.1)=lo:=by
  cases pl with
  | none=>exact⟨none,rfl,rfl⟩
  | int i t=>exact⟨some (i,t),rfl,rfl⟩
 obtain⟨u,eu⟩:∃ u:Option (Int×Tok),vu=partValue u/\u.map (·.1)=hi:=by
  cases pu with
  | none=>exact⟨none,rfl,rfl⟩
  | int i t=>exact⟨some (i,t),rfl,rfl⟩
 obtain⟨rfl,el⟩:=el
 obtain⟨rfl,eu⟩:=eu
 refine wpAny_getItem_str_slice (l:=l) (u:=u) (st:=none) hs rfl ?_
 unfold sliceMade
 have e:slicePicked z l u none=strSliceIndices lo hi 1 z.length:=by unfold slicePicked;rw[el,eu];rfl
 rw[e,sliced_eq]
 by_cases hc:(((none:Option (Int×Tok)).map (·.1)).getD 1==1&&(strSliceIndices lo hi 1 z.length).length==z.length)=true
 ·rw[if_pos hc]
  refine⟨.str z,H,I,⟨_,rfl⟩,?_⟩
  have hc':(strSliceIndices lo hi 1 z.length).length=z.length:=by simpa using hc
  have hl:z.cps.toList.length=z.length:=by simp[Str.length]
  have h3:cutL z.cps.toList lo hi=z.cps.toList:=by
   rw[sliceIx_eq]at hc'
   unfold sliceRange at hc'
   have ha:=HT.sIx_le z.length 0 (Nat.zero_le _) lo
   have hb:=HT.sIx_le z.length z.length (Nat.le_refl _) hi
   rw[gxC,gxJ]at hc'
   unfold cutL
   rw[hl]
   by_cases hlt:((HT.sIx z.length 0 lo:Nat):Int)<((HT.sIx z.length z.length hi:Nat):Int)
   ·simp[hlt]at hc'
    have a0:HT.sIx z.length 0 lo=0:=by omega
    have b0:HT.sIx z.length z.length hi=z.length:=by omega
    rw[a0,b0,List.drop_zero,Nat.sub_zero,<- hl,List.take_length]
   ·simp[hlt]at hc'
    have z0:z.cps.toList=[]:=List.length_eq_zero_iff.mp (by omega)
    rw[z0];simp
  have e2:(⟨(cutL z.cps.toList lo hi).toArray⟩:Str)=z:=by rw[h3]
  rw[e2]at q
  exact q
 ·rw[if_neg hc]
  refine⟨?_,.str _,H,I.tok _,⟨_,rfl⟩,q⟩
  have hl:z.cps.toList.length=z.length:=by simp[Str.length]
  have:=cutL_len z.cps.toList lo hi
  show(cutL z.cps.toList lo hi).toArray.size<=sizeLine
  rw[List.size_toArray]
  omega
theorem vals_strs:∀ {ys:List Str} {us:List Value},Vals (ys.map V.str) us->StrsAre us ys
 | [],_,h=>by cases h;exact .nil
 | y::r,_,h=>by
  cases h with
  | cons a b=>obtain⟨t,rfl⟩:=a;exact .cons _ _ (vals_strs b)
theorem glued_empty:∀(ys:List Str) (acc:Array Nat),ys.foldl (fun acc p=>acc++(#[]:Array Nat)++p.cps) acc=acc++(ys.map (·.cps.toList)).flatten.toArray
 | [],acc=>by simp
 | y::r,acc=>by
  rw[List.foldl_cons,glued_empty r,List.map_cons,List.flatten_cons]
  apply Array.toList_inj.mp
  simp
theorem join_empty (z:Str)(hz:z.cps=#[])(ys:List Str):Txt.join z ys=⟨(ys.map (·.cps.toList)).flatten.toArray⟩:=by
 unfold Txt.join glued
 rw[hz]
 congr 1
 cases ys with
 | nil=>rfl
 | cons y r =>
  show List.foldl _ y.cps r=_
  rw[glued_empty,List.map_cons,List.flatten_cons]
  apply Array.toList_inj.mp
  simp
def rJoin (K:PySem.W.Frag):V->List V->Hp->VK->Prop:=fun x vs H Q=>∃(z:Str) (l:Addr) (ys:List Str),x=.str z/\z.cps=#[]/\vs=[.ref l]/\SqL K H l (ys.map V.str)/\(ys.map (·.length)).sum<=16777216/\Q (.str ⟨(ys.map (·.cps.toList)).flatten.toArray⟩) H
theorem mt_join:MtR X "str.join" (rJoin X.K):=by
 intro pins s σ H x vs v us Q I rx rv h
 obtain⟨z,l,ys,rfl,hz,rfl,hl,hs,q⟩:=h
 obtain⟨t,rfl⟩:=rx
 obtain⟨u,rfl,ru⟩:=rv.one
 cases ru
 obtain⟨its,r,p,_⟩:=I.list hl
 have zl:z.length=0:=by unfold Str.length;rw[hz];rfl
 refine join_list p.isList (ys:=ys) (by simpa using vals_strs r) (by rw[zl];omega) fun t' k=>?_
 rw[join_empty z hz]
 exact⟨.str _,H,I.tok _,⟨_,rfl⟩,q⟩
theorem rep_one (c:Nat):∀(n:Nat) (acc:Array Nat),(List.replicate n #[c]).foldl (·++·) acc=acc++(List.replicate n c).toArray
 | 0,acc=>by simp
 | n+1,acc=>by
  rw[List.replicate_succ,List.foldl_cons,rep_one c n,List.replicate_succ]
  apply Array.toList_inj.mp
  simp
theorem mul_one (c:Nat)(n:Int):Txt.mul ⟨#[c]⟩ n=⟨(List.replicate n.toNat c).toArray⟩:=by
 unfold Txt.mul
 by_cases h1:n<1
 ·rw[if_pos h1]
  have e:n.toNat=0:=by omega
  rw[e];rfl
 ·rw[if_neg h1]
  by_cases h2:(n==1||(⟨#[c]⟩:Str).length==0)=true
  ·rw[if_pos h2]
   have e:n=1:=by simpa [Str.length]using h2
   rw[e];rfl
  ·rw[if_neg h2]
   congr 1
   have:=rep_one c n.toNat #[]
   rw[this]
   apply Array.toList_inj.mp
   simp
theorem op_mul_str:OpR X (binaryOp .Mult) (fun x y H Q=>∃(c:Nat) (n:Int),x=.str ⟨#[c]⟩/\y=.int n /\ -1000000<=n/\n<=1000000/\Q (.str ⟨(List.replicate n.toNat c).toArray⟩) H):=by
 intro pins s σ H x y v u Q I rx ry h
 obtain⟨c,n,rfl,rfl,h1,h2,q⟩:=h
 obtain⟨t,rfl⟩:=rx
 obtain⟨t',rfl⟩:=ry
 refine SB.mul ⟨?_,fun hn _=>?_,fun hn _=>?_⟩ fun t' k=>?_
 ·rw[decide_eq_false (by omega),decide_eq_false (by omega)];rfl
 ·have e:((⟨#[c]⟩:Str).length:Int)=1:=rfl
  rw[e]
  have:(1:Int)<=(2 ^ 63 - 1) / n:=(Int.le_ediv_iff_mul_le (by omega)).mpr (by omega)
  omega
 ·have e:(⟨#[c]⟩:Str).length=1:=rfl
  rw[e]
  unfold tooLong sizeLine
  rw[decide_eq_false (by omega)]
 ·rw[mul_one]
  exact⟨.str _,H,I.tok _,⟨_,rfl⟩,q⟩
theorem call_isi:CallR X (.builtin "isinstance") (fun vs H Q=>∃ x T t b,vs=[x,.ty T]/\TyOf X.K H x t/\PySem.W.kitOne X.K t (.type T)=some b/\Q (.bl b) H):=by
 intro pins s σ H vs us Q I rv h
 obtain⟨x,T,t,b,rfl,ty,e,q⟩:=h
 obtain⟨u,w',rfl,r1,r2⟩:=vals2 rv
 cases r2
 exact isinst_ok I r1 ty e fun tk=>⟨.bl b,H,I.tok tk,rfl,q⟩
end
end L2
namespace L2
open PySem PySem.Spec PyProof.Rows
open Builtin Builtin.Str
section
variable {X:Cx}
theorem OpR.imp {f:Value->Value->Sem Value}{r r':R2}(h:OpR X f r)(hi:∀ x y H Q,r' x y H Q->r x y H Q):OpR X f r':=fun pins s σ H x y v u Q I r1 r2 q=>h pins s σ H x y v u Q I r1 r2 (hi x y H Q q)
theorem PE.imp {e:Expr}{t t':TE}(h:PE X e t)(hi:∀ σ H Q,t' σ H Q->t σ H Q):PE X e t':=fun pins s σ H Q I q=>h pins s σ H Q I (hi σ H Q q)
theorem PT.imp {e:Expr}{t t':TT}(h:PT X e t)(hi:∀ σ H Q,t' σ H Q->t σ H Q):PT X e t':=fun pins s σ H Q I q=>h pins s σ H Q I (hi σ H Q q)
theorem PG.imp {e:Expr}{t t':TG}(h:PG X e t)(hi:∀ v σ H Q,t' v σ H Q->t v σ H Q):PG X e t':=fun pins s σ H v u Q I r q=>h pins s σ H v u Q I r (hi v σ H Q q)
theorem PGs.imp {e:List Expr}{t t':TGs}(h:PGs X e t)(hi:∀ v σ H Q,t' v σ H Q->t v σ H Q):PGs X e t':=fun pins s σ H v u Q I r q=>h pins s σ H v u Q I r (hi v σ H Q q)
theorem PS.imp {e:Stmt}{t t':TS}(h:PS X e t)(hi:∀ D σ H,t' D σ H->t D σ H):PS X e t':=fun pins s σ H D I q=>h pins s σ H D I (hi D σ H q)
theorem CallR.imp {f:Value}{r r':List V->Hp->VK->Prop}(h:CallR X f r)(hi:∀ vs H Q,r' vs H Q->r vs H Q):CallR X f r':=fun pins s σ H vs us Q I rv q=>h pins s σ H vs us Q I rv (hi vs H Q q)
theorem MtR.imp {id:String}{r r':V->List V->Hp->VK->Prop}(h:MtR X id r)(hi:∀ x vs H Q,r' x vs H Q->r x vs H Q):MtR X id r':=fun pins s σ H x vs v us Q I r1 rv q=>h pins s σ H x vs v us Q I r1 rv (hi x vs H Q q)
def cVar (i:Nat):TE:=fun σ H Q=>match σ[i]? with | some (some v)=>Q v H | _=>False
theorem pvC (i:Nat){x:Str}{pos:Pos}(hN:X.N[i]?=some x:=by rfl)(hv:Vis X.env.scope x:=by first | exact Or.inl rfl | exact Or.inr (Or.inl rfl) | exact Or.inr (Or.inr rfl))(hd:(x==("__debug__" : Str))=false:=by decide)
 (hcd:(x==("__classdict__" : Str))=false:=by decide):PE X (.Name x pos) (cVar i):=(pe_var (i:=i) hN hv hd hcd).imp fun σ H Q q=>by
 unfold cVar at q
 split at q
 ·rename_i v e;exact⟨v,e,q⟩
 ·exact q.elim
def rAddC:R2:=fun x y H Q=>match x,y with
 | .int i,.int j=>Q (.int (i+j)) H
 | .str i,.str j=>i.length+j.length<=sizeLine/\Q (.str (i++j)) H
 | .ref l,.ref b=>∃ xs zs,H l=some (.lst xs)/\H b=some (.lst zs)/\xs.length+zs.length<=sizeLine/\∀ p,H p=none->Q (.ref p) (upd H p (.lst (xs++zs)))
 | _,_=>False
theorem addC:OpR X (binaryOp .Add) rAddC:=(op_add.or (op_add_str.or op_cat)).imp fun x y H Q q=>by
 unfold rAddC at q
 split at q
 ·exact .inl ⟨_,_,rfl,rfl,q⟩
 ·exact .inr (.inl ⟨_,_,rfl,rfl,q.1,q.2⟩)
 ·obtain⟨xs,zs,a,b,c,d⟩:=q;exact .inr (.inr ⟨_,_,xs,zs,rfl,rfl,a,b,c,d⟩)
 ·exact q.elim
def rI2 (C:Int->Int->Prop)(g:Int->Int->V):R2:=fun x y H Q=>match x,y with
 | .int i,.int j=>C i j/\Q (g i j) H
 | _,_=>False
def rI2' (g:Int->Int->V):R2:=fun x y H Q=>match x,y with
 | .int i,.int j=>Q (g i j) H
 | _,_=>False
theorem OpR.i2 {f:Value->Value->Sem Value}{C:Int->Int->Prop}{g:Int->Int->V}(h:OpR X f (rI C g)):OpR X f (rI2 C g):=h.imp fun x y H Q q=>by
 unfold rI2 at q
 split at q
 ·exact⟨_,_,rfl,rfl,q.1,q.2⟩
 ·exact q.elim
theorem OpR.i2' {f:Value->Value->Sem Value}{g:Int->Int->V}(h:OpR X f (rI0 g)):OpR X f (rI2' g):=h.imp fun x y H Q q=>by
 unfold rI2' at q
 split at q
 ·exact⟨_,_,rfl,rfl,q⟩
 ·exact q.elim
theorem subC:OpR X (binaryOp .Sub) (rI2' fun i j=>.int (i - j)):=op_sub.i2'
def rMulC:R2:=fun x y H Q=>match x,y with
 | .int i,.int j=>CMul i j/\Q (.int (i*j)) H
 | .str z,.int n=>∃ c:Nat,z=⟨#[c]⟩ /\ -1000000<=n/\n<=1000000/\Q (.str ⟨(List.replicate n.toNat c).toArray⟩) H
 | _,_=>False
theorem mulC:OpR X (binaryOp .Mult) rMulC:=(op_mul.or op_mul_str).imp fun x y H Q q=>by
 unfold rMulC at q
 split at q
 ·exact .inl ⟨_,_,rfl,rfl,q.1,q.2⟩
 ·obtain⟨c,rfl,a,b,d⟩:=q;exact .inr ⟨c,_,rfl,rfl,a,b,d⟩
 ·exact q.elim
theorem divC:OpR X (binaryOp .FloorDiv) (rI2 CDiv fun i j=>.int (i / j)):=op_fdiv.i2
theorem modC:OpR X (binaryOp .Mod) (rI2 (fun _ j=>0<j) fun i j=>.int (i%j)):=op_mod.i2
theorem powC:OpR X (binaryOp .Pow) (rI2 CPow fun i j=>.int (i ^ j.toNat)):=op_pow.i2
theorem ltC:OpR X (compareOp .Lt) (rI2' fun i j=>.bl (decide (i<j))):=op_lt.i2'
theorem leC:OpR X (compareOp .LtE) (rI2' fun i j=>.bl (decide (i<=j))):=op_le.i2'
theorem gtC:OpR X (compareOp .Gt) (rI2' fun i j=>.bl (decide (j<i))):=op_gt.i2'
theorem geC:OpR X (compareOp .GtE) (rI2' fun i j=>.bl (decide (j<=i))):=op_ge.i2'
def rEqC (neg:Bool):R2:=fun x y H Q=>match x,y with
 | .int i,.int j=>Q (.bl (neg != decide (i=j))) H
 | .str i,.str j=>Q (.bl (neg != decide (i=j))) H
 | .bl i,.bl j=>Q (.bl (neg != decide (i=j))) H
 | _,_=>False
theorem dec_congr {p q:Prop}[Decidable p][Decidable q](h:p↔q):decide p=decide q:=by
 by_cases hp:p
 ·rw[decide_eq_true hp,decide_eq_true (h.mp hp)]
 ·rw[decide_eq_false hp,decide_eq_false fun z=>hp (h.mpr z)]
theorem dI {i j:Int}:decide (V.int i=V.int j)=decide (i=j):=dec_congr (by simp)
theorem dS {i j:Str}:decide (V.str i=V.str j)=decide (i=j):=dec_congr (by simp)
theorem dB {i j:Bool}:decide (V.bl i=V.bl j)=decide (i=j):=dec_congr (by simp)
theorem eqC:OpR X (compareOp .Eq) (rEqC false):=op_eq.imp fun x y H Q q=>by
 unfold rEqC at q
 split at q
 ·exact⟨rfl,by rw[dI];simpa using q⟩
 ·exact⟨rfl,by rw[dS];simpa using q⟩
 ·exact⟨rfl,by rw[dB];simpa using q⟩
 ·exact q.elim
theorem neC:OpR X (compareOp .NotEq) (rEqC true):=op_ne.imp fun x y H Q q=>by
 unfold rEqC at q
 split at q
 ·exact⟨rfl,by rw[dI];simpa using q⟩
 ·exact⟨rfl,by rw[dS];simpa using q⟩
 ·exact⟨rfl,by rw[dB];simpa using q⟩
 ·exact q.elim
def cT (t:TE):TT:=fun σ H Q=>t σ H fun x H1=>match x with | .bl c=>Q c H1 | _=>False
end
def bK (Q:Bool->Hp->Prop):VK:=fun x H1=>match x with | .bl c=>Q c H1 | _=>False
section
variable {X:Cx}{a b e:Expr}{t ta tb:TE}{pos:Pos}
def cB (t:TE):TT:=fun σ H Q=>t σ H (bK Q)
theorem pt_cmpC {op:CmpOp}{r:R2}(ho:OpR X (compareOp op) r)(ha:PE X a ta)(hb:PE X b tb)(hm:behindInMarks op b=false):PT X (.Compare a [op] [b] pos) (cB (tOp r ta tb)):=by
 intro pins s σ H Q I h
 have hE:=pe_cmpR (pos:=pos) ho ha hb hm
 refine wpAny_isTrue_Compare1 ?_ hm
 refine binT ha hb I h fun v u s2 x y H2 I2 rx ry q=>?_
 refine thn (ho _ s2 σ H2 x y v u _ I2 rx ry q) fun c s3 hq1=>?_
 obtain⟨z,H3,I3,r3,q3⟩:=hq1
 cases z with
 | bl d=>cases r3;exact wpAny_truthy_bool ⟨H3,I3,q3⟩
 | _=>exact(show False from q3).elim
theorem pt_valC (h:PE X e t)(he:∀ whole,isTrue e X.env whole=(do let v <- whole;standAt e.pos;holding [v] (truthy v)):=by intro _;rfl):PT X e (cB t):=by
 intro pins s σ H Q I hw
 refine isTrue_plain (thn (h pins s σ H _ I hw) fun v s1 hq2=>?_) (he _)
 obtain⟨x,H1,I1,r1,q1⟩:=hq2
 cases x with
 | bl d=>cases r1;exact wpAny_truthy_bool ⟨H1,I1,q1⟩
 | _=>exact(show False from q1).elim
def cAnd (ta tb:TE):TE:=fun σ H Q=>ta σ H fun x H1=>match x with | .bl c=>if c=true then tb σ H1 Q else Q (.bl false) H1 | _=>False
theorem pe_andC {rest:List Expr}(ha:PE X a ta)(hb:PE X (.BoolOp .And (b::rest) pos) tb):PE X (.BoolOp .And (a::b::rest) pos) (cAnd ta tb):=by
 intro pins s σ H Q I h
 refine BoolOp_and (thn (ha pins s σ H _ I h) fun v s1 hq3=>?_)
 obtain⟨x,H1,I1,r1,q1⟩:=hq3
 cases x with
 | bl c =>
  cases r1
  refine wpAny_truthy_bool ?_
  cases c with
  | true=>exact hb pins s1 σ H1 Q I1 q1
  | false=>exact⟨.bl false,H1,I1,rfl,q1⟩
 | _=>exact(show False from q1).elim
def opt {α:Type}(o:Option α)(k:α->Prop):Prop:=match o with | some v=>k v | none=>False
theorem opt_ex {α:Type}{o:Option α}{k:α->Prop}(h:opt o k):∃ v,o=some v/\k v:=by
 cases o with
 | none=>exact h.elim
 | some v=>exact⟨v,rfl,h⟩
def rIxC:R2:=fun x y H Q=>match x,y with
 | .ref p,.int i=>∃ xs,(H p=some (.lst xs)\/H p=some (.tup xs))/\opt (atI xs i) fun v=>Q v H
 | .str z,.int i=>z.length<=sizeLine/\opt (atI z.cps.toList i) fun c=>Q (.str ⟨#[c]⟩) H
 | _,_=>False
theorem IxR.imp {r r':R2}(h:IxR X r)(hi:∀ x y H Q,r' x y H Q->r x y H Q):IxR X r':=fun value slice pins s σ H x y v u Q I r1 r2 q=>h value slice pins s σ H x y v u Q I r1 r2 (hi x y H Q q)
theorem ixC:IxR X rIxC:=ix_seq.imp fun x y H Q q=>by
 unfold rIxC at q
 split at q
 ·obtain⟨xs,h,q⟩:=q
  obtain⟨v,e,q⟩:=opt_ex q
  rcases h with h | h
  ·exact .inl ⟨_,xs,_,v,rfl,rfl,SqL.of h,e,q⟩
  ·exact .inr (.inl ⟨_,xs,_,v,rfl,rfl,SqT.of h,e,q⟩)
 ·obtain⟨hz,q⟩:=q
  obtain⟨v,e,q⟩:=opt_ex q
  exact .inr (.inr ⟨_,_,v,rfl,rfl,hz,e,q⟩)
 ·exact q.elim
def rSlC:V->Option Int->Option Int->Hp->VK->Prop:=fun x lo hi H Q=>match x with
 | .ref p=>∃ xs,H p=some (.lst xs)/\∀ l,H l=none->Q (.ref l) (upd H l (.lst (cutV xs lo hi)))
 | .str z=>z.length<=sizeLine/\Q (.str ⟨(cutL z.cps.toList lo hi).toArray⟩) H
 | _=>False
theorem slC:SlR X rSlC:=by
 intro pins s σ H x v vl vu lo hi sl Q I rx hs pl pu h
 unfold rSlC at h
 split at h
 ·obtain⟨xs,h1,h2⟩:=h
  exact sl_list pins s σ H _ v vl vu lo hi sl Q I rx hs pl pu ⟨_,xs,rfl,SqL.of h1,h2⟩
 ·exact sl_str pins s σ H _ v vl vu lo hi sl Q I rx hs pl pu ⟨_,rfl,h.1,h.2⟩
 ·exact h.elim
def cNo:TO:=fun _ H Q=>Q none H
def cPart (t:TE):TO:=fun σ H Q=>t σ H fun x H1=>match x with | .int i=>Q (some i) H1 | _=>False
theorem po_noC:PO X none cNo:=po_none
theorem po_someC {te:TE}(h:PE X e te):PO X (some e) (cPart te):=by
 intro pins s σ H Q I hw
 rw[evalPart_some]
 refine thn (h pins s σ H _ I hw) fun u s1 hq4=>?_
 obtain⟨x,H1,I1,r1,q1⟩:=hq4
 cases x with
 | int i=>obtain⟨t,rfl⟩:=r1;exact⟨some i,H1,I1,.int i t,q1⟩
 | _=>exact(show False from q1).elim
def rLenC:List V->Hp->VK->Prop:=fun vs H Q=>match vs with
 | [.ref p]=>∃ xs,(H p=some (.lst xs)\/H p=some (.tup xs))/\Q (.int xs.length) H
 | [.str z]=>z.length<=sizeLine/\Q (.int z.length) H
 | _=>False
theorem lenC:CallR X (.builtin "len") rLenC:=(call_len_seq.or call_len_str).imp fun vs H Q q=>by
 unfold rLenC at q
 split at q
 ·obtain⟨xs,h,q⟩:=q
  rcases h with h | h
  ·exact .inl ⟨_,xs,rfl,.inl (SqL.of h),q⟩
  ·exact .inl ⟨_,xs,rfl,.inr (SqT.of h),q⟩
 ·exact .inr ⟨_,rfl,q.1,q.2⟩
 ·exact q.elim
def rSetC:TSet:=fun o i v H Q=>match o,i with
 | .ref p,.int k=>∃ xs,H p=some (.lst xs)/\opt (ixN xs.length k) fun j=>Q (upd H p (.lst (xs.set j v)))
 | _,_=>False
theorem setC:PSet X rSetC:=by
 intro pins s σ H o i v ov iv u Q I ro ri rv h
 unfold rSetC at h
 split at h
 ·obtain⟨xs,hx,q⟩:=h
  obtain⟨j,e,q⟩:=opt_ex q
  exact set_list pins s σ H _ _ v ov iv u Q I ro ri rv ⟨_,xs,_,j,rfl,rfl,hx,e,q⟩
 ·exact h.elim
def rGetC:V->V->Hp->VK->Prop:=fun o i H Q=>match o,i with
 | .ref p,.int k=>∃ xs,H p=some (.lst xs)/\0<=k/\opt (xs[k.toNat]?) fun v=>Q v H
 | _,_=>False
theorem getC:PGet X rGetC:=by
 intro pins s σ H o i ov iv Q I ro ri h
 unfold rGetC at h
 split at h
 ·obtain⟨xs,hx,h0,q⟩:=h
  obtain⟨v,e,q⟩:=opt_ex q
  cases ro
  obtain⟨t,rfl⟩:=ri
  obtain⟨z,its,n,r,hl,ho⟩:=I.lstM hx
  obtain⟨w,ew,rw'⟩:=r.get e
  have hlt:=(gxB e).1
  have hn:=line63
  exact wpAny_getItem_list (x:=w) (⟨_,ho,rfl,n,rfl⟩:s.heap.IsList _ its.toArray) h0 (by omega) (by simpa using ew) ⟨v,H,I,rw',q⟩
 ·exact h.elim
def ipC (f:Int->Int->Int):TIp:=fun x y H Q=>match x,y with | .int i,.int j=>Q (.int (f i j)) H | _,_=>False
theorem ip_addC:PIp X .Add (ipC fun i j=>i+j):=by
 intro pins s σ H x y v u Q I r1 r2 h
 unfold ipC at h
 split at h
 ·exact ip_add pins s σ H _ _ v u Q I r1 r2 ⟨_,_,rfl,rfl,h⟩
 ·exact h.elim
def cTup (n:Nat)(t:TGs):TG:=fun v σ H Q=>match v with | .ref a=>∃ xs,H a=some (.tup xs)/\xs.length=n/\t xs σ H Q | _=>False
def cCons (t:TG)(u:TGs):TGs:=fun vs σ H Q=>match vs with | v::r=>t v σ H fun σ' H'=>u r σ' H' Q | []=>False
def cNil:TGs:=fun vs σ H Q=>match vs with | []=>Q σ H | _=>False
theorem pg_tupC {es:List Expr}{k:Nat}{t:TGs}{n:Nat}(hc:X.calm=true)(h:PGs X es t)(hn:(assignEach es X.env).length=n:=by rfl)(hst:(assignEach es X.env).findIdx? (·.1)=none:=by rfl):PG X (.Tuple es k pos) (cTup n t) :=
 (pg_tup (pos:=pos) (k:=k) hc h hn hst).imp fun v σ H Q q=>by
  unfold cTup at q
  split at q
  ·obtain⟨xs,a,b,c⟩:=q;exact⟨_,xs,rfl,SqT.of a,b,c⟩
  ·exact q.elim
theorem pgs_consC {es:List Expr}{t:TG}{u:TGs}(h1:PG X e t)(h2:PGs X es u)(hs:(assignEach (e::es) X.env).map (·.2)=assign e X.env::(assignEach es X.env).map (·.2):=by rfl):PGs X (e::es) (cCons t u) :=
 (pgs_cons h1 h2 hs).imp fun v σ H Q q=>by
  unfold cCons at q
  split at q
  ·exact⟨_,_,rfl,q⟩
  ·exact q.elim
theorem pgs_nilC:PGs X [] cNil:=pgs_nil.imp fun v σ H Q q=>by
 unfold cNil at q
 split at q
 ·exact⟨rfl,q⟩
 ·exact q.elim
def rJoinC:V->List V->Hp->VK->Prop:=fun x vs H Q=>match x,vs with
 | .str z,[.ref l]=>z.cps=#[]/\∃ ys:List Str,H l=some (.lst (ys.map V.str))/\(ys.map (·.length)).sum<=16777216/\Q (.str ⟨(ys.map (·.cps.toList)).flatten.toArray⟩) H
 | _,_=>False
theorem joinC:MtR X "str.join" rJoinC:=mt_join.imp fun x vs H Q q=>by
 unfold rJoinC at q
 split at q
 ·obtain⟨a,ys,b,c,d⟩:=q;exact⟨_,_,ys,rfl,a,rfl,SqL.of b,c,d⟩
 ·exact q.elim
def rIsiC (K:PySem.W.Frag):List V->Hp->VK->Prop:=fun vs H Q=>match vs with
 | [x,.ty T]=>∃ t b,TyOf K H x t/\PySem.W.kitOne K t (.type T)=some b/\Q (.bl b) H
 | _=>False
theorem isiC:CallR X (.builtin "isinstance") (rIsiC X.K):=call_isi.imp fun vs H Q q=>by
 unfold rIsiC at q
 split at q
 ·obtain⟨t,b,h1,h2,h3⟩:=q;exact⟨_,_,t,b,rfl,h1,h2,h3⟩
 ·exact q.elim
def rListC (K:PySem.W.Frag):List V->Hp->VK->Prop:=fun vs H Q=>match vs with
 | [.ref p]=>∃ ys,SqL K H p ys/\∀ l,H l=none->Q (.ref l) (upd H l (.lst ys))
 | _=>False
theorem listC:CallR X (.type "list") (rListC X.K):=call_list_of.imp fun vs H Q q=>by
 unfold rListC at q
 split at q
 ·obtain⟨ys,h1,h2⟩:=q;exact⟨_,ys,rfl,.inl h1,h2⟩
 ·exact q.elim
def rMaxC:List V->Hp->VK->Prop:=fun vs H Q=>∃ i j,vs=[.int i,.int j]/\Q (.int (max i j)) H
theorem maxC (hc:X.calm=true):CallR X (.builtin "max") rMaxC:=(call_max2 hc).imp fun vs H Q q=>by
 obtain⟨i,j,rfl,q⟩:=q
 refine⟨_,_,rfl,?_⟩
 have e:(if j>i then j else i)=max i j:=by split <;> omega
 rw[e];exact q
end
theorem iteD {c A B:Prop}[Decidable c](h1:c->A)(h2:¬ c->B):if decide c=true then A else B:=by
 by_cases h:c
 ·rw[if_pos (decide_eq_true h)];exact h1 h
 ·rw[if_neg (by simp[h])];exact h2 h
theorem iteDn {c A B:Prop}[Decidable c](h1:¬ c->A)(h2:c->B):if(true != decide c)=true then A else B:=by
 by_cases h:c
 ·rw[if_neg (by simp[h])];exact h2 h
 ·rw[if_pos (by simp[h])];exact h1 h
theorem iteDf {c A B:Prop}[Decidable c](h1:c->A)(h2:¬ c->B):if(false != decide c)=true then A else B:=by
 by_cases h:c
 ·rw[if_pos (by simp[h])];exact h1 h
 ·rw[if_neg (by simp[h])];exact h2 h
theorem iteB {b:Bool}{A B:Prop}(h1:b=true->A)(h2:b=false->B):if b=true then A else B:=by
 cases b with
 | true=>exact h1 rfl
 | false=>exact h2 rfl
def CNx (n i:Nat)(Pv:Nat->List V->Hp->Prop)(ys:List V):VK:=fun y H4=>ys.length<sizeLine/\∃ m',m'<n - i/\(m'=n - (i+1)/\i+1<=n/\Pv (i+1) (ys++[y]) H4)
theorem cnx {n i:Nat}{Pv:Nat->List V->Hp->Prop}{ys:List V}{y:V}{H:Hp}(hi:i<n)(hl:ys.length<sizeLine)(p:Pv (i+1) (ys++[y]) H):CNx n i Pv ys y H:=⟨hl,n - (i+1),by omega,rfl,hi,p⟩
def CSk (n i:Nat)(Pv:Nat->List V->Hp->Prop)(ys:List V)(H3:Hp):Prop:=∃ m',m'<n - i/\(m'=n - (i+1)/\i+1<=n/\Pv (i+1) ys H3)
end L2
namespace L2
open PySem PySem.Spec PyProof.Rows
structure Cal (P:Program)(w:World)(K:PySem.W.Frag)(mg:Str->Option Value)(base:Heap)(x:Str)(k:Nat)(ps:List Str)(sp:Sp):Prop where
 ex:∃ f fd,FnOk P w K mg base CX0 k f fd ps sp/\mg x=some (.ref f)/\PySem.W.keepIn K (.ref f)=true/\Binds K fd ps []
theorem pe_callC {X:Cx}{x:Str}{p pos:Pos}{e:Expr}{es:List Expr}{t:TA}{k:Nat}{ps:List Str}{sp:Sp}(C:Cal X.prog X.w X.K X.mg X.base x k ps sp)(hr:Room k X.A)(hg:Gl X x)(ha:PA X (e::es) t)
 (hdb:(x==("__debug__" : Str))=false:=by decide) (he:starEach (e::es) X.env=(false,eval e X.env)::starEach es X.env:=by rfl) (hpl:(backTo pos (starEach es X.env)).any (·.1)=false:=by rfl) :
 PE X (.Call (.Name x p) (e::es) [] pos) (tCall sp [] E0 t):=by
 obtain⟨f,fd,F,hm,hk,hb⟩:=C.ex
 exact pe_call F hr hg hm hk hb .nil pass0 ha hdb he hpl
def tCut (t u:TS):TS:=fun D σ H=>∃ M:St->Hp->Prop,t { D with nx:=M} σ H/\∀ σ' H',M σ' H'->u D σ' H'
theorem pss_cut {X:Cx}{st:Stmt}{rest:List Stmt}{t u:TS}(h1:PS X st t)(h2:PSs X rest u):PSs X (st::rest) (tCut t u):=by
 intro pins s σ H D I h
 obtain⟨M,a,b⟩:=h
 refine wpAny_execs_cons (thn (h1 pins s σ H { D with nx:=M} I a) fun f s1 q=>?_)
 cases f with
 | next =>
  obtain⟨σ',H',I',q⟩:=q
  exact h2 pins s1 σ' H' D I' (b σ' H' q)
 | ret v=>exact q
 | brk=>exact q
 | cont=>exact q
theorem opt_of {α:Type}{o:Option α}{k:α->Prop}{v:α}(e:o=some v)(h:k v):opt o k:=by rw[e];exact h
def OB (b:Addr)(H H':Hp):Prop:=∀ c,c≠b->H' c=H c
theorem OB.refl {b:Addr}{H:Hp}:OB b H H:=fun _ _=>rfl
theorem OB.upd {b:Addr}{H H':Hp}{o:HO}(h:OB b H H'):OB b H (L2.upd H' b o):=fun c n=>by rw[upd_ne n];exact h c n
theorem pM:(0:Int)<2147483647:=by decide
theorem pN:(0:Int)<1000000007:=by decide
def OX (l:List Nat):Prop:=∀ c∈l,c=111\/c=120
theorem OX.of {l:List Nat}(h:l.all (fun c=>c==111||c==120)=true):OX l:=fun c hc=>by
 have:=List.all_eq_true.mp h c hc
 simpa using this
theorem OX.app {a b:List Nat}(ha:OX a)(hb:OX b):OX (a++b):=fun c h=>(List.mem_append.mp h).elim (ha c) (hb c)
theorem OX.rep {c n:Nat}(h:c=111\/c=120):OX (List.replicate n c):=fun d hd=>by rw[(List.mem_replicate.mp hd).2];exact h
theorem atI_in {l:List Nat}{v:Int}(h0:0<=v)(h1:v<l.length):∃ c,atI l v=some c/\c∈l:=by
 have hlt:v.toNat<l.length:=by omega
 refine⟨l[v.toNat],?_,List.getElem_mem _⟩
 have q:=atI_nat (xs:=l) (j:=v.toNat) (v:=l[v.toNat]) (gxA hlt)
 rwa [Int.toNat_of_nonneg h0]at q
theorem app_str (a b:List Nat):((⟨a.toArray⟩:Str)++(⟨b.toArray⟩:Str))=⟨(a++b).toArray⟩:=by
 show(⟨a.toArray++b.toArray⟩:Str)=_
 congr 1
 simp
theorem lenS (a:List Nat):(⟨a.toArray⟩:Str).length=a.length:=by simp[Str.length]
theorem flat_signs:∀ l:List Nat,((l.map fun c=>(⟨#[c]⟩:Str)).map (·.cps.toList)).flatten=l
 | []=>rfl
 | c::r=>by rw[List.map_cons,List.map_cons,List.flatten_cons,flat_signs r];rfl
theorem sum_signs:∀ l:List Nat,((l.map fun c=>(⟨#[c]⟩:Str)).map (·.length)).sum=l.length
 | []=>rfl
 | c::r=>by
  rw[List.map_cons,List.map_cons,List.sum_cons,sum_signs r]
  show 1+r.length=r.length+1
  omega
def spLaw (K:PySem.W.Frag):Sp:=fun vs H Q _=>∃(a:Addr) (ns:List Int),vs=[.ref a]/\SqL K H a (ns.map V.int)/\ns.length<=63/\∀ H',Q (.bl true) H'
theorem lenA (z:Str):z.length=z.cps.toList.length:=by simp[Str.length]
theorem fne (b:Bool):(false != b)=b:=by cases b <;> rfl
theorem tne (b:Bool):(true != b)=!b:=by cases b <;> rfl
theorem kit_same (K:PySem.W.Frag)(T:String):PySem.W.kitOne K (.type T) (.type T)=some true:=by unfold PySem.W.kitOne;simp
def ItOf (c:Bool)(h:Heap)(it a:Addr)(k:Nat):Prop:=if c=true then h.IsTupleIter it a k else h.IsListIter it a k
def SqOf (c:Bool)(h:Heap)(a:Addr)(its:Array Value):Prop:=if c=true then h.IsTuple a its else h.IsList a its
theorem ItOf.extBut {c:Bool}{h h':Heap}{it a b:Addr}{k:Nat}(x:ItOf c h it a k)(hs:Heap.ExtBut b h h')(hab:it≠b):ItOf c h' it a k:=by
 cases c with
 | true=>exact Heap.IsTupleIter.extBut x hs hab
 | false=>exact Heap.IsListIter.extBut x hs hab
theorem SqOf.extBut {c:Bool}{h h':Heap}{a b:Addr}{its:Array Value}(x:SqOf c h a its)(hs:Heap.ExtBut b h h')(hab:a≠b):SqOf c h' a its:=by
 cases c with
 | true=>exact Heap.IsTuple.extBut x hs hab
 | false=>exact Heap.IsList.extBut x hs hab
theorem SqOf.lt {c:Bool}{h:Heap}{a:Addr}{its:Array Value}(x:SqOf c h a its):a≠h.objs.size:=by
 cases c with
 | true=>obtain⟨o,e,_⟩:=x;exact Nat.ne_of_lt (gxN e)
 | false=>obtain⟨o,e,_⟩:=x;exact Nat.ne_of_lt (gxN e)
theorem ItOf.ex {c:Bool}{h:Heap}{it a:Addr}{k:Nat}(x:ItOf c h it a k):∃ o,h.get? it=some o:=by
 cases c with
 | true=>obtain⟨o,e,_⟩:=x;exact⟨o,e⟩
 | false=>obtain⟨o,e,_⟩:=x;exact⟨o,e⟩
theorem ItOf.data {c:Bool}{h:Heap}{it a:Addr}{k:Nat}(x:ItOf c h it a k):∃ o,h.get? it=some o/\∀ v,o.data≠.cell v:=by
 cases c with
 | true=>obtain⟨o,e,_,d⟩:=x;exact⟨o,e,fun v z=>by rw[d]at z;cases z⟩
 | false=>obtain⟨o,e,_,d⟩:=x;exact⟨o,e,fun v z=>by rw[d]at z;cases z⟩
theorem ItOf.at {c:Bool}{h h':Heap}{it a:Addr}{k:Nat}(x:ItOf c h it a k)(e:∀ o,h.get? it=some o->h'.get? it=some o):ItOf c h' it a k:=by
 cases c with
 | true=>obtain⟨o,q,r⟩:=x;exact⟨o,e o q,r⟩
 | false=>obtain⟨o,q,r⟩:=x;exact⟨o,e o q,r⟩
section
variable {prog:Program}{w:World}{A:Around}{E:Value->Shared->Prop}{s:Shared}
theorem nextT_item {it t:Addr}{i:Nat}{items}{x:Value}{Q:Value->Shared->Prop}(hit:s.heap.IsTupleIter it t i)(ht:s.heap.IsTuple t items)(hx:items[i]?=some x)
 (hQ:∀ h',h'.IsTupleIter it t (i+1)->Heap.SameBut it s.heap h'->Q x { s with heap:=h'}):wpAny (model prog w) A (Builtin.SmallTypes.nextOf (.ref it)) Q E s:=by
 obtain⟨o,ho,hc,hd⟩:=id hit
 obtain⟨ol,hol,_,nl,hdl⟩:=ht
 unfold Builtin.SmallTypes.nextOf
 refine gxM (wpAny_callSpecial?_slot (name:=Str.ofString "__next__") hit.typeIs F.slot_tuple_iterator_next (wpAny_call_entry F.slot_tuple_iterator_next hit.typeIs F.entry_tuple_iterator_next ?_ (F.args_tuple_iterator_next_1 _)))
 show wpAny _ _ (field (.ref it) 0 >>= _) _ _ s
 refine gxM (wpAny_field ho hd (x:=.ref t) rfl ?_)
 show wpAny _ _ (if(Value.ref t==Value.none)=true then _ else _) _ _ s
 rw[if_neg (show ¬ ((Value.ref t==Value.none)=true)from Bool.false_ne_true)]
 show wpAny _ _ (field (.ref it) 1 >>= _) _ _ s
 refine gxM (wpAny_field ho hd (x:=.int i 0) rfl ?_)
 show wpAny _ _ (seqItems? (.ref t) >>= _) _ _ s
 refine gxM (wpAny_seqItems hol hdl ?_)
 simp only[gxK,hx]
 refine gxM (wpAny_setField ho hd (by simp) (wpAny_pure ⟨x,rfl,wpAny_pure (hQ _ ?_ (Heap.SameBut.update ..))⟩))
 exact⟨_,Heap.get?_update_self _ ho (Obj.isFreed_of_fields (Obj.data_mapFields hd _)),(Obj.cls_mapFields ..).trans hc,by rw[Obj.data_mapFields hd];simp[rawInt]⟩
theorem nextT_end {it t:Addr}{i:Nat}{items}{Q:Value->Shared->Prop}(hh:A.handled=none)(hit:s.heap.IsTupleIter it t i)(ht:s.heap.IsTuple t items)(hx:items[i]?=none)
 (hE:∀ h' e,Heap.ExtBut it s.heap h'->(∃ o,h'.get? e=some o/\o.cls=.type "StopIteration")->E (.ref e) { s with heap:=h'}):wpAny (model prog w) A (Builtin.SmallTypes.nextOf (.ref it)) Q E s:=by
 obtain⟨o,ho,hc,hd⟩:=id hit
 obtain⟨ol,hol,_,nl,hdl⟩:=ht
 unfold Builtin.SmallTypes.nextOf
 refine gxM (wpAny_callSpecial?_slot (name:=Str.ofString "__next__") hit.typeIs F.slot_tuple_iterator_next (wpAny_call_entry F.slot_tuple_iterator_next hit.typeIs F.entry_tuple_iterator_next ?_ (F.args_tuple_iterator_next_1 _)))
 show wpAny _ _ (field (.ref it) 0 >>= _) _ _ s
 refine gxM (wpAny_field ho hd (x:=.ref t) rfl ?_)
 show wpAny _ _ (if(Value.ref t==Value.none)=true then _ else _) _ _ s
 rw[if_neg (show ¬ ((Value.ref t==Value.none)=true)from Bool.false_ne_true)]
 show wpAny _ _ (field (.ref it) 1 >>= _) _ _ s
 refine gxM (wpAny_field ho hd (x:=.int i 0) rfl ?_)
 show wpAny _ _ (seqItems? (.ref t) >>= _) _ _ s
 refine gxM (wpAny_seqItems hol hdl ?_)
 simp only[gxK,hx]
 refine gxM (wpAny_rule (gxM (wpAny_setField ho hd (by simp) ?_)))
 show wpAny _ _ (newExc (.type "StopIteration") [] >>= _) _ _ _
 refine gxM ?_
 simp only[newExc,newTuple]
 refine gxM (wpAny_newObj_type ?_ (by size_fits))
 refine gxM (m:=firstArgMember _ _) (wpAny_of_eq (a:=Value.none) (by first | rfl | (simp only[firstArgMember];rfl)) ?_)
 refine wpAny_newObj_type ?_ (by size_fits)
 simp only[raiseNew]
 refine gxM (wpAny_handled ?_)
 first | rw[show A.in1.handled=none from hh] | rw[hh]
 refine gxM (wpAny_pure (wpAny_throw ?_))
 exact hE _ _ (((Heap.SameBut.update ..).extBut.push _).push _) ⟨_,Heap.get?_push_size _ rfl,rfl⟩
theorem nextG_item {c:Bool}{it l:Addr}{i:Nat}{items:Array Value}{x:Value}{Q:Value->Shared->Prop}(hit:ItOf c s.heap it l i)(hl:SqOf c s.heap l items)(hx:items[i]?=some x)
 (hQ:∀ h',ItOf c h' it l (i+1)->Heap.SameBut it s.heap h'->Q x { s with heap:=h'}):wpAny (model prog w) A (Builtin.SmallTypes.nextOf (.ref it)) Q E s:=by
 cases c with
 | true=>exact nextT_item hit hl hx hQ
 | false=>exact wpAny_nextOf_list_item hit hl hx hQ
theorem nextG_end {c:Bool}{it l:Addr}{i:Nat}{items:Array Value}{Q:Value->Shared->Prop}(hh:A.handled=none)(hit:ItOf c s.heap it l i)(hl:SqOf c s.heap l items)(hx:items[i]?=none)
 (hE:∀ h' e,Heap.ExtBut it s.heap h'->(∃ o,h'.get? e=some o/\o.cls=.type "StopIteration")->E (.ref e) { s with heap:=h'}):wpAny (model prog w) A (Builtin.SmallTypes.nextOf (.ref it)) Q E s:=by
 cases c with
 | true=>exact nextT_end hh hit hl hx hE
 | false=>exact wpAny_nextOf_list_end hh hit hl hx hE
structure ZS (c:Bool)(z TI TO i1 i2 l1 l2:Addr)(f a b:Value)(k1 k2:Nat)(xs ys:Array Value)(h:Heap):Prop where
 z:IsZip h z TI TO f
 ti:IsPair h TI (.ref i1) (.ref i2)
 to:IsPair h TO a b
 n1:ItOf c h i1 l1 k1
 n2:ItOf c h i2 l2 k2
 q1:SqOf c h l1 xs
 q2:SqOf c h l2 ys
def ZK (z TO i1 i2:Addr)(h h':Heap):Prop:=∀ d o,d≠z->d≠TO->d≠i1->d≠i2->h.get? d=some o->h'.get? d=some o
theorem ZK.trans {z TO i1 i2:Addr}{h h1 h2:Heap}(a:ZK z TO i1 i2 h h1)(b:ZK z TO i1 i2 h1 h2):ZK z TO i1 i2 h h2:=fun d o q1 q2 q3 q4 e=>b d o q1 q2 q3 q4 (a d o q1 q2 q3 q4 e)
section
variable {c:Bool}{z TI TO i1 i2 l1 l2:Addr}{f f' a b x y:Value}{k1 k2:Nat}{xs ys:Array Value}{h h':Heap}
theorem ZS.mz (S:ZS c z TI TO i1 i2 l1 l2 f a b k1 k2 xs ys h)(D:ZipApart z TI TO i1 i2 l1 l2)(e:IsZip h' z TI TO f')(k:Heap.ExtBut z h h'):ZS c z TI TO i1 i2 l1 l2 f' a b k1 k2 xs ys h' :=
 ⟨e,k _ _ D.TIz S.ti,k _ _ D.TOz S.to,S.n1.extBut k D.i1z,S.n2.extBut k D.i2z,S.q1.extBut k D.l1z,S.q2.extBut k D.l2z⟩
theorem ZS.m1 {j:Nat}(S:ZS c z TI TO i1 i2 l1 l2 f a b k1 k2 xs ys h)(D:ZipApart z TI TO i1 i2 l1 l2)(e:ItOf c h' i1 l1 j)(k:Heap.ExtBut i1 h h'):ZS c z TI TO i1 i2 l1 l2 f a b j k2 xs ys h' :=
 ⟨k _ _ D.i1z.symm S.z,k _ _ D.TIi1 S.ti,k _ _ D.TOi1 S.to,e,S.n2.extBut k D.i12.symm,S.q1.extBut k D.l1i1,S.q2.extBut k D.l2i1⟩
theorem ZS.m2 {j:Nat}(S:ZS c z TI TO i1 i2 l1 l2 f a b k1 k2 xs ys h)(D:ZipApart z TI TO i1 i2 l1 l2)(e:ItOf c h' i2 l2 j)(k:Heap.ExtBut i2 h h'):ZS c z TI TO i1 i2 l1 l2 f a b k1 j xs ys h' :=
 ⟨k _ _ D.i2z.symm S.z,k _ _ D.TIi2 S.ti,k _ _ D.TOi2 S.to,S.n1.extBut k D.i12,e,S.q1.extBut k D.l1i2,S.q2.extBut k D.l2i2⟩
theorem ZS.mo (S:ZS c z TI TO i1 i2 l1 l2 f a b k1 k2 xs ys h)(D:ZipApart z TI TO i1 i2 l1 l2)(e:IsPair h' TO x y)(k:Heap.ExtBut TO h h'):ZS c z TI TO i1 i2 l1 l2 f x y k1 k2 xs ys h' :=
 ⟨k _ _ D.TOz.symm S.z,k _ _ D.TITO S.ti,e,S.n1.extBut k D.TOi1.symm,S.n2.extBut k D.TOi2.symm,S.q1.extBut k D.l1TO,S.q2.extBut k D.l2TO⟩
theorem ZS.push (S:ZS c z TI TO i1 i2 l1 l2 f a b k1 k2 xs ys h)(o:Obj):ZS c z TI TO i1 i2 l1 l2 f a b k1 k2 xs ys (h.push o) :=
 ⟨gxL _ S.z,gxL _ S.ti,gxL _ S.to,S.n1.at fun _ e=>gxL _ e,S.n2.at fun _ e=>gxL _ e,
  S.q1.extBut (b:=h.objs.size) (fun _ _ _ e=>gxL _ e) (S.q1.lt),S.q2.extBut (b:=h.objs.size) (fun _ _ _ e=>gxL _ e) (S.q2.lt)⟩
theorem zk_z (k:Heap.ExtBut z h h'):ZK z TO i1 i2 h h':=fun d o q _ _ _ e=>k d o q e
theorem zk_o (k:Heap.ExtBut TO h h'):ZK z TO i1 i2 h h':=fun d o _ q _ _ e=>k d o q e
theorem zk_1 (k:Heap.ExtBut i1 h h'):ZK z TO i1 i2 h h':=fun d o _ _ q _ e=>k d o q e
theorem zk_2 (k:Heap.ExtBut i2 h h'):ZK z TO i1 i2 h h':=fun d o _ _ _ q e=>k d o q e
end
section
variable {c:Bool}{z TI TO i1 i2 l1 l2:Addr}{k1 k2:Nat}{xs ys:Array Value}{x y a b:Value}
theorem zip_turn {Q:Value->Shared->Prop}(D:ZipApart z TI TO i1 i2 l1 l2)(S:ZS c z TI TO i1 i2 l1 l2 .none a b k1 k2 xs ys s.heap)(hx:xs[k1]?=some x)(hy:ys[k2]?=some y)
 (hQ:∀ h',ZS c z TI TO i1 i2 l1 l2 (rawInt s.heap.objs.size) x y (k1+1) (k2+1) xs ys h'->IsPair h' s.heap.objs.size x y->ZK z TO i1 i2 s.heap h'->Q (.ref s.heap.objs.size) { s with heap:=h'}) :
 wpAny (model prog w) A (Builtin.«zip.__next__» ⟨[.ref z],[]⟩) (fun fin s'=>∃ v,fin=.done (.ret v)/\Q v s') E s:=by
 refine gxM (wpAny_pure (gxM (wpAny_field S.z rfl (x:=.bool false) rfl (gxM (wpAny_field S.z rfl (x:=.ref TI) rfl (gxM (wpAny_seqItems S.ti rfl ?_)))))))
 refine gxM (m:=Builtin.SmallTypes.ownedTupleIsFree (.ref z)) (gxM (wpAny_field S.z rfl (x:=.none) rfl (wpAny_pure ?_)))
 refine gxM (wpAny_rule (gxM (wpAny_field S.z rfl (x:=.ref TO) rfl (gxM (wpAny_setField_rec S.z (by simp) fun g1 e1 t1=>?_)))))
 have S1:=S.mz D (f':=.ellipsis) e1 t1.extBut
 refine gxM ?_
 rw[show(#[Value.ref i1,Value.ref i2]:Array Value).toList.zipIdx=[(.ref i1,0),(.ref i2,1)]from rfl,List.forIn_cons]
 refine gxM (gxM (wpAny_onRaise (gxM (nextG_item S1.n1 S1.q1 hx fun g2 e2 t2=>wpAny_pure ?_))))
 have S2:=S1.m1 D e2 t2.extBut
 refine gxM (wpAny_seqItems S2.to rfl (gxM (wpAny_updateSeq_pair S2.to fun g3 e3 t3=>gxM (wpAny_letGo (wpAny_pure ?_)))))
 have S3:=S2.mo D (x:=x) (y:=b) e3 t3.extBut
 dsimp only
 rw[List.forIn_cons]
 refine gxM (gxM (wpAny_onRaise (gxM (nextG_item S3.n2 S3.q2 hy fun g4 e4 t4=>wpAny_pure ?_))))
 have S4:=S3.m2 D e4 t4.extBut
 refine gxM (wpAny_seqItems S4.to rfl (gxM (wpAny_updateSeq_pair S4.to fun g5 e5 t5=>gxM (wpAny_letGo (wpAny_pure ?_)))))
 have S5:=S4.mo D (x:=x) (y:=y) e5 t5.extBut
 dsimp only
 rw[List.forIn_nil]
 have sz:g5.objs.size=s.heap.objs.size:=t5.1.trans (t4.1.trans (t3.1.trans (t2.1.trans t1.1)))
 refine wpAny_pure (gxM (wpAny_seqItems S5.to rfl (gxM (wpAny_newTuple ?_))))
 have S6:=S5.push { cls:=.type "tuple",data:=.seq #[x,y]}
 refine gxM (m:=Builtin.SmallTypes.ownedTupleHandOut (.ref z) (.ref g5.objs.size)) (gxM (wpAny_setField_rec S6.z (by simp) fun g7 e7 t7=>?_))
 have S7:=S6.mz D (f':=rawInt g5.objs.size) e7 t7.extBut
 refine wpAny_setField_rec S7.z (by simp) fun g8 e8 t8=>?_
 have S8:=S7.mz D (f':=rawInt g5.objs.size) e8 t8.extBut
 have zlt:g5.objs.size≠z:=Nat.ne_of_gt (gxN S5.z)
 have hT:IsPair g8 g5.objs.size x y:=t8.extBut _ _ zlt (t7.extBut _ _ zlt (Heap.get?_push_size _ rfl))
 have kk:ZK z TO i1 i2 s.heap g8:=((((((zk_z t1.extBut).trans (zk_1 t2.extBut)).trans (zk_o t3.extBut)).trans (zk_2 t4.extBut)).trans (zk_o t5.extBut)).trans (fun d o _ _ _ _ e=>gxL _ e)).trans ((zk_z t7.extBut).trans (zk_z t8.extBut))
 rw[sz]at S8 hT
 refine wpAny_pure ⟨_,rfl,?_⟩
 show Q (.ref g5.objs.size) _
 rw[sz]
 exact hQ g8 S8 hT kk
theorem zip_over {Q:Fin->Shared->Prop}(hh:A.handled=none)(D:ZipApart z TI TO i1 i2 l1 l2)(S:ZS c z TI TO i1 i2 l1 l2 .none a b k1 k2 xs ys s.heap)(hx:xs[k1]?=none)
 (hE:∀ h' e,ZK z TO i1 i2 s.heap h'->(∃ o,h'.get? e=some o/\o.cls=.type "StopIteration")->E (.ref e) { s with heap:=h'}) :
 wpAny (model prog w) A (Builtin.«zip.__next__» ⟨[.ref z],[]⟩) Q E s:=by
 refine gxM (wpAny_pure (gxM (wpAny_field S.z rfl (x:=.bool false) rfl (gxM (wpAny_field S.z rfl (x:=.ref TI) rfl (gxM (wpAny_seqItems S.ti rfl ?_)))))))
 refine gxM (m:=Builtin.SmallTypes.ownedTupleIsFree (.ref z)) (gxM (wpAny_field S.z rfl (x:=.none) rfl (wpAny_pure ?_)))
 refine gxM (wpAny_rule (gxM (wpAny_field S.z rfl (x:=.ref TO) rfl (gxM (wpAny_setField_rec S.z (by simp) fun g1 e1 t1=>?_)))))
 have S1:=S.mz D (f':=.ellipsis) e1 t1.extBut
 refine gxM ?_
 rw[show(#[Value.ref i1,Value.ref i2]:Array Value).toList.zipIdx=[(.ref i1,0),(.ref i2,1)]from rfl,List.forIn_cons]
 refine gxM (gxM (wpAny_onRaise (gxM (nextG_end hh S1.n1 S1.q1 hx fun g2 e t2 he=>?_))))
 obtain⟨oe,hoe,hce⟩:=he
 have hz2:IsZip g2 z TI TO .ellipsis:=t2 _ _ D.i1z.symm S1.z
 have hez:e≠z:=fun q=>by subst q;rw[hz2]at hoe;cases hoe;simp at hce
 exact wpAny_setField_rec hz2 (by simp) fun g3 _ t3=>hE g3 e (((zk_z t1.extBut).trans (zk_1 t2)).trans (zk_z t3.extBut)) ⟨oe,t3.extBut _ _ hez hoe,hce⟩
theorem zip_item {Q:Option Value->Shared->Prop}(D:ZipApart z TI TO i1 i2 l1 l2)(S:ZS c z TI TO i1 i2 l1 l2 .none a b k1 k2 xs ys s.heap)(hx:xs[k1]?=some x)(hy:ys[k2]?=some y)
 (hQ:∀ h',ZS c z TI TO i1 i2 l1 l2 (rawInt s.heap.objs.size) x y (k1+1) (k2+1) xs ys h'->IsPair h' s.heap.objs.size x y->ZK z TO i1 i2 s.heap h'->Q (some (.ref s.heap.objs.size)) { s with heap:=h'}) :
 wpAny (model prog w) A (pyNext (.ref z)) Q E s:=by
 have ty:s.TypeIs (.ref z) "zip":=⟨_,S.z,rfl⟩
 unfold pyNext
 exact gxM (wpAny_attempt (wpAny_callSpecial?_slot (name:=Str.ofString "__next__") ty F.slot_zip_next (wpAny_call_entry F.slot_zip_next ty F.entry_zip_next (zip_turn D S hx hy fun h' a1 a2 a3=>wpAny_pure (hQ h' a1 a2 a3)) (F.args_zip_next_1 _))))
theorem zip_end {Q:Option Value->Shared->Prop}(hh:A.handled=none)(D:ZipApart z TI TO i1 i2 l1 l2)(S:ZS c z TI TO i1 i2 l1 l2 .none a b k1 k2 xs ys s.heap)(hx:xs[k1]?=none)
 (hQ:∀ h',ZK z TO i1 i2 s.heap h'->Q none { s with heap:=h'}):wpAny (model prog w) A (pyNext (.ref z)) Q E s:=by
 have ty:s.TypeIs (.ref z) "zip":=⟨_,S.z,rfl⟩
 unfold pyNext
 refine gxM (wpAny_attempt (wpAny_callSpecial?_slot (name:=Str.ofString "__next__") ty F.slot_zip_next (wpAny_call_entry F.slot_zip_next ty F.entry_zip_next (zip_over hh D S hx fun h' e hk he=>?_) (F.args_zip_next_1 _))))
 obtain⟨o,ho,hc⟩:=he
 exact gxM (wpAny_isInstance (T := "StopIteration") (b:=true) ⟨o,ho,hc⟩ isSubtype_stop (wpAny_pure (hQ _ hk)))
end
end
def SqC (c:Bool)(H:Hp)(a:Addr)(xs:List V):Prop:=if c=true then H a=some (.tup xs)else H a=some (.lst xs)
theorem SqC.inj {c:Bool}{H:Hp}{a:Addr}{xs ys:List V}(h:SqC c H a xs)(h':SqC c H a ys):xs=ys:=by
 cases c with
 | true=>have h1:H a=some (.tup xs):=h;have h2:H a=some (.tup ys):=h';rw[h1]at h2;cases h2;rfl
 | false=>have h1:H a=some (.lst xs):=h;have h2:H a=some (.lst ys):=h';rw[h1]at h2;cases h2;rfl
theorem SqC.ex {c:Bool}{H:Hp}{a:Addr}{xs:List V}(h:SqC c H a xs):∃ o,H a=some o:=by
 cases c with
 | true=>exact⟨_,h⟩
 | false=>exact⟨_,h⟩
theorem SqC.val {X:Cx}{pins:List (Addr×Obj)}{σ:St}{H:Hp}{s:Shared}{c:Bool}{a:Addr}{xs:List V}(I:Inv X pins σ H s)(h:SqC c H a xs):∃ its:List Value,Vals xs its/\SqOf c s.heap a its.toArray:=by
 cases c with
 | true =>
  obtain⟨_,its,r,p⟩:=(show ObjOk X.prog X.w H s.heap a (.tup xs)from I.hok a _ h)
  exact⟨its,r,p⟩
 | false =>
  obtain⟨_,its,n,r,_,e⟩:=I.lstM h
  exact⟨its,r,⟨_,e,rfl,n,rfl⟩⟩
def Itz (c:Bool)(a1 a2:Addr):It :=
 ⟨fun i H=>∃ xs ys x y,SqC c H a1 xs/\SqC c H a2 ys/\xs[i]?=some x/\ys[i]?=some y,
  fun i H v H'=>∃ T x y,v=.ref T/\H T=none/\H'=upd H T (.tup [x,y])/\(∀ xs,SqC c H a1 xs->xs[i]?=some x)/\(∀ ys,SqC c H a2 ys->ys[i]?=some y),
  fun i H=>∃ xs ys,SqC c H a1 xs/\SqC c H a2 ys/\xs.length<=i⟩
section
variable {X:Cx}{pins:List (Addr×Obj)}{σ:St}{H:Hp}{s:Shared}
theorem Inv.turnT {ch:List Addr}{h'':Heap}{x y:V}{u v:Value}(I:Inv X pins σ H s)(fr:∀ b∈ch,FpOk X pins H b)(kp':∀ b o,b∉ch->s.heap.get? b=some o->h''.get? b=some o)(hT':IsPair h'' s.heap.objs.size u v)(ru:RelV x u)(rv:RelV y v) :
 Inv X pins σ (upd H s.heap.objs.size (.tup [x,y])) { s with heap:=h''}:=by
 have hn:H s.heap.objs.size=none:=I.hok.fresh (Nat.le_refl _)
 refine I.step (g':=s.gens) (d':=s.drawn) (t':=s.toks) (h':=h'') (ch:=ch) (fun b hb=>?_) (fun b o _ _ hb e _=>kp' b o hb e) (fun b o _ _ hb e _=>⟨o.slots,kp' b o hb e⟩)
  (fun b o hb e n=>by rw[upd_ne (Nat.ne_of_lt (gxN e))];exact n) (fun b o hb e=>⟨o,kp' b o hb e⟩)
  (fun b zs e=>by rw[upd_ne (ne_of_none e hn)];exact e) (fun b o u e=>by rw[upd_ne (ne_of_none e hn)];exact e) (fun b ps e=>⟨#[],by rw[upd_ne (ne_of_none e hn),e];simp⟩) (fun m hm=>?_) (fun b o e=>?_) I.bare
 ·obtain⟨f0,f1,f2,f3,f4,f5⟩:=fr b hb
  exact⟨f3,f1,f4,f5⟩
 ·obtain⟨o,es,ep,ho,rr⟩:=hm
  exact⟨o,es,ep,kp' _ o (fun q=>(fr _ q).2.1 rfl) ho,rr⟩
 ·by_cases hb:b=s.heap.objs.size
  ·subst hb;rw[upd_same]at e;cases e
   exact⟨by show 2<=sizeLine;decide,[u,v],.cons ru (.cons rv .nil),⟨_,hT',rfl,0,rfl⟩⟩
  ·rw[upd_ne hb]at e
   refine(I.hok b o e).stay (fun d v' hd q=>kp' d v' (fun hm=>?_) q) (fun d q=>by rw[upd_ne (ne_of_none q hn)];exact q) fun d zs q=>by rw[upd_ne (ne_of_none q hn)];exact q
   have nn:=(fr d hm).1
   rcases hd with rfl | hd
   ·rw[nn]at e;cases e
   ·rw[nn]at hd;cases hd
theorem Inv.turnK {ch:List Addr}{h'':Heap}(I:Inv X pins σ H s)(fr:∀ b∈ch,FpOk X pins H b)(kp':∀ b o,b∉ch->s.heap.get? b=some o->h''.get? b=some o):Inv X pins σ H { s with heap:=h''}:=by
 refine I.step (g':=s.gens) (d':=s.drawn) (t':=s.toks) (h':=h'') (ch:=ch) (fun b hb=>?_) (fun b o _ _ hb e _=>kp' b o hb e) (fun b o _ _ hb e _=>⟨o.slots,kp' b o hb e⟩)
  (fun b o hb e n=>n) (fun b o hb e=>⟨o,kp' b o hb e⟩) (fun b zs e=>e) (fun b o u e=>e) (fun b ps e=>⟨#[],by rw[e];simp⟩) (fun m hm=>?_) (fun b o e=>?_) I.bare
 ·obtain⟨f0,f1,f2,f3,f4,f5⟩:=fr b hb
  exact⟨f3,f1,f4,f5⟩
 ·obtain⟨o,es,ep,ho,rr⟩:=hm
  exact⟨o,es,ep,kp' _ o (fun q=>(fr _ q).2.1 rfl) ho,rr⟩
 ·refine(I.hok b o e).stay (fun d v' hd q=>kp' d v' (fun hm=>?_) q) (fun d q=>q) fun d zs q=>q
  have nn:=(fr d hm).1
  rcases hd with rfl | hd
  ·rw[nn]at e;cases e
  ·rw[nn]at hd;cases hd
end
theorem turn_zip {P:Program}{w:World}{K:PySem.W.Frag}{elts:List Expr}{kk:Nat}{tpos:Pos}{c:Bool}{z TI TO i1 i2 l1 l2:Addr}(D:ZipApart z TI TO i1 i2 l1 l2) :
 Turn P w K (.Tuple elts kk tpos) (Itz c l1 l2) [z,TI,TO,i1,i2] z (fun i h=>IsZip h z TI TO .none/\IsPair h TI (.ref i1) (.ref i2)/\(∃ a b,IsPair h TO a b)/\ItOf c h i1 l1 i/\ItOf c h i2 l2 i) where
 mem:=by simp
 obj:=fun i h st b hb=>by
  obtain⟨hz,hTI,⟨a,b',hTO⟩,h1,h2⟩:=st
  simp only[List.mem_cons,List.not_mem_nil,or_false]at hb
  rcases hb with rfl | rfl | rfl | rfl | rfl
  ·exact⟨_,hz,fun v q=>by cases q⟩
  ·exact⟨_,hTI,fun v q=>by cases q⟩
  ·exact⟨_,hTO,fun v q=>by cases q⟩
  ·exact h1.data
  ·exact h2.data
 keep:=fun i h h' st k=>by
  obtain⟨hz,hTI,⟨a,b',hTO⟩,h1,h2⟩:=st
  exact⟨k z (by simp) _ hz,k TI (by simp) _ hTI,⟨a,b',k TO (by simp) _ hTO⟩,h1.at fun o e=>k i1 (by simp) o e,h2.at fun o e=>k i2 (by simp) o e⟩
 item:=by
  intro X hP hw hK hc i pins s σ H E I hf st hg
  subst hP hw hK
  obtain⟨hz,hTI,⟨a,b',hTO⟩,h1,h2⟩:=st
  obtain⟨xs,ys,x,y,q1,q2,ex,ey⟩:=hg
  obtain⟨us,r1,p1⟩:=q1.val I
  obtain⟨ws,r2,p2⟩:=q2.val I
  obtain⟨u,eu,ru⟩:=r1.get ex
  obtain⟨v,ev,rv⟩:=r2.get ey
  refine zip_item D ⟨hz,hTI,hTO,h1,h2,p1,p2⟩ (by simpa using eu) (by simpa using ev) fun h' S' hT hk=>?_
  refine⟨_,rfl,wpAny_letOwnedTupleGo_zip S'.z fun h'' e'' t''=>?_⟩
  have S'':=S'.mz D (f':=.none) e'' t''.extBut
  have Tz:s.heap.objs.size≠z:=Nat.ne_of_gt (gxN hz)
  have hT':IsPair h'' s.heap.objs.size u v:=t''.extBut _ _ Tz hT
  have kp:ZK z TO i1 i2 s.heap h'':=hk.trans (zk_z t''.extBut)
  have hn:H s.heap.objs.size=none:=I.hok.fresh (Nat.le_refl _)
  have fr:∀ b∈[z,TO,i1,i2],FpOk X pins H b:=fun b hb=>hf b (by
   simp only[List.mem_cons,List.not_mem_nil,or_false]at hb ⊢
   rcases hb with q | q | q | q <;> simp[q])
  have kp':∀ b o,b∉[z,TO,i1,i2]->s.heap.get? b=some o->h''.get? b=some o:=fun b o hb e=>kp b o (fun q=>hb (by simp[q])) (fun q=>hb (by simp[q])) (fun q=>hb (by simp[q])) (fun q=>hb (by simp[q])) e
  have I1:Inv X pins σ (upd H s.heap.objs.size (.tup [x,y])) { s with heap:=h''}:=I.turnT fr kp' hT' ru rv
  refine⟨.ref s.heap.objs.size,_,I1,rfl,⟨_,x,y,rfl,hn,rfl,fun zs q=>by rw[q.inj q1];exact ex,fun zs q=>by rw[q.inj q2];exact ey⟩,⟨S''.z,S''.ti,⟨_,_,S''.to⟩,S''.n1,S''.n2⟩,fun b hb=>?_⟩
  obtain⟨o,e,_⟩:∃ o,s.heap.get? b=some o/\True:=by
   simp only[List.mem_cons,List.not_mem_nil,or_false]at hb
   rcases hb with rfl | rfl | rfl | rfl | rfl
   ·exact⟨_,hz,trivial⟩
   ·exact⟨_,hTI,trivial⟩
   ·exact⟨_,hTO,trivial⟩
   ·obtain⟨o,e⟩:=h1.ex;exact⟨o,e,trivial⟩
   ·obtain⟨o,e⟩:=h2.ex;exact⟨o,e,trivial⟩
  rw[upd_ne (Nat.ne_of_lt (gxN e))]
  exact(hf b hb).1
 done:=by
  intro X hP hw hK hc i pins s σ H E I hf st hg
  subst hP hw hK
  obtain⟨hz,hTI,⟨a,b',hTO⟩,h1,h2⟩:=st
  obtain⟨xs,ys,q1,q2,hx⟩:=hg
  obtain⟨us,r1,p1⟩:=q1.val I
  obtain⟨ws,r2,p2⟩:=q2.val I
  have hl:=r1.length
  refine zip_end (I.ok.hd hc) D ⟨hz,hTI,hTO,h1,h2,p1,p2⟩ (by simp;omega) fun h' hk=>⟨rfl,?_⟩
  have fr:∀ b∈[z,TO,i1,i2],FpOk X pins H b:=fun b hb=>hf b (by
   simp only[List.mem_cons,List.not_mem_nil,or_false]at hb ⊢
   rcases hb with q | q | q | q <;> simp[q])
  have kp':∀ b o,b∉[z,TO,i1,i2]->s.heap.get? b=some o->h'.get? b=some o:=fun b o hb e=>hk b o (fun q=>hb (by simp[q])) (fun q=>hb (by simp[q])) (fun q=>hb (by simp[q])) (fun q=>hb (by simp[q])) e
  exact I.turnK fr kp'
 self:=fun _ _ _ _ _ st h=>wpAny_pyIter_zip st.1 h
def tIt (a:Addr):Obj:={ cls:=.type "tuple_iterator",data:=.fields #[.ref a,.int 0 0]}
def zH (l1 l2:Addr)(h:Heap):Heap :=
 ((((h.push (tIt l1)).push (tIt l2)).push { cls:=.type "tuple",data:=.seq #[.ref h.objs.size,.ref (h.push (tIt l1)).objs.size]}).push { cls:=.type "tuple",data:=.seq #[.none,.none]}).push
  { cls:=.type "zip",data:=.fields #[.none,.bool false,.bool false,.ref ((h.push (tIt l1)).push (tIt l2)).objs.size,.ref (((h.push (tIt l1)).push (tIt l2)).push { cls:=.type "tuple",data:=.seq #[.ref h.objs.size,.ref (h.push (tIt l1)).objs.size]}).objs.size]}
theorem zip_newT (l1 l2:Addr)(xs ys:Array Value):Meets (Builtin.«zip.__new__» ⟨[.type "zip",.ref l1,.ref l2],[]⟩) (fun _ R s=>s.heap.IsTuple l1 xs/\s.heap.IsTuple l2 ys /\
 R (.ok (.ret (.ref (s.heap.objs.size+4)))) { s with heap:=zH l1 l2 s.heap}) :=
 .of_wp fun prog w A R s h=>by
  obtain⟨hp,g,d,tk,os⟩:=s;obtain⟨hl1,hl2,h⟩:=h
  have hsub:=sub_zip
  have t1:Heap.IsTuple (Shared.heap ⟨hp,g,d,tk,os⟩) l1 xs:=hl1
  have t2:Heap.IsTuple (Shared.heap ⟨hp.push { cls:=.type "tuple_iterator",data:=.fields #[.ref l1,.int 0 0]},g,d,tk,os⟩) l2 ys:=Heap.IsTuple.push hl2 _
  wp_walk using wpAny_pyIter_tuple t1,wpAny_pyIter_tuple t2
  refine⟨_,rfl,?_⟩
  have e:hp.objs.size+4=((((hp.push (tIt l1)).push (tIt l2)).push { cls:=.type "tuple",data:=.seq #[.ref hp.objs.size,.ref (hp.push (tIt l1)).objs.size]}).push { cls:=.type "tuple",data:=.seq #[.none,.none]}).objs.size:=by
   simp only[Heap.size_push]
  have h':R (.ok (.ret (.ref (hp.objs.size+4)))) _:=h
  rw[e]at h'
  exact h'
theorem zip_made {prog:Program}{w:World}{A:Around}{E:Value->Shared->Prop}{s:Shared}{c:Bool}{l1 l2:Addr}{xs ys:Array Value}{Q:Value->Shared->Prop}(p1:SqOf c s.heap l1 xs)(p2:SqOf c s.heap l2 ys)
 (h:∀ h',IsZip h' (s.heap.objs.size+4) (s.heap.objs.size+2) (s.heap.objs.size+3) .none->IsPair h' (s.heap.objs.size+2) (.ref s.heap.objs.size) (.ref (s.heap.objs.size+1))->IsPair h' (s.heap.objs.size+3) .none .none ->
   ItOf c h' s.heap.objs.size l1 0->ItOf c h' (s.heap.objs.size+1) l2 0->(∀ b o,s.heap.get? b=some o->h'.get? b=some o)->Q (.ref (s.heap.objs.size+4)) { s with heap:=h'}) :
 wpAny (model prog w) A (call (.type "zip") [.ref l1,.ref l2]) Q E s:=by
 cases c with
 | false=>exact call_zip_2 p1 p2 fun h' a1 a2 a3 a4 a5 _ a7=>h h' a1 a2 a3 a4 a5 a7
 | true =>
  refine callType_new F.called_zip (by decide) (F.typeCall_zip_2 _ _) (F.newCall_zip_2 _ _) (fun obj=>F.args_object_init_3 obj _ _) F.entry_zip_new (zip_newT l1 l2 xs ys) ⟨p1,p2,?_⟩
  have z1:(s.heap.push (tIt l1)).objs.size=s.heap.objs.size+1:=Heap.size_push ..
  have z2:((s.heap.push (tIt l1)).push (tIt l2)).objs.size=s.heap.objs.size+2:=by rw[Heap.size_push,z1]
  have z3:(((s.heap.push (tIt l1)).push (tIt l2)).push { cls:=.type "tuple",data:=.seq #[.ref s.heap.objs.size,.ref (s.heap.push (tIt l1)).objs.size]}).objs.size=s.heap.objs.size+3:=by rw[Heap.size_push,z2]
  have z4:((((s.heap.push (tIt l1)).push (tIt l2)).push { cls:=.type "tuple",data:=.seq #[.ref s.heap.objs.size,.ref (s.heap.push (tIt l1)).objs.size]}).push { cls:=.type "tuple",data:=.seq #[.none,.none]}).objs.size=s.heap.objs.size+4:=by rw[Heap.size_push,z3]
  have g0:(zH l1 l2 s.heap).get? s.heap.objs.size=some (tIt l1):=gxL _ (gxL _ (gxL _ (gxL _ (Heap.get?_push_size _ rfl))))
  have g1:(zH l1 l2 s.heap).get? (s.heap.push (tIt l1)).objs.size=some (tIt l2):=gxL _ (gxL _ (gxL _ (Heap.get?_push_size _ rfl)))
  have g2:(zH l1 l2 s.heap).get? ((s.heap.push (tIt l1)).push (tIt l2)).objs.size=some _:=gxL _ (gxL _ (Heap.get?_push_size _ rfl))
  have g3:(zH l1 l2 s.heap).get? (((s.heap.push (tIt l1)).push (tIt l2)).push { cls:=.type "tuple",data:=.seq #[.ref s.heap.objs.size,.ref (s.heap.push (tIt l1)).objs.size]}).objs.size=some _:=gxL _ (Heap.get?_push_size _ rfl)
  have g4:(zH l1 l2 s.heap).get? ((((s.heap.push (tIt l1)).push (tIt l2)).push { cls:=.type "tuple",data:=.seq #[.ref s.heap.objs.size,.ref (s.heap.push (tIt l1)).objs.size]}).push { cls:=.type "tuple",data:=.seq #[.none,.none]}).objs.size=some _:=Heap.get?_push_size _ rfl
  rw[z1]at g1
  rw[z2,z1]at g2
  rw[z3]at g3
  rw[z4,z2,z3]at g4
  exact⟨⟨_,g4,rfl⟩,h _ g4 g2 g3 ⟨_,g0,rfl,rfl⟩ ⟨_,g1,rfl,rfl⟩ fun b o e=>gxL _ (gxL _ (gxL _ (gxL _ (gxL _ e))))⟩
section
variable {X:Cx}
def iZip (ta:TA):TI:=fun σ H R=>ta σ H fun vs H1=>match vs with
 | [.ref a,.ref b]=>∃(c:Bool) (xs ys:List V),SqC c H1 a xs/\SqC c H1 b ys/\R (Itz c a b) H1
 | _=>False
theorem pi_zip {elts:List Expr}{kk:Nat}{tpos:Pos}{a b:Expr}{ta:TA}{p pos:Pos}(hg:Gl X "zip")(hm:X.mg "zip"=none)(ha:PA X [a,b] ta)(hs:starEach [a,b] X.env=[(false,eval a X.env),(false,eval b X.env)]:=by rfl)(hs2:starEach [b] X.env=[(false,eval b X.env)]:=by rfl) :
 PI X (.Tuple elts kk tpos) (.Call (.Name "zip" p) [a,b] [] pos) (iZip ta):=by
 intro pins s σ H R I h
 refine Call_ (ld_blt I hg hm boot_zip (PyProof.Rows.callWith_type1 (thn (ha pos pins s σ H _ I h) fun us s1 hq5=>?_) (by rw[hs,hs2]) (by rw[hs2];rfl)))
 obtain⟨vs,H1,I1,r1,q1⟩:=hq5
 try dsimp only at q1
 split at q1
 ·rename_i l1 l2
  obtain⟨c,xs,ys,q1,q2,q⟩:=q1
  obtain⟨u1,u2,rfl,e1,e2⟩:=r1.two
  cases e1;cases e2
  obtain⟨us,r1,p1⟩:=q1.val I1
  obtain⟨ws,r2,p2⟩:=q2.val I1
  have lt:∀ {l:Addr} {o:HO},H1 l=some o->l<s1.heap.objs.size:=fun e=>I1.hok.lt e
  obtain⟨o1,w1⟩:=q1.ex
  obtain⟨o2,w2⟩:=q2.ex
  refine zip_made p1 p2 fun h' hz hTI hTO n1 n2 kp=>wpAny_pyIter_zip hz ?_
  have I2:Inv X pins σ H1 { s1 with heap:=h'}:=I1.kept (t':=s1.toks) kp
  refine⟨s1.heap.objs.size+4,_,_,_,H1,rfl,I2,turn_zip (c:=c) (zipApart_new (lt w1) (lt w2)),⟨hz,hTI,⟨_,_,hTO⟩,n1,n2⟩,fun b hb=>?_,q⟩
  have hb':s1.heap.objs.size<=b:=by
   simp only[List.mem_cons,List.not_mem_nil,or_false]at hb
   rcases hb with e | e | e | e | e <;> subst e
   ·exact Nat.le_add_right ..
   ·exact Nat.le_add_right ..
   ·exact Nat.le_add_right ..
   ·exact Nat.le_refl _
   ·exact Nat.le_add_right ..
  exact I1.fpOk hb' (I1.hok.fresh hb')
 ·exact q1.elim
def rAllC (g:List Bool->Bool):List V->Hp->VK->Prop:=fun vs H Q=>match vs with
 | [.ref p]=>∃ bs:List Bool,H p=some (.lst (bs.map V.bl))/\Q (.bl (g bs)) H
 | _=>False
theorem range_all (bs:List Bool):(List.range bs.length).all (fun i=>bs.getD i true)=bs.all id:=by
 rw[Bool.eq_iff_iff,List.all_eq_true,List.all_eq_true]
 constructor
 ·intro h b hb
  obtain⟨i,hi,e⟩:=List.getElem_of_mem hb
  have:=h i (by simpa using hi)
  rw[List.getD_eq_getElem?_getD,gxA hi,e]at this
  exact this
 ·intro h i hi
  have hi':i<bs.length:=by simpa using hi
  rw[List.getD_eq_getElem?_getD,gxA hi']
  exact h _ (List.getElem_mem _)
theorem allC (hc:X.calm=true):CallR X (.builtin "all") (rAllC fun bs=>bs.all id):=by
 intro pins s σ H vs us Q I rv h
 unfold rAllC at h
 split at h
 ·rename_i p
  obtain⟨bs,hp,q⟩:=h
  obtain⟨u,rfl,ru⟩:=rv.one
  cases ru
  obtain⟨z,its,n,r,hl,e⟩:=I.lstM hp
  have isl:s.heap.IsList p its.toArray:=⟨_,e,rfl,n,rfl⟩
  have lt:p≠s.heap.objs.size:=Nat.ne_of_lt (gxN e)
  refine call_all_walk (wpAny_pyIter_list isl ⟨_,_,_,_,_,_,fun i=>bs.getD i true,rfl,Walks.list (A:=X.A.in1) (I.ok.hd hc) s.heap.objs.size p lt its.toArray,⟨⟨_,Heap.get?_push_size _ rfl,rfl,rfl⟩,isl.push _⟩,?_,fun h' tk kp=>?_⟩)
  ·intro i v s' Q' E' hv hq
   have hv':its[i]?=some v:=by simpa using hv
   have hb:∃ b,bs[i]?=some b/\v=.bool b:=by
    cases eb:(bs.map V.bl)[i]? with
    | none=>have:=r.none_of eb;rw[hv']at this;cases this
    | some y =>
     obtain⟨u,hu,ry⟩:=r.get eb
     rw[hv']at hu;cases hu
     rw[gxH]at eb
     cases e2:bs[i]? with
     | none=>rw[e2]at eb;cases eb
     | some b=>rw[e2]at eb;cases eb;exact⟨b,rfl,ry⟩
   obtain⟨b,eb,rfl⟩:=hb
   have e3:bs.getD i true=b:=by rw[List.getD_eq_getElem?_getD,eb];rfl
   have hq':Q' (bs.getD i true) s':=hq
   rw[e3]at hq'
   exact wpAny_truthy_bool hq'
  ·have I2:Inv X pins σ H { s with heap:=h',toks:=tk}:=I.kept fun b o e'=>kp b o (by simpa using Nat.ne_of_lt (gxN e')) (gxL _ e')
   have len:its.toArray.size=bs.length:=by rw[List.size_toArray,<- hl,gxC]
   rw[len,range_all]
   exact⟨.bl _,H,I2,rfl,q⟩
 ·exact h.elim
def rEqN:R2:=fun x y H Q=>match x,y with
 | .non,.non=>Q (.bl true) H
 | .int i,.int j=>Q (.bl (decide (i=j))) H
 | .str i,.str j=>Q (.bl (decide (i=j))) H
 | .bl i,.bl j=>Q (.bl (decide (i=j))) H
 | _,_=>False
theorem eqN:OpR X (compareOp .Eq) rEqN:=op_eq.imp fun x y H Q q=>by
 unfold rEqN at q
 split at q
 ·exact⟨rfl,by simpa using q⟩
 ·exact⟨rfl,by rw[dI];exact q⟩
 ·exact⟨rfl,by rw[dS];exact q⟩
 ·exact⟨rfl,by rw[dB];exact q⟩
 ·exact q.elim
end
section
variable {js:List (Option Nat)}{g:TG}{tt:TT}{te:TE}{σ:St}{H:Hp}{fin:List V->Hp->Prop}
theorem compZip {c:Bool}{a1 a2:Addr}{xs zs:List V}(hn:xs.length=zs.length)(Pv:Nat->List V->Hp->Prop)(h0:Pv 0 [] H)(hl:∀ i ys H,Pv i ys H->SqC c H a1 xs/\SqC c H a2 zs)
 (hs:∀ i x y ys H T,i<xs.length->xs[i]?=some x->zs[i]?=some y->Pv i ys H->H T=none->g (.ref T) (startC js σ) (upd H T (.tup [x,y])) fun σ2 H2=>Ext (startC js σ) σ2/\tt σ2 H2 fun b H3=>if b=true then te σ2 H3 (CNx xs.length i Pv ys)else CSk xs.length i Pv ys H3)
 (hd:∀ ys H,Pv xs.length ys H->fin ys H):wComp js g tt te (Itz c a1 a2) σ H fin:=by
 refine⟨fun i m ys H=>m=xs.length - i/\i<=xs.length/\Pv i ys H,⟨xs.length,by simp,Nat.zero_le _,h0⟩,?_⟩
 rintro i m ys H ⟨rfl,hi,p⟩
 obtain⟨q1,q2⟩:=hl i ys H p
 by_cases hlt:i<xs.length
 ·refine .inr ⟨⟨xs,zs,xs[i],zs[i]'(by omega),q1,q2,by simp[hlt],by simp[show i<zs.length by omega]⟩,fun v H' yl=>?_⟩
  obtain⟨T,x,y,rfl,hT,rfl,h1,h2⟩:=yl
  exact hs i x y ys H T hlt (h1 xs q1) (h2 zs q2) p hT
 ·have e:i=xs.length:=by omega
  subst e
  exact .inl ⟨⟨xs,zs,q1,q2,Nat.le_refl _⟩,hd ys H p⟩
end
inductive DV where
 | non | bl (b:Bool) | int (i:Int) | str (z:Str) | lst (ds:List DV) | tup (ds:List DV)
mutual
def dep:DV->Nat
 | .lst ds=>depL ds+1
 | .tup ds=>depL ds+1
 | _=>0
def depL:List DV->Nat
 | []=>0
 | d::ds=>max (dep d) (depL ds)
end
mutual
def wid:DV->Nat
 | .lst ds=>max ds.length (widL ds)
 | .tup ds=>max ds.length (widL ds)
 | _=>0
def widL:List DV->Nat
 | []=>0
 | d::ds=>max (wid d) (widL ds)
end
mutual
def Is (H:Hp):DV->V->Prop
 | .non,v=>v=.non
 | .bl b,v=>v=.bl b
 | .int i,v=>v=.int i
 | .str z,v=>v=.str z
 | .lst ds,v=>∃ p vs,v=.ref p/\H p=some (.lst vs)/\IsAll H ds vs
 | .tup ds,v=>∃ p vs,v=.ref p/\H p=some (.tup vs)/\IsAll H ds vs
def IsAll (H:Hp):List DV->List V->Prop
 | [],vs=>vs=[]
 | d::ds,vs=>∃ v r,vs=v::r/\Is H d v/\IsAll H ds r
end
mutual
theorem Is.mono {H H':Hp}(s:Same H H'):∀(d:DV) (v:V),Is H d v->Is H' d v
 | .non,_,h=>h
 | .bl _,_,h=>h
 | .int _,_,h=>h
 | .str _,_,h=>h
 | .lst ds,_,h=>by
  obtain⟨p,vs,e,hp,q⟩:=h
  exact⟨p,vs,e,s _ _ hp,IsAll.mono s ds vs q⟩
 | .tup ds,_,h=>by
  obtain⟨p,vs,e,hp,q⟩:=h
  exact⟨p,vs,e,s _ _ hp,IsAll.mono s ds vs q⟩
theorem IsAll.mono {H H':Hp}(s:Same H H'):∀(ds:List DV) (vs:List V),IsAll H ds vs->IsAll H' ds vs
 | [],_,h=>h
 | d::ds,_,h=>by
  obtain⟨v,r,e,h1,h2⟩:=h
  exact⟨v,r,e,Is.mono s d v h1,IsAll.mono s ds r h2⟩
end
theorem IsAll.len {H:Hp}:∀ {ds:List DV} {vs:List V},IsAll H ds vs->vs.length=ds.length
 | [],_,h=>by rw[show _=[]from h];rfl
 | d::ds,_,h=>by obtain⟨v,r,rfl,_,h2⟩:=h;rw[List.length_cons,List.length_cons,IsAll.len h2]
theorem IsAll.get {H:Hp}:∀ {ds:List DV} {vs:List V} {i:Nat} {v:V},IsAll H ds vs->vs[i]?=some v->∃ d,ds[i]?=some d/\Is H d v
 | [],_,i,v,h,e=>by rw[show _=[]from h]at e;simp at e
 | d::ds,_,0,v,h,e=>by
  obtain⟨v',r,rfl,h1,h2⟩:=h
  simp at e;subst e;exact⟨d,rfl,h1⟩
 | d::ds,_,i+1,v,h,e=>by
  obtain⟨v',r,rfl,h1,h2⟩:=h
  obtain⟨d',e1,e2⟩:=IsAll.get (i:=i) h2 (by simpa using e)
  exact⟨d',by simpa using e1,e2⟩
theorem depL_get:∀ {ds:List DV} {i:Nat} {d:DV},ds[i]?=some d->dep d<=depL ds
 | d::ds,0,d',h=>by simp at h;subst h;unfold depL;omega
 | d::ds,i+1,d',h=>by have:=depL_get (ds:=ds) (i:=i) (by simpa using h);unfold depL;omega
theorem widL_get:∀ {ds:List DV} {i:Nat} {d:DV},ds[i]?=some d->wid d<=widL ds
 | d::ds,0,d',h=>by simp at h;subst h;unfold widL;omega
 | d::ds,i+1,d',h=>by have:=widL_get (ds:=ds) (i:=i) (by simpa using h);unfold widL;omega
def spSame (n:Nat):Sp:=fun vs H Q _=>match vs with
 | [x,y]=>∃ d,dep d<=n/\wid d<sizeLine/\Is H d x/\Is H d y/\∀ H',Same H H'->Q (.bl true) H'
 | _=>False
def spNo:Sp:=fun _ _ _ _=>False
def spS:Nat->Sp
 | 0=>spNo
 | n+1=>spSame n
theorem Same.upd {H:Hp}{p:Addr}{o:HO}(h:H p=none):Same H (L2.upd H p o):=fun b u e=>by rw[upd_ne (ne_of_none e h)];exact e
theorem cutL_to {α:Type}{l:List α}{n:Int}(h:0<=n):cutL l none (some n)=l.take n.toNat:=by
 obtain⟨m,rfl⟩:∃ m:Nat,n=(m:Int):=⟨n.toNat,by omega⟩
 unfold cutL
 rw[HT.sIx_nat,HT.sIx_none,List.drop_zero,Nat.sub_zero,gxK]
 by_cases hm:m<=l.length
 ·rw[Nat.min_eq_left hm]
 ·rw[Nat.min_eq_right (by omega),List.take_length,List.take_of_length_le (by omega)]
theorem cutL_from {α:Type}{l:List α}{n:Int}(h:0<=n):cutL l (some n) none=l.drop n.toNat:=by
 obtain⟨m,rfl⟩:∃ m:Nat,n=(m:Int):=⟨n.toNat,by omega⟩
 unfold cutL
 rw[HT.sIx_nat,HT.sIx_none,gxK]
 by_cases hm:m<=l.length
 ·rw[Nat.min_eq_left hm,List.take_of_length_le (by rw[List.length_drop];omega)]
 ·rw[Nat.min_eq_right (by omega),List.drop_of_length_le (Nat.le_refl _),List.drop_of_length_le (by omega),List.take_nil]
end L2
namespace L2
open PySem PySem.Spec PyProof.Rows
section
variable {X:Cx}
def rAppendC:V->List V->Hp->VK->Prop:=fun x vs H Q=>∃ l y xs,x=.ref l/\vs=[y]/\H l=some (.lst xs)/\xs.length<sizeLine/\Q .non (upd H l (.lst (xs++[y])))
theorem appendC:MtR X "list.append" rAppendC:=MtR.imp mt_append fun x vs H Q q=>by
 obtain⟨l,y,xs,rfl,rfl,a,b,c⟩:=q
 exact⟨_,xs,_,rfl,rfl,a,b,c⟩
end
def rr (l:List Nat):Nat->Nat×List (Nat×Nat)
 | 0=>(0,[])
 | i+1=>if l[i]?=some 120 then(i+1,if(rr l i).1<i then(rr l i).2++[((rr l i).1,i)]else(rr l i).2)else rr l i
theorem best_is (ns:List Int):∀ k,k<ns.length->argBest (fun i j=>decide (ns.getD j 0<ns.getD i 0)) k<=k/\∀ j,j<=k->ns.getD j 0<=ns.getD (argBest (fun i j=>decide (ns.getD j 0<ns.getD i 0)) k) 0
 | 0,_=>⟨Nat.le_refl _,fun j hj=>by rw[show j=0 by omega];exact Int.le_refl _⟩
 | k+1,h=>by
  obtain⟨h1,h2⟩:=best_is ns k (by omega)
  unfold argBest
  by_cases hb:ns.getD (argBest (fun i j=>decide (ns.getD j 0<ns.getD i 0)) k) 0<ns.getD (k+1) 0
  ·rw[if_pos (decide_eq_true hb)]
   refine⟨Nat.le_refl _,fun j hj=>?_⟩
   by_cases e:j=k+1
   ·rw[e];exact Int.le_refl _
   ·exact Int.le_trans (h2 j (by omega)) (Int.le_of_lt hb)
  ·rw[if_neg (by simp only[decide_eq_true_eq];exact hb)]
   refine⟨by omega,fun j hj=>?_⟩
   by_cases e:j=k+1
   ·rw[e];omega
   ·exact h2 j (by omega)
section
variable {X:Cx}
def rMaxL:List V->Hp->VK->Prop:=fun vs H Q=>match vs with
 | [.ref p]=>∃ ns:List Int,H p=some (.lst (ns.map V.int))/\ns≠[]/\∀ m,m∈ns->(∀ x∈ns,x<=m)->Q (.int m) H
 | _=>False
theorem maxL (hc:X.calm=true):CallR X (.builtin "max") rMaxL:=by
 intro pins s σ H vs us Q I rv h
 unfold rMaxL at h
 split at h
 ·rename_i p
  obtain⟨ns,hp,hne,q⟩:=h
  obtain⟨u,rfl,ru⟩:=rv.one
  cases ru
  obtain⟨z,its,n,r,hl,e⟩:=I.lstM hp
  have isl:s.heap.IsList p its.toArray:=⟨_,e,rfl,n,rfl⟩
  have lt:p≠s.heap.objs.size:=Nat.ne_of_lt (gxN e)
  have len:its.toArray.size=ns.length:=by rw[List.size_toArray,<- hl,gxC]
  have pos:0<ns.length:=List.length_pos_iff.mpr hne
  have val:∀ i v,its.toArray[i]?=some v->∃ t,i<ns.length/\v=.int (ns.getD i 0) t:=fun i v hv=>by
   have hv':its[i]?=some v:=by simpa using hv
   cases eb:(ns.map V.int)[i]? with
   | none=>have:=r.none_of eb;rw[hv']at this;cases this
   | some y =>
    obtain⟨u,hu,ry⟩:=r.get eb
    rw[hv']at hu;cases hu
    rw[gxH]at eb
    cases e2:ns[i]? with
    | none=>rw[e2]at eb;cases eb
    | some b =>
     rw[e2]at eb;cases eb
     obtain⟨t,rfl⟩:=ry
     exact⟨t,(gxB e2).1,by rw[List.getD_eq_getElem?_getD,e2];rfl⟩
  refine call_max_walk (wpAny_pyIter_list isl ⟨_,_,_,_,_,_,fun i j=>decide (ns.getD j 0<ns.getD i 0),rfl,Walks.list (A:=X.A.in1) (I.ok.hd hc) s.heap.objs.size p lt its.toArray,⟨⟨_,Heap.get?_push_size _ rfl,rfl,rfl⟩,isl.push _⟩,?_,by rw[len];exact pos,?_,fun v h' tk hv kp=>?_⟩)
  ·intro b hb
   simp only[List.mem_cons,List.not_mem_nil,or_false]at hb
   show b<(s.heap.push _).objs.size
   rw[Heap.size_push]
   rcases hb with rfl | rfl
   ·exact Nat.lt_succ_self _
   ·exact Nat.lt_succ_of_lt (gxN e)
  ·intro i j vi vj s' Q' E' hi hj hq
   obtain⟨t,_,rfl⟩:=val i vi hi
   obtain⟨t',_,rfl⟩:=val j vj hj
   exact gt_int hq
  ·have I2:Inv X pins σ H { s with heap:=h',toks:=tk}:=I.kept fun b o e'=>kp b o (by simpa using Nat.ne_of_lt (gxN e')) (gxL _ e')
   rw[len]at hv
   obtain⟨t,hlt,rfl⟩:=val _ v hv
   obtain⟨b1,b2⟩:=best_is ns (ns.length - 1) (by omega)
   refine⟨.int _,H,I2,⟨t,rfl⟩,q _ ?_ fun x hx=>?_⟩
   ·rw[List.getD_eq_getElem?_getD,gxA hlt];exact List.getElem_mem _
   ·obtain⟨j,hj,ej⟩:=List.getElem_of_mem hx
    have:=b2 j (by omega)
    rw[List.getD_eq_getElem?_getD,gxA hj,ej]at this
    exact this
 ·exact h.elim
def findN (l:List Nat)(c i:Nat):Int->Prop:=fun r=>(r = -1/\∀ v,i<=v->l[v]?≠some c)\/∃ k:Nat,r=(k:Int)/\i<=k/\l[k]?=some c/\∀ v,i<=v->v<k->l[v]?≠some c
def rFindC:V->List V->Hp->VK->Prop:=fun x vs H Q=>∃(z:Str) (c:Nat) (i:Int),x=.str z/\vs=[.str ⟨#[c]⟩,.int i]/\0<=i/\i<=z.length/\∀ r,findN z.cps.toList c i.toNat r->Q (.int r) H
theorem findC:MtR X "str.find" rFindC:=by
 intro pins s σ H x vs v us Q I rx rv h
 ·obtain⟨z,c,i,rfl,rfl,h0,h1,q⟩:=h
  obtain⟨t,rfl⟩:=rx
  obtain⟨u1,u2,rfl,r1,r2⟩:=rv.two
  obtain⟨t1,rfl⟩:=r1
  obtain⟨t2,rfl⟩:=r2
  refine SC.find3 ⟨.int _,H,I.tok _,⟨_,rfl⟩,q _ ?_⟩
  have fi:fromIndex z.length i=i.toNat:=by unfold fromIndex;omega
  have gd:∀ v,z.cps.getD v 0≠c\/¬ v<z.length->z.cps.toList[v]?≠some c:=fun v hv e=>by
   have hlt:v<z.cps.toList.length:=(gxB e).1
   have hlt':v<z.length:=by rw[lenA];exact hlt
   rcases hv with hv | hv
   ·exact hv (by rw[gxA hlt]at e;injection e with e;rw[<- e];simp[Array.getD,show v<z.cps.size by simpa using hlt])
   ·exact hv hlt'
  rcases StrLaws.find3_spec z c i with⟨e,hn⟩ | ⟨k,e,k1,k2,k3,k4⟩
  ·refine .inl ⟨e,fun v hv=>gd v ?_⟩
   by_cases hl:v<z.length
   ·exact .inl (hn v (by omega) hl)
   ·exact .inr hl
  ·refine .inr ⟨k,e,by omega,?_,fun v h1 h2=>gd v (.inl (k4 v (by omega) h2))⟩
   have hlt:k<z.cps.toList.length:=by rw[<- lenA];exact k2
   rw[gxA hlt,<- k3]
   simp[Array.getD,show k<z.cps.size by simpa using hlt]
end
def ClT (l:List Nat)(e t:Nat):Prop:=e<=t/\t<=l.length/\(∀ v,e<=v->v<t->l[v]?=some 111)/\(t=l.length\/l[t]?=some 120)
theorem ClT.uniq {l:List Nat}{e t u:Nat}(a:ClT l e t)(b:ClT l e u):t=u:=by
 obtain⟨a1,a2,a3,a4⟩:=a
 obtain⟨b1,b2,b3,b4⟩:=b
 rcases Nat.lt_trichotomy t u with h | h | h
 ·rcases a4 with q | q
  ·omega
  ·have:=b3 t a1 h;rw[q]at this;cases this
 ·exact h
 ·rcases b4 with q | q
  ·omega
  ·have:=a3 u b1 h;rw[q]at this;cases this
theorem ox_at {l:List Nat}(ho:OX l){v:Nat}(h:v<l.length)(n:l[v]?≠some 120):l[v]?=some 111:=by
 have e:l[v]?=some l[v]:=gxA h
 rcases ho _ (List.getElem_mem h)with q | q
 ·rw[e,q]
 ·exact absurd (by rw[e,q]) n
theorem findN.cl {l:List Nat}{e:Nat}{r:Int}(ho:OX l)(he:e<=l.length)(h:findN l 120 e r):(r<0->ClT l e l.length)/\(¬ r<0->ClT l e r.toNat/\r=(r.toNat:Int)):=by
 rcases h with⟨rfl,hn⟩ | ⟨k,rfl,h1,h2,h3⟩
 ·exact⟨fun _=>⟨he,Nat.le_refl _,fun v a b=>ox_at ho b (hn v a),.inl rfl⟩,fun q=>absurd (by decide) q⟩
 ·have hk:k<l.length:=(gxB h2).1
  exact⟨fun q=>absurd q (by omega),fun _=>⟨⟨by omega,by omega,fun v a b=>ox_at ho (by omega) (h3 v a (by omega)),.inr (by rw[gxK];exact h2)⟩,by rw[gxK]⟩⟩
def Far (es:List Int)(l:List Nat)(e:Int)(m:Int):Prop:=∃ t,ClT l e.toNat t/\m∈es/\m<=(t:Int)/\∀ x∈es,x<=(t:Int)->x<=m
theorem Far.uniq {es:List Int}{l:List Nat}{e m k:Int}(a:Far es l e m)(b:Far es l e k):m=k:=by
 obtain⟨t,a1,a2,a3,a4⟩:=a
 obtain⟨u,b1,b2,b3,b4⟩:=b
 cases a1.uniq b1
 exact Int.le_antisymm (b4 m a2 a3) (a4 k b2 b3)
def endsOf (n:Int)(cs:List Int):List Int:=0::cs++[n]
inductive D where
 | non | bl (b:Bool) | int (i:Int) | str (z:Str) | lst (ds:List D) | tup (ds:List D) | dic (ks:List Key) (ds:List D) | mr (k:Nat)
inductive MO where
 | box | lst (ds:List D) | dic (ks:List Key) (ds:List D) | fdic (o:Obj) (kvs:List (Key×V)) (ds:List D) | ins (C:Addr) (ns:List Str) (ds:List D) | dtu (ks:List (List Key)) (ds:List D)
abbrev MS:=List MO
def lvM (μ:MS)(k:Nat):Option (List D):=match μ[k]? with | some (.lst ds)=>some ds | _=>none
theorem lvM_eq {μ:MS}{k:Nat}{ds:List D}(h:lvM μ k=some ds):μ[k]?=some (.lst ds):=by
 unfold lvM at h
 split at h
 ·cases h;assumption
 ·cases h
theorem lvM_of {μ:MS}{k:Nat}{ds:List D}(h:μ[k]?=some (.lst ds)):lvM μ k=some ds:=by unfold lvM;rw[h]
theorem lvM_set {μ:MS}{k:Nat}{ds:List D}(h:k<μ.length):lvM (μ.set k (.lst ds)) k=some ds:=lvM_of (List.getElem?_set_self h)
theorem lvM_new {μ:MS}{ds:List D}:lvM (μ++[.lst ds]) μ.length=some ds:=lvM_of (by rw[gxG (Nat.le_refl _),Nat.sub_self];rfl)
theorem lvM_old {μ:MS}{m:MO}{k:Nat}{ds:List D}(h:lvM μ k=some ds):lvM (μ++[m]) k=some ds:=lvM_of (by rw[gxF (gxB (lvM_eq h)).1];exact lvM_eq h)
abbrev DE:=List (Option D)
mutual
def DIs (φ:List Addr)(H:Hp):D->V->Prop
 | .non,v=>v=.non
 | .bl b,v=>v=.bl b
 | .int i,v=>v=.int i
 | .str z,v=>v=.str z
 | .lst ds,v=>∃ p vs,v=.ref p/\p∉φ/\H p=some (.lst vs)/\DAll φ H ds vs
 | .tup ds,v=>∃ p vs,v=.ref p/\p∉φ/\H p=some (.tup vs)/\DAll φ H ds vs
 | .dic ks ds,v=>∃ p kvs vs,v=.ref p/\p∉φ/\H p=some (.dK kvs)/\kvs.map (·.1)=ks/\vs=kvs.map (·.2)/\DAll φ H ds vs
 | .mr k,v=>∃ p,φ[k]?=some p/\v=.ref p
def DAll (φ:List Addr)(H:Hp):List D->List V->Prop
 | [],vs=>vs=[]
 | d::ds,vs=>∃ v r,vs=v::r/\DIs φ H d v/\DAll φ H ds r
end
structure Fr (φ:List Addr)(H:Hp)(φ':List Addr)(H':Hp):Prop where
 ext:∃ ψ,φ'=φ++ψ/\∀ c∈ψ,H c=none
 keep:∀ c o,c∉φ->H c=some o->H' c=some o
 dom:∀ c,H' c=none->H c=none
theorem Fr.refl (φ:List Addr)(H:Hp):Fr φ H φ H:=⟨⟨[],by simp,fun _ h=>nomatch h⟩,fun _ _ _ h=>h,fun _ h=>h⟩
theorem Fr.trans {φ φ1 φ2:List Addr}{H H1 H2:Hp}(a:Fr φ H φ1 H1)(b:Fr φ1 H1 φ2 H2):Fr φ H φ2 H2:=by
 obtain⟨⟨ψ,rfl,hψ⟩,k1,d1⟩:=a
 obtain⟨⟨χ,rfl,hχ⟩,k2,d2⟩:=b
 refine⟨⟨ψ++χ,by simp,fun c hc=>?_⟩,fun c o hc e=>k2 c o (fun h=>?_) (k1 c o hc e),fun c h=>d1 c (d2 c h)⟩
 ·rcases List.mem_append.mp hc with h | h
  ·exact hψ c h
  ·exact d1 c (hχ c h)
 ·rcases List.mem_append.mp h with h | h
  ·exact hc h
  ·rw[hψ c h]at e;cases e
theorem Fr.same {φ:List Addr}{H H':Hp}(h:Same H H'):Fr φ H φ H':=⟨⟨[],by simp,fun _ h=>nomatch h⟩,fun c o _ e=>h c o e,fun c e=>h.free e⟩
theorem Fr.new {φ:List Addr}{H:Hp}{p:Addr}{o:HO}(h:H p=none):Fr φ H φ (upd H p o):=.same (Same.upd h)
theorem Fr.put {φ:List Addr}{H:Hp}{p:Addr}{o:HO}(h:p∈φ):Fr φ H φ (upd H p o) :=
 ⟨⟨[],by simp,fun _ h=>nomatch h⟩,fun c u hc e=>by rw[upd_ne (show c≠p from fun z=>hc (by rw[z];exact h))];exact e,fun c e=>by
  unfold upd at e
  split at e
  ·cases e
  ·exact e⟩
theorem Fr.snoc {φ:List Addr}{H:Hp}{p:Addr}(h:H p=none):Fr φ H (φ++[p]) H:=⟨⟨[p],rfl,fun c hc=>by rw[List.mem_singleton.mp hc];exact h⟩,fun _ _ _ e=>e,fun _ e=>e⟩
theorem Fr.notin {φ φ':List Addr}{H H':Hp}(f:Fr φ H φ' H'){p:Addr}{o:HO}(h:p∉φ)(e:H p=some o):p∉φ':=by
 obtain⟨⟨ψ,rfl,hψ⟩,_,_⟩:=f
 intro hc
 rcases List.mem_append.mp hc with q | q
 ·exact h q
 ·rw[hψ p q]at e;cases e
theorem Fr.get {φ φ':List Addr}{H H':Hp}(f:Fr φ H φ' H'){k:Nat}{p:Addr}(h:φ[k]?=some p):φ'[k]?=some p:=by
 obtain⟨⟨ψ,rfl,hψ⟩,_,_⟩:=f
 rw[gxF (gxB h).1];exact h
mutual
theorem DIs.mono {φ φ':List Addr}{H H':Hp}(f:Fr φ H φ' H'):∀ {d:D} {v:V},DIs φ H d v->DIs φ' H' d v
 | .non,_,h=>h
 | .bl _,_,h=>h
 | .int _,_,h=>h
 | .str _,_,h=>h
 | .lst _,_,h=>by obtain⟨p,vs,e,n,hp,q⟩:=h;exact⟨p,vs,e,f.notin n hp,f.keep _ _ n hp,DAll.mono f q⟩
 | .tup _,_,h=>by obtain⟨p,vs,e,n,hp,q⟩:=h;exact⟨p,vs,e,f.notin n hp,f.keep _ _ n hp,DAll.mono f q⟩
 | .dic _ _,_,h=>by obtain⟨p,kvs,vs,e,n,hp,q1,q2,q⟩:=h;exact⟨p,kvs,vs,e,f.notin n hp,f.keep _ _ n hp,q1,q2,DAll.mono f q⟩
 | .mr _,_,h=>by obtain⟨p,e,q⟩:=h;exact⟨p,f.get e,q⟩
theorem DAll.mono {φ φ':List Addr}{H H':Hp}(f:Fr φ H φ' H'):∀ {ds:List D} {vs:List V},DAll φ H ds vs->DAll φ' H' ds vs
 | [],_,h=>h
 | _::_,_,h=>by obtain⟨v,r,e,h1,h2⟩:=h;exact⟨v,r,e,DIs.mono f h1,DAll.mono f h2⟩
end
theorem DAll.len {φ:List Addr}{H:Hp}:∀ {ds:List D} {vs:List V},DAll φ H ds vs->vs.length=ds.length
 | [],_,h=>by rw[show _=[]from h];rfl
 | d::ds,_,h=>by obtain⟨v,r,rfl,_,h2⟩:=h;rw[List.length_cons,List.length_cons,DAll.len h2]
theorem DAll.get {φ:List Addr}{H:Hp}:∀ {ds:List D} {vs:List V} {i:Nat} {d:D},DAll φ H ds vs->ds[i]?=some d->∃ v,vs[i]?=some v/\DIs φ H d v
 | [],_,i,d,h,e=>by simp at e
 | d::ds,_,0,d',h,e=>by obtain⟨v',r,rfl,h1,h2⟩:=h;simp at e;subst e;exact⟨v',rfl,h1⟩
 | d::ds,_,i+1,d',h,e=>by
  obtain⟨v',r,rfl,h1,h2⟩:=h
  obtain⟨v,e1,e2⟩:=DAll.get (i:=i) h2 (by simpa using e)
  exact⟨v,by simpa using e1,e2⟩
theorem DAll.getV {φ:List Addr}{H:Hp}{ds:List D}{vs:List V}{i:Nat}{v:V}(h:DAll φ H ds vs)(e:vs[i]?=some v):∃ d,ds[i]?=some d/\DIs φ H d v:=by
 have hl:=h.len
 have hi:=(gxB e).1
 obtain⟨u,e1,e2⟩:=h.get (d:=ds[i]'(by omega)) (gxA (by omega))
 rw[e]at e1;cases e1
 exact⟨_,gxA (by omega),e2⟩
theorem DAll.app {φ:List Addr}{H:Hp}:∀ {ds es:List D} {vs us:List V},DAll φ H ds vs->DAll φ H es us->DAll φ H (ds++es) (vs++us)
 | [],_,_,_,h,g=>by rw[show _=[]from h];exact g
 | d::ds,es,_,us,h,g=>by obtain⟨v,r,rfl,h1,h2⟩:=h;exact⟨v,r++us,rfl,h1,h2.app g⟩
theorem DAll.take {φ:List Addr}{H:Hp}:∀ {ds:List D} {vs:List V} (n:Nat),DAll φ H ds vs->DAll φ H (ds.take n) (vs.take n)
 | _,_,0,_=>rfl
 | [],_,n+1,h=>by rw[show _=[]from h];rfl
 | d::ds,_,n+1,h=>by obtain⟨v,r,rfl,h1,h2⟩:=h;exact⟨v,r.take n,rfl,h1,h2.take n⟩
theorem DAll.drop {φ:List Addr}{H:Hp}:∀ {ds:List D} {vs:List V} (n:Nat),DAll φ H ds vs->DAll φ H (ds.drop n) (vs.drop n)
 | _,_,0,h=>h
 | [],_,n+1,h=>by rw[show _=[]from h];rfl
 | d::ds,_,n+1,h=>by obtain⟨v,r,rfl,h1,h2⟩:=h;exact h2.drop n
theorem DAll.set {φ:List Addr}{H:Hp}{d:D}{v:V}(hd:DIs φ H d v):∀ {ds:List D} {vs:List V} (n:Nat),DAll φ H ds vs->DAll φ H (ds.set n d) (vs.set n v)
 | [],_,n,h=>by rw[show _=[]from h];cases n <;> rfl
 | e::ds,_,0,h=>by obtain⟨w,r,rfl,h1,h2⟩:=h;exact⟨v,r,rfl,hd,h2⟩
 | e::ds,_,n+1,h=>by obtain⟨w,r,rfl,h1,h2⟩:=h;exact⟨w,r.set n v,rfl,h1,h2.set hd n⟩
theorem DAll.ints {φ:List Addr}{H:Hp}:∀ {ns:List Int} {vs:List V},DAll φ H (ns.map D.int) vs->vs=ns.map V.int
 | [],_,h=>h
 | n::ns,_,h=>by obtain⟨v,r,rfl,h1,h2⟩:=h;rw[show v=.int n from h1,DAll.ints h2];rfl
theorem DAll.bls {φ:List Addr}{H:Hp}:∀ {ns:List Bool} {vs:List V},DAll φ H (ns.map D.bl) vs->vs=ns.map V.bl
 | [],_,h=>h
 | n::ns,_,h=>by obtain⟨v,r,rfl,h1,h2⟩:=h;rw[show v=.bl n from h1,DAll.bls h2];rfl
theorem DAll.strs {φ:List Addr}{H:Hp}:∀ {ns:List Str} {vs:List V},DAll φ H (ns.map D.str) vs->vs=ns.map V.str
 | [],_,h=>h
 | n::ns,_,h=>by obtain⟨v,r,rfl,h1,h2⟩:=h;rw[show v=.str n from h1,DAll.strs h2];rfl
def BxF (φ:List Addr)(H:Hp)(b:Addr):Prop:=∃(q:Addr) (ns:List Int) (i r z:Int),H b=some (.lst [.ref q,.int i,.int r,.int z])/\H q=some (.lst (ns.map V.int))/\q∉φ/\0<=i/\0<=z/\z<2147483647
def MoIs (φ:List Addr)(H:Hp):MO->Addr->Prop
 | .box,p=>BxF φ H p
 | .lst ds,p=>∃ vs,H p=some (.lst vs)/\DAll φ H ds vs
 | .dic ks ds,p=>∃ kvs vs,H p=some (.dK kvs)/\kvs.map (·.1)=ks/\vs=kvs.map (·.2)/\DAll φ H ds vs
 | .fdic o kvs ds,p=>H p=some (.frz o (.dK kvs))/\DAll φ H ds (kvs.map (·.2))
 | .ins C ns ds,p=>∃ dx fs,H p=some (.ins C dx fs)/\fs.map (·.1)=ns/\DAll φ H ds (fs.map (·.2))
 | .dtu ks ds,p=>∃ kvs,H p=some (.dT kvs)/\kvs.map (·.1)=ks/\DAll φ H ds (kvs.map (·.2))
structure MSis (φ:List Addr)(H:Hp)(μ:MS):Prop where
 nd:φ.Nodup
 len:φ.length=μ.length
 at_:∀(k:Nat) (m:MO),μ[k]?=some m->∃ p,φ[k]?=some p/\MoIs φ H m p
theorem MoIs.mono {φ φ':List Addr}{H H':Hp}(f:Fr φ H φ' H'){m:MO}{p:Addr}(s:∀ o,H p=some o->H' p=some o)(h:MoIs φ H m p):MoIs φ' H' m p:=by
 cases m with
 | box=>obtain⟨q,ns,i,r,z,h1,h2,h3,h4⟩:=h;exact⟨q,ns,i,r,z,s _ h1,f.keep _ _ h3 h2,f.notin h3 h2,h4⟩
 | lst ds=>obtain⟨vs,h1,h2⟩:=h;exact⟨vs,s _ h1,h2.mono f⟩
 | dic ks ds=>obtain⟨kvs,vs,h1,h2,h3,h4⟩:=h;exact⟨kvs,vs,s _ h1,h2,h3,h4.mono f⟩
 | fdic o kvs ds=>exact⟨s _ h.1,h.2.mono f⟩
 | ins C ns ds=>obtain⟨dx,fs,h1,h2,h3⟩:=h;exact⟨dx,fs,s _ h1,h2,h3.mono f⟩
 | dtu ks ds=>obtain⟨kvs,h1,h2,h3⟩:=h;exact⟨kvs,s _ h1,h2,h3.mono f⟩
theorem MoIs.ex {φ:List Addr}{H:Hp}{m:MO}{p:Addr}(h:MoIs φ H m p):∃ o,H p=some o:=by
 cases m with
 | box=>obtain⟨q,ns,i,r,z,h1,_⟩:=h;exact⟨_,h1⟩
 | lst ds=>obtain⟨vs,h1,_⟩:=h;exact⟨_,h1⟩
 | dic ks ds=>obtain⟨kvs,vs,h1,_⟩:=h;exact⟨_,h1⟩
 | fdic o kvs ds=>exact⟨_,h.1⟩
 | ins C ns ds=>obtain⟨dx,fs,h1,_⟩:=h;exact⟨_,h1⟩
 | dtu ks ds=>obtain⟨kvs,h1,_⟩:=h;exact⟨_,h1⟩
theorem MSis.same {φ:List Addr}{H H':Hp}{μ:MS}(h:MSis φ H μ)(s:Same H H'):MSis φ H' μ :=
 ⟨h.nd,h.len,fun k m e=>let ⟨p,e1,e2⟩:=h.at_ k m e;⟨p,e1,e2.mono (.same s) fun o q=>s _ _ q⟩⟩
theorem MSis.mem {φ:List Addr}{H:Hp}{μ:MS}(h:MSis φ H μ){p:Addr}(hp:p∈φ):∃ o,H p=some o:=by
 obtain⟨k,hk,e⟩:=List.getElem_of_mem hp
 obtain⟨q,e1,e2⟩:=h.at_ k (μ[k]'(by have:=h.len;omega)) (gxA _)
 rw[gxA hk,e]at e1
 cases e1
 exact e2.ex
theorem MSis.fresh {φ:List Addr}{H:Hp}{μ:MS}(h:MSis φ H μ){p:Addr}(hp:H p=none):p∉φ:=fun q=>by
 obtain⟨o,e⟩:=h.mem q
 rw[hp]at e;cases e
theorem MSis.snoc {φ:List Addr}{H:Hp}{μ:MS}{m:MO}{p:Addr}{o:HO}(h:MSis φ H μ)(hp:H p=none)(hm:MoIs (φ++[p]) (upd H p o) m p):MSis (φ++[p]) (upd H p o) (μ++[m])/\Fr φ H (φ++[p]) (upd H p o):=by
 have f1:Fr φ H (φ++[p]) H:=.snoc hp
 have f:Fr φ H (φ++[p]) (upd H p o):=⟨f1.ext,fun c u hc e=>Same.upd hp _ _ e,fun c e=>(Same.upd hp).free e⟩
 refine⟨⟨?_,by rw[gxE,gxE,h.len];rfl,fun k n e=>?_⟩,f⟩
 ·rw[List.nodup_append]
  exact⟨h.nd,by simp,fun a ha b hb=>by rw[List.mem_singleton.mp hb];intro z;exact h.fresh hp (by rw[<- z];exact ha)⟩
 ·by_cases hk:k<μ.length
  ·rw[gxF hk]at e
   obtain⟨q,e1,e2⟩:=h.at_ k n e
   exact⟨q,f.get e1,e2.mono f fun u eu=>Same.upd hp _ _ eu⟩
  ·have hk':k=μ.length:=by
    have:=(gxB e).1
    rw[gxE,List.length_singleton]at this
    omega
   subst hk'
   rw[gxG (Nat.le_refl _),Nat.sub_self]at e
   cases e
   exact⟨p,by rw[gxG (by rw[h.len];exact Nat.le_refl _),h.len,Nat.sub_self];rfl,hm⟩
theorem MSis.put {φ:List Addr}{H:Hp}{μ:MS}{m:MO}{p:Addr}{o:HO}{k:Nat}(h:MSis φ H μ)(hk:φ[k]?=some p)(hm:MoIs φ (upd H p o) m p):MSis φ (upd H p o) (μ.set k m):=by
 have hp:p∈φ:=gxD hk
 have f:Fr φ H φ (upd H p o):=.put hp
 refine⟨h.nd,by rw[List.length_set];exact h.len,fun j n e=>?_⟩
 by_cases hj:k=j
 ·subst hj
  have hl:k<μ.length:=by have:=(gxB hk).1;have:=h.len;omega
  rw[List.getElem?_set_self hl]at e
  cases e
  exact⟨p,hk,hm⟩
 ·rw[List.getElem?_set_ne hj]at e
  obtain⟨q,e1,e2⟩:=h.at_ j n e
  refine⟨q,e1,e2.mono f fun u eu=>?_⟩
  rw[upd_ne]
  ·exact eu
  ·intro z
   subst z
   have a1:=gxB hk
   have a2:=gxB e1
   obtain⟨i1,r1⟩:=a1
   obtain⟨i2,r2⟩:=a2
   rcases Nat.lt_or_gt_of_ne hj with z | z
   ·exact List.pairwise_iff_getElem.mp h.nd k j i1 i2 z (r1.trans r2.symm)
   ·exact List.pairwise_iff_getElem.mp h.nd j k i2 i1 z (r2.trans r1.symm)
def DEnv (φ:List Addr)(H:Hp)(ρ:DE)(σ:St):Prop:=ρ.length=σ.length/\∀(i:Nat) (d:D),ρ[i]?=some (some d)->∃ v,σ[i]?=some (some v)/\DIs φ H d v
theorem DEnv.mono {φ φ':List Addr}{H H':Hp}{ρ:DE}{σ:St}(f:Fr φ H φ' H')(h:DEnv φ H ρ σ):DEnv φ' H' ρ σ:=⟨h.1,fun i d e=>let ⟨v,a,b⟩:=h.2 i d e;⟨v,a,b.mono f⟩⟩
theorem DEnv.set {φ:List Addr}{H:Hp}{ρ:DE}{σ:St}{d:D}{v:V}(h:DEnv φ H ρ σ)(hd:DIs φ H d v)(i:Nat):DEnv φ H (ρ.set i (some d)) (σ.set i (some v)):=by
 refine⟨by rw[List.length_set,List.length_set];exact h.1,fun j e hj=>?_⟩
 by_cases hij:i=j
 ·subst hij
  have hl:i<ρ.length:=by have:=(gxB hj).1;rwa [List.length_set]at this
  rw[List.getElem?_set_self hl]at hj
  cases hj
  exact⟨v,List.getElem?_set_self (by rw[<- h.1];exact hl),hd⟩
 ·rw[List.getElem?_set_ne hij]at hj
  obtain⟨u,a,b⟩:=h.2 j e hj
  exact⟨u,by rw[List.getElem?_set_ne hij];exact a,b⟩
def lv (μ:MS):D->Option (List D)
 | .lst ds=>some ds
 | .mr k=>lvM μ k
 | _=>none
def lc:D->List D->MS->Prop
 | .mr k,ds=>fun μ=>lvM μ k=some ds
 | _,_=>fun _=>True
theorem lv_is {φ:List Addr}{H:Hp}{μ:MS}{d:D}{v:V}{ds:List D}(M:MSis φ H μ)(i:DIs φ H d v)(h:lv μ d=some ds):∃ p vs,v=.ref p/\H p=some (.lst vs)/\DAll φ H ds vs:=by
 cases d with
 | lst es=>cases h;obtain⟨p,vs,rfl,_,hp,ha⟩:=i;exact⟨p,vs,rfl,hp,ha⟩
 | mr k =>
  obtain⟨p,hp,rfl⟩:=i
  have e:=lvM_eq (show lvM μ k=some ds from h)
  obtain⟨q,e1,vs,hv,ha⟩:=M.at_ k _ e
  rw[hp]at e1;cases e1
  exact⟨p,vs,rfl,hv,ha⟩
 | _=>cases h
theorem lv_stay {φ φ':List Addr}{H H':Hp}{μ μ':MS}{d:D}{p:Addr}{ds:List D}(M:MSis φ H μ)(i:DIs φ H d (.ref p))(h:lv μ d=some ds)(f:Fr φ H φ' H')(M':MSis φ' H' μ')(c:lc d ds μ'):∃ vs,H' p=some (.lst vs)/\DAll φ' H' ds vs:=by
 cases d with
 | lst es=>cases h;obtain⟨p',vs,e,n,hp,ha⟩:=i;cases e;exact⟨vs,f.keep _ _ n hp,ha.mono f⟩
 | mr k =>
  obtain⟨p',hp,e⟩:=i
  cases e
  obtain⟨q,e1,vs,hv,ha⟩:=M'.at_ k _ (lvM_eq c)
  rw[f.get hp]at e1;cases e1
  exact⟨vs,hv,ha⟩
 | _=>cases h
theorem lc_of {μ:MS}{d:D}{ds:List D}(h:lv μ d=some ds):lc d ds μ:=by
 cases d <;> first | trivial | exact h
abbrev DK:=D->MS->Prop
abbrev De:=DE->MS->DK->Prop
abbrev DA:=DE->MS->(List D->MS->Prop)->Prop
abbrev Dt:=DE->MS->(Bool->MS->Prop)->Prop
def Lif (φ:List Addr)(H:Hp)(K:DK)(Q:VK):Prop:=∀ d μ' φ' v H',K d μ'->Fr φ H φ' H'->MSis φ' H' μ'->DIs φ' H' d v->Q v H'
theorem Lif.mono {φ φ1:List Addr}{H H1:Hp}{K:DK}{Q:VK}(h:Lif φ H K Q)(f:Fr φ H φ1 H1):Lif φ1 H1 K Q:=fun d μ' φ' v H' k g m i=>h d μ' φ' v H' k (f.trans g) m i
def tD (w:De):TE:=fun σ H Q=>∃ φ ρ μ K,DEnv φ H ρ σ/\MSis φ H μ/\w ρ μ K/\Lif φ H K Q
def tDA (w:DA):TA:=fun σ H Q=>∃ φ ρ μ K,DEnv φ H ρ σ/\MSis φ H μ/\w ρ μ K/\∀ ds μ' φ' vs H',K ds μ'->Fr φ H φ' H'->MSis φ' H' μ'->DAll φ' H' ds vs->Q vs H'
def tDT (w:Dt):TT:=fun σ H Q=>∃ φ ρ μ K,DEnv φ H ρ σ/\MSis φ H μ/\w ρ μ K/\∀ b μ' φ' H',K b μ'->Fr φ H φ' H'->MSis φ' H' μ'->Q b H'
section
variable {X:Cx}{a b e:Expr}{pos:Pos}
abbrev PD (X:Cx)(e:Expr)(w:De):Prop:=PE X e (tD w)
def dVar (i:Nat):De:=fun ρ μ K=>match ρ[i]? with | some (some d)=>K d μ | _=>False
def dC (d:D):De:=fun _ μ K=>K d μ
theorem dv (i:Nat){x:Str}{pos:Pos}(hN:X.N[i]?=some x:=by rfl)(hv:Vis X.env.scope x:=by first | exact Or.inl rfl | exact Or.inr (Or.inl rfl) | exact Or.inr (Or.inr rfl))(hd:(x==("__debug__" : Str))=false:=by decide)
 (hcd:(x==("__classdict__" : Str))=false:=by decide):PD X (.Name x pos) (dVar i):=(pe_var (i:=i) hN hv hd hcd).imp fun σ H Q q=>by
 obtain⟨φ,ρ,μ,K,E,M,w,L⟩:=q
 unfold dVar at w
 split at w
 ·rename_i d hd
  obtain⟨v,e,r⟩:=E.2 i d hd
  exact⟨v,e,L d μ φ v H w (.refl _ _) M r⟩
 ·exact w.elim
theorem d_int {i j pos}:PD X (.Constant (.int i) j pos) (dC (.int i)):=pe_int.imp fun σ H Q hq6=>by obtain⟨φ,ρ,μ,K,E,M,w,L⟩:=hq6;exact L _ _ φ _ H w (.refl _ _) M rfl
theorem d_bl {b j pos}:PD X (.Constant (.bool b) j pos) (dC (.bl b)):=pe_bl.imp fun σ H Q hq0=>by obtain⟨φ,ρ,μ,K,E,M,w,L⟩:=hq0;exact L _ _ φ _ H w (.refl _ _) M rfl
theorem d_non {j pos}:PD X (.Constant .none j pos) (dC .non):=pe_non.imp fun σ H Q hq1=>by obtain⟨φ,ρ,μ,K,E,M,w,L⟩:=hq1;exact L _ _ φ _ H w (.refl _ _) M rfl
theorem d_str {x j pos}:PD X (.Constant (.str x) j pos) (dC (.str x)):=pe_str.imp fun σ H Q hq2=>by obtain⟨φ,ρ,μ,K,E,M,w,L⟩:=hq2;exact L _ _ φ _ H w (.refl _ _) M rfl
abbrev DOp:=D->D->MS->DK->Prop
def dOp (ro:DOp)(wa wb:De):De:=fun ρ μ K=>wa ρ μ fun x μ1=>wb ρ μ1 fun y μ2=>ro x y μ2 K
def SoOp (r:R2)(ro:DOp):Prop:=∀ φ H x y dx dy μ K Q,MSis φ H μ->DIs φ H dx x->DIs φ H dy y->ro dx dy μ K->Lif φ H K Q->r x y H Q
theorem tD_op {r:R2}{ro:DOp}{wa wb:De}(so:SoOp r ro){σ:St}{H:Hp}{Q:VK}(h:tD (dOp ro wa wb) σ H Q):tOp r (tD wa) (tD wb) σ H Q:=by
 obtain⟨φ,ρ,μ,K,E,M,w,L⟩:=h
 refine⟨φ,ρ,μ,_,E,M,w,fun d1 μ1 φ1 v1 H1 k1 f1 M1 i1=>?_⟩
 refine⟨φ1,ρ,μ1,_,E.mono f1,M1,k1,fun d2 μ2 φ2 v2 H2 k2 f2 M2 i2=>?_⟩
 exact so φ2 H2 v1 v2 d1 d2 μ2 K Q M2 (i1.mono f2) i2 k2 (L.mono (f1.trans f2))
theorem d_op {op:Operator}{r:R2}{ro:DOp}{wa wb:De}(h:OpR X (binaryOp op) r)(so:SoOp r ro)(ha:PD X a wa)(hb:PD X b wb):PD X (.BinOp a op b pos) (dOp ro wa wb):=(pe_op h ha hb).imp fun σ H Q q=>tD_op so q
theorem d_cmp {op:CmpOp}{r:R2}{ro:DOp}{wa wb:De}(h:OpR X (compareOp op) r)(so:SoOp r ro)(ha:PD X a wa)(hb:PD X b wb)(hm:behindInMarks op b=false):PD X (.Compare a [op] [b] pos) (dOp ro wa wb):=(pe_cmpR h ha hb hm).imp fun σ H Q q=>tD_op so q
theorem d_ix {r:R2}{ro:DOp}{wa wb:De}(h:IxR X r)(so:SoOp r ro)(ha:PD X a wa)(hb:PD X b wb)(hs:PlainIx b):PD X (.Subscript a b pos) (dOp ro wa wb):=(pe_ix h ha hb hs).imp fun σ H Q q=>tD_op so q
def dTst (w:De):Dt:=fun ρ μ K=>w ρ μ fun d μ'=>match d with | .bl b=>K b μ' | _=>False
theorem tD_bool {w:De}{σ:St}{H:Hp}{Q:Bool->Hp->Prop}(h:tDT (dTst w) σ H Q):cB (tD w) σ H Q:=by
 obtain⟨φ,ρ,μ,K,E,M,k,L⟩:=h
 refine⟨φ,ρ,μ,_,E,M,k,fun d μ' φ' v H' k' f M' i=>?_⟩
 cases d with
 | bl b=>cases(show v=_ from i);exact L b μ' φ' H' k' f M'
 | _=>exact k'.elim
theorem d_testV {w:De}(h:PD X e w)(he:∀ whole,isTrue e X.env whole=(do let v <- whole;standAt e.pos;holding [v] (truthy v)):=by intro _;rfl):PT X e (tDT (dTst w)):=(pt_valC h he).imp fun σ H Q q=>tD_bool q
theorem d_testC {op:CmpOp}{r:R2}{ro:DOp}{wa wb:De}(h:OpR X (compareOp op) r)(so:SoOp r ro)(ha:PD X a wa)(hb:PD X b wb)(hm:behindInMarks op b=false):PT X (.Compare a [op] [b] pos) (tDT (dTst (dOp ro wa wb))) :=
 (pt_cmpC h ha hb hm).imp fun σ H Q q=>by
  obtain⟨φ,ρ,μ,K,E,M,k,L⟩:=q
  refine tD_op so ⟨φ,ρ,μ,_,E,M,k,fun d μ' φ' v H' k' f M' i=>?_⟩
  cases d with
  | bl b=>cases(show v=_ from i);exact L b μ' φ' H' k' f M'
  | _=>exact k'.elim
def dIsN (neg:Bool)(w:De):De:=fun ρ μ K=>w ρ μ fun d μ'=>match d with | .non=>K (.bl (!neg)) μ' | _=>K (.bl neg) μ'
theorem isN_of {φ:List Addr}{H:Hp}{d:D}{v:V}(i:DIs φ H d v):decide (v=V.non)=(match d with | .non=>true | _=>false):=by
 cases d with
 | non=>cases(show v=_ from i);rfl
 | bl _=>cases(show v=_ from i);rfl
 | int _=>cases(show v=_ from i);rfl
 | str _=>cases(show v=_ from i);rfl
 | lst _=>obtain⟨p,vs,rfl,_⟩:=i;rfl
 | tup _=>obtain⟨p,vs,rfl,_⟩:=i;rfl
 | dic _ _=>obtain⟨p,kvs,vs,rfl,_⟩:=i;rfl
 | mr _=>obtain⟨p,_,rfl⟩:=i;rfl
theorem tD_notN {w:De}{σ:St}{H:Hp}{Q:VK}(h:tD (dIsN true w) σ H Q):tNotN (tD w) σ H Q:=by
 obtain⟨φ,ρ,μ,K,E,M,k,L⟩:=h
 refine⟨φ,ρ,μ,_,E,M,k,fun d μ' φ' v H' k' f M' i=>?_⟩
 show Q (.bl _) H'
 rw[isN_of i]
 cases d <;> exact L _ μ' φ' _ H' k' f M' rfl
end
end L2
namespace L2
open PySem PySem.Spec PyProof.Rows
section
variable {X:Cx}{a b e:Expr}{es:List Expr}{pos:Pos}
theorem PA.imp {es:List Expr}{t t':TA}(h:PA X es t)(hi:∀ σ H Q,t' σ H Q->t σ H Q):PA X es t':=fun pos pins s σ H Q I q=>h pos pins s σ H Q I (hi σ H Q q)
theorem PSs.imp {st:List Stmt}{t t':TS}(h:PSs X st t)(hi:∀ D σ H,t' D σ H->t D σ H):PSs X st t':=fun pins s σ H D I q=>h pins s σ H D I (hi D σ H q)
def dNil:DA:=fun _ μ K=>K [] μ
def dCons (wa:De)(wr:DA):DA:=fun ρ μ K=>wa ρ μ fun x μ1=>wr ρ μ1 fun xs μ2=>K (x::xs) μ2
abbrev PDA (X:Cx)(es:List Expr)(w:DA):Prop:=PA X es (tDA w)
theorem da_nil:PDA X [] dNil:=pa_nil.imp fun σ H Q hq3=>by obtain⟨φ,ρ,μ,K,E,M,w,L⟩:=hq3;exact L [] μ φ [] H w (.refl _ _) M rfl
theorem da_cons {wa:De}{wr:DA}(ha:PD X e wa)(hr:PDA X es wr)(hs:starEach (e::es) X.env=(false,eval e X.env)::starEach es X.env:=by rfl):PDA X (e::es) (dCons wa wr):=(pa_cons ha hr hs).imp fun σ H Q q=>by
 obtain⟨φ,ρ,μ,K,E,M,w,L⟩:=q
 refine⟨φ,ρ,μ,_,E,M,w,fun d1 μ1 φ1 v1 H1 k1 f1 M1 i1=>?_⟩
 refine⟨φ1,ρ,μ1,_,E.mono f1,M1,k1,fun ds μ2 φ2 vs H2 k2 f2 M2 i2=>?_⟩
 exact L _ μ2 φ2 _ H2 k2 (f1.trans f2) M2 ⟨v1,vs,rfl,i1.mono f2,i2⟩
theorem al_lst {φ:List Addr}{H:Hp}{μ:MS}{K:DK}{Q:VK}{ds:List D}{vs:List V}{p:Addr}(L:Lif φ H K Q)(M:MSis φ H μ)(h:DAll φ H ds vs)(k:K (.lst ds) μ)(hp:H p=none):Q (.ref p) (upd H p (.lst vs)) :=
 L _ μ φ _ _ k (.new hp) (M.same (Same.upd hp)) ⟨p,vs,rfl,M.fresh hp,upd_same,h.mono (.new hp)⟩
theorem al_tup {φ:List Addr}{H:Hp}{μ:MS}{K:DK}{Q:VK}{ds:List D}{vs:List V}{p:Addr}(L:Lif φ H K Q)(M:MSis φ H μ)(h:DAll φ H ds vs)(k:K (.tup ds) μ)(hp:H p=none):Q (.ref p) (upd H p (.tup vs)) :=
 L _ μ φ _ _ k (.new hp) (M.same (Same.upd hp)) ⟨p,vs,rfl,M.fresh hp,upd_same,h.mono (.new hp)⟩
theorem al_mr {φ:List Addr}{H:Hp}{μ:MS}{K:DK}{Q:VK}{ds:List D}{vs:List V}{p:Addr}(L:Lif φ H K Q)(M:MSis φ H μ)(h:DAll φ H ds vs)(k:K (.mr μ.length) (μ++[.lst ds]))(hp:H p=none):Q (.ref p) (upd H p (.lst vs)):=by
 have f:Fr φ H (φ++[p]) (upd H p (.lst vs)):=⟨(Fr.snoc (φ:=φ) hp).ext,fun c u _ e=>Same.upd hp _ _ e,fun c e=>(Same.upd hp).free e⟩
 obtain⟨M',_⟩:=M.snoc (m:=.lst ds) (o:=.lst vs) hp ⟨vs,upd_same,h.mono f⟩
 exact L _ _ _ _ _ k f M' ⟨p,by rw[gxG (by rw[M.len];exact Nat.le_refl _),M.len,Nat.sub_self];rfl,rfl⟩
def nL (m:Bool)(ds:List D)(μ:MS)(K:DK):Prop:=match m with | false=>K (.lst ds) μ | true=>K (.mr μ.length) (μ++[.lst ds])
theorem al_n {m:Bool}{φ:List Addr}{H:Hp}{μ:MS}{K:DK}{Q:VK}{ds:List D}{vs:List V}{p:Addr}(L:Lif φ H K Q)(M:MSis φ H μ)(h:DAll φ H ds vs)(k:nL m ds μ K)(hp:H p=none):Q (.ref p) (upd H p (.lst vs)):=by
 cases m with
 | false=>exact al_lst L M h k hp
 | true=>exact al_mr L M h k hp
def dLst (m:Bool)(w:DA):De:=fun ρ μ K=>w ρ μ fun ds μ1=>ds.length<=sizeLine/\nL m ds μ1 K
def dTup (w:DA):De:=fun ρ μ K=>w ρ μ fun ds μ1=>ds.length<=sizeLine/\K (.tup ds) μ1
theorem d_lst {w:DA}(m:Bool)(h:PDA X es w):PD X (.List es pos) (dLst m w):=(pe_lst h).imp fun σ H Q ⟨φ,ρ,μ,K,E,M,w,L⟩ =>
 ⟨φ,ρ,μ,_,E,M,w,fun ds μ1 φ1 vs H1 k1 f1 M1 i1=>⟨by rw[i1.len];exact k1.1,fun p hp=>al_n (L.mono f1) M1 i1 k1.2 hp⟩⟩
theorem d_tup {w:DA}{x1}(h:PDA X es w):PD X (.Tuple es x1 pos) (dTup w):=(pe_tup h).imp fun σ H Q ⟨φ,ρ,μ,K,E,M,w,L⟩ =>
 ⟨φ,ρ,μ,_,E,M,w,fun ds μ1 φ1 vs H1 k1 f1 M1 i1=>⟨by rw[i1.len];exact k1.1,fun p hp=>al_tup (L.mono f1) M1 i1 k1.2 hp⟩⟩
abbrev DSp:=List D->MS->DK->Prop
def spD (f:DSp):Sp:=fun vs H Q _=>∃ φ ds μ K,DAll φ H ds vs/\MSis φ H μ/\f ds μ K/\Lif φ H K Q
def dCall (f:DSp)(w:DA):De:=fun ρ μ K=>w ρ μ fun ds μ1=>f ds μ1 K
theorem d_call {f:DSp}{w:DA}{x:Str}{p:Pos}{k:Nat}{ps:List Str}(C:Cal X.prog X.w X.K X.mg X.base x k ps (spD f))(hr:Room k X.A)(hg:Gl X x)(ha:PDA X (e::es) w)
 (hdb:(x==("__debug__" : Str))=false:=by decide) (he:starEach (e::es) X.env=(false,eval e X.env)::starEach es X.env:=by rfl) (hpl:(backTo pos (starEach es X.env)).any (·.1)=false:=by rfl) :
 PD X (.Call (.Name x p) (e::es) [] pos) (dCall f w):=(pe_callC C hr hg ha hdb he hpl).imp fun σ H Q ⟨φ,ρ,μ,K,E,M,w,L⟩ =>
 ⟨φ,ρ,μ,_,E,M,w,fun ds μ1 φ1 vs H1 k1 f1 M1 i1=>by show spD f (vs++[]) H1 Q E0;rw[List.append_nil];exact⟨φ1,ds,μ1,K,i1,M1,k1,L.mono f1⟩⟩
def SoCall (r:List V->Hp->VK->Prop)(f:DSp):Prop:=∀ φ H vs ds μ K Q,MSis φ H μ->DAll φ H ds vs->f ds μ K->Lif φ H K Q->r vs H Q
theorem tD_cb {r:List V->Hp->VK->Prop}{f:DSp}{w:DA}(so:SoCall r f){σ:St}{H:Hp}{Q:VK}(h:tD (dCall f w) σ H Q):tCB r (tDA w) σ H Q:=by
 obtain⟨φ,ρ,μ,K,E,M,w,L⟩:=h
 exact⟨φ,ρ,μ,_,E,M,w,fun ds μ1 φ1 vs H1 k1 f1 M1 i1=>so φ1 H1 vs ds μ1 K Q M1 i1 k1 (L.mono f1)⟩
theorem d_blt {r:List V->Hp->VK->Prop}{f:DSp}{w:DA}{id:String}{x:Str}{p:Pos}(hc:CallR X (.builtin id) r)(so:SoCall r f)(hg:Gl X x)(hm:X.mg x=none)(hv:bootBuiltins x=some (.builtin id))(ha:PDA X (e::es) w)(hn:x ≠ "__name__":=by decide)(hdb:(x==("__debug__" : Str))=false:=by decide)
 (he:starEach (e::es) X.env=(false,eval e X.env)::starEach es X.env:=by rfl) (hpl:(backTo pos (starEach es X.env)).any (·.1)=false:=by rfl):PD X (.Call (.Name x p) (e::es) [] pos) (dCall f w) :=
 (pe_callB hc hg hm hv ha hn hdb he hpl).imp fun σ H Q q=>tD_cb so q
theorem d_ty {r:List V->Hp->VK->Prop}{f:DSp}{w:DA}{T:String}{x:Str}{p:Pos}(hc:CallR X (.type T) r)(so:SoCall r f)(hg:Gl X x)(hm:X.mg x=none)(hv:bootBuiltins x=some (.type T))(ha:PDA X (e::es) w)(hn:x ≠ "__name__":=by decide)(hdb:(x==("__debug__" : Str))=false:=by decide)
 (he:starEach (e::es) X.env=(false,eval e X.env)::starEach es X.env:=by rfl) (hpl:(backTo pos (starEach es X.env)).any (·.1)=false:=by rfl):PD X (.Call (.Name x p) (e::es) [] pos) (dCall f w) :=
 (pe_callTy hc hg hm hv ha hn hdb he hpl).imp fun σ H Q q=>tD_cb so q
abbrev DMt:=D->List D->MS->DK->Prop
def SoMt (K:PySem.W.Frag)(T:String)(r:V->List V->Hp->VK->Prop)(f:DMt):Prop:=∀ φ H x vs d ds μ K' Q,MSis φ H μ->DIs φ H d x->DAll φ H ds vs->f d ds μ K'->Lif φ H K' Q->r x vs H Q
def TyD (T:String)(μ:MS):D->Prop
 | .str _=>T = "str"
 | .lst _=>T = "list"
 | .dic _ _=>T = "dict"
 | .mr k=>match μ[k]? with | some (.lst _)=>T = "list" | some (.dic _ _)=>T = "dict" | _=>False
 | _=>False
theorem TyD.is {Kf:PySem.W.Frag}{T:String}{φ:List Addr}{H:Hp}{μ:MS}{d:D}{v:V}(M:MSis φ H μ)(i:DIs φ H d v)(h:TyD T μ d):tyV Kf T v H:=by
 cases d with
 | str z=>cases(show v=_ from i);exact h
 | lst ds=>obtain⟨p,vs,rfl,_,hp,_⟩:=i;exact .inl ⟨h,vs,SqL.of hp⟩
 | dic ks ds=>obtain⟨p,kvs,vs,rfl,_,hp,_⟩:=i;exact .inr (.inr (.inl ⟨h,.inl ⟨kvs,hp⟩⟩))
 | mr k =>
  obtain⟨p,hp,rfl⟩:=i
  unfold TyD at h
  dsimp only at h
  cases e:μ[k]? with
  | none=>rw[e]at h;exact h.elim
  | some m =>
   obtain⟨q,e1,e2⟩:=M.at_ k m e
   rw[hp]at e1;cases e1
   rw[e]at h
   cases m with
   | box=>exact h.elim
   | lst ds=>obtain⟨vs,hv,_⟩:=e2;exact .inl ⟨h,vs,SqL.of hv⟩
   | dic ks ds=>obtain⟨kvs,vs,hv,_⟩:=e2;exact .inr (.inr (.inl ⟨h,.inl ⟨kvs,hv⟩⟩))
   | _=>exact h.elim
 | _=>exact(show False from h).elim
def dMt (T:String)(f:DMt)(wo:De)(w:DA):De:=fun ρ μ K=>wo ρ μ fun x μ1=>TyD T μ1 x/\w ρ μ1 fun ds μ2=>f x ds μ2 K
theorem d_mt {o:Expr}{name:Str}{apos cpos:Pos}{T id:String}{r:V->List V->Hp->VK->Prop}{f:DMt}{wo:De}{w:DA}(pa:PlainAttrs T)(slot:Slot T name id)(hty:typeOf (.builtin id)=pure (.type "method_descriptor"))(hm:MtR X id r)(so:SoMt X.K T r f)(ho:PD X o wo)(ha:PDA X (e::es) w)
 (hbase:attributeBase o name X.env (eval o X.env)=eval o X.env:=by rfl)
 (hfew:((backTo cpos (starEach (e::es) X.env)).all (fun x=>!x.1)&&(backToKw cpos (keywordEach [] X.env)).all (fun x=>x.1.isSome)
   && decide ((e::es).length+([]:List Keyword).length+(if([]:List Keyword).isEmpty then 0 else 1)<30))=true:=by rfl)
 (hline:(apos.endLine==cpos.line)=true:=by rfl) (hs:starEach (e::es) X.env=(false,eval e X.env)::starEach es X.env:=by rfl) (hplain:(backTo cpos (starEach es X.env)).any (·.1)=false:=by rfl) :
 PD X (.Call (.Attribute o name apos) (e::es) [] cpos) (dMt T f wo w):=(pe_bm pa slot hty hm ho ha hbase hfew hline hs hplain).imp fun σ H Q q=>by
 obtain⟨φ,ρ,μ,K,E,M,w,L⟩:=q
 refine⟨φ,ρ,μ,_,E,M,w,fun d1 μ1 φ1 v1 H1 k1 f1 M1 i1=>⟨TyD.is M1 i1 k1.1,?_⟩⟩
 exact⟨φ1,ρ,μ1,_,E.mono f1,M1,k1.2,fun ds μ2 φ2 vs H2 k2 f2 M2 i2=>so φ2 H2 v1 vs d1 ds μ2 K Q M2 (i1.mono f2) i2 k2 (L.mono (f1.trans f2))⟩
def dAnd (wa wb:De):De:=fun ρ μ K=>wa ρ μ fun x μ1=>match x with | .bl c=>if c=true then wb ρ μ1 K else K (.bl false) μ1 | _=>False
theorem d_and {rest:List Expr}{wa wb:De}(ha:PD X a wa)(hb:PD X (.BoolOp .And (b::rest) pos) wb):PD X (.BoolOp .And (a::b::rest) pos) (dAnd wa wb):=(pe_andC ha hb).imp fun σ H Q q=>by
 obtain⟨φ,ρ,μ,K,E,M,w,L⟩:=q
 refine⟨φ,ρ,μ,_,E,M,w,fun d1 μ1 φ1 v1 H1 k1 f1 M1 i1=>?_⟩
 cases d1 with
 | bl c =>
  cases(show v1=_ from i1)
  cases c with
  | true=>exact⟨φ1,ρ,μ1,_,E.mono f1,M1,k1,L.mono f1⟩
  | false=>exact L _ μ1 φ1 _ H1 k1 f1 M1 rfl
 | _=>exact k1.elim
theorem d_one {op}{w:De}(h:PD X a w):PD X (.BoolOp op [a] pos) w:=pe_one h
def dNeg (wa:De):De:=fun ρ μ K=>wa ρ μ fun x μ1=>match x with | .int i=>K (.int (-i)) μ1 | _=>False
theorem d_neg {wa:De}(ha:PD X a wa):PD X (.UnaryOp .USub a pos) (dNeg wa):=(pe_un un_neg ha).imp fun σ H Q q=>by
 obtain⟨φ,ρ,μ,K,E,M,w,L⟩:=q
 refine⟨φ,ρ,μ,_,E,M,w,fun d1 μ1 φ1 v1 H1 k1 f1 M1 i1=>?_⟩
 cases d1 with
 | int c=>cases(show v1=_ from i1);exact⟨c,rfl,L _ μ1 φ1 _ H1 k1 f1 M1 rfl⟩
 | _=>exact k1.elim
def dtAnd (t u:Dt):Dt:=fun ρ μ K=>t ρ μ fun c μ1=>if c=true then u ρ μ1 K else K false μ1
def dtOr (t u:Dt):Dt:=fun ρ μ K=>t ρ μ fun c μ1=>if c=true then K true μ1 else u ρ μ1 K
def dtNot (t:Dt):Dt:=fun ρ μ K=>t ρ μ fun c μ1=>K (!c) μ1
abbrev PDT (X:Cx)(e:Expr)(w:Dt):Prop:=PT X e (tDT w)
theorem tDT_and {t u:Dt}{σ:St}{H:Hp}{Q:Bool->Hp->Prop}(h:tDT (dtAnd t u) σ H Q):tAnd (tDT t) (tDT u) σ H Q:=by
 obtain⟨φ,ρ,μ,K,E,M,w,L⟩:=h
 refine⟨φ,ρ,μ,_,E,M,w,fun b μ1 φ1 H1 k1 f1 M1=>?_⟩
 cases b with
 | true=>exact⟨φ1,ρ,μ1,_,E.mono f1,M1,k1,fun b μ2 φ2 H2 k2 f2 M2=>L b μ2 φ2 H2 k2 (f1.trans f2) M2⟩
 | false=>exact L _ μ1 φ1 H1 k1 f1 M1
theorem tDT_or {t u:Dt}{σ:St}{H:Hp}{Q:Bool->Hp->Prop}(h:tDT (dtOr t u) σ H Q):tOr (tDT t) (tDT u) σ H Q:=by
 obtain⟨φ,ρ,μ,K,E,M,w,L⟩:=h
 refine⟨φ,ρ,μ,_,E,M,w,fun b μ1 φ1 H1 k1 f1 M1=>?_⟩
 cases b with
 | false=>exact⟨φ1,ρ,μ1,_,E.mono f1,M1,k1,fun b μ2 φ2 H2 k2 f2 M2=>L b μ2 φ2 H2 k2 (f1.trans f2) M2⟩
 | true=>exact L _ μ1 φ1 H1 k1 f1 M1
abbrev PDW (X:Cx)(e:Expr)(w:Dt):Prop:=PW X e (tDT w)
theorem PW.imp {e:Expr}{t t':TT}(h:PW X e t)(hi:∀ σ H Q,t' σ H Q->t σ H Q):PW X e t':=fun wh pins s σ H Q I q=>h wh pins s σ H Q I (hi σ H Q q)
theorem t_and1 {t:Dt}(h:PDT X a t):PDW X (.BoolOp .And [a] pos) t:=pw_and1 h
theorem t_or1 {t:Dt}(h:PDT X a t):PDW X (.BoolOp .Or [a] pos) t:=pw_or1 h
theorem t_and {rest:List Expr}{t u:Dt}(ha:PDT X a t)(hb:PDW X (.BoolOp .And (b::rest) pos) u):PDW X (.BoolOp .And (a::b::rest) pos) (dtAnd t u):=(pw_and ha hb).imp fun σ H Q q=>tDT_and q
theorem t_or {rest:List Expr}{t u:Dt}(ha:PDT X a t)(hb:PDW X (.BoolOp .Or (b::rest) pos) u):PDW X (.BoolOp .Or (a::b::rest) pos) (dtOr t u):=(pw_or ha hb).imp fun σ H Q q=>tDT_or q
theorem t_not {t:Dt}(h:PDT X a t):PDT X (.UnaryOp .Not a pos) (dtNot t):=(pt_not h).imp fun σ H Q q=>by
 obtain⟨φ,ρ,μ,K,E,M,w,L⟩:=q
 exact⟨φ,ρ,μ,_,E,M,w,fun b μ1 φ1 H1 k1 f1 M1=>L _ μ1 φ1 H1 k1 f1 M1⟩
def dIf (t:Dt)(wa wb:De):De:=fun ρ μ K=>t ρ μ fun c μ1=>if c=true then wa ρ μ1 K else wb ρ μ1 K
theorem d_if {c:Expr}{t:Dt}{wa wb:De}(hc:PDT X c t)(ha:PD X a wa)(hb:PD X b wb):PD X (.IfExp c a b pos) (dIf t wa wb):=(pe_ifExp hc ha hb).imp fun σ H Q q=>by
 obtain⟨φ,ρ,μ,K,E,M,w,L⟩:=q
 refine⟨φ,ρ,μ,_,E,M,w,fun b μ1 φ1 H1 k1 f1 M1=>?_⟩
 cases b with
 | true=>exact⟨φ1,ρ,μ1,_,E.mono f1,M1,k1,L.mono f1⟩
 | false=>exact⟨φ1,ρ,μ1,_,E.mono f1,M1,k1,L.mono f1⟩
theorem tB_of {w:De}{t:TE}{σ:St}{H:Hp}{Q:Bool->Hp->Prop}(hi:∀ Q,tD w σ H Q->t σ H Q)(h:tDT (dTst w) σ H Q):tB t σ H Q:=by
 obtain⟨φ,ρ,μ,K,E,M,k,L⟩:=h
 refine hi _ ⟨φ,ρ,μ,_,E,M,k,fun d μ' φ' v H' k' f M' i=>?_⟩
 cases d with
 | bl b=>cases(show v=_ from i);exact⟨b,rfl,L b μ' φ' H' k' f M'⟩
 | _=>exact k'.elim
theorem t_notN {j pos'}{w:De}(h:PD X a w):PDT X (.Compare a [.IsNot] [.Constant .none j pos'] pos) (dTst (dIsN true w)):=(pt_cmp (pc_notN h)).imp fun σ H Q q=>tB_of (fun Q q=>tD_notN q) q
end
structure DN where
 nx:DE->MS->Prop
 rt:DK
 bk:DE->MS->Prop:=fun _ _=>False
 ct:DE->MS->Prop:=fun _ _=>False
abbrev Ds:=DN->DE->MS->Prop
def LiS (φ:List Addr)(H:Hp)(k:DE->MS->Prop)(q:St->Hp->Prop):Prop:=∀ ρ' μ' φ' σ' H',k ρ' μ'->Fr φ H φ' H'->DEnv φ' H' ρ' σ'->MSis φ' H' μ'->q σ' H'
theorem LiS.mono {φ φ1:List Addr}{H H1:Hp}{k:DE->MS->Prop}{q:St->Hp->Prop}(h:LiS φ H k q)(f:Fr φ H φ1 H1):LiS φ1 H1 k q:=fun ρ' μ' φ' σ' H' a b c d=>h ρ' μ' φ' σ' H' a (f.trans b) c d
structure LiN (φ:List Addr)(H:Hp)(N:DN)(E:Ends):Prop where
 nx:LiS φ H N.nx E.nx
 rt:Lif φ H N.rt E.rt
 bk:LiS φ H N.bk E.bk
 ct:LiS φ H N.ct E.ct
theorem LiN.mono {φ φ1:List Addr}{H H1:Hp}{N:DN}{E:Ends}(h:LiN φ H N E)(f:Fr φ H φ1 H1):LiN φ1 H1 N E:=⟨h.nx.mono f,h.rt.mono f,h.bk.mono f,h.ct.mono f⟩
def tDS (w:Ds):TS:=fun E σ H=>∃ φ ρ μ N,DEnv φ H ρ σ/\MSis φ H μ/\w N ρ μ/\LiN φ H N E
abbrev PDS (X:Cx)(st:Stmt)(w:Ds):Prop:=PS X st (tDS w)
abbrev PDB (X:Cx)(st:List Stmt)(w:Ds):Prop:=PSs X st (tDS w)
section
variable {X:Cx}{a b e:Expr}{es:List Expr}{pos:Pos}{st:Stmt}{rest:List Stmt}
def dNx:Ds:=fun N ρ μ=>N.nx ρ μ
def dSeq (t u:Ds):Ds:=fun N ρ μ=>t { N with nx:=fun ρ' μ'=>u N ρ' μ'} ρ μ
def dCut (t u:Ds):Ds:=fun N ρ μ=>∃ M:DE->MS->Prop,t { N with nx:=M} ρ μ/\∀ ρ' μ',M ρ' μ'->u N ρ' μ'
theorem b_nil:PDB X [] dNx:=pss_nil.imp fun E σ H hq4=>by obtain⟨φ,ρ,μ,N,A,M,w,L⟩:=hq4;exact L.nx ρ μ φ σ H w (.refl _ _) A M
theorem b_cons {t u:Ds}(h1:PDS X st t)(h2:PDB X rest u):PDB X (st::rest) (dSeq t u):=(pss_cons h1 h2).imp fun E σ H ⟨φ,ρ,μ,N,A,M,w,L⟩ =>
 ⟨φ,ρ,μ,_,A,M,w,⟨fun ρ' μ' φ' σ' H' k f A' M'=>⟨φ',ρ',μ',N,A',M',k,L.mono f⟩,L.rt,L.bk,L.ct⟩⟩
theorem b_cut {t u:Ds}(h1:PDS X st t)(h2:PDB X rest u):PDB X (st::rest) (dCut t u):=(pss_cons h1 h2).imp fun E σ H ⟨φ,ρ,μ,N,A,M,⟨P,w1,w2⟩,L⟩ =>
 ⟨φ,ρ,μ,_,A,M,w1,⟨fun ρ' μ' φ' σ' H' k f A' M'=>⟨φ',ρ',μ',N,A',M',w2 ρ' μ' k,L.mono f⟩,L.rt,L.bk,L.ct⟩⟩
theorem b_one {t:Ds}(h:PDS X st t):PDB X [st] t:=pss_one h
def dExpr (w:De):Ds:=fun N ρ μ=>w ρ μ fun _ μ'=>N.nx ρ μ'
theorem s_expr {w:De}(h:PD X e w)(hs:swapsWith e none pos.line X.env=pure false:=by rfl):PDS X (.Expr e pos) (dExpr w):=(ps_expr h hs).imp fun E σ H hq5=>by obtain⟨φ,ρ,μ,N,A,M,w,L⟩:=hq5;exact⟨φ,ρ,μ,_,A,M,w,fun d μ1 φ1 v1 H1 k1 f1 M1 i1=>L.nx ρ μ1 φ1 σ H1 k1 f1 (A.mono f1) M1⟩
def dRet (w:De):Ds:=fun N ρ μ=>w ρ μ N.rt
theorem s_ret {w:De}(h:PD X e w):PDS X (.Return (some e) pos) (dRet w):=(ps_ret h).imp fun E σ H hq6=>by obtain⟨φ,ρ,μ,N,A,M,w,L⟩:=hq6;exact⟨φ,ρ,μ,_,A,M,w,L.rt⟩
def dIfS (c:Dt)(t u:Ds):Ds:=fun N ρ μ=>c ρ μ fun b μ1=>if b=true then t N ρ μ1 else u N ρ μ1
theorem s_if {c:Expr}{body orelse:List Stmt}{t:Dt}{u v:Ds}(hc:PDT X c t)(h1:PDB X body u)(h2:PDB X orelse v):PDS X (.If c body orelse pos) (dIfS t u v):=(ps_if hc h1 h2).imp fun E σ H ⟨φ,ρ,μ,N,A,M,w,L⟩ =>
 ⟨φ,ρ,μ,_,A,M,w,fun b μ1 φ1 H1 k1 f1 M1=>by
  cases b with
  | true=>exact⟨φ1,ρ,μ1,N,A.mono f1,M1,k1,L.mono f1⟩
  | false=>exact⟨φ1,ρ,μ1,N,A.mono f1,M1,k1,L.mono f1⟩⟩
def dSet (i:Nat)(w:De):Ds:=fun N ρ μ=>w ρ μ fun d μ'=>N.nx (ρ.set i (some d)) μ'
theorem s_set {i:Nat}{x:Str}{w:De}{pos':Pos}(hN:X.N.Nodup)(hi:X.N[i]?=some x)(hx:Loc X.env.scope x)(he:PD X e w)(hf:X.fn x=true\/X.env.scope.names.lookup x=some .local:=by first | exact .inl rfl | exact .inr rfl | assumption)
 (hsw:swapsWith e (some (.Name x pos')) pos.line X.env=pure false:=by rfl):PDS X (.Assign [.Name x pos'] e pos) (dSet i w):=(ps_set (pos:=pos) (pos':=pos') hN hi hx he hsw hf).imp fun E σ H ⟨φ,ρ,μ,N,A,M,w,L⟩ =>
 ⟨φ,ρ,μ,_,A,M,w,fun d μ1 φ1 v1 H1 k1 f1 M1 i1=>L.nx _ μ1 φ1 _ H1 k1 f1 ((A.mono f1).set i1 i) M1⟩
abbrev DG:=D->DE->MS->(DE->MS->Prop)->Prop
abbrev DGs:=List D->DE->MS->(DE->MS->Prop)->Prop
def SoG (g:TG)(w:DG)(S:List Nat):Prop:=∀ φ H ρ σ μ d v K,DEnv φ H ρ σ->MSis φ H μ->DIs φ H d v->w d ρ μ K->g v σ H fun σ2 H2=>H2=H/\σ2.length=σ.length/\(∀ i,i∉S->σ2[i]?=σ[i]?)/\∃ ρ2,DEnv φ H ρ2 σ2/\K ρ2 μ
def SoGs (g:TGs)(w:DGs)(S:List Nat):Prop:=∀ φ H ρ σ μ ds vs K,DEnv φ H ρ σ->MSis φ H μ->DAll φ H ds vs->w ds ρ μ K->g vs σ H fun σ2 H2=>H2=H/\σ2.length=σ.length/\(∀ i,i∉S->σ2[i]?=σ[i]?)/\∃ ρ2,DEnv φ H ρ2 σ2/\K ρ2 μ
def MonoG (g:TG):Prop:=∀ v σ H Q Q',(∀ σ' H',Q σ' H'->Q' σ' H')->g v σ H Q->g v σ H Q'
def MonoGs (g:TGs):Prop:=∀ v σ H Q Q',(∀ σ' H',Q σ' H'->Q' σ' H')->g v σ H Q->g v σ H Q'
def dgName (i:Nat):DG:=fun d ρ μ K=>K (ρ.set i (some d)) μ
def dgTup (n:Nat)(t:DGs):DG:=fun d ρ μ K=>match d with | .tup ds=>ds.length=n/\t ds ρ μ K | _=>False
def dgCons (t:DG)(u:DGs):DGs:=fun ds ρ μ K=>match ds with | d::r=>t d ρ μ fun ρ' μ'=>u r ρ' μ' K | []=>False
def dgNil:DGs:=fun ds ρ μ K=>match ds with | []=>K ρ μ | _=>False
theorem so_name (i:Nat):SoG (gName i) (dgName i) [i]:=fun φ H ρ σ μ d v K E M h w=>⟨rfl,List.length_set,fun j hj=>List.getElem?_set_ne (fun z=>hj (by simp[z])),_,E.set h i,w⟩
theorem mo_name (i:Nat):MonoG (gName i):=fun v σ H Q Q' h q=>h _ _ q
theorem so_nil:SoGs cNil dgNil []:=fun φ H ρ σ μ ds vs K E M h w=>by
 cases ds with
 | nil=>cases(show vs=[]from h);exact⟨rfl,rfl,fun _ _=>rfl,ρ,E,w⟩
 | cons d r=>exact w.elim
theorem mo_nil:MonoGs cNil:=fun v σ H Q Q' h q=>by
 cases v with
 | nil=>exact h _ _ q
 | cons x r=>exact q
theorem mo_cons {g:TG}{u:TGs}(h1:MonoG g)(h2:MonoGs u):MonoGs (cCons g u):=fun v σ H Q Q' h q=>by
 cases v with
 | nil=>exact q
 | cons x r=>exact h1 _ _ _ _ _ (fun σ' H' q'=>h2 _ _ _ _ _ h q') q
theorem mo_tup {n:Nat}{u:TGs}(h2:MonoGs u):MonoG (cTup n u):=fun v σ H Q Q' h q=>by
 cases v with
 | ref a=>obtain⟨xs,e,l,q⟩:=q;exact⟨xs,e,l,h2 _ _ _ _ _ h q⟩
 | _=>exact q
theorem so_cons {g:TG}{u:TGs}{w:DG}{y:DGs}{S T:List Nat}(h1:SoG g w S)(m1:MonoG g)(h2:SoGs u y T)(m2:MonoGs u):SoGs (cCons g u) (dgCons w y) (S++T):=fun φ H ρ σ μ ds vs K E M h k=>by
 cases ds with
 | nil=>exact k.elim
 | cons d r =>
  obtain⟨v,vr,rfl,hd,hr⟩:=h
  refine m1 _ _ _ _ _ (fun σ1 H1 hq0=>?_) (h1 φ H ρ σ μ d v _ E M hd k)
  obtain⟨e1,l1,n1,ρ1,E1,k1⟩:=hq0
  subst e1
  refine m2 _ _ _ _ _ (fun σ2 H2 hq1=>?_) (h2 φ H1 ρ1 σ1 μ r vr K E1 M hr k1)
  obtain⟨e2,l2,n2,ρ2,E2,k2⟩:=hq1
  refine⟨e2,l2.trans l1,fun i hi=>?_,ρ2,E2,k2⟩
  rw[n2 i (fun z=>hi (List.mem_append_right _ z)),n1 i (fun z=>hi (List.mem_append_left _ z))]
theorem so_tup {n:Nat}{u:TGs}{y:DGs}{S:List Nat}(h2:SoGs u y S):SoG (cTup n u) (dgTup n y) S:=fun φ H ρ σ μ d v K E M h k=>by
 cases d with
 | tup ds =>
  obtain⟨p,vs,rfl,hn,hp,ha⟩:=h
  exact⟨vs,hp,by rw[ha.len];exact k.1,h2 φ H ρ σ μ ds vs K E M ha k.2⟩
 | _=>exact k.elim
structure Tg (X:Cx)(tg:Expr)(g:TG)(w:DG)(S:List Nat):Prop where
 pg:PG X tg g
 so:SoG g w S
 mo:MonoG g
def dAsg (w:De)(g:DG):Ds:=fun N ρ μ=>w ρ μ fun d μ1=>g d ρ μ1 N.nx
theorem s_asg {tg:Expr}{w:De}{g:TG}{y:DG}{S:List Nat}(he:PD X e w)(hg:Tg X tg g y S)(hs:swapsWithSole [tg] e pos.line X.env=pure false:=by rfl)(hw:swappedStores [tg] e X.env=pure none:=by rfl)
 (h1:(assignEach [tg] X.env).map (·.2)=[assign tg X.env]:=by rfl):PDS X (.Assign [tg] e pos) (dAsg w y):=(ps_asg he hg.pg hs hw h1).imp fun E σ H ⟨φ,ρ,μ,N,A,M,w,L⟩ =>
 ⟨φ,ρ,μ,_,A,M,w,fun d μ1 φ1 v1 H1 k1 f1 M1 i1=>hg.mo _ _ _ _ _ (fun σ2 H2 ⟨e2,_,_,ρ2,E2,k2⟩=>by subst e2;exact L.nx ρ2 μ1 φ1 σ2 _ k2 f1 E2 M1) (hg.so φ1 H1 ρ σ μ1 d v1 _ (A.mono f1) M1 i1 k1)⟩
def SoSet (t:TSet)(w:D->D->D->MS->(MS->Prop)->Prop):Prop:=∀ φ H o i v dO di d μ K Q,MSis φ H μ->DIs φ H dO o->DIs φ H di i->DIs φ H d v->w dO di d μ K->(∀ μ' H',K μ'->Fr φ H φ H'->MSis φ H' μ'->Q H')->t o i v H Q
def dsetL:D->D->D->MS->(MS->Prop)->Prop:=fun o i d μ K=>match o,i with
 | .mr k,.int j=>opt (lvM μ k) fun ds=>opt (ixN ds.length j) fun n=>K (μ.set k (.lst (ds.set n d)))
 | _,_=>False
theorem so_set:SoSet rSetC dsetL:=fun φ H o i v dO di d μ K Q M hO hi hd w q=>by
 unfold dsetL at w
 split at w
 ·rename_i k j
  obtain⟨ds,em,w⟩:=opt_ex w
  have em:=lvM_eq em
  obtain⟨p,hp,rfl⟩:=hO
  cases(show i=_ from hi)
  obtain⟨p',e1,vs,hv,ha⟩:=M.at_ k _ em
  rw[hp]at e1;cases e1
  obtain⟨n,en,w⟩:=opt_ex w
  refine⟨vs,hv,opt_of (v:=n) (by rw[ha.len];exact en) ?_⟩
  have f:Fr φ H φ (upd H p (.lst (vs.set n v))):=.put (gxD hp)
  exact q _ _ w f (M.put hp ⟨_,upd_same,(ha.set hd n).mono f⟩)
 ·exact w.elim
def dAsgS (w wo wi:De):Ds:=fun N ρ μ=>w ρ μ fun d μ1=>wo ρ μ1 fun o μ2=>wi ρ μ2 fun i μ3=>dsetL o i d μ3 fun μ4=>N.nx ρ μ4
theorem s_asgS {o i:Expr}{w wo wi:De}{pos':Pos}(he:PD X e w)(ho:PD X o wo)(hi:PD X i wi)
 (ha:∀ v,assign (.Subscript o i pos') X.env v=(do
   let ov <- holding [v] (eval o X.env)
   let iv <- holding [v,ov] (eval i X.env)
   standAt pos'
   holding [v,ov,iv] (setItem ov iv v)
   release [v,ov,iv] []):=by intro _;rfl) (hs:swapsWithSole [.Subscript o i pos'] e pos.line X.env=pure false:=by rfl) (hw:swappedStores [.Subscript o i pos'] e X.env=pure none:=by rfl)
 (h1:(assignEach [.Subscript o i pos'] X.env).map (·.2)=[assign (.Subscript o i pos') X.env]:=by rfl):PDS X (.Assign [.Subscript o i pos'] e pos) (dAsgS w wo wi):=(ps_asg he (pg_sub ho hi setC ha) hs hw h1).imp fun E σ H hq=>by
 obtain⟨φ,ρ,μ,N,A,M,w,L⟩:=hq
 refine⟨φ,ρ,μ,_,A,M,w,fun d μ1 φ1 v1 H1 k1 f1 M1 i1=>?_⟩
 refine⟨φ1,ρ,μ1,_,A.mono f1,M1,k1,fun d2 μ2 φ2 v2 H2 k2 f2 M2 i2=>?_⟩
 refine⟨φ2,ρ,μ2,_,A.mono (f1.trans f2),M2,k2,fun d3 μ3 φ3 v3 H3 k3 f3 M3 i3=>?_⟩
 exact so_set φ3 H3 _ _ _ d2 d3 d μ3 _ _ M3 (i2.mono f3) i3 (i1.mono (f2.trans f3)) k3 fun μ' H' k4 f4 M4=>L.nx ρ μ' φ3 σ H' k4 ((f1.trans (f2.trans f3)).trans f4) (A.mono ((f1.trans (f2.trans f3)).trans f4)) M4
def SoIp (t:TIp)(ro:DOp):Prop:=∀ φ H x y dx dy μ K Q,MSis φ H μ->DIs φ H dx x->DIs φ H dy y->ro dx dy μ K->Lif φ H K Q->t x y H Q
def dAug (i:Nat)(w:De)(ro:DOp):Ds:=fun N ρ μ=>match ρ[i]? with | some (some x)=>w ρ μ fun y μ1=>ro x y μ1 fun z μ2=>N.nx (ρ.set i (some z)) μ2 | _=>False
theorem s_aug {i:Nat}{x:Str}{w:De}{op:Operator}{ti:TIp}{ro:DOp}{pos':Pos}(hN:X.N.Nodup)(hi:X.N[i]?=some x)(hx:Loc X.env.scope x)(he:PD X e w)(ho:PIp X op ti)(so:SoIp ti ro)(hf:X.fn x=true\/X.env.scope.names.lookup x=some .local:=by first | exact .inl rfl | exact .inr rfl | assumption) :
 PDS X (.AugAssign (.Name x pos') op e pos) (dAug i w ro):=(ps_aug (pos:=pos) (pos':=pos') hN hi hx he ho hf).imp fun E σ H hq=>by
 obtain⟨φ,ρ,μ,N,A,M,w,L⟩:=hq
 unfold dAug at w
 split at w
 ·rename_i d hd
  obtain⟨v,hv,hdv⟩:=A.2 i d hd
  refine⟨v,hv,φ,ρ,μ,_,A,M,w,fun d1 μ1 φ1 v1 H1 k1 f1 M1 i1=>?_⟩
  exact so φ1 H1 _ _ d d1 μ1 _ _ M1 (hdv.mono f1) i1 k1 fun d2 μ2 φ2 v2 H2 k2 f2 M2 i2=>L.nx _ μ2 φ2 _ H2 k2 (f1.trans f2) ((A.mono (f1.trans f2)).set i2 i) M2
 ·exact w.elim
def dWhile (c:Dt)(b:Ds):Ds:=fun N ρ μ=>∃ W:Nat->DE->MS->Prop,(∃ m,W m ρ μ)/\∀ m ρ μ,W m ρ μ ->
 c ρ μ fun t μ1=>if t=true then b { N with nx:=fun ρ' μ'=>∃ m',m'<m/\W m' ρ' μ',ct:=fun ρ' μ'=>∃ m',m'<m/\W m' ρ' μ',bk:=N.nx} ρ μ1 else N.nx ρ μ1
theorem s_while {c:Expr}{body:List Stmt}{t:Dt}{u:Ds}(hp:PassesOwn (model X.prog X.w) X.A X.env X.xe)(hc:PDT X c t)(hb:PDB X body u):PDS X (.While c body [] pos) (dWhile t u):=(ps_while hp hc hb).imp fun E σ H ⟨φ,ρ,μ,N,A,M,⟨W,⟨m0,w0⟩,turn⟩,L⟩=>by
 refine⟨fun m σ' H'=>∃ φ' ρ' μ',Fr φ H φ' H'/\DEnv φ' H' ρ' σ'/\MSis φ' H' μ'/\W m ρ' μ',⟨m0,φ,ρ,μ,.refl _ _,A,M,w0⟩,?_⟩
 rintro m σ' H' ⟨φ',ρ',μ',f',A',M',w'⟩
 refine⟨φ',ρ',μ',_,A',M',turn m ρ' μ' w',fun b μ1 φ1 H1 k1 f1 M1=>?_⟩
 cases b with
 | true =>
  refine⟨fun σ2 H2=>∃ m',m'<m/\∃ φ2 ρ2 μ2,Fr φ H φ2 H2/\DEnv φ2 H2 ρ2 σ2/\MSis φ2 H2 μ2/\W m' ρ2 μ2,fun σ2 H2 q=>q,φ1,ρ',μ1,_,A'.mono f1,M1,k1,?_⟩
  have nx:LiS φ1 H1 (fun ρ' μ'=>∃ m',m'<m/\W m' ρ' μ') fun σ2 H2=>∃ m',m'<m/\∃ φ2 ρ2 μ2,Fr φ H φ2 H2/\DEnv φ2 H2 ρ2 σ2/\MSis φ2 H2 μ2/\W m' ρ2 μ2:=fun ρ2 μ2 φ2 σ2 H2 ⟨m',hm,w2⟩ f2 A2 M2=>⟨m',hm,φ2,ρ2,μ2,(f'.trans f1).trans f2,A2,M2,w2⟩
  exact⟨nx,L.rt.mono (f'.trans f1),L.nx.mono (f'.trans f1),nx⟩
 | false=>exact L.nx ρ' μ1 φ1 σ' H1 k1 (f'.trans f1) (A'.mono f1) M1
def Wk (J:It)(φ:List Addr)(H:Hp)(ds:List D)(c:MS->Prop):Prop:=∀ φ' H' μ',Fr φ H φ' H'->MSis φ' H' μ'->c μ'->∀ i,
 (∀ d,ds[i]?=some d->J.go i H'/\∀ x H'',J.yld i H' x H''->Fr φ' H' φ' H''/\MSis φ' H'' μ'/\DIs φ' H'' d x)/\(i=ds.length->J.stop i H')
abbrev DI:=DE->MS->(List D->(MS->Prop)->MS->Prop)->Prop
def tDI (w:DI):TI:=fun σ H R=>∃ φ ρ μ K,DEnv φ H ρ σ/\MSis φ H μ/\w ρ μ K/\∀ ds c μ' φ' J H',K ds c μ'->Fr φ H φ' H'->MSis φ' H' μ'->Wk J φ' H' ds c->R J H'
abbrev PDI (X:Cx)(tg iter:Expr)(w:DI):Prop:=PI X tg iter (tDI w)
theorem PI.imp {tg iter:Expr}{t t':TI}(h:PI X tg iter t)(hi:∀ σ H Q,t' σ H Q->t σ H Q):PI X tg iter t':=fun pins s σ H Q I q=>h pins s σ H Q I (hi σ H Q q)
def forW (g:DG)(b:Ds)(N:DN)(c:MS->Prop):List D->DE->MS->Prop
 | [],ρ,μ=>c μ/\N.nx ρ μ
 | d::ds,ρ,μ=>c μ/\g d ρ μ fun ρ2 μ2=>b { N with nx:=fun ρ' μ'=>forW g b N c ds ρ' μ',ct:=fun ρ' μ'=>forW g b N c ds ρ' μ',bk:=N.nx} ρ2 μ2
def dFor (wi:DI)(g:DG)(b:Ds):Ds:=fun N ρ μ=>wi ρ μ fun ds c μ1=>forW g b N c ds ρ μ1
theorem s_for {tg iter:Expr}{body:List Stmt}{wi:DI}{g:TG}{y:DG}{S:List Nat}{u:Ds}(hp:PassesOwn (model X.prog X.w) X.A X.env X.xe)(hc:X.calm=true)(hi:PDI X tg iter wi)(hg:Tg X tg g y S)(hb:PDB X body u)
 (hs:∀ x,foldedSetIterable iter X.env x=pure x:=by intro _;rfl):PDS X (.For tg iter body [] pos) (dFor wi y u):=(ps_for hp hc hi hg.pg hb hs).imp fun E σ H hq=>by
 obtain⟨φ,ρ,μ,N,A,M,w,L⟩:=hq
 refine⟨φ,ρ,μ,_,A,M,w,fun ds c μ1 φ1 J H1 k1 f1 M1 wk=>?_⟩
 refine⟨fun i m σ' H'=>m=ds.length - i/\i<=ds.length/\∃ φ' ρ' μ',Fr φ1 H1 φ' H'/\DEnv φ' H' ρ' σ'/\MSis φ' H' μ'/\forW y u N c (ds.drop i) ρ' μ',⟨ds.length,rfl,Nat.zero_le _,φ1,ρ,μ1,.refl _ _,A.mono f1,M1,k1⟩,?_⟩
 rintro i m σ' H' ⟨rfl,hi,φ',ρ',μ',f',A',M',w'⟩
 by_cases hlt:i<ds.length
 ·rw[List.drop_eq_getElem_cons hlt]at w'
  obtain⟨c',w'⟩:=w'
  obtain⟨go,yld⟩:=(wk φ' H' μ' f' M' c' i).1 ds[i] (gxA hlt)
  refine .inr ⟨go,fun σ2 H2=>∃ φ2 ρ2 μ2,Fr φ1 H1 φ2 H2/\DEnv φ2 H2 ρ2 σ2/\MSis φ2 H2 μ2/\forW y u N c (ds.drop (i+1)) ρ2 μ2,fun σ2 H2 q=>⟨ds.length - (i+1),by omega,rfl,hlt,q⟩,fun x H2 hy=>?_⟩
  obtain⟨f2,M2,i2⟩:=yld x H2 hy
  refine hg.mo _ _ _ _ _ (fun σ3 H3 hq6=>?_) (hg.so φ' H2 ρ' σ' μ' _ x _ (A'.mono f2) M2 i2 w')
  obtain⟨e3,_,_,ρ3,E3,k3⟩:=hq6
  subst e3
  refine⟨φ',ρ3,μ',_,E3,M2,k3,?_⟩
  have nx:LiS φ' H3 (fun ρ' μ'=>forW y u N c (ds.drop (i+1)) ρ' μ') fun σ2 H2=>∃ φ2 ρ2 μ2,Fr φ1 H1 φ2 H2/\DEnv φ2 H2 ρ2 σ2/\MSis φ2 H2 μ2/\forW y u N c (ds.drop (i+1)) ρ2 μ2:=fun ρ2 μ2 φ2 σ2 H2 w2 g2 A2 N2=>⟨φ2,ρ2,μ2,(f'.trans f2).trans g2,A2,N2,w2⟩
  have ff:=f1.trans (f'.trans f2)
  exact⟨nx,L.rt.mono ff,L.nx.mono ff,nx⟩
 ·have e:i=ds.length:=by omega
  subst e
  rw[List.drop_length]at w'
  exact .inl ⟨(wk φ' H' μ' f' M' w'.1 _).2 rfl,L.nx ρ' μ' φ' σ' H' w'.2 (f1.trans f') A' M'⟩
end
def startD (js:List (Option Nat))(ρ:DE):DE:=js.map fun o=>o.bind fun j=>(ρ[j]?).join
theorem DEnv.startC {φ:List Addr}{H:Hp}{ρ:DE}{σ:St}(h:DEnv φ H ρ σ)(js:List (Option Nat)):DEnv φ H (startD js ρ) (startC js σ):=by
 refine⟨by unfold startD L2.startC;rw[gxC,gxC],fun i d e=>?_⟩
 unfold startD at e
 rw[gxH]at e
 unfold L2.startC
 rw[gxH]
 cases q:js[i]? with
 | none=>rw[q]at e;cases e
 | some o =>
  rw[q]at e
  cases o with
  | none=>cases e
  | some j =>
   have e':(ρ[j]?).join=some d:=Option.some.inj e
   have e2:ρ[j]?=some (some d):=by
    cases z:ρ[j]? with
    | none=>rw[z]at e';cases e'
    | some y=>rw[z]at e';have:y=some d:=e';rw[this]
   obtain⟨v,hv,hd⟩:=h.2 j d e2
   refine⟨v,?_,hd⟩
   show some ((σ[j]?).join)=_
   rw[hv];rfl
def dItem (ρ:DE)(y:DG)(t:Dt)(w:De)(d:D)(μ:MS)(K:Option D->MS->Prop):Prop:=y d ρ μ fun ρ2 μ2=>t ρ2 μ2 fun b μ3=>if b=true then w ρ2 μ3 (fun z μ4=>K (some z) μ4)else K none μ3
def compW (it:D->MS->(Option D->MS->Prop)->Prop)(c:MS->Prop):List D->MS->(List D->MS->Prop)->Prop
 | [],μ,K=>c μ/\K [] μ
 | d::ds,μ,K=>c μ/\it d μ fun o μ1=>compW it c ds μ1 fun ys μ2=>K (o.toList++ys) μ2
def ownJs (S:List Nat)(js:List (Option Nat)):Bool:=S.all fun i=>js[i]?==some none
theorem ext_of {js:List (Option Nat)}{σ σ2:St}{S:List Nat}(ho:ownJs S js=true)(hl:σ2.length=(startC js σ).length)(hn:∀ i,i∉S->σ2[i]?=(startC js σ)[i]?):Ext (startC js σ) σ2:=by
 refine⟨hl.symm,fun i v e=>?_⟩
 by_cases hi:i∈S
 ·have q:=List.all_eq_true.mp ho i hi
  have q':js[i]?=some none:=by simpa using q
  obtain⟨j,e1,_⟩:=getStart e
  rw[q']at e1;cases e1
 ·rw[hn i hi];exact e
def dComp (m:Bool)(wi:DI)(js:List (Option Nat))(y:DG)(t:Dt)(w:De):De:=fun ρ μ K=>wi ρ μ fun ds c μ1=>ds.length<=sizeLine/\compW (dItem (startD js ρ) y t w) c ds μ1 fun ys μ2=>nL m ys μ2 K
theorem tD_comp {m:Bool}{wi:DI}{js:List (Option Nat)}{g:TG}{y:DG}{S:List Nat}{t:Dt}{w:De}(so:SoG g y S)(mo:MonoG g)(ho:ownJs S js=true){σ:St}{H:Hp}{Q:VK}(h:tD (dComp m wi js y t w) σ H Q):tComp (tDI wi) js g (tDT t) (tD w) σ H Q:=by
 obtain⟨φ,ρ,μ,K,A,M,k,L⟩:=h
 refine⟨φ,ρ,μ,_,A,M,k,fun ds c μ1 φ1 J H1 k1 f1 M1 wk=>?_⟩
 obtain⟨hz,k1⟩:=k1
 refine⟨fun i n ys H'=>n=ds.length - i/\i<=ds.length/\ys.length<=i/\∃ φ' zs μ',Fr φ1 H1 φ' H'/\DAll φ' H' zs ys/\MSis φ' H' μ'/\compW (dItem (startD js ρ) y t w) c (ds.drop i) μ' fun r μ2=>nL m (zs++r) μ2 K,
  ⟨ds.length,rfl,Nat.zero_le _,Nat.zero_le _,φ1,[],μ1,.refl _ _,rfl,M1,k1⟩,?_⟩
 rintro i n ys H' ⟨rfl,hi,hy,φ',zs,μ',f',Z',M',w'⟩
 by_cases hlt:i<ds.length
 ·rw[List.drop_eq_getElem_cons hlt]at w'
  obtain⟨c',w'⟩:=w'
  obtain⟨go,yld⟩:=(wk φ' H' μ' f' M' c' i).1 ds[i] (gxA hlt)
  refine .inr ⟨go,fun x H2 hy2=>?_⟩
  obtain⟨f2,M2,i2⟩:=yld x H2 hy2
  have E2:DEnv φ' H2 (startD js ρ) (startC js σ):=((A.mono (f1.trans (f'.trans f2))).startC js)
  refine mo _ _ _ _ _ (fun σ3 H3 hq0=>?_) (so φ' H2 _ _ μ' _ x _ E2 M2 i2 w')
  obtain⟨e3,l3,n3,ρ3,E3,k3⟩:=hq0
  refine⟨ext_of ho l3 n3,?_⟩
  subst e3
  refine⟨φ',ρ3,μ',_,E3,M2,k3,fun b μ4 φ4 H4 k4 f4 M4=>?_⟩
  have ff:=f'.trans (f2.trans f4)
  cases b with
  | true =>
   refine⟨φ4,ρ3,μ4,_,E3.mono f4,M4,k4,fun d5 μ5 φ5 v5 H5 k5 f5 M5 i5=>⟨by omega,ds.length - (i+1),by omega,rfl,hlt,by rw[gxE,List.length_singleton];omega,φ5,zs++[d5],μ5,ff.trans f5,(Z'.mono (f2.trans (f4.trans f5))).app ⟨v5,[],rfl,i5,rfl⟩,M5,?_⟩⟩
   have e:(fun r μ2=>nL m (zs++[d5]++r) μ2 K)=fun r μ2=>nL m (zs++((some d5).toList++r)) μ2 K:=by funext r μ2;rw[List.append_assoc];rfl
   rw[e]
   exact k5
  | false =>
   exact⟨ds.length - (i+1),by omega,rfl,hlt,by omega,φ4,zs,μ4,ff,Z'.mono (f2.trans f4),M4,k4⟩
 ·have e:i=ds.length:=by omega
  subst e
  rw[List.drop_length]at w'
  refine .inl ⟨(wk φ' H' μ' f' M' w'.1 _).2 rfl,fun p hp=>?_⟩
  have q:nL m (zs++[]) μ' K:=w'.2
  rw[List.append_nil]at q
  exact al_n (L.mono (f1.trans f')) M' Z' q hp
section
variable {X:Cx}{a b e:Expr}{es:List Expr}{pos:Pos}
variable {N:List Str}{js:List (Option Nat)}{sc:Scope}{tg elt iter:Expr}{ifs:List Expr}{g:TG}{y:DG}{S:List Nat}{t:Dt}{w:De}
abbrev PDTs (X:Cx)(ifs:List Expr)(t:Dt):Prop:=PTs X ifs (tDT t)
theorem PTs.imp {ifs:List Expr}{t t':TT}(h:PTs X ifs t)(hi:∀ σ H Q,t' σ H Q->t σ H Q):PTs X ifs t':=fun pins s σ H Q I q=>h pins s σ H Q I (hi σ H Q q)
def dYes:Dt:=fun _ μ K=>K true μ
theorem ts_nil:PDTs X [] dYes:=pts_nil.imp fun σ H Q hq1=>by obtain⟨φ,ρ,μ,K,A,M,k,L⟩:=hq1;exact L true μ φ H k (.refl _ _) M
theorem ts_one {c:Expr}(h:PDT X c t):PDTs X [c] t:=pts_one h
theorem d_comp (m:Bool){wi:DI}(hc:CompOk X N js sc)(calm:X.calm=true)(so:SoG g y S)(mo:MonoG g)(ho:ownJs S js=true)(hi:PDI X tg iter wi)(hg:∀ fp s H,PG (cxC X N sc fp s H) tg g)(ht:∀ fp s H,PDTs (cxC X N sc fp s H) ifs t)(he:∀ fp s H,PD (cxC X N sc fp s H) elt w)
 (hs:∀ x,foldedSetIterable iter X.env x=pure x:=by intro _;rfl):PD X (.ListComp elt [⟨tg,iter,ifs,0⟩] sc pos) (dComp m wi js y t w):=(pe_comp hc calm hi hg ht he hs).imp fun σ H Q q=>tD_comp so mo ho q
theorem s_setComp (m:Bool){wi:DI}{pos' spos:Pos}{i:Nat}{x:Str}(hc:CompOk X N js sc)(calm:X.calm=true)(so:SoG g y S)(mo:MonoG g)(ho:ownJs S js=true)(hN:X.N.Nodup)(hx':X.N[i]?=some x)(hx:Loc X.env.scope x)(hi:PDI X tg iter wi)(hg:∀ fp s H,PG (cxC X N sc fp s H) tg g)
 (ht:∀ fp s H,PDTs (cxC X N sc fp s H) ifs t) (he:∀ fp s H,PD (cxC X N sc fp s H) elt w) (hsw:swapsWith (.ListComp elt [⟨tg,iter,ifs,0⟩] sc pos) (some (.Name x pos')) spos.line X.env=pure true:=by rfl)
 (hs:∀ x,foldedSetIterable iter X.env x=pure x:=by intro _;rfl) (hf:X.fn x=true\/X.env.scope.names.lookup x=some .local:=by first | exact .inl rfl | exact .inr rfl | assumption) :
 PDS X (.Assign [.Name x pos'] (.ListComp elt [⟨tg,iter,ifs,0⟩] sc pos) spos) (dSet i (dComp m wi js y t w)):=(ps_setComp hc calm hN hx' hx hi hg ht he hsw hs hf).imp fun E σ H ⟨φ,ρ,μ,N,A,M,w,L⟩ =>
 tD_comp so mo ho ⟨φ,ρ,μ,_,A,M,w,fun d μ1 φ1 v1 H1 k1 f1 M1 i1=>L.nx _ μ1 φ1 _ H1 k1 f1 ((A.mono f1).set i1 i) M1⟩
def dItL (w:De):DI:=fun ρ μ K=>w ρ μ fun d μ1=>opt (lv μ1 d) fun ds=>K ds (lc d ds) μ1
theorem wk_list {Kf:PySem.W.Frag}{p:Addr}{φ:List Addr}{H:Hp}{ds:List D}{c:MS->Prop}(h:∀ φ' H' μ',Fr φ H φ' H'->MSis φ' H' μ'->c μ'->∃ vs,H' p=some (.lst vs)/\DAll φ' H' ds vs):Wk (Itl Kf p) φ H ds c:=fun φ' H' μ' f M c' i=>by
 obtain⟨vs,hp,ha⟩:=h φ' H' μ' f M c'
 refine⟨fun d hd=>?_,fun hi=>⟨vs,SqL.of hp,by rw[ha.len,hi];exact Nat.le_refl _⟩⟩
 obtain⟨v,hv,hi⟩:=ha.get hd
 refine⟨⟨vs,v,SqL.of hp,hv⟩,fun x H'' hy=>?_⟩
 obtain⟨rfl,hy⟩:=hy
 have e:=hy vs (SqL.of hp)
 rw[hv]at e;cases e
 exact⟨.refl _ _,M,hi⟩
theorem i_list {w:De}(h:PD X a w):PDI X tg a (dItL w):=(pi_list h).imp fun σ H Q hq=>by
 obtain⟨φ,ρ,μ,K,A,M,k,L⟩:=hq
 refine⟨φ,ρ,μ,_,A,M,k,fun d μ1 φ1 v1 H1 k1 f1 M1 i1=>?_⟩
 obtain⟨ds,el,k1⟩:=opt_ex k1
 obtain⟨p,vs,rfl,hp,ha⟩:=lv_is M1 i1 el
 exact⟨p,rfl,⟨vs,SqL.of hp⟩,L ds _ μ1 φ1 _ H1 k1 f1 M1 (wk_list fun φ' H' μ' f M c=>lv_stay M1 i1 el f M c)⟩
def rngD (lo:Int)(n:Nat):List D:=(List.range n).map fun i=>D.int (lo+(i:Nat))
theorem wk_range {lo:Int}{n:Nat}{φ:List Addr}{H:Hp}:Wk (Itr lo n) φ H (rngD lo n) fun _=>True:=fun φ' H' μ' f M _ i=>by
 have hl:(rngD lo n).length=n:=by unfold rngD;rw[gxC,gxJ]
 refine⟨fun d hd=>?_,fun hi=>by rw[hl]at hi;exact Nat.le_of_eq hi.symm⟩
 have hi:i<n:=by have:=(gxB hd).1;omega
 refine⟨hi,fun x H'' hy=>?_⟩
 obtain⟨rfl,rfl⟩:=hy
 refine⟨.refl _ _,M,?_⟩
 unfold rngD at hd
 rw[gxH,List.getElem?_range hi]at hd
 cases hd
 rfl
def dItR1 (w:DA):DI:=fun ρ μ K=>w ρ μ fun ds μ1=>match ds with
 | [.int j] => -(2 ^ 62)<=j/\j<2 ^ 62/\K (rngD 0 j.toNat) (fun _=>True) μ1
 | _=>False
def dItR2 (w:DA):DI:=fun ρ μ K=>w ρ μ fun ds μ1=>match ds with
 | [.int i,.int j]=>(-(2 ^ 62)<=i/\i<2 ^ 62 /\ -(2 ^ 62)<=j/\j<2 ^ 62)/\K (rngD i (j - i).toNat) (fun _=>True) μ1
 | _=>False
theorem i_range1 {w:DA}{p:Pos}(hg:Gl X "range")(hm:X.mg "range"=none)(ha:PDA X [a] w)(hs:starEach [a] X.env=[(false,eval a X.env)]:=by rfl):PDI X tg (.Call (.Name "range" p) [a] [] pos) (dItR1 w):=(pi_range1 hg hm ha hs).imp fun σ H Q hq=>by
 obtain⟨φ,ρ,μ,K,A,M,k,L⟩:=hq
 refine⟨φ,ρ,μ,_,A,M,k,fun ds μ1 φ1 vs H1 k1 f1 M1 i1=>?_⟩
 split at k1
 ·obtain⟨v,r,rfl,h1,h2⟩:=i1
  cases(show v=_ from h1);cases(show r=[]from h2)
  exact⟨_,rfl,k1.1,k1.2.1,L _ _ μ1 φ1 _ H1 k1.2.2 f1 M1 wk_range⟩
 ·exact k1.elim
theorem i_range2 {w:DA}{p:Pos}(hg:Gl X "range")(hm:X.mg "range"=none)(ha:PDA X [a,b] w)(hs:starEach [a,b] X.env=[(false,eval a X.env),(false,eval b X.env)]:=by rfl)(hs2:starEach [b] X.env=[(false,eval b X.env)]:=by rfl):PDI X tg (.Call (.Name "range" p) [a,b] [] pos) (dItR2 w):=(pi_range2 hg hm ha hs hs2).imp fun σ H Q hq=>by
 obtain⟨φ,ρ,μ,K,A,M,k,L⟩:=hq
 refine⟨φ,ρ,μ,_,A,M,k,fun ds μ1 φ1 vs H1 k1 f1 M1 i1=>?_⟩
 split at k1
 ·obtain⟨v,r,rfl,h1,u,r',rfl,h2,h3⟩:=i1
  cases(show v=_ from h1);cases(show u=_ from h2);cases(show r'=[]from h3)
  exact⟨_,_,rfl,k1.1,L _ _ μ1 φ1 _ H1 k1.2 f1 M1 wk_range⟩
 ·exact k1.elim
end
mutual
def mrB (n:Nat):D->Prop
 | .lst ds=>mrL n ds
 | .tup ds=>mrL n ds
 | .dic _ ds=>mrL n ds
 | .mr k=>k<n
 | _=>True
def mrL (n:Nat):List D->Prop
 | []=>True
 | d::ds=>mrB n d/\mrL n ds
end
def moB (n:Nat):MO->Prop
 | .box=>True
 | .lst ds=>mrL n ds
 | .dic _ ds=>mrL n ds
 | .fdic _ _ ds=>mrL n ds
 | .ins _ _ ds=>mrL n ds
 | .dtu _ ds=>mrL n ds
mutual
theorem DIs.cutT {n:Nat}{φ:List Addr}{H:Hp}:∀ {d:D} {v:V},mrB n d->DIs φ H d v->DIs (φ.take n) H d v
 | .non,_,_,h=>h
 | .bl _,_,_,h=>h
 | .int _,_,_,h=>h
 | .str _,_,_,h=>h
 | .lst _,_,m,h=>by obtain⟨p,vs,e,nn,hp,q⟩:=h;exact⟨p,vs,e,fun z=>nn (List.mem_of_mem_take z),hp,DAll.cutT m q⟩
 | .tup _,_,m,h=>by obtain⟨p,vs,e,nn,hp,q⟩:=h;exact⟨p,vs,e,fun z=>nn (List.mem_of_mem_take z),hp,DAll.cutT m q⟩
 | .dic _ _,_,m,h=>by obtain⟨p,kvs,vs,e,nn,hp,q1,q2,q⟩:=h;exact⟨p,kvs,vs,e,fun z=>nn (List.mem_of_mem_take z),hp,q1,q2,DAll.cutT m q⟩
 | .mr k,_,m,h=>by obtain⟨p,e,q⟩:=h;exact⟨p,by rw[List.getElem?_take_of_lt m];exact e,q⟩
theorem DAll.cutT {n:Nat}{φ:List Addr}{H:Hp}:∀ {ds:List D} {vs:List V},mrL n ds->DAll φ H ds vs->DAll (φ.take n) H ds vs
 | [],_,_,h=>h
 | _::_,_,m,h=>by obtain⟨v,r,e,h1,h2⟩:=h;exact⟨v,r,e,DIs.cutT m.1 h1,DAll.cutT m.2 h2⟩
end
theorem MSis.cutT {n:Nat}{φ:List Addr}{H:Hp}{μ:MS}(h:MSis φ H μ)(hm:∀(k:Nat) (m:MO),k<n->μ[k]?=some m->moB n m):MSis (φ.take n) H (μ.take n):=by
 refine⟨h.nd.sublist (List.take_sublist _ _),by rw[List.length_take,List.length_take,h.len],fun k m e=>?_⟩
 have hk:k<n:=by have:=(gxB e).1;rw[List.length_take]at this;omega
 rw[List.getElem?_take_of_lt hk]at e
 obtain⟨p,e1,e2⟩:=h.at_ k m e
 refine⟨p,by rw[List.getElem?_take_of_lt hk];exact e1,?_⟩
 have hb:=hm k m hk e
 cases m with
 | box=>obtain⟨q,ns,i,r,z,h1,h2,h3,h4⟩:=e2;exact⟨q,ns,i,r,z,h1,h2,fun z=>h3 (List.mem_of_mem_take z),h4⟩
 | lst ds=>obtain⟨vs,h1,h2⟩:=e2;exact⟨vs,h1,h2.cutT hb⟩
 | dic ks ds=>obtain⟨kvs,vs,h1,h2,h3,h4⟩:=e2;exact⟨kvs,vs,h1,h2,h3,h4.cutT hb⟩
 | fdic o kvs ds=>exact⟨e2.1,e2.2.cutT hb⟩
 | ins C ns ds=>obtain⟨dx,fs,h1,h2,h3⟩:=e2;exact⟨dx,fs,h1,h2,h3.cutT hb⟩
 | dtu ks ds=>obtain⟨kvs,h1,h2,h3⟩:=e2;exact⟨kvs,h1,h2,h3.cutT hb⟩
mutual
theorem DIs.bound {φ:List Addr}{H:Hp}:∀ {d:D} {v:V},DIs φ H d v->mrB φ.length d
 | .non,_,_=>True.intro
 | .bl _,_,_=>True.intro
 | .int _,_,_=>True.intro
 | .str _,_,_=>True.intro
 | .lst _,_,h=>by obtain⟨p,vs,e,nn,hp,q⟩:=h;exact DAll.bound q
 | .tup _,_,h=>by obtain⟨p,vs,e,nn,hp,q⟩:=h;exact DAll.bound q
 | .dic _ _,_,h=>by obtain⟨p,kvs,vs,e,nn,hp,q1,q2,q⟩:=h;exact DAll.bound q
 | .mr k,_,h=>by obtain⟨p,e,q⟩:=h;exact(gxB e).1
theorem DAll.bound {φ:List Addr}{H:Hp}:∀ {ds:List D} {vs:List V},DAll φ H ds vs->mrL φ.length ds
 | [],_,_=>True.intro
 | _::_,_,h=>by obtain⟨v,r,e,h1,h2⟩:=h;exact⟨DIs.bound h1,DAll.bound h2⟩
end
theorem MSis.bound {φ:List Addr}{H:Hp}{μ:MS}(h:MSis φ H μ):∀(k:Nat) (m:MO),μ[k]?=some m->moB μ.length m:=fun k m e=>by
 obtain⟨p,e1,e2⟩:=h.at_ k m e
 rw[<- h.len]
 cases m with
 | box=>exact True.intro
 | lst ds=>obtain⟨vs,h1,h2⟩:=e2;exact h2.bound
 | dic ks ds=>obtain⟨kvs,vs,h1,h2,h3,h4⟩:=e2;exact h4.bound
 | fdic o kvs ds=>exact e2.2.bound
 | ins C ns ds=>obtain⟨dx,fs,h1,h2,h3⟩:=e2;exact h3.bound
 | dtu ks ds=>obtain⟨kvs,h1,h2,h3⟩:=e2;exact h3.bound
theorem notin_addP {n:Nat}{φ':List Addr}{p q:Addr}(hp:p∈φ')(h:q∉φ'):q∉φ'.take n++[p]:=fun z=>by
 rcases List.mem_append.mp z with z | z
 ·exact h (List.mem_of_mem_take z)
 ·exact h (by rw[List.mem_singleton.mp z];exact hp)
mutual
theorem DIs.addP {n:Nat}{φ':List Addr}{H:Hp}{p:Addr}(hp:p∈φ'):∀ {d:D} {v:V},mrB n d->DIs φ' H d v->DIs (φ'.take n++[p]) H d v
 | .non,_,_,h=>h
 | .bl _,_,_,h=>h
 | .int _,_,_,h=>h
 | .str _,_,_,h=>h
 | .lst _,_,m,h=>by obtain⟨q,vs,e,nn,hq,z⟩:=h;exact⟨q,vs,e,notin_addP hp nn,hq,DAll.addP' hp m z⟩
 | .tup _,_,m,h=>by obtain⟨q,vs,e,nn,hq,z⟩:=h;exact⟨q,vs,e,notin_addP hp nn,hq,DAll.addP' hp m z⟩
 | .dic _ _,_,m,h=>by obtain⟨q,kvs,vs,e,nn,hq,q1,q2,z⟩:=h;exact⟨q,kvs,vs,e,notin_addP hp nn,hq,q1,q2,DAll.addP' hp m z⟩
 | .mr k,_,m,h=>by
  obtain⟨q,e,z⟩:=h
  have hk:k<(φ'.take n).length:=by rw[List.length_take];have:=(gxB e).1;have m':k<n:=m;omega
  exact⟨q,by rw[gxF hk,List.getElem?_take_of_lt m];exact e,z⟩
theorem DAll.addP' {n:Nat}{φ':List Addr}{H:Hp}{p:Addr}(hp:p∈φ'):∀ {ds:List D} {vs:List V},mrL n ds->DAll φ' H ds vs->DAll (φ'.take n++[p]) H ds vs
 | [],_,_,h=>h
 | _::_,_,m,h=>by obtain⟨v,r,e,h1,h2⟩:=h;exact⟨v,r,e,DIs.addP hp m.1 h1,DAll.addP' hp m.2 h2⟩
end
def All2 (R:D->D->Prop)(ds es:List D):Prop:=ds.length=es.length/\∀(i:Nat) (a b:D),ds[i]?=some a->es[i]?=some b->R a b
def FrzR (n:Nat)(μ:MS):Nat->D->D->Prop
 | 0,d,d'=>d'=d/\mrB n d
 | k+1,d,d'=>(d'=d/\mrB n d)\/(∃ j ds es,d=.mr j/\n<=j/\μ[j]?=some (.lst ds)/\d'=.lst es/\All2 (FrzR n μ k) ds es)\/(∃ ds es,d=.lst ds/\d'=.lst es/\All2 (FrzR n μ k) ds es)\/(∃ ds es,d=.tup ds/\d'=.tup es/\All2 (FrzR n μ k) ds es)\/(∃ j ks ds es,d=.mr j/\n<=j/\μ[j]?=some (.dic ks ds)/\d'=.dic ks es/\All2 (FrzR n μ k) ds es)
theorem DAll.ofGet {φ:List Addr}{H:Hp}:∀ {ds:List D} {vs:List V},ds.length=vs.length->(∀(i:Nat) (d:D) (v:V),ds[i]?=some d->vs[i]?=some v->DIs φ H d v)->DAll φ H ds vs
 | [],vs,hl,_=>by cases vs with
  | nil=>rfl
  | cons v r=>simp at hl
 | d::ds,vs,hl,h=>by cases vs with
  | nil=>simp at hl
  | cons v r=>exact⟨v,r,rfl,h 0 d v rfl rfl,DAll.ofGet (by simpa using hl) fun i a b e1 e2=>h (i+1) a b (by simpa using e1) (by simpa using e2)⟩
theorem FrzR.is {n:Nat}{φ:List Addr}{H:Hp}{μ:MS}(M:MSis φ H μ)(nin:∀ {j:Nat} {p:Addr},n<=j->φ[j]?=some p->p∉φ.take n):∀ {k:Nat} {d d':D} {v:V},FrzR n μ k d d'->DIs φ H d v->DIs (φ.take n) H d' v:=by
 intro k
 induction k with
 | zero=>intro d d' v h i;obtain⟨rfl,hb⟩:=h;exact i.cutT hb
 | succ k ih =>
  have all:∀ {ds es:List D} {vs:List V},All2 (FrzR n μ k) ds es->DAll φ H ds vs->DAll (φ.take n) H es vs:=fun {ds es vs} ha hd =>
   DAll.ofGet (by rw[hd.len,ha.1]) fun i b v e1 e2=>by
    obtain⟨a,e3,hv⟩:=hd.getV e2
    exact ih (ha.2 i a b e3 e1) hv
  intro d d' v h i
  rcases h with⟨rfl,hb⟩ | ⟨j,ds,es,rfl,hj,e,rfl,ha⟩ | ⟨ds,es,rfl,rfl,ha⟩ | ⟨ds,es,rfl,rfl,ha⟩ | ⟨j,ks,ds,es,rfl,hj,e,rfl,ha⟩
  ·exact i.cutT hb
  ·obtain⟨p,hp,rfl⟩:=i
   obtain⟨p',e1,vs,hv,hd⟩:=M.at_ j _ e
   rw[hp]at e1;cases e1
   exact⟨p,vs,rfl,nin hj hp,hv,all ha hd⟩
  ·obtain⟨p,vs,rfl,hn,hp,hd⟩:=i
   exact⟨p,vs,rfl,fun z=>hn (List.mem_of_mem_take z),hp,all ha hd⟩
  ·obtain⟨p,vs,rfl,hn,hp,hd⟩:=i
   exact⟨p,vs,rfl,fun z=>hn (List.mem_of_mem_take z),hp,all ha hd⟩
  ·obtain⟨p,hp,rfl⟩:=i
   obtain⟨p',e1,kvs,vs,hv,h1,h2,hd⟩:=M.at_ j _ e
   rw[hp]at e1;cases e1
   exact⟨p,kvs,vs,rfl,nin hj hp,hv,h1,h2,all ha hd⟩
inductive Fz (n:Nat)(K:DK):DK where
 | keep {d μ} (k:K d μ):Fz n K d μ
 | drop {d μ} (hd:mrB n d) (hm:∀(j:Nat) (m:MO),j<n->μ[j]?=some m->moB n m) (k:K d (μ.take n)):Fz n K d μ
 | lst {j ds μ} (hj:n<=j) (e:μ[j]?=some (.lst ds)) (hd:mrL n ds) (hm:∀(j:Nat) (m:MO),j<n->μ[j]?=some m->moB n m) (k:K (.lst ds) (μ.take n)):Fz n K (.mr j) μ
 | one {j ds μ} (hj:n<=j) (e:μ[j]?=some (.lst ds)) (hd:mrL n ds) (hm:∀(j:Nat) (m:MO),j<n->μ[j]?=some m->moB n m) (k:K (.mr n) (μ.take n++[.lst ds])):Fz n K (.mr j) μ
 | deep {f d d' μ} (e:FrzR n μ f d d') (hm:∀(j:Nat) (m:MO),j<n->μ[j]?=some m->moB n m) (k:K d' (μ.take n)):Fz n K d μ
 | dic {j ks ds μ} (hj:n<=j) (e:μ[j]?=some (.dic ks ds)) (hd:mrL n ds) (hm:∀(j:Nat) (m:MO),j<n->μ[j]?=some m->moB n m) (k:K (.dic ks ds) (μ.take n)):Fz n K (.mr j) μ
theorem Lif.fz {φ:List Addr}{H:Hp}{μ:MS}{K:DK}{Q:VK}(M:MSis φ H μ)(L:Lif φ H K Q):Lif φ H (Fz μ.length K) Q:=fun d μ' φ' v H' k f M' i=>by
 have eφ:φ'.take μ.length=φ:=by
  obtain⟨⟨ψ,rfl,_⟩,_,_⟩:=f
  rw[<- M.len,List.take_left]
 have f0:Fr φ H (φ'.take μ.length) H':=by
  rw[eφ]
  exact⟨⟨[],by simp,fun _ h=>nomatch h⟩,f.keep,f.dom⟩
 have nin:∀ {j:Nat} {p:Addr},μ.length<=j->φ'[j]?=some p->p∉φ'.take μ.length:=fun {j p} hj e hp=>by
  obtain⟨i,hi,ei⟩:=List.getElem_of_mem hp
  rw[List.length_take]at hi
  rw[List.getElem_take]at ei
  obtain⟨hj',ej⟩:=gxB e
  exact List.pairwise_iff_getElem.mp M'.nd i j (by omega) hj' (by omega) (ei.trans ej.symm)
 cases k with
 | keep k=>exact L d μ' φ' v H' k f M' i
 | drop hd hm k=>exact L d _ _ v H' k f0 (M'.cutT hm) (i.cutT hd)
 | @lst j ds _ hj e hd hm k =>
  obtain⟨p,hp,rfl⟩:=i
  obtain⟨p',e1,vs,hv,ha⟩:=M'.at_ j _ e
  rw[hp]at e1;cases e1
  exact L _ _ _ _ H' k f0 (M'.cutT hm) ⟨p,vs,rfl,nin hj hp,hv,ha.cutT hd⟩
 | @one j ds _ hj e hd hm k =>
  obtain⟨p,hp,rfl⟩:=i
  obtain⟨p',e1,vs,hv,ha⟩:=M'.at_ j _ e
  rw[hp]at e1;cases e1
  have M0:=M'.cutT hm
  have hpn:p∉φ:=by have:=nin hj hp;rwa [eφ]at this
  have hH:H p=none:=by
   obtain⟨⟨ψ,rfl,hψ⟩,_,_⟩:=f
   refine hψ p ?_
   have q:=gxD hp
   rcases List.mem_append.mp q with q | q
   ·exact absurd q hpn
   ·exact q
  have M1:MSis (φ'.take μ.length) H' (μ'.take μ.length):=M0
  rw[eφ]at M1
  have f1:Fr φ H (φ++[p]) H':=⟨⟨[p],rfl,fun c hc=>by rw[List.mem_singleton.mp hc];exact hH⟩,f.keep,f.dom⟩
  have len:(μ'.take μ.length).length=μ.length:=by rw[<- M1.len,M.len]
  have pin:p∈φ':=gxD hp
  have hdv:DAll (φ++[p]) H' ds vs:=by
   have q:=DAll.addP' pin hd ha
   rwa [eφ]at q
  have M2:MSis (φ++[p]) H' (μ'.take μ.length++[.lst ds]):=by
   refine⟨?_,by rw[gxE,gxE,M1.len];rfl,fun k m ek=>?_⟩
   ·rw[List.nodup_append]
    exact⟨M.nd,by simp,fun a ha b hb=>by rw[List.mem_singleton.mp hb];intro z;exact hpn (by rw[<- z];exact ha)⟩
   ·by_cases hk:k<μ.length
    ·rw[gxF (by rw[len];exact hk)]at ek
     rw[List.getElem?_take_of_lt hk]at ek
     obtain⟨q,e1,e2⟩:=M'.at_ k m ek
     have e1':φ[k]?=some q:=by rw[<- eφ,List.getElem?_take_of_lt hk];exact e1
     refine⟨q,by rw[gxF (by rw[M.len];exact hk)];exact e1',?_⟩
     have hb:=hm k m hk ek
     cases m with
     | box =>
      obtain⟨b,ns,i,r,z,h1,h2,h3,h4⟩:=e2
      exact⟨b,ns,i,r,z,h1,h2,by have:=notin_addP (n:=μ.length) pin h3;rwa [eφ]at this,h4⟩
     | lst es=>obtain⟨us,h1,h2⟩:=e2;exact⟨us,h1,by have:=DAll.addP' pin hb h2;rwa [eφ]at this⟩
     | dic ks es=>obtain⟨kvs,us,h1,h2,h3,h4⟩:=e2;exact⟨kvs,us,h1,h2,h3,by have:=DAll.addP' pin hb h4;rwa [eφ]at this⟩
     | fdic o kvs es=>exact⟨e2.1,by have:=DAll.addP' pin hb e2.2;rwa [eφ]at this⟩
     | ins C ns es=>obtain⟨dx,fs,h1,h2,h3⟩:=e2;exact⟨dx,fs,h1,h2,by have:=DAll.addP' pin hb h3;rwa [eφ]at this⟩
     | dtu ks es=>obtain⟨kvs,h1,h2,h3⟩:=e2;exact⟨kvs,h1,h2,by have:=DAll.addP' pin hb h3;rwa [eφ]at this⟩
    ·have hk':k=μ.length:=by
      have:=(gxB ek).1
      rw[gxE,List.length_singleton,len]at this
      omega
     subst hk'
     rw[gxG (by rw[len];exact Nat.le_refl _),len,Nat.sub_self]at ek
     cases ek
     exact⟨p,by rw[gxG (by rw[M.len];exact Nat.le_refl _),M.len,Nat.sub_self];rfl,vs,hv,hdv⟩
  exact L _ _ _ _ H' k f1 M2 ⟨p,by rw[gxG (by rw[M.len];exact Nat.le_refl _),M.len,Nat.sub_self];rfl,rfl⟩
 | @deep f' d d' _ e hm k=>exact L _ _ _ _ H' k f0 (M'.cutT hm) (e.is M' nin i)
 | @dic j ks ds _ hj e hd hm k =>
  obtain⟨p,hp,rfl⟩:=i
  obtain⟨p',e1,kvs,vs,hv,h1,h2,ha⟩:=M'.at_ j _ e
  rw[hp]at e1;cases e1
  exact L _ _ _ _ H' k f0 (M'.cutT hm) ⟨p,kvs,vs,rfl,nin hj hp,hv,h1,h2,ha.cutT hd⟩
def retN (n:Nat)(K:DK):DN:={ nx:=fun _ μ'=>Fz n K .non μ',rt:=fun d μ'=>Fz n K d μ'}
def startE (N:List Str)(ds:List D):DE:=ds.map some++List.replicate (N.length - ds.length) none
theorem DEnv.start {φ:List Addr}{H:Hp}{N:List Str}{ds:List D}{vs:List V}(h:DAll φ H ds vs):DEnv φ H (startE N ds) (start N vs):=by
 have hl:=h.len
 unfold startE L2.start
 refine⟨by simp[hl],fun i d e=>?_⟩
 by_cases hi:i<ds.length
 ·rw[gxF (by rw[gxC];exact hi),gxH]at e
  have e':ds[i]?=some d:=by
   cases q:ds[i]? with
   | none=>rw[q]at e;cases e
   | some z=>rw[q]at e;cases e;rfl
  obtain⟨v,hv,hd⟩:=h.get e'
  exact⟨v,by rw[gxF (by rw[gxC];omega),gxH,hv];rfl,hd⟩
 ·rw[gxG (by rw[gxC];omega)]at e
  have:=gxD e
  have:=List.eq_of_mem_replicate this
  cases this
section
variable {P:Program}{w:World}{K:PySem.W.Frag}{mg:Str->Option Value}{base:Heap}
theorem Fun.okD {x qual:Str}{st:Stmt}{f:Addr}{fd:FuncData}{N ps:List Str}{k:Nat}{fs:DSp}(F:Fun K x qual st f fd)(S:FnScope N ps (defScope st))(len:∀ ds μ Kd,fs ds μ Kd->ds.length=ps.length)
 (hbody:∀(cdv:Value) (A:Around) (outer:List Env) (s:Shared) (H:Hp) (E:XK),Room k (A.deeper (envOfC qual (defScope st) s.heap.objs.size f cdv)) ->
   ∃ W,PDB (cxOf CX0 P w K mg base N qual (defScope st) f cdv A outer s H E).nox (defBody st) W/\∀ ds μ Kd,(∀(j:Nat) (m:MO),μ[j]?=some m->moB μ.length m)->mrL μ.length ds->fs ds μ Kd->W (retN μ.length Kd) (startE N ds) μ):FnOk P w K mg base CX0 (k+1) f fd ps (spD fs):=by
 refine F.ok S (fun vs H Q E h=>?_) (fun cdv A outer s H vs Q E hr h=>?_)
 ·obtain⟨φ,ds,μ,Kd,ha,M,hf,L⟩:=h
  rw[ha.len];exact len ds μ Kd hf
 ·obtain⟨φ,ds,μ,Kd,ha,M,hf,L⟩:=h
  obtain⟨W,hW,q⟩:=hbody cdv A outer s H E hr
  refine⟨_,hW,φ,startE N ds,μ,retN μ.length Kd,.start ha,M,q ds μ Kd M.bound (by rw[<- M.len];exact ha.bound) hf,⟨fun ρ' μ' φ' σ' H' k' f' A' M'=>?_,L.fz M,fun _ _ _ _ _ k' _ _ _=>k'.elim,fun _ _ _ _ _ k' _ _ _=>k'.elim⟩⟩
  exact L.fz M .non μ' φ' .non H' k' f' M' rfl
end
end L2
namespace L2
open PySem PySem.Spec PyProof.Rows
section
variable {prog:Program}{w:World}{A:Around}{E:Value->Shared->Prop}{s:Shared}
variable {c:Bool}{z TI TO i1 i2 l1 l2:Addr}{k1 k2:Nat}{xs ys:Array Value}{x y a b:Value}
theorem wpAny_alive {a:Addr}{Q:Option Obj->Shared->Prop}(h:Q (s.heap.get? a) s):wpAny (model prog w) A (loadIfAlive a) Q E s:=fun Γ p _=>by
 show Sem.wp _ Γ (.loadIfAlive a .pure) _ _ p s
 rw[Sem.wp_loadIfAlive];exact h
theorem zip_over2 {Q:Fin->Shared->Prop}(hh:A.handled=none)(D:ZipApart z TI TO i1 i2 l1 l2)(S:ZS c z TI TO i1 i2 l1 l2 .none a b k1 k2 xs ys s.heap)(hx:xs[k1]?=some x)(hy:ys[k2]?=none)
 (hE:∀ h' e,ZK z TO i1 i2 s.heap h'->(∃ o,h'.get? e=some o/\o.cls=.type "StopIteration")->E (.ref e) { s with heap:=h'}) :
 wpAny (model prog w) A (Builtin.«zip.__next__» ⟨[.ref z],[]⟩) Q E s:=by
 refine gxM (wpAny_pure (gxM (wpAny_field S.z rfl (x:=.bool false) rfl (gxM (wpAny_field S.z rfl (x:=.ref TI) rfl (gxM (wpAny_seqItems S.ti rfl ?_)))))))
 refine gxM (m:=Builtin.SmallTypes.ownedTupleIsFree (.ref z)) (gxM (wpAny_field S.z rfl (x:=.none) rfl (wpAny_pure ?_)))
 refine gxM (wpAny_rule (gxM (wpAny_field S.z rfl (x:=.ref TO) rfl (gxM (wpAny_setField_rec S.z (by simp) fun g1 e1 t1=>?_)))))
 have S1:=S.mz D (f':=.ellipsis) e1 t1.extBut
 refine gxM ?_
 rw[show(#[Value.ref i1,Value.ref i2]:Array Value).toList.zipIdx=[(.ref i1,0),(.ref i2,1)]from rfl,List.forIn_cons]
 refine gxM (gxM (wpAny_onRaise (gxM (nextG_item S1.n1 S1.q1 hx fun g2 e2 t2=>wpAny_pure ?_))))
 have S2:=S1.m1 D e2 t2.extBut
 refine gxM (wpAny_seqItems S2.to rfl (gxM (wpAny_updateSeq_pair S2.to fun g3 e3 t3=>gxM (wpAny_letGo (wpAny_pure ?_)))))
 have S3:=S2.mo D (x:=x) (y:=b) e3 t3.extBut
 dsimp only
 rw[List.forIn_cons]
 refine gxM (gxM (wpAny_onRaise (gxM (nextG_end hh S3.n2 S3.q2 hy fun g4 e t4 he=>?_))))
 obtain⟨oe,hoe,hce⟩:=he
 have hz2:IsZip g4 z TI TO .ellipsis:=t4 _ _ D.i2z.symm S3.z
 have hez:e≠z:=fun q=>by subst q;rw[hz2]at hoe;cases hoe;simp at hce
 exact wpAny_setField_rec hz2 (by simp) fun g5 _ t5=>hE g5 e ((((((zk_z t1.extBut).trans (zk_1 t2.extBut)).trans (zk_o t3.extBut)).trans (zk_2 t4))).trans (zk_z t5.extBut)) ⟨oe,t5.extBut _ _ hez hoe,hce⟩
theorem zip_end2 {Q:Option Value->Shared->Prop}(hh:A.handled=none)(D:ZipApart z TI TO i1 i2 l1 l2)(S:ZS c z TI TO i1 i2 l1 l2 .none a b k1 k2 xs ys s.heap)(hx:xs[k1]?=none\/ys[k2]?=none)
 (hQ:∀ h',ZK z TO i1 i2 s.heap h'->Q none { s with heap:=h'}):wpAny (model prog w) A (pyNext (.ref z)) Q E s:=by
 cases e1:xs[k1]? with
 | none=>exact zip_end hh D S e1 hQ
 | some x =>
  have hy:ys[k2]?=none:=by
   rcases hx with q | q
   ·rw[e1]at q;cases q
   ·exact q
  have ty:s.TypeIs (.ref z) "zip":=⟨_,S.z,rfl⟩
  unfold pyNext
  refine gxM (wpAny_attempt (wpAny_callSpecial?_slot (name:=Str.ofString "__next__") ty F.slot_zip_next (wpAny_call_entry F.slot_zip_next ty F.entry_zip_next (zip_over2 hh D S e1 hy fun h' e hk he=>?_) (F.args_zip_next_1 _))))
  obtain⟨o,ho,hc⟩:=he
  exact gxM (wpAny_isInstance (T := "StopIteration") (b:=true) ⟨o,ho,hc⟩ isSubtype_stop (wpAny_pure (hQ _ hk)))
def IsZipB (h:Heap)(z TI TO:Addr)(T0:Addr)(bb:Bool):Prop:=h.get? z=some { cls:=.type "zip",data:=.fields #[rawInt T0,.bool bb,.bool false,.ref TI,.ref TO]}
structure ZB (c:Bool)(z TI TO i1 i2 l1 l2 T0:Addr)(k1 k2:Nat)(xs ys:Array Value)(h:Heap):Prop where
 az:T0≠z/\T0≠i1/\T0≠i2
 z:∃ bb,IsZipB h z TI TO T0 bb
 ti:IsPair h TI (.ref i1) (.ref i2)
 n1:ItOf c h i1 l1 k1
 n2:ItOf c h i2 l2 k2
 q1:SqOf c h l1 xs
 q2:SqOf c h l2 ys
 al:∃ o,h.get? T0=some o
 to:∃ o,h.get? TO=some o
theorem zb_turn {Q:Value->Shared->Prop}{T0:Addr}(D:ZipApart z TI TO i1 i2 l1 l2)(S:ZB c z TI TO i1 i2 l1 l2 T0 k1 k2 xs ys s.heap)(hx:xs[k1]?=some x)(hy:ys[k2]?=some y)
 (hQ:∀ h',ZB c z TI TO i1 i2 l1 l2 T0 (k1+1) (k2+1) xs ys h'->IsPair h' s.heap.objs.size x y->ZK z TO i1 i2 s.heap h'->Q (.ref s.heap.objs.size) { s with heap:=h'}) :
 wpAny (model prog w) A (Builtin.«zip.__next__» ⟨[.ref z],[]⟩) (fun fin s'=>∃ v,fin=.done (.ret v)/\Q v s') E s:=by
 obtain⟨bb,hz⟩:=S.z
 obtain⟨oT,hT0⟩:=S.al
 refine gxM (wpAny_pure (gxM (wpAny_field hz rfl (x:=.bool false) rfl (gxM (wpAny_field hz rfl (x:=.ref TI) rfl (gxM (wpAny_seqItems S.ti rfl ?_)))))))
 refine gxM (m:=Builtin.SmallTypes.ownedTupleIsFree (.ref z)) (gxM (wpAny_field hz rfl (x:=rawInt T0) rfl ?_))
 show wpAny _ _ (loadIfAlive T0 >>= _) _ _ s
 refine gxM (wpAny_alive ?_)
 rw[hT0]
 show wpAny _ _ (field (.ref z) 1 >>= _) _ _ s
 refine gxM (wpAny_field hz rfl (x:=.bool bb) rfl ?_)
 have go:∃ g1:Heap,IsZipB g1 z TI TO T0 true/\Heap.SameBut z s.heap g1/\∀(Q':Bool->Shared->Prop),Q' false { s with heap:=g1}->wpAny (model prog w) A (if(Value.bool bb != Value.bool true)=true then(setField (Value.ref z) 1 (Value.bool true) >>= fun _=>pure false)else pure false) Q' E s:=by
  cases bb with
  | true=>exact⟨s.heap,hz,⟨rfl,fun _ _=>rfl⟩,fun Q' q=>wpAny_pure q⟩
  | false=>exact⟨s.heap.update z (Obj.mapFields (·.setIfInBounds 1 (.bool true))),Heap.get?_update_self _ hz rfl,Heap.SameBut.update ..,fun Q' q=>gxM (wpAny_setField hz rfl (by simp) (wpAny_pure q))⟩
 obtain⟨g1,z1,t1,run⟩:=go
 refine run _ ?_
 have n1:=S.n1.extBut t1.extBut D.i1z
 have n2:=S.n2.extBut t1.extBut D.i2z
 have q1:=S.q1.extBut t1.extBut D.l1z
 have q2:=S.q2.extBut t1.extBut D.l2z
 show wpAny _ _ (forIn (#[Value.ref i1,Value.ref i2]:Array Value) (none,#[]) _ >>= _) _ _ _
 rw[<- Array.forIn_toList]
 refine gxM ?_
 rw[show(#[Value.ref i1,Value.ref i2]:Array Value).toList=[.ref i1,.ref i2]from rfl,List.forIn_cons]
 refine gxM (gxM (wpAny_holding (gxM (nextG_item (s:={ s with heap:=g1}) n1 q1 hx fun g2 e2 t2=>wpAny_pure (wpAny_pure ?_)))))
 dsimp only
 rw[List.forIn_cons]
 have n2':=n2.extBut t2.extBut D.i12.symm
 have q2':=q2.extBut t2.extBut D.l2i1
 refine gxM (gxM (wpAny_holding (gxM (nextG_item (s:={ s with heap:=g2}) n2' q2' hy fun g3 e3 t3=>wpAny_pure (wpAny_pure ?_)))))
 dsimp only
 rw[List.forIn_nil]
 refine wpAny_pure (gxM (wpAny_newTuple (wpAny_pure ⟨_,rfl,?_⟩) (by show 2<=sizeLine;decide)))
 have sz:g3.objs.size=s.heap.objs.size:=t3.1.trans (t2.1.trans t1.1)
 show Q (.ref g3.objs.size) _
 have kk:ZK z TO i1 i2 s.heap (g3.push { cls:=.type "tuple",data:=.seq #[x,y]}):=(((zk_z t1.extBut).trans (zk_1 t2.extBut)).trans (zk_2 t3.extBut)).trans fun d o _ _ _ _ e=>gxL _ e
 have hT:IsPair (g3.push { cls:=.type "tuple",data:=.seq #[x,y]}) g3.objs.size x y:=Heap.get?_push_size _ rfl
 rw[sz]at hT ⊢
 have pu:∀ {d:Addr} {o:Obj},g3.get? d=some o->(g3.push { cls:=.type "tuple",data:=.seq #[x,y]}).get? d=some o:=fun e=>gxL _ e
 refine hQ _ ⟨S.az,⟨true,pu (t3.extBut _ _ D.i2z.symm (t2.extBut _ _ D.i1z.symm z1))⟩,pu (t3.extBut _ _ D.TIi2 (t2.extBut _ _ D.TIi1 (t1.extBut _ _ D.TIz S.ti))),(e2.extBut t3.extBut D.i12).at fun _ e=>pu e,e3.at fun _ e=>pu e,
  (((q1.extBut t2.extBut D.l1i1).extBut t3.extBut D.l1i2)).extBut (b:=g3.objs.size) (fun _ _ _ e=>pu e) (((q1.extBut t2.extBut D.l1i1).extBut t3.extBut D.l1i2).lt),((q2'.extBut t3.extBut D.l2i2)).extBut (b:=g3.objs.size) (fun _ _ _ e=>pu e) ((q2'.extBut t3.extBut D.l2i2).lt),⟨oT,pu (t3.extBut _ _ S.az.2.2 (t2.extBut _ _ S.az.2.1 (t1.extBut _ _ S.az.1 hT0)))⟩,(let ⟨o,e⟩:=S.to;⟨o,pu (t3.extBut _ _ D.TOi2 (t2.extBut _ _ D.TOi1 (t1.extBut _ _ D.TOz e)))⟩)⟩ hT kk
theorem zb_over {Q:Fin->Shared->Prop}{T0:Addr}(hh:A.handled=none)(D:ZipApart z TI TO i1 i2 l1 l2)(S:ZB c z TI TO i1 i2 l1 l2 T0 k1 k2 xs ys s.heap)(hx:xs[k1]?=none\/ys[k2]?=none)
 (hE:∀ h' e,ZK z TO i1 i2 s.heap h'->(∃ o,h'.get? e=some o/\o.cls=.type "StopIteration")->E (.ref e) { s with heap:=h'}) :
 wpAny (model prog w) A (Builtin.«zip.__next__» ⟨[.ref z],[]⟩) Q E s:=by
 obtain⟨bb,hz⟩:=S.z
 obtain⟨oT,hT0⟩:=S.al
 refine gxM (wpAny_pure (gxM (wpAny_field hz rfl (x:=.bool false) rfl (gxM (wpAny_field hz rfl (x:=.ref TI) rfl (gxM (wpAny_seqItems S.ti rfl ?_)))))))
 refine gxM (m:=Builtin.SmallTypes.ownedTupleIsFree (.ref z)) (gxM (wpAny_field hz rfl (x:=rawInt T0) rfl ?_))
 show wpAny _ _ (loadIfAlive T0 >>= _) _ _ s
 refine gxM (wpAny_alive ?_)
 rw[hT0]
 show wpAny _ _ (field (.ref z) 1 >>= _) _ _ s
 refine gxM (wpAny_field hz rfl (x:=.bool bb) rfl ?_)
 have go:∃ g1:Heap,IsZipB g1 z TI TO T0 true/\Heap.SameBut z s.heap g1/\∀(Q':Bool->Shared->Prop),Q' false { s with heap:=g1}->wpAny (model prog w) A (if(Value.bool bb != Value.bool true)=true then(setField (Value.ref z) 1 (Value.bool true) >>= fun _=>pure false)else pure false) Q' E s:=by
  cases bb with
  | true=>exact⟨s.heap,hz,⟨rfl,fun _ _=>rfl⟩,fun Q' q=>wpAny_pure q⟩
  | false=>exact⟨s.heap.update z (Obj.mapFields (·.setIfInBounds 1 (.bool true))),Heap.get?_update_self _ hz rfl,Heap.SameBut.update ..,fun Q' q=>gxM (wpAny_setField hz rfl (by simp) (wpAny_pure q))⟩
 obtain⟨g1,z1,t1,run⟩:=go
 refine run _ ?_
 have n1:=S.n1.extBut t1.extBut D.i1z
 have n2:=S.n2.extBut t1.extBut D.i2z
 have q1:=S.q1.extBut t1.extBut D.l1z
 have q2:=S.q2.extBut t1.extBut D.l2z
 show wpAny _ _ (forIn (#[Value.ref i1,Value.ref i2]:Array Value) (none,#[]) _ >>= _) _ _ _
 rw[<- Array.forIn_toList]
 refine gxM ?_
 rw[show(#[Value.ref i1,Value.ref i2]:Array Value).toList=[.ref i1,.ref i2]from rfl,List.forIn_cons]
 cases ex:xs[k1]? with
 | none=>exact gxM (gxM (wpAny_holding (gxM (nextG_end (s:={ s with heap:=g1}) hh n1 q1 ex fun g2 e t2 he=>hE g2 e ((zk_z t1.extBut).trans (zk_1 t2)) he))))
 | some x =>
  have hy:ys[k2]?=none:=by
   rcases hx with q | q
   ·rw[ex]at q;cases q
   ·exact q
  refine gxM (gxM (wpAny_holding (gxM (nextG_item (s:={ s with heap:=g1}) n1 q1 ex fun g2 e2 t2=>wpAny_pure (wpAny_pure ?_)))))
  dsimp only
  rw[List.forIn_cons]
  have n2':=n2.extBut t2.extBut D.i12.symm
  have q2':=q2.extBut t2.extBut D.l2i1
  exact gxM (gxM (wpAny_holding (gxM (nextG_end (s:={ s with heap:=g2}) hh n2' q2' hy fun g3 e t3 he=>hE g3 e (((zk_z t1.extBut).trans (zk_1 t2.extBut)).trans (zk_2 t3)) he))))
theorem zb_item {Q:Option Value->Shared->Prop}{T0:Addr}(D:ZipApart z TI TO i1 i2 l1 l2)(S:ZB c z TI TO i1 i2 l1 l2 T0 k1 k2 xs ys s.heap)(hx:xs[k1]?=some x)(hy:ys[k2]?=some y)
 (hQ:∀ h',ZB c z TI TO i1 i2 l1 l2 T0 (k1+1) (k2+1) xs ys h'->IsPair h' s.heap.objs.size x y->ZK z TO i1 i2 s.heap h'->Q (some (.ref s.heap.objs.size)) { s with heap:=h'}) :
 wpAny (model prog w) A (pyNext (.ref z)) Q E s:=by
 have ty:s.TypeIs (.ref z) "zip":=let ⟨_,q⟩:=S.z;⟨_,q,rfl⟩
 unfold pyNext
 exact gxM (wpAny_attempt (wpAny_callSpecial?_slot (name:=Str.ofString "__next__") ty F.slot_zip_next (wpAny_call_entry F.slot_zip_next ty F.entry_zip_next (zb_turn D S hx hy fun h' a1 a2 a3=>wpAny_pure (hQ h' a1 a2 a3)) (F.args_zip_next_1 _))))
theorem zb_end {Q:Option Value->Shared->Prop}{T0:Addr}(hh:A.handled=none)(D:ZipApart z TI TO i1 i2 l1 l2)(S:ZB c z TI TO i1 i2 l1 l2 T0 k1 k2 xs ys s.heap)(hx:xs[k1]?=none\/ys[k2]?=none)
 (hQ:∀ h',ZK z TO i1 i2 s.heap h'->Q none { s with heap:=h'}):wpAny (model prog w) A (pyNext (.ref z)) Q E s:=by
 have ty:s.TypeIs (.ref z) "zip":=let ⟨_,q⟩:=S.z;⟨_,q,rfl⟩
 unfold pyNext
 refine gxM (wpAny_attempt (wpAny_callSpecial?_slot (name:=Str.ofString "__next__") ty F.slot_zip_next (wpAny_call_entry F.slot_zip_next ty F.entry_zip_next (zb_over hh D S hx fun h' e hk he=>?_) (F.args_zip_next_1 _))))
 obtain⟨o,ho,hc⟩:=he
 exact gxM (wpAny_isInstance (T := "StopIteration") (b:=true) ⟨o,ho,hc⟩ isSubtype_stop (wpAny_pure (hQ _ hk)))
end
def Itz2 (c:Bool)(a1 a2:Addr):It:={ Itz c a1 a2 with stop:=fun i H=>∃ xs ys,SqC c H a1 xs/\SqC c H a2 ys/\(xs.length<=i\/ys.length<=i)}
theorem turn_zip2 {P:Program}{w:World}{K:PySem.W.Frag}{elts:List Expr}{kk:Nat}{tpos:Pos}{c:Bool}{z TI TO i1 i2 l1 l2:Addr}(D:ZipApart z TI TO i1 i2 l1 l2) :
 Turn P w K (.Tuple elts kk tpos) (Itz2 c l1 l2) [z,TI,TO,i1,i2] z (fun i h=>IsZip h z TI TO .none/\IsPair h TI (.ref i1) (.ref i2)/\(∃ a b,IsPair h TO a b)/\ItOf c h i1 l1 i/\ItOf c h i2 l2 i) where
 mem:=(turn_zip (P:=P) (w:=w) (K:=K) (elts:=elts) (kk:=kk) (tpos:=tpos) (c:=c) D).mem
 obj:=(turn_zip (P:=P) (w:=w) (K:=K) (elts:=elts) (kk:=kk) (tpos:=tpos) (c:=c) D).obj
 keep:=(turn_zip (P:=P) (w:=w) (K:=K) (elts:=elts) (kk:=kk) (tpos:=tpos) (c:=c) D).keep
 item:=(turn_zip (P:=P) (w:=w) (K:=K) (elts:=elts) (kk:=kk) (tpos:=tpos) (c:=c) D).item
 self:=(turn_zip (P:=P) (w:=w) (K:=K) (elts:=elts) (kk:=kk) (tpos:=tpos) (c:=c) D).self
 done:=by
  intro X hP hw hK hc i pins s σ H E I hf st hg
  subst hP hw hK
  obtain⟨hz,hTI,⟨a,b',hTO⟩,h1,h2⟩:=st
  obtain⟨xs,ys,q1,q2,hx⟩:=hg
  obtain⟨us,r1,p1⟩:=q1.val I
  obtain⟨ws,r2,p2⟩:=q2.val I
  have hl:=r1.length
  have hl2:=r2.length
  refine zip_end2 (I.ok.hd hc) D ⟨hz,hTI,hTO,h1,h2,p1,p2⟩ (by simp;omega) fun h' hk=>⟨rfl,?_⟩
  exact I.turnK (ch:=[z,TO,i1,i2]) (fun b hb=>hf b (by
   simp only[List.mem_cons,List.not_mem_nil,or_false]at hb ⊢
   rcases hb with q | q | q | q <;> simp[q])) fun b o hb e=>hk b o (fun q=>hb (by simp[q])) (fun q=>hb (by simp[q])) (fun q=>hb (by simp[q])) (fun q=>hb (by simp[q])) e
def iZip2 (ta:TA):TI:=fun σ H R=>ta σ H fun vs H1=>match vs with
 | [.ref a,.ref b]=>∃(c:Bool) (xs ys:List V),SqC c H1 a xs/\SqC c H1 b ys/\R (Itz2 c a b) H1
 | _=>False
theorem pi_zip2 {X:Cx}{elts:List Expr}{kk:Nat}{tpos:Pos}{a b:Expr}{ta:TA}{p pos:Pos}(hg:Gl X "zip")(hm:X.mg "zip"=none)(ha:PA X [a,b] ta)(hs:starEach [a,b] X.env=[(false,eval a X.env),(false,eval b X.env)]:=by rfl)(hs2:starEach [b] X.env=[(false,eval b X.env)]:=by rfl) :
 PI X (.Tuple elts kk tpos) (.Call (.Name "zip" p) [a,b] [] pos) (iZip2 ta):=by
 intro pins s σ H R I h
 refine Call_ (ld_blt I hg hm boot_zip (PyProof.Rows.callWith_type1 (thn (ha pos pins s σ H _ I h) fun us s1 hq5=>?_) (by rw[hs,hs2]) (by rw[hs2];rfl)))
 obtain⟨vs,H1,I1,r1,q1⟩:=hq5
 try dsimp only at q1
 split at q1
 ·rename_i l1 l2
  obtain⟨c,xs,ys,q1,q2,q⟩:=q1
  obtain⟨u1,u2,rfl,e1,e2⟩:=r1.two
  cases e1;cases e2
  obtain⟨us,r1,p1⟩:=q1.val I1
  obtain⟨ws,r2,p2⟩:=q2.val I1
  have lt:∀ {l:Addr} {o:HO},H1 l=some o->l<s1.heap.objs.size:=fun e=>I1.hok.lt e
  obtain⟨o1,w1⟩:=q1.ex
  obtain⟨o2,w2⟩:=q2.ex
  refine zip_made p1 p2 fun h' hz hTI hTO n1 n2 kp=>wpAny_pyIter_zip hz ?_
  have I2:Inv X pins σ H1 { s1 with heap:=h'}:=I1.kept (t':=s1.toks) kp
  refine⟨s1.heap.objs.size+4,_,_,_,H1,rfl,I2,turn_zip2 (c:=c) (zipApart_new (lt w1) (lt w2)),⟨hz,hTI,⟨_,_,hTO⟩,n1,n2⟩,fun b hb=>?_,q⟩
  have hb':s1.heap.objs.size<=b:=by
   simp only[List.mem_cons,List.not_mem_nil,or_false]at hb
   rcases hb with e | e | e | e | e <;> subst e
   ·exact Nat.le_add_right ..
   ·exact Nat.le_add_right ..
   ·exact Nat.le_add_right ..
   ·exact Nat.le_refl _
   ·exact Nat.le_add_right ..
  exact I1.fpOk hb' (I1.hok.fresh hb')
 ·exact q1.elim
theorem zip_no_len:typeLookup (.type "zip") "__len__"=pure none:=by rw[typeLookup_type,builtinLookup_eq_fast];kernel_rfl
theorem zip_no_hint:typeLookup (.type "zip") "__length_hint__"=pure none:=by rw[typeLookup_type,builtinLookup_eq_fast];kernel_rfl
def ZAt (z TI TO i1 i2 l1 l2:Addr)(i:Nat)(xs ys:Array Value)(h:Heap):Prop :=
 (i=0/\∃ a b,ZS false z TI TO i1 i2 l1 l2 .none a b 0 0 xs ys h)\/∃ T0,ZB false z TI TO i1 i2 l1 l2 T0 i i xs ys h
theorem ZAt.next {P:Program}{w:World}{A:Around}{s:Shared}{E:Value->Shared->Prop}{z TI TO i1 i2 l1 l2:Addr}{i:Nat}{xs ys:Array Value}{x y:Value}{Q:Option Value->Shared->Prop}(Z:ZAt z TI TO i1 i2 l1 l2 i xs ys s.heap)(D:ZipApart z TI TO i1 i2 l1 l2)(hx:xs[i]?=some x)(hy:ys[i]?=some y)
 (hQ:∀ h',ZAt z TI TO i1 i2 l1 l2 (i+1) xs ys h'->IsPair h' s.heap.objs.size x y->ZK z TO i1 i2 s.heap h'->Q (some (.ref s.heap.objs.size)) { s with heap:=h'}):wpAny (model P w) A (pyNext (.ref z)) Q E s:=by
 rcases Z with⟨rfl,a,b,S⟩ | ⟨T0,S⟩
 ·refine zip_item D S hx hy fun h' S' hT kk=>hQ h' (.inr ⟨s.heap.objs.size,⟨?_,?_,?_⟩,⟨false,S'.z⟩,S'.ti,S'.n1,S'.n2,S'.q1,S'.q2,⟨_,hT⟩,⟨_,S'.to⟩⟩) hT kk
  ·exact Nat.ne_of_gt (gxN S.z)
  ·obtain⟨o,e⟩:=S.n1.ex;exact Nat.ne_of_gt (gxN e)
  ·obtain⟨o,e⟩:=S.n2.ex;exact Nat.ne_of_gt (gxN e)
 ·exact zb_item D S hx hy fun h' S' hT kk=>hQ h' (.inr ⟨T0,S'⟩) hT kk
theorem ZAt.over {P:Program}{w:World}{A:Around}{s:Shared}{E:Value->Shared->Prop}{z TI TO i1 i2 l1 l2:Addr}{i:Nat}{xs ys:Array Value}{Q:Option Value->Shared->Prop}(hh:A.handled=none)(Z:ZAt z TI TO i1 i2 l1 l2 i xs ys s.heap)(D:ZipApart z TI TO i1 i2 l1 l2)(hx:xs[i]?=none\/ys[i]?=none)
 (hQ:∀ h',ZK z TO i1 i2 s.heap h'->Q none { s with heap:=h'}):wpAny (model P w) A (pyNext (.ref z)) Q E s:=by
 rcases Z with⟨rfl,a,b,S⟩ | ⟨T0,S⟩
 ·exact zip_end2 hh D S hx hQ
 ·exact zb_end hh D S hx hQ
theorem ZAt.but {z TI TO i1 i2 l1 l2 S:Addr}{i:Nat}{xs ys:Array Value}{h h':Heap}(Z:ZAt z TI TO i1 i2 l1 l2 i xs ys h)(e:Heap.ExtBut S h h')(n:S∉[z,TI,TO,i1,i2,l1,l2])(nT:∀ o,h.get? S=some o->o.cls=.type "list")(nT':∃ o,h'.get? S=some o):ZAt z TI TO i1 i2 l1 l2 i xs ys h':=by
 simp only[List.mem_cons,List.not_mem_nil,or_false,not_or]at n
 obtain⟨n1,n2,n3,n4,n5,n6,n7⟩:=n
 rcases Z with⟨rfl,a,b,Sz⟩ | ⟨T0,Sz⟩
 ·exact .inl ⟨rfl,a,b,e _ _ (Ne.symm n1) Sz.z,e _ _ (Ne.symm n2) Sz.ti,e _ _ (Ne.symm n3) Sz.to,Sz.n1.extBut e (Ne.symm n4),Sz.n2.extBut e (Ne.symm n5),Sz.q1.extBut e (Ne.symm n6),Sz.q2.extBut e (Ne.symm n7)⟩
 ·obtain⟨bb,hz⟩:=Sz.z
  refine .inr ⟨T0,Sz.az,⟨bb,e _ _ (Ne.symm n1) hz⟩,e _ _ (Ne.symm n2) Sz.ti,Sz.n1.extBut e (Ne.symm n4),Sz.n2.extBut e (Ne.symm n5),Sz.q1.extBut e (Ne.symm n6),Sz.q2.extBut e (Ne.symm n7),?_,(let ⟨o,q⟩:=Sz.to;⟨o,e _ _ (Ne.symm n3) q⟩)⟩
  obtain⟨o,ho⟩:=Sz.al
  by_cases hT:T0=S
  ·subst hT;exact nT'
  ·exact⟨o,e _ _ hT ho⟩
section
variable {X:Cx}{pins:List (Addr×Obj)}{σ:St}
def PrsAt (H:Hp)(xs ys:List V)(us:List V):Prop:=∀(i:Nat) (u:V),us[i]?=some u->∃ T x y,u=V.ref T/\H T=some (.tup [x,y])/\xs[i]?=some x/\ys[i]?=some y
theorem PrsAt.same {H H':Hp}{xs ys us:List V}(h:PrsAt H xs ys us)(s:Same H H'):PrsAt H' xs ys us:=fun i u e=>let ⟨T,x,y,a,b,c⟩:=h i u e;⟨T,x,y,a,s _ _ b,c⟩
theorem zip_fill {A:Around}{R:Result->Shared->Prop}{z TI TO i1 i2 l1 l2 S:Addr}{H0:Hp}{xs ys:List V}{xv yv:List Value}{res:Value}(hh:A.handled=none)(D:ZipApart z TI TO i1 i2 l1 l2)(rx:Vals xs xv)(ry:Vals ys yv)(hz1:xs.length<=sizeLine)
 (nS:S∉[z,TI,TO,i1,i2,l1,l2])
 (hR:∀ s' H' us its c,Inv X pins σ H' s'->Same H0 H'->H' S=none->s'.heap.get? S=some (lobj its c)->Vals us its->us.length=min xs.length ys.length->PrsAt H' xs ys us->R (.ok (.ret res)) s') :
 ∀(k i:Nat) (s:Shared) (H:Hp) (us:List V) (its:List Value) (c:Nat),min xs.length ys.length - i=k->i<=min xs.length ys.length->us.length=i->Inv X pins σ H s->Same H0 H->(∀ b∈[z,TO,i1,i2,S],FpOk X pins H b)->s.heap.get? S=some (lobj its c)->Vals us its->PrsAt H xs ys us ->
  ZAt z TI TO i1 i2 l1 l2 i xv.toArray yv.toArray s.heap->codeAny (model X.prog X.w) A (.builtin "list.extend.loop" ⟨[.ref S,.ref z,res],[]⟩) R s:=by
 have lx:=rx.length
 have ly:=ry.length
 have nS':S≠z/\S≠TO/\S≠i1/\S≠i2:=by
  simp only[List.mem_cons,List.not_mem_nil,or_false,not_or]at nS
  exact⟨nS.1,nS.2.2.1,nS.2.2.2.1,nS.2.2.2.2.1⟩
 have zk:∀ {h h':Heap},ZK z TO i1 i2 h h'->∀ b o,b∉[z,TO,i1,i2]->h.get? b=some o->h'.get? b=some o:=fun kk b o hb e=>kk b o (fun q=>hb (by simp[q])) (fun q=>hb (by simp[q])) (fun q=>hb (by simp[q])) (fun q=>hb (by simp[q])) e
 have sub:∀ b∈[z,TO,i1,i2],b∈[z,TO,i1,i2,S]:=fun b hb=>by
  simp only[List.mem_cons,List.not_mem_nil,or_false]at hb ⊢
  rcases hb with q | q | q | q <;> simp[q]
 have SnI:S∉[z,TO,i1,i2]:=by
  simp only[List.mem_cons,List.not_mem_nil,or_false,not_or]
  exact⟨nS'.1,nS'.2.1,nS'.2.2.1,nS'.2.2.2⟩
 intro k
 induction k with
 | zero =>
  intro i s H us its c hk hi hu I hS fp gS rv pr Z
  have ei:i=min xs.length ys.length:=by omega
  refine codeAny_builtin F.entry_extend_loop ?_
  rw[Around.under_plainId F.plain_extend_loop _]
  show wpAny _ A.in1 (pyNext (.ref z) >>= _) _ _ s
  refine gxM (Z.over (A:=A.in1) hh D (by simp;omega) fun h' kk=>?_)
  have I':=I.turnK (ch:=[z,TO,i1,i2]) (fun b hb=>fp b (sub b hb)) (zk kk)
  exact wpAny_pure (hR _ H us its c I' hS (fp S (by simp)).1 (zk kk _ _ SnI gS) rv (hu.trans ei) pr)
 | succ k ih =>
  intro i s H us its c hk hi hu I hS fp gS rv pr Z
  have hlt:i<min xs.length ys.length:=by omega
  obtain⟨x,ex⟩:∃ x,xs[i]?=some x:=⟨xs[i]'(by omega),gxA _⟩
  obtain⟨y,ey⟩:∃ y,ys[i]?=some y:=⟨ys[i]'(by omega),gxA _⟩
  obtain⟨u,eu,ru⟩:=rx.get ex
  obtain⟨v,ev,rv'⟩:=ry.get ey
  have lu:=rv.length
  refine codeAny_builtin F.entry_extend_loop ?_
  rw[Around.under_plainId F.plain_extend_loop _]
  show wpAny _ A.in1 (pyNext (.ref z) >>= _) _ _ s
  refine gxM (Z.next (A:=A.in1) D (by simpa using eu) (by simpa using ev) fun h' Z' hT kk=>?_)
  have I':=I.turnT (ch:=[z,TO,i1,i2]) (fun b hb=>fp b (sub b hb)) (zk kk) hT ru rv'
  have hn:H s.heap.objs.size=none:=I.hok.fresh (Nat.le_refl _)
  have S1:Same H (upd H s.heap.objs.size (.tup [x,y])):=Same.upd hn
  have neT:∀ b∈[z,TO,i1,i2,S],b≠s.heap.objs.size:=fun b hb q=>by
   have nl:S<s.heap.objs.size:=gxN gS
   have nz:z<s.heap.objs.size:=by
    rcases Z with⟨_,a,b,Sz⟩ | ⟨T0,Sz⟩
    ·exact gxN Sz.z
    ·obtain⟨_,hz⟩:=Sz.z;exact gxN hz
   have n1:i1<s.heap.objs.size:=by
    rcases Z with⟨_,a,b,Sz⟩ | ⟨T0,Sz⟩
    ·obtain⟨o,e⟩:=Sz.n1.ex;exact gxN e
    ·obtain⟨o,e⟩:=Sz.n1.ex;exact gxN e
   have n2:i2<s.heap.objs.size:=by
    rcases Z with⟨_,a,b,Sz⟩ | ⟨T0,Sz⟩
    ·obtain⟨o,e⟩:=Sz.n2.ex;exact gxN e
    ·obtain⟨o,e⟩:=Sz.n2.ex;exact gxN e
   have n3:TO<s.heap.objs.size:=by
    rcases Z with⟨_,a,b,Sz⟩ | ⟨T0,Sz⟩
    ·exact gxN Sz.to
    ·obtain⟨o,e⟩:=Sz.to;exact gxN e
   simp only[List.mem_cons,List.not_mem_nil,or_false]at hb
   rcases hb with e | e | e | e | e
   ·exact Nat.ne_of_lt nz (e.symm.trans q)
   ·exact Nat.ne_of_lt n3 (e.symm.trans q)
   ·exact Nat.ne_of_lt n1 (e.symm.trans q)
   ·exact Nat.ne_of_lt n2 (e.symm.trans q)
   ·exact Nat.ne_of_lt nl (e.symm.trans q)
  have gS':=zk kk _ _ SnI gS
  have fp':∀ b∈[z,TO,i1,i2,S],FpOk X pins (upd H s.heap.objs.size (.tup [x,y])) b:=fun b hb=>⟨by rw[upd_ne (neT b hb)];exact(fp b hb).1,(fp b hb).2⟩
  show wpAny _ A.in1 (updateSeq S (·.push (Value.ref s.heap.objs.size)) >>= _) _ _ _
  refine gxM (wpAny_updateSeq gS' rfl (wpAny_pure ⟨plainId_quiet F.plain_extend_loop _,?_⟩) (by rw[List.size_toArray];omega) (by show(its.toArray.push _).size<=sizeLine+1;rw[Array.size_push,List.size_toArray];omega))
  have but:Heap.ExtBut S h' (h'.update S (Obj.mapSeq (·.push (Value.ref s.heap.objs.size)))):=fun b o hb e=>(Heap.get?_update_other _ _ (Ne.symm hb)).trans e
  have gS2:=Heap.get?_update_self (Obj.mapSeq (·.push (Value.ref s.heap.objs.size))) gS' rfl
  have I2:=I'.turnK (ch:=[S]) (h'':=h'.update S (Obj.mapSeq (·.push (Value.ref s.heap.objs.size)))) (fun b hb=>by rw[List.mem_singleton.mp hb];exact fp' S (by simp)) fun b o hb e=>but b o (fun q=>hb (by simp[q])) e
  have e2:its.toArray.push (Value.ref s.heap.objs.size)=(its++[Value.ref s.heap.objs.size]).toArray:=by simp
  obtain⟨c',gS3⟩:∃ c',(h'.update S (Obj.mapSeq (·.push (Value.ref s.heap.objs.size)))).get? S=some (lobj (its++[Value.ref s.heap.objs.size]) c'):=by
   have q:=PySem.IsL.update gS' (·.push (Value.ref s.heap.objs.size))
   rw[e2]at q
   exact⟨_,q⟩
  refine ih (i+1) _ _ (us++[.ref s.heap.objs.size]) _ c' (by omega) hlt (by rw[gxE,List.length_singleton,hu]) I2 (hS.trans S1) fp' gS3 (rv.append (.cons (show RelV (V.ref s.heap.objs.size) _ from rfl) .nil)) ?_ (Z'.but but nS (fun o e=>?_) ⟨_,gS3⟩)
  ·intro j u' ej
   by_cases hj:j<us.length
   ·rw[gxF hj]at ej
    exact pr.same S1 j u' ej
   ·rw[gxG (by omega)]at ej
    have hj0:j - us.length=0:=by
     have:=(gxB ej).1
     rw[List.length_singleton]at this;omega
    rw[hj0]at ej
    cases ej
    have:j=i:=by omega
    subst this
    exact⟨_,x,y,rfl,upd_same,ex,ey⟩
  ·rw[gS']at e;cases e;rfl
theorem list_zip {H:Hp}{s:Shared}{a b:Addr}{xs ys:List V}{Q:VK}(I:Inv X pins σ H s)(calm:X.calm=true)(ha:H a=some (.lst xs))(hb:H b=some (.lst ys))
 (hQ:∀ l us H',H l=none->Same H H'->H' l=some (.lst us)->us.length=min xs.length ys.length->PrsAt H' xs ys us->Q (.ref l) H') :
 wpAny (model X.prog X.w) X.A (call (.type "zip") [.ref a,.ref b]) (fun v s1=>wpAny (model X.prog X.w) X.A (call (.type "list") [v]) (EP X pins σ Q) X.xe s1) X.xe s:=by
 obtain⟨z1,xv,n1,rx,lx,ea⟩:=I.lstM ha
 obtain⟨z2,yv,n2,ry,ly,eb⟩:=I.lstM hb
 have p1:SqOf false s.heap a xv.toArray:=⟨_,ea,rfl,n1,rfl⟩
 have p2:SqOf false s.heap b yv.toArray:=⟨_,eb,rfl,n2,rfl⟩
 have la:(a:Nat)<s.heap.objs.size:=gxN ea
 have lb:(b:Nat)<s.heap.objs.size:=gxN eb
 refine zip_made p1 p2 fun h' hz hTI hTO i1 i2 kp=>?_
 have I1:Inv X pins σ H { s with heap:=h'}:=I.kept (t':=s.toks) kp
 have D:ZipApart (s.heap.objs.size+4) (s.heap.objs.size+2) (s.heap.objs.size+3) s.heap.objs.size (s.heap.objs.size+1) a b:=zipApart_new la lb
 refine callType_codes (Q₁:=fun obj s₁=>obj=.ref h'.objs.size/\s₁={ s with heap:=h'.push { cls:=.type "list",data:=.seq #[]}}) F.called_list (F.typeCall_list_1 _) F.entry_list_init (code_list_new _ ⟨rfl,rfl⟩) fun obj s₁ h₁=>?_
 obtain⟨rfl,rfl⟩:=h₁
 have hS:(h'.push { cls:=.type "list",data:=.seq #[]}).get? h'.objs.size=some (lobj [] 0):=Heap.get?_push_size _ rfl
 refine⟨⟨_,hS,rfl⟩,F.args_list_init_2 _ _,?_⟩
 have I2:Inv X pins σ H { s with heap:=h'.push { cls:=.type "list",data:=.seq #[]}}:=I1.kept (t':=s.toks) fun _ _ e=>gxL _ e
 have sz:s.heap.objs.size+4<h'.objs.size:=gxN hz
 have fpn:∀ c,s.heap.objs.size<=c->FpOk X pins H c:=fun c hc=>I.fpOk hc (I.hok.fresh hc)
 show wpAny _ X.A.in1.in1 (do let old <- Builtin.List.listItems (.ref h'.objs.size);Builtin.List.listUpdate (.ref h'.objs.size) (fun _=>#[]);letGo old.toList.reverse;Builtin.List.listExtendWith (.ref h'.objs.size) (.ref (s.heap.objs.size+4)) .none) _ _ _
 refine gxM ?_
 unfold Builtin.List.listItems
 refine gxM (wpAny_seqItems hS rfl (wpAny_pure ?_))
 show wpAny _ X.A.in1.in1 (updateSeq h'.objs.size (fun _=>#[]) >>= fun _=>letGo (#[]:Array Value).toList.reverse >>= fun _=>Builtin.List.listExtendWith (.ref h'.objs.size) (.ref (s.heap.objs.size+4)) .none) _ _ _
 refine gxM (wpAny_updateSeq hS rfl ?_)
 refine gxM (wpAny_letGo ?_)
 have fill:∀(g:Heap) (tk c:Nat),(∀ d o,d≠h'.objs.size->(h'.push { cls:=.type "list",data:=.seq #[]}).get? d=some o->g.get? d=some o)->g.get? h'.objs.size=some (lobj [] c) ->
  codeAny (model X.prog X.w) X.A.in1 (.builtin "list.extend.loop" ⟨[.ref h'.objs.size,.ref (s.heap.objs.size+4),.none],[]⟩) (wants (fun r s₂=>r=.none/\EP X pins σ Q (.ref h'.objs.size) s₂) X.xe) { s with heap:=g,toks:=tk}:=fun g tk c kg gS=>by
  have kg':∀ d o,h'.get? d=some o->g.get? d=some o:=fun d o e=>kg d o (Nat.ne_of_lt (gxN e)) (gxL _ e)
  have I3:Inv X pins σ H { s with heap:=g,toks:=tk}:=I1.kept (t':=tk) kg'
  have nS:h'.objs.size∉[s.heap.objs.size+4,s.heap.objs.size+2,s.heap.objs.size+3,s.heap.objs.size,s.heap.objs.size+1,a,b]:=by
   simp only[List.mem_cons,List.not_mem_nil,or_false,not_or]
   have sz':(s.heap.objs.size:Nat)+4<h'.objs.size:=sz
   refine⟨?_,?_,?_,?_,?_,Nat.ne_of_gt (Nat.lt_trans la (by omega)),Nat.ne_of_gt (Nat.lt_trans lb (by omega))⟩<;> (intro q;omega)
  refine zip_fill (A:=X.A.in1) (I.ok.hd calm) D rx ry z1 nS (H0:=H) ?_ _ 0 _ H [] [] c rfl (Nat.zero_le _) rfl I3 (Same.refl _) ?_ gS .nil (fun i u e=>by simp at e) (.inl ⟨rfl,.none,.none,kg' _ _ hz,kg' _ _ hTI,kg' _ _ hTO,i1.at fun _ e=>kg' _ _ e,i2.at fun _ e=>kg' _ _ e,⟨_,kg' _ _ (kp _ _ ea),rfl,n1,rfl⟩,⟨_,kg' _ _ (kp _ _ eb),rfl,n2,rfl⟩⟩)
  ·intro s' H' us its c' I' S' nS' gS' rv lu pr
   refine⟨rfl,?_⟩
   have hfp:=fpn h'.objs.size (by omega)
   have I4:=I'.adopt (ys:=us) nS' hfp.2.1 (by have:=I.sz;omega) hfp.2.2.2.2.1 hfp.2.2.2.2.2 gS' rv (by omega)
   exact⟨.ref h'.objs.size,_,I4,rfl,hQ _ us _ (I.hok.fresh (by omega)) (S'.trans (Same.upd nS')) upd_same lu (pr.same (Same.upd nS'))⟩
  ·intro d hd
   simp only[List.mem_cons,List.not_mem_nil,or_false]at hd
   refine fpn d ?_
   rcases hd with e | e | e | e | e <;> subst e <;> omega
 have hS₂:=Heap.get?_update_self (Obj.mapSeq (fun _=>(#[]:Array Value))) hS rfl
 have oth:∀(d:Addr) (o:Obj),d≠h'.objs.size->(h'.push { cls:=.type "list",data:=.seq #[]}).get? d=some o->((h'.push { cls:=.type "list",data:=.seq #[]}).update h'.objs.size (Obj.mapSeq (fun _=>(#[]:Array Value)))).get? d=some o :=
  fun d o hd e=>(Heap.get?_update_other _ _ (Ne.symm hd)).trans e
 have hz2:=oth _ _ (Nat.ne_of_lt sz) (gxL { cls:=.type "list",data:=.seq #[]} hz)
 have tyz:Shared.TypeIs { s with heap:=(h'.push { cls:=.type "list",data:=.seq #[]}).update h'.objs.size (Obj.mapSeq (fun _=>(#[]:Array Value)))} (.ref (s.heap.objs.size+4)) "zip":=⟨_,hz2,rfl⟩
 unfold Builtin.List.listExtendWith
 refine gxM (wpAny_typeOf tyz ?_)
 have e1:Builtin.List.listSameRef (.ref h'.objs.size) (.ref (s.heap.objs.size+4))=false:=by
  simp only[Builtin.List.listSameRef]
  exact beq_false_of_ne (Nat.ne_of_gt sz)
 have e2:(Value.type "zip"==Value.type "list")=false:=by decide
 have e3:(Value.type "zip"==Value.type "tuple")=false:=by decide
 simp only[e1,e2,e3,Bool.or_false,Bool.false_eq_true,if_false]
 refine gxM (wpAny_pyIter_zip hz2 ?_)
 refine gxM (wpAny_holding ?_)
 unfold Builtin.List.listLengthHint
 refine gxM (wpAny_specialOf tyz zip_no_len ?_)
 show wpAny _ _ (specialOf (Value.ref (s.heap.objs.size+4)) (Str.ofString "__length_hint__") >>= _) _ _ _
 refine gxM (wpAny_specialOf tyz zip_no_hint ?_)
 refine wpAny_pure ?_
 show wpAny _ _ (rule "list.extend.makes-room" >>= fun _=>Builtin.List.listTouch (.ref h'.objs.size) >>= fun _ =>
  again (.builtin "list.extend.loop" ⟨[.ref h'.objs.size,.ref (s.heap.objs.size+4),.none],[]⟩)) _ _ _
 refine gxM (wpAny_rule ?_)
 refine gxM ?_
 show wpAny _ _ (updateSeq h'.objs.size (·.push .none) >>= fun _=>updateSeq h'.objs.size (·.pop)) _ _ _
 refine gxM (wpAny_updateSeq hS₂ rfl ?_)
 have hS₃:=Heap.get?_update_self (Obj.mapSeq (·.push Value.none)) hS₂ rfl
 refine wpAny_updateSeq (hz:=by seq_fits) hS₃ rfl ?_
 have hS₄:=Heap.get?_update_self (Obj.mapSeq (·.pop)) hS₃ rfl
 refine wpAny_pure ⟨plainId_quiet F.plain_extend_loop _,fill _ s.toks _ (fun d o hd e=>?_) hS₄⟩
 exact(Heap.get?_update_other _ _ (Ne.symm hd)).trans ((Heap.get?_update_other _ _ (Ne.symm hd)).trans (oth d o hd e))
end
def Ite (l:Addr):It :=
 ⟨fun i H=>∃ xs x,H l=some (.lst xs)/\xs[i]?=some x,
  fun i H v H'=>∃ T x,v=.ref T/\H T=none/\H'=upd H T (.tup [.int i,x])/\∀ xs,H l=some (.lst xs)->xs[i]?=some x,
  fun i H=>∃ xs,H l=some (.lst xs)/\i=xs.length⟩
theorem turn_enumL {P:Program}{w:World}{K:PySem.W.Frag}{elts:List Expr}{kk:Nat}{tpos:Pos}{e it l:Addr}(hei:e≠it)(hle:l≠e)(hli:l≠it) :
 Turn P w K (.Tuple elts kk tpos) (Ite l) [e,it] e (fun i h=>(∃ old,IsEnum h e it i old)/\h.IsListIter it l i) where
 mem:=by simp
 obj:=fun i h st b hb=>by
  obtain⟨⟨old,he⟩,o,ho,hc,hd⟩:=st
  simp only[List.mem_cons,List.not_mem_nil,or_false]at hb
  rcases hb with rfl | rfl
  ·exact⟨_,he,fun v q=>by cases q⟩
  ·exact⟨o,ho,fun v q=>by rw[hd]at q;cases q⟩
 keep:=fun i h h' st k=>by
  obtain⟨⟨old,he⟩,o,ho,r⟩:=st
  exact⟨⟨old,k e (by simp) _ he⟩,o,k it (by simp) _ ho,r⟩
 item:=by
  intro X hP hw hK hc i pins s σ H E I hf st hg
  subst hP hw hK
  obtain⟨⟨old,he⟩,hit⟩:=st
  obtain⟨xs,x,hl,ex⟩:=hg
  obtain⟨_,its,n,r,_,ho⟩:=I.lstM hl
  have isl:s.heap.IsList l its.toArray:=⟨_,ho,rfl,n,rfl⟩
  obtain⟨u,eu,ru⟩:=r.get ex
  have hlt:i<its.toArray.size:=by rw[List.size_toArray];exact(gxB eu).1
  have D:=Draws.list (prog:=X.prog) (w:=X.w) (A:=X.A.in1) (I.ok.hd hc) it l hli its.toArray
  refine wpAny_pyNext_enum_itemD D he ⟨hit,isl⟩ hlt hei (by simp[hei,Ne.symm hle]) fun y h1 tk hPy ho1 hst1 hT hsz hk=>?_
  have hy:y=u:=by
   have q:its[i]?=some y:=by simpa using hPy
   rw[eu]at q;exact(Option.some.inj q).symm
  subst hy
  refine⟨_,rfl,wpAny_letOwnedTupleGo_enum ho1 fun h2 he2 hs2=>?_⟩
  have fr:∀ b∈[e,it],FpOk X pins H b:=hf
  have lte:e<s.heap.objs.size:=gxN he
  have ne1:s.heap.objs.size≠e:=Nat.ne_of_gt lte
  have hT2:IsPair h2 s.heap.objs.size (.int i tk) y:=(hs2.2 _ ne1).trans hT
  have kp:∀ b o,b∉[e,it]->s.heap.get? b=some o->h2.get? b=some o:=fun b o hb q=>by
   have b1:b≠e:=fun z=>hb (by simp[z])
   have b2:b≠it:=fun z=>hb (by simp[z])
   exact(hs2.2 b b1).trans (hk b o b1 b2 q)
  have hn:H s.heap.objs.size=none:=I.hok.fresh (Nat.le_refl _)
  have I1:=(I.turnT (ch:=[e,it]) (h'':=h2) (x:=.int i) (y:=x) fr kp hT2 ⟨tk,rfl⟩ ru).tok (tk+1)
  refine⟨.ref s.heap.objs.size,_,I1,rfl,⟨_,x,rfl,hn,rfl,fun zs q=>by rw[hl]at q;cases q;exact ex⟩,⟨⟨_,by simpa using he2⟩,hst1.1.at fun o q=>(hs2.2 it (Ne.symm hei)).trans q⟩,fun b hb=>?_⟩
  have lti:it<s.heap.objs.size:=by obtain⟨o,q,_⟩:=hit;exact gxN q
  rw[upd_ne]
  ·exact(hf b hb).1
  ·simp only[List.mem_cons,List.not_mem_nil,or_false]at hb
   rcases hb with rfl | rfl
   ·exact Nat.ne_of_lt lte
   ·exact Nat.ne_of_lt lti
 done:=by
  intro X hP hw hK hc i pins s σ H E I hf st hg
  subst hP hw hK
  obtain⟨⟨old,he⟩,hit⟩:=st
  obtain⟨xs,hl,ei⟩:=hg
  obtain⟨_,its,n,r,ll,ho⟩:=I.lstM hl
  have isl:s.heap.IsList l its.toArray:=⟨_,ho,rfl,n,rfl⟩
  have D:=Draws.list (prog:=X.prog) (w:=X.w) (A:=X.A.in1) (I.ok.hd hc) it l hli its.toArray
  have en:i=its.toArray.size:=by rw[List.size_toArray,ei];exact ll
  refine wpAny_pyNext_enum_endD D he (by rw[<- en];exact⟨hit,isl⟩) fun h' hx=>⟨rfl,?_⟩
  exact I.turnK (ch:=[e,it]) (fun b hb=>hf b hb) fun b o hb q=>hx b o (fun z=>hb (by simp[z])) q
 self:=fun _ _ _ _ _ st h=>let ⟨⟨_,e⟩,_⟩:=st;wpAny_pyIter_enum e h
section
variable {X:Cx}{a b e:Expr}{es:List Expr}{pos:Pos}
def iEnumL (ta:TA):TI:=fun σ H R=>ta σ H fun vs H1=>match vs with
 | [.ref l]=>∃ xs,H1 l=some (.lst xs)/\R (Ite l) H1
 | _=>False
theorem pi_enumL {elts:List Expr}{kk:Nat}{tpos:Pos}{ta:TA}{p:Pos}(hg:Gl X "enumerate")(hm:X.mg "enumerate"=none)(ha:PA X [a] ta)(hs:starEach [a] X.env=[(false,eval a X.env)]:=by rfl) :
 PI X (.Tuple elts kk tpos) (.Call (.Name "enumerate" p) [a] [] pos) (iEnumL ta):=by
 intro pins s σ H R I h
 refine Call_ (ld_blt I hg hm (show bootBuiltins "enumerate"=some (.type "enumerate") by decide +kernel) (PyProof.Rows.callWith_type1 (thn (ha pos pins s σ H _ I h) fun us s1 hq6=>?_) hs rfl))
 obtain⟨vs,H1,I1,r1,q1⟩:=hq6
 try dsimp only at q1
 split at q1
 ·rename_i l
  obtain⟨xs,hl,q⟩:=q1
  obtain⟨u,rfl,ru⟩:=r1.one
  cases ru
  obtain⟨_,its,n,r,ll,ho⟩:=I1.lstM hl
  have lt:l<s1.heap.objs.size:=gxN ho
  refine call_enumerate_list (l:=l) (items:=its.toArray) ⟨_,ho,rfl,n,rfl⟩ fun h' he hi hsz kp=>wpAny_pyIter_enum he ?_
  have I2:Inv X pins σ H1 { s1 with heap:=h'}:=I1.kept (t':=s1.toks) kp
  refine⟨s1.heap.objs.size+1,_,_,_,H1,rfl,I2,turn_enumL (Nat.ne_of_gt (Nat.lt_succ_self _)) (Nat.ne_of_lt (Nat.lt_succ_of_lt lt)) (Nat.ne_of_lt lt),⟨⟨_,he⟩,hi⟩,fun b hb=>?_,q⟩
  have hb':s1.heap.objs.size<=b:=by
   simp only[List.mem_cons,List.not_mem_nil,or_false]at hb
   rcases hb with e | e <;> subst e
   ·exact Nat.le_succ _
   ·exact Nat.le_refl _
  exact I1.fpOk hb' (I1.hok.fresh hb')
 ·exact q1.elim
def dItZ (w:DA):DI:=fun ρ μ K=>w ρ μ fun ds μ1=>match ds with
 | [x,y]=>opt (lv μ1 x) fun xs=>opt (lv μ1 y) fun ys=>K (List.zipWith (fun a b=>D.tup [a,b]) xs ys) (fun μ'=>lc x xs μ'/\lc y ys μ') μ1
 | _=>False
theorem i_zip {elts:List Expr}{kk:Nat}{tpos:Pos}{w:DA}{p:Pos}(hg:Gl X "zip")(hm:X.mg "zip"=none)(ha:PDA X [a,b] w)(hs:starEach [a,b] X.env=[(false,eval a X.env),(false,eval b X.env)]:=by rfl)(hs2:starEach [b] X.env=[(false,eval b X.env)]:=by rfl) :
 PDI X (.Tuple elts kk tpos) (.Call (.Name "zip" p) [a,b] [] pos) (dItZ w):=(pi_zip2 hg hm ha hs hs2).imp fun σ H Q hq=>by
 obtain⟨φ,ρ,μ,K,A,M,k,L⟩:=hq
 refine⟨φ,ρ,μ,_,A,M,k,fun ds μ1 φ1 vs H1 k1 f1 M1 i1=>?_⟩
 split at k1
 ·rename_i x y
  obtain⟨xs,ex,k1⟩:=opt_ex k1
  obtain⟨ys,ey,k1⟩:=opt_ex k1
  ·obtain⟨v,r,rfl,h1,u,r',rfl,h2,h3⟩:=i1
   cases(show r'=[]from h3)
   obtain⟨p1,vx,rfl,hp1,ax⟩:=lv_is M1 h1 ex
   obtain⟨p2,vy,rfl,hp2,ay⟩:=lv_is M1 h2 ey
   refine⟨false,vx,vy,hp1,hp2,L _ _ μ1 φ1 _ H1 k1 f1 M1 fun φ' H' μ' f M' c i=>?_⟩
   obtain⟨vx,hx,ax⟩:=lv_stay M1 h1 ex f M' c.1
   obtain⟨vy,hy,ay⟩:=lv_stay M1 h2 ey f M' c.2
   have lx:=ax.len
   have ly:=ay.len
   refine⟨fun d hd=>?_,fun hi=>⟨vx,vy,hx,hy,by rw[List.length_zipWith]at hi;omega⟩⟩
   rw[List.getElem?_zipWith]at hd
   cases e1:xs[i]? with
   | none=>rw[e1]at hd;cases hd
   | some dx =>
    cases e2:ys[i]? with
    | none=>rw[e1,e2]at hd;cases hd
    | some dy =>
     rw[e1,e2]at hd
     cases hd
     obtain⟨v1,g1,j1⟩:=ax.get e1
     obtain⟨v2,g2,j2⟩:=ay.get e2
     refine⟨⟨vx,vy,v1,v2,hx,hy,g1,g2⟩,fun z H'' hy'=>?_⟩
     obtain⟨T,x',y',rfl,hT,rfl,q1,q2⟩:=hy'
     have c1:=q1 vx hx
     have c2:=q2 vy hy
     rw[g1]at c1;cases c1
     rw[g2]at c2;cases c2
     have fn:=Fr.new (φ:=φ') (o:=.tup [v1,v2]) hT
     exact⟨fn,M'.same (Same.upd hT),T,_,rfl,M'.fresh hT,upd_same,v1,_,rfl,j1.mono fn,v2,_,rfl,j2.mono fn,rfl⟩
 ·exact k1.elim
def enumD (ds:List D):List D:=List.zipWith (fun i d=>D.tup [.int (i:Nat),d]) (List.range ds.length) ds
theorem enumD_get {ds:List D}{i:Nat}{d:D}(h:(enumD ds)[i]?=some d):∃ x,ds[i]?=some x/\d=.tup [.int i,x]:=by
 unfold enumD at h
 rw[List.getElem?_zipWith]at h
 cases e:ds[i]? with
 | none=>rw[e]at h;cases q:(List.range ds.length)[i]? <;> (rw[q]at h;cases h)
 | some x =>
  have hi:=(gxB e).1
  rw[e,List.getElem?_range hi]at h
  cases h
  exact⟨x,rfl,rfl⟩
theorem enumD_len (ds:List D):(enumD ds).length=ds.length:=by unfold enumD;rw[List.length_zipWith,gxJ,Nat.min_self]
def dItE (w:DA):DI:=fun ρ μ K=>w ρ μ fun ds μ1=>match ds with
 | [x]=>opt (lv μ1 x) fun xs=>K (enumD xs) (fun μ'=>lc x xs μ') μ1
 | _=>False
theorem i_enumL {elts:List Expr}{kk:Nat}{tpos:Pos}{w:DA}{p:Pos}(hg:Gl X "enumerate")(hm:X.mg "enumerate"=none)(ha:PDA X [a] w)(hs:starEach [a] X.env=[(false,eval a X.env)]:=by rfl) :
 PDI X (.Tuple elts kk tpos) (.Call (.Name "enumerate" p) [a] [] pos) (dItE w):=(pi_enumL hg hm ha hs).imp fun σ H Q hq=>by
 obtain⟨φ,ρ,μ,K,A,M,k,L⟩:=hq
 refine⟨φ,ρ,μ,_,A,M,k,fun ds μ1 φ1 vs H1 k1 f1 M1 i1=>?_⟩
 split at k1
 ·rename_i x
  obtain⟨xs,ex,k1⟩:=opt_ex k1
  ·obtain⟨v,r,rfl,h1,h3⟩:=i1
   cases(show r=[]from h3)
   obtain⟨p1,vx,rfl,hp1,ax⟩:=lv_is M1 h1 ex
   refine⟨vx,hp1,L _ _ μ1 φ1 _ H1 k1 f1 M1 fun φ' H' μ' f M' c i=>?_⟩
   obtain⟨vx,hx,ax⟩:=lv_stay M1 h1 ex f M' c
   have lx:=ax.len
   refine⟨fun d hd=>?_,fun hi=>⟨vx,hx,by rw[enumD_len]at hi;omega⟩⟩
   obtain⟨dx,e1,rfl⟩:=enumD_get hd
   obtain⟨v1,g1,j1⟩:=ax.get e1
   refine⟨⟨vx,v1,hx,g1⟩,fun z H'' hy'=>?_⟩
   obtain⟨T,x',rfl,hT,rfl,q1⟩:=hy'
   have c1:=q1 vx hx
   rw[g1]at c1;cases c1
   have fn:=Fr.new (φ:=φ') (o:=.tup [.int i,v1]) hT
   exact⟨fn,M'.same (Same.upd hT),T,_,rfl,M'.fresh hT,upd_same,.int i,_,rfl,rfl,v1,_,rfl,j1.mono fn,rfl⟩
 ·exact k1.elim
def dLZ (m:Bool)(w:DA):De:=fun ρ μ K=>w ρ μ fun ds μ1=>match ds with
 | [x,y]=>opt (lv μ1 x) fun xs=>opt (lv μ1 y) fun ys=>nL m (List.zipWith (fun a b=>D.tup [a,b]) xs ys) μ1 K
 | _=>False
theorem prs_all {φ:List Addr}{H:Hp}{xs ys:List D}{vx vy us:List V}(ax:DAll φ H xs vx)(ay:DAll φ H ys vy)(hu:us.length=min vx.length vy.length)(nφ:∀(T:Addr) (zs:List V),H T=some (.tup zs)->T∉φ)(h:PrsAt H vx vy us):DAll φ H (List.zipWith (fun a b=>D.tup [a,b]) xs ys) us:=by
 have key:∀(ds:List D) (us:List V),ds.length=us.length->(∀(i:Nat) (d:D) (u:V),ds[i]?=some d->us[i]?=some u->DIs φ H d u)->DAll φ H ds us:=by
  intro ds
  induction ds with
  | nil=>intro us hl _;cases us with
   | nil=>rfl
   | cons _ _=>simp at hl
  | cons d ds ih =>
   intro us hl hh
   cases us with
   | nil=>simp at hl
   | cons u us=>exact⟨u,us,rfl,hh 0 d u rfl rfl,ih us (by simpa using hl) fun i d' u' e1 e2=>hh (i+1) d' u' (by simpa using e1) (by simpa using e2)⟩
 refine key _ _ (by rw[List.length_zipWith,hu,ax.len,ay.len]) fun i d u e1 e2=>?_
 obtain⟨T,x,y,rfl,hT,hx,hy⟩:=h i u e2
 obtain⟨dx,ex,ix⟩:=ax.getV hx
 obtain⟨dy,ey,iy⟩:=ay.getV hy
 rw[List.getElem?_zipWith,ex,ey]at e1
 cases e1
 exact⟨T,_,rfl,nφ T _ hT,hT,x,_,rfl,ix,y,_,rfl,iy,rfl⟩
theorem d_listZip (m:Bool){w:DA}{p p2 pos2:Pos}(calm:X.calm=true)(hg:Gl X "list")(hm:X.mg "list"=none)(hg2:Gl X "zip")(hm2:X.mg "zip"=none)(ha:PDA X [a,b] w)(hs:starEach [a,b] X.env=[(false,eval a X.env),(false,eval b X.env)]:=by rfl)(hs2:starEach [b] X.env=[(false,eval b X.env)]:=by rfl)
 (hs3:starEach [.Call (.Name "zip" p2) [a,b] [] pos2] X.env=[(false,eval (.Call (.Name "zip" p2) [a,b] [] pos2) X.env)]:=by rfl) :
 PD X (.Call (.Name "list" p) [.Call (.Name "zip" p2) [a,b] [] pos2] [] pos) (dLZ m w):=by
 intro pins s σ H Q I h
 refine wpAny_Call_Name_kw (ld_blt I hg hm boot_list ?_)
 obtain⟨φ,ρ,μ,K,A,M,k,L⟩:=h
 refine PyProof.Rows.callWith_type1 ?_ hs3 rfl
 rw[hs3]
 show wpAny _ _ (spliced ((false,eval (.Call (.Name "zip" p2) [a,b] [] pos2) X.env)::backTo pos [])) _ _ s
 refine Calls.spliced_cons ?_
 have hq:tDA w σ H (fun vs H1=>match vs with | [.ref a,.ref b]=>∃(xs ys:List V),H1 a=some (.lst xs)/\H1 b=some (.lst ys)/\∀ l us H',H1 l=none->Same H1 H'->H' l=some (.lst us)->us.length=min xs.length ys.length->PrsAt H' xs ys us->Q (.ref l) H' | _=>False):=by
  refine⟨φ,ρ,μ,_,A,M,k,fun ds μ1 φ1 vs H1 k1 f1 M1 i1=>?_⟩
  split at k1
  ·rename_i x y
   obtain⟨xs,ex,k1⟩:=opt_ex k1
   obtain⟨ys,ey,k1⟩:=opt_ex k1
   ·obtain⟨v,r,rfl,h1,u,r',rfl,h2,h3⟩:=i1
    cases(show r'=[]from h3)
    obtain⟨p1,vx,rfl,hp1,ax⟩:=lv_is M1 h1 ex
    obtain⟨p2,vy,rfl,hp2,ay⟩:=lv_is M1 h2 ey
    refine⟨vx,vy,hp1,hp2,fun l us H' hl S' hu len pr=>?_⟩
    have hl':l∉φ1:=M1.fresh hl
    have M2:=M1.same S'
    have f2:Fr φ1 H1 φ1 H':=.same S'
    have nt:∀(T:Addr) (zs:List V),H' T=some (.tup zs)->T∉φ1:=fun T zs e hT=>by
     obtain⟨j,hj,ej⟩:=List.getElem_of_mem hT
     obtain⟨q,e1,e2⟩:=M2.at_ j (μ1[j]'(by have:=M2.len;omega)) (gxA _)
     rw[gxA hj,ej]at e1
     cases e1
     revert e2
     cases μ1[j]'(by have:=M2.len;omega)with
     | box=>rintro⟨q,ns,i,r,z,h1,_⟩;rw[e]at h1;cases h1
     | lst ds=>rintro⟨vs,h1,_⟩;rw[e]at h1;cases h1
     | dic ks ds=>rintro⟨kvs,vs,h1,_⟩;rw[e]at h1;cases h1
     | fdic o kvs ds=>rintro⟨h1,_⟩;rw[e]at h1;cases h1
     | ins C ns ds=>rintro⟨dx,fs,h1,_⟩;rw[e]at h1;cases h1
     | dtu ks ds=>rintro⟨kvs,h1,_⟩;rw[e]at h1;cases h1
    have al:=prs_all (ax.mono f2) (ay.mono f2) len nt pr
    cases m with
    | false=>exact L _ μ1 φ1 _ H' k1 (f1.trans f2) M2 ⟨l,us,rfl,hl',hu,al⟩
    | true =>
     have f3:Fr φ1 H1 (φ1++[l]) H':=⟨(Fr.snoc (φ:=φ1) hl).ext,fun c o _ e=>S' c o e,fun c e=>S'.free e⟩
     have M3:MSis (φ1++[l]) H' (μ1++[.lst (List.zipWith (fun a b=>D.tup [a,b]) xs ys)]):=by
      have nt':∀(T:Addr) (zs:List V),H' T=some (.tup zs)->T∉φ1++[l]:=fun T zs e hT=>by
       rcases List.mem_append.mp hT with q | q
       ·exact nt T zs e q
       ·rw[List.mem_singleton.mp q,hu]at e;cases e
      have al':=prs_all (ax.mono f3) (ay.mono f3) len nt' pr
      refine⟨?_,by rw[gxE,gxE,M1.len];rfl,fun k n e=>?_⟩
      ·rw[List.nodup_append]
       exact⟨M1.nd,by simp,fun a ha b hb=>by rw[List.mem_singleton.mp hb];intro z;exact hl' (by rw[<- z];exact ha)⟩
      ·by_cases hk:k<μ1.length
       ·rw[gxF hk]at e
        obtain⟨q,e1,e2⟩:=M1.at_ k n e
        exact⟨q,f3.get e1,e2.mono f3 fun u eu=>S' _ _ eu⟩
       ·have hk':k=μ1.length:=by
         have:=(gxB e).1
         rw[gxE,List.length_singleton]at this
         omega
        subst hk'
        rw[gxG (Nat.le_refl _),Nat.sub_self]at e
        cases e
        exact⟨l,by rw[gxG (by rw[M1.len];exact Nat.le_refl _),M1.len,Nat.sub_self];rfl,us,hu,al'⟩
     exact L _ _ (φ1++[l]) _ H' k1 (f1.trans f3) M3 ⟨l,by rw[gxG (by rw[M1.len];exact Nat.le_refl _),M1.len,Nat.sub_self];rfl,rfl⟩
  ·exact k1.elim
 refine Call_ (ld_blt I hg2 hm2 boot_zip (PyProof.Rows.callWith_type1 (thn (ha pos2 pins s σ H _ I hq) fun us s1 hq2=>?_) (by rw[hs,hs2]) (by rw[hs2];rfl)))
 obtain⟨vs,H1,I1,r1,q1⟩:=hq2
 try dsimp only at q1
 split at q1
 ·rename_i l1 l2
  obtain⟨xs,ys,h1,h2,q⟩:=q1
  obtain⟨u1,u2,rfl,e1,e2⟩:=r1.two
  cases e1;cases e2
  exact thn (list_zip I1 calm h1 h2 q) fun v s2 hv=>Calls.spliced_nil hv
 ·exact q1.elim
end
theorem Lif.val {φ:List Addr}{H:Hp}{μ:MS}{K:DK}{Q:VK}{d:D}{v:V}(L:Lif φ H K Q)(M:MSis φ H μ)(k:K d μ)(i:DIs φ H d v):Q v H:=L d μ φ v H k (.refl _ _) M i
def dAdd (m:Bool):DOp:=fun x y μ K=>match x,y with
 | .int i,.int j=>K (.int (i+j)) μ
 | .str i,.str j=>i.length+j.length<=sizeLine/\K (.str (i++j)) μ
 | x,y=>opt (lv μ x) fun xs=>opt (lv μ y) fun ys=>xs.length+ys.length<=sizeLine/\nL m (xs++ys) μ K
theorem so_add {m:Bool}:SoOp rAddC (dAdd m):=fun φ H x y dx dy μ K Q M hx hy k L=>by
 unfold dAdd at k
 split at k
 ·cases(show x=_ from hx);cases(show y=_ from hy);exact L.val M k rfl
 ·cases(show x=_ from hx);cases(show y=_ from hy);exact⟨k.1,L.val M k.2 rfl⟩
 ·obtain⟨xs,ex,k⟩:=opt_ex k
  obtain⟨ys,ey,k⟩:=opt_ex k
  obtain⟨p,vx,rfl,hp,ax⟩:=lv_is M hx ex
  obtain⟨q,vy,rfl,hq,ay⟩:=lv_is M hy ey
  exact⟨vx,vy,hp,hq,by rw[ax.len,ay.len];exact k.1,fun l hl=>al_n L M (ax.app ay) k.2 hl⟩
def dI2 (C:Int->Int->Prop)(g:Int->Int->D):DOp:=fun x y μ K=>match x,y with
 | .int i,.int j=>C i j/\K (g i j) μ
 | _,_=>False
def dI2' (g:Int->Int->D):DOp:=fun x y μ K=>match x,y with
 | .int i,.int j=>K (g i j) μ
 | _,_=>False
theorem so_i2 {C:Int->Int->Prop}{g:Int->Int->Int}:SoOp (rI2 C fun i j=>.int (g i j)) (dI2 C fun i j=>.int (g i j)):=fun φ H x y dx dy μ K Q M hx hy k L=>by
 unfold dI2 at k
 split at k
 ·cases(show x=_ from hx);cases(show y=_ from hy);exact⟨k.1,L.val M k.2 rfl⟩
 ·exact k.elim
theorem so_i2' {g:Int->Int->Int}:SoOp (rI2' fun i j=>.int (g i j)) (dI2' fun i j=>.int (g i j)):=fun φ H x y dx dy μ K Q M hx hy k L=>by
 unfold dI2' at k
 split at k
 ·cases(show x=_ from hx);cases(show y=_ from hy);exact L.val M k rfl
 ·exact k.elim
theorem so_b2' {g:Int->Int->Bool}:SoOp (rI2' fun i j=>.bl (g i j)) (dI2' fun i j=>.bl (g i j)):=fun φ H x y dx dy μ K Q M hx hy k L=>by
 unfold dI2' at k
 split at k
 ·cases(show x=_ from hx);cases(show y=_ from hy);exact L.val M k rfl
 ·exact k.elim
def dMul:DOp:=fun x y μ K=>match x,y with
 | .int i,.int j=>CMul i j/\K (.int (i*j)) μ
 | .str z,.int n=>∃ c:Nat,z=⟨#[c]⟩ /\ -1000000<=n/\n<=1000000/\K (.str ⟨(List.replicate n.toNat c).toArray⟩) μ
 | _,_=>False
theorem so_mul:SoOp rMulC dMul:=fun φ H x y dx dy μ K Q M hx hy k L=>by
 unfold dMul at k
 split at k
 ·cases(show x=_ from hx);cases(show y=_ from hy);exact⟨k.1,L.val M k.2 rfl⟩
 ·cases(show x=_ from hx);cases(show y=_ from hy)
  obtain⟨c,rfl,h1,h2,k⟩:=k
  exact⟨c,rfl,h1,h2,L.val M k rfl⟩
 ·exact k.elim
def dEqS (neg:Bool):DOp:=fun x y μ K=>match x,y with
 | .int i,.int j=>K (.bl (neg != decide (i=j))) μ
 | .str i,.str j=>K (.bl (neg != decide (i=j))) μ
 | .bl i,.bl j=>K (.bl (neg != decide (i=j))) μ
 | _,_=>False
theorem so_eqS {neg:Bool}:SoOp (rEqC neg) (dEqS neg):=fun φ H x y dx dy μ K Q M hx hy k L=>by
 unfold dEqS at k
 split at k
 ·cases(show x=_ from hx);cases(show y=_ from hy);exact L.val M k rfl
 ·cases(show x=_ from hx);cases(show y=_ from hy);exact L.val M k rfl
 ·cases(show x=_ from hx);cases(show y=_ from hy);exact L.val M k rfl
 ·exact k.elim
def dIx:DOp:=fun x y μ K=>match x,y with
 | .str z,.int i=>z.length<=sizeLine/\opt (atI z.cps.toList i) fun c=>K (.str ⟨#[c]⟩) μ
 | .tup ds,.int i=>opt (atI ds i) fun d=>K d μ
 | x,.int i=>opt (lv μ x) fun ds=>opt (atI ds i) fun d=>K d μ
 | _,_=>False
theorem DAll.atI {φ:List Addr}{H:Hp}{ds:List D}{vs:List V}{i:Int}{d:D}(h:DAll φ H ds vs)(e:atI ds i=some d):∃ v,atI vs i=some v/\DIs φ H d v:=by
 unfold L2.atI at e ⊢
 rw[h.len]
 cases q:ixN ds.length i with
 | none=>rw[q]at e;cases e
 | some j=>rw[q]at e;exact h.get e
theorem so_ix:SoOp rIxC dIx:=fun φ H x y dx dy μ K Q M hx hy k L=>by
 unfold dIx at k
 split at k
 ·cases(show x=_ from hx);cases(show y=_ from hy)
  obtain⟨c,e,k'⟩:=opt_ex k.2
  exact⟨k.1,opt_of e (L.val M k' rfl)⟩
 ·cases(show y=_ from hy)
  obtain⟨d,e,k⟩:=opt_ex k
  obtain⟨p,vs,rfl,_,hp,ha⟩:=hx
  obtain⟨v,ev,iv⟩:=ha.atI e
  exact⟨vs,.inr hp,opt_of ev (L.val M k iv)⟩
 ·cases(show y=_ from hy)
  obtain⟨ds,el,k⟩:=opt_ex k
  obtain⟨d,e,k⟩:=opt_ex k
  obtain⟨p,vs,rfl,hp,ha⟩:=lv_is M hx el
  obtain⟨v,ev,iv⟩:=ha.atI e
  exact⟨vs,.inl hp,opt_of ev (L.val M k iv)⟩
 ·exact k.elim
abbrev DO:=DE->MS->(Option Int->MS->Prop)->Prop
def tDO (w:DO):TO:=fun σ H Q=>∃ φ ρ μ K,DEnv φ H ρ σ/\MSis φ H μ/\w ρ μ K/\∀ o μ' φ' H',K o μ'->Fr φ H φ' H'->MSis φ' H' μ'->Q o H'
def dNo:DO:=fun _ μ K=>K none μ
def dPart (w:De):DO:=fun ρ μ K=>w ρ μ fun d μ1=>match d with | .int i=>K (some i) μ1 | _=>False
def cutD (ds:List D)(lo hi:Option Int):List D:=(ds.drop (HT.sIx ds.length 0 lo)).take (HT.sIx ds.length ds.length hi - HT.sIx ds.length 0 lo)
def dSlc (m:Bool)(w:De)(l h:DO):De:=fun ρ μ K=>w ρ μ fun x μ1=>l ρ μ1 fun lo μ2=>h ρ μ2 fun hi μ3=>match x with
 | .str z=>z.length<=sizeLine/\K (.str ⟨(cutL z.cps.toList lo hi).toArray⟩) μ3
 | x=>opt (lv μ3 x) fun ds=>nL m (cutD ds lo hi) μ3 K
section
variable {X:Cx}{a b e:Expr}{es:List Expr}{pos:Pos}
theorem PO.imp {e:Option Expr}{t t':TO}(h:PO X e t)(hi:∀ σ H Q,t' σ H Q->t σ H Q):PO X e t':=fun pins s σ H Q I q=>h pins s σ H Q I (hi σ H Q q)
theorem o_no:PO X none (tDO dNo):=po_noC.imp fun σ H Q hq3=>by obtain⟨φ,ρ,μ,K,A,M,k,L⟩:=hq3;exact L none μ φ H k (.refl _ _) M
theorem o_some {w:De}(h:PD X e w):PO X (some e) (tDO (dPart w)):=(po_someC h).imp fun σ H Q ⟨φ,ρ,μ,K,A,M,k,L⟩ =>
 ⟨φ,ρ,μ,_,A,M,k,fun d μ1 φ1 v1 H1 k1 f1 M1 i1=>by
  cases d with
  | int i=>cases(show v1=_ from i1);exact L _ μ1 φ1 H1 k1 f1 M1
  | _=>exact k1.elim⟩
theorem DAll.cut {φ:List Addr}{H:Hp}{ds:List D}{vs:List V}(h:DAll φ H ds vs)(lo hi:Option Int):DAll φ H (cutD ds lo hi) (cutV vs lo hi):=by
 unfold cutD cutV
 rw[h.len]
 exact(h.drop _).take _
theorem d_slice (m:Bool){lo hi:Option Expr}{w:De}{l h:DO}{p:Pos}(ha:PD X a w)(hl:PO X lo (tDO l))(hh:PO X hi (tDO h)):PD X (.Subscript a (.Slice lo hi none p) pos) (dSlc m w l h):=(pe_slice slC ha hl hh).imp fun σ H Q hq=>by
 obtain⟨φ,ρ,μ,K,A,M,k,L⟩:=hq
 refine⟨φ,ρ,μ,_,A,M,k,fun d μ1 φ1 v1 H1 k1 f1 M1 i1=>?_⟩
 refine⟨φ1,ρ,μ1,_,A.mono f1,M1,k1,fun lo μ2 φ2 H2 k2 f2 M2=>?_⟩
 refine⟨φ2,ρ,μ2,_,A.mono (f1.trans f2),M2,k2,fun hi μ3 φ3 H3 k3 f3 M3=>?_⟩
 have i3:=i1.mono (f2.trans f3)
 have L3:=L.mono (f1.trans (f2.trans f3))
 split at k3
 ·cases(show v1=_ from i3);exact⟨k3.1,L3.val M3 k3.2 rfl⟩
 ·obtain⟨ds,el,k⟩:=opt_ex k3
  obtain⟨p,vs,rfl,hp,ha⟩:=lv_is M3 i3 el
  exact⟨vs,hp,fun l hl=>al_n L3 M3 (ha.cut lo hi) k hl⟩
end
def fLen:DSp:=fun ds μ K=>match ds with
 | [.str z]=>z.length<=sizeLine/\K (.int z.length) μ
 | [.tup xs]=>K (.int xs.length) μ
 | [x]=>opt (lv μ x) fun xs=>K (.int xs.length) μ
 | _=>False
theorem so_len:SoCall rLenC fLen:=fun φ H vs ds μ K Q M h k L=>by
 unfold fLen at k
 split at k
 ·obtain⟨v,r,rfl,h1,h2⟩:=h;cases(show r=[]from h2);cases(show v=_ from h1);exact⟨k.1,L.val M k.2 rfl⟩
 ·obtain⟨v,r,rfl,h1,h2⟩:=h;cases(show r=[]from h2)
  obtain⟨p,vs,rfl,_,hp,ha⟩:=h1
  exact⟨vs,.inr hp,by rw[ha.len];exact L.val M k rfl⟩
 ·obtain⟨v,r,rfl,h1,h2⟩:=h;cases(show r=[]from h2)
  obtain⟨xs,el,k⟩:=opt_ex k
  obtain⟨p,vs,rfl,hp,ha⟩:=lv_is M h1 el
  exact⟨vs,.inl hp,by rw[ha.len];exact L.val M k rfl⟩
 ·exact k.elim
def fMax:DSp:=fun ds μ K=>match ds with | [.int i,.int j]=>K (.int (max i j)) μ | _=>False
theorem so_max:SoCall rMaxC fMax:=fun φ H vs ds μ K Q M h k L=>by
 unfold fMax at k
 split at k
 ·obtain⟨v,r,rfl,h1,u,r',rfl,h2,h3⟩:=h;cases(show r'=[]from h3);cases(show v=_ from h1);cases(show u=_ from h2);exact⟨_,_,rfl,L.val M k rfl⟩
 ·exact k.elim
def fMaxL:DSp:=fun ds μ K=>match ds with
 | [x]=>∃ ns:List Int,lv μ x=some (ns.map D.int)/\ns≠[]/\∀ m,m∈ns->(∀ y∈ns,y<=m)->K (.int m) μ
 | _=>False
theorem so_maxL:SoCall rMaxL fMaxL:=fun φ H vs ds μ K Q M h k L=>by
 unfold fMaxL at k
 split at k
 ·obtain⟨v,r,rfl,h1,h2⟩:=h;cases(show r=[]from h2)
  obtain⟨ns,el,hn,k⟩:=k
  obtain⟨p,vs,rfl,hp,ha⟩:=lv_is M h1 el
  exact⟨ns,by rw[hp,ha.ints],hn,fun m a b=>L.val M (k m a b) rfl⟩
 ·exact k.elim
def fAll (g:List Bool->Bool):DSp:=fun ds μ K=>match ds with
 | [x]=>∃ bs:List Bool,lv μ x=some (bs.map D.bl)/\K (.bl (g bs)) μ
 | _=>False
theorem so_all {g:List Bool->Bool}:SoCall (rAllC g) (fAll g):=fun φ H vs ds μ K Q M h k L=>by
 unfold fAll at k
 split at k
 ·obtain⟨v,r,rfl,h1,h2⟩:=h;cases(show r=[]from h2)
  obtain⟨bs,el,k⟩:=k
  obtain⟨p,vs,rfl,hp,ha⟩:=lv_is M h1 el
  exact⟨bs,by rw[hp,ha.bls],L.val M k rfl⟩
 ·exact k.elim
def fList (m:Bool):DSp:=fun ds μ K=>match ds with
 | [x]=>opt (lv μ x) fun xs=>nL m xs μ K
 | _=>False
theorem so_list {Kf:PySem.W.Frag}{m:Bool}:SoCall (rListC Kf) (fList m):=fun φ H vs ds μ K Q M h k L=>by
 unfold fList at k
 split at k
 ·obtain⟨v,r,rfl,h1,h2⟩:=h;cases(show r=[]from h2)
  obtain⟨xs,el,k⟩:=opt_ex k
  obtain⟨p,vs,rfl,hp,ha⟩:=lv_is M h1 el
  exact⟨vs,SqL.of hp,fun l hl=>al_n L M ha k hl⟩
 ·exact k.elim
def fJoin:DMt:=fun d ds μ K=>match d,ds with
 | .str z,[x]=>z.cps=#[]/\∃ ys:List Str,lv μ x=some (ys.map D.str)/\(ys.map (·.length)).sum<=16777216/\K (.str ⟨(ys.map (·.cps.toList)).flatten.toArray⟩) μ
 | _,_=>False
theorem so_join {Kf:PySem.W.Frag}:SoMt Kf "str" rJoinC fJoin:=fun φ H x vs d ds μ K Q M hx h k L=>by
 unfold fJoin at k
 split at k
 ·cases(show x=_ from hx)
  obtain⟨v,r,rfl,h1,h2⟩:=h;cases(show r=[]from h2)
  obtain⟨hz,ys,el,hs,k⟩:=k
  obtain⟨p,vs,rfl,hp,ha⟩:=lv_is M h1 el
  exact⟨hz,ys,by rw[hp,ha.strs],hs,L.val M k rfl⟩
 ·exact k.elim
def fFind:DMt:=fun d ds μ K=>match d,ds with
 | .str z,[.str y,.int i]=>∃ c:Nat,y=⟨#[c]⟩/\0<=i/\i<=z.length/\∀ r,findN z.cps.toList c i.toNat r->K (.int r) μ
 | _,_=>False
theorem so_find {Kf:PySem.W.Frag}:SoMt Kf "str" rFindC fFind:=fun φ H x vs d ds μ K Q M hx h k L=>by
 unfold fFind at k
 split at k
 ·cases(show x=_ from hx)
  obtain⟨v,r,rfl,h1,u,r',rfl,h2,h3⟩:=h;cases(show r'=[]from h3);cases(show v=_ from h1);cases(show u=_ from h2)
  obtain⟨c,rfl,h0,h1,k⟩:=k
  exact⟨_,c,_,rfl,rfl,h0,h1,fun r hr=>L.val M (k r hr) rfl⟩
 ·exact k.elim
theorem mr_at {φ:List Addr}{H:Hp}{μ:MS}{k:Nat}{x:V}{ds:List D}(M:MSis φ H μ)(hx:DIs φ H (.mr k) x)(e:μ[k]?=some (.lst ds)):∃ p vs,x=.ref p/\φ[k]?=some p/\H p=some (.lst vs)/\DAll φ H ds vs:=by
 obtain⟨p,hp,rfl⟩:=hx
 obtain⟨q,e1,vs,hv,ha⟩:=M.at_ k _ e
 rw[hp]at e1;cases e1
 exact⟨p,vs,rfl,hp,hv,ha⟩
theorem mr_put {φ:List Addr}{H:Hp}{μ:MS}{K:DK}{Q:VK}{k:Nat}{p:Addr}{ds:List D}{vs:List V}{d:D}{v:V}(L:Lif φ H K Q)(M:MSis φ H μ)(hp:φ[k]?=some p)(ha:DAll φ H ds vs)(hd:DIs φ H d v)(kk:K d (μ.set k (.lst ds))):Q v (upd H p (.lst vs)):=by
 have f:Fr φ H φ (upd H p (.lst vs)):=.put (gxD hp)
 exact L d _ φ v _ kk f (M.put hp ⟨_,upd_same,ha.mono f⟩) (hd.mono f)
def fAppend:DMt:=fun d ds μ K=>match d,ds with
 | .mr k,[y]=>opt (lvM μ k) fun xs=>xs.length<sizeLine/\K .non (μ.set k (.lst (xs++[y])))
 | _,_=>False
theorem so_append {Kf:PySem.W.Frag}:SoMt Kf "list" rAppendC fAppend:=fun φ H x vs d ds μ K Q M hx h k L=>by
 unfold fAppend at k
 split at k
 ·obtain⟨xs,em,k⟩:=opt_ex k
  ·obtain⟨p,us,rfl,hp,hv,ha⟩:=mr_at M hx (lvM_eq em)
   obtain⟨v,r,rfl,h1,h2⟩:=h;cases(show r=[]from h2)
   exact⟨_,_,us,rfl,rfl,hv,by rw[ha.len];exact k.1,mr_put (d:=.non) (v:=.non) L M hp (ha.app (show DAll φ H [_] [v]from⟨v,[],rfl,h1,rfl⟩)) rfl k.2⟩
 ·exact k.elim
theorem so_ipI {f:Int->Int->Int}:SoIp (ipC f) (dI2' fun i j=>.int (f i j)):=fun φ H x y dx dy μ K Q M hx hy k L=>by
 unfold dI2' at k
 split at k
 ·cases(show x=_ from hx);cases(show y=_ from hy);exact L.val M k rfl
 ·exact k.elim
mutual
def deq:D->D->Bool
 | .non,.non=>true
 | .bl a,.bl b=>a==b
 | .bl a,.int b=>(if a then 1 else 0)==b
 | .int a,.bl b=>a==(if b then 1 else 0)
 | .int a,.int b=>a==b
 | .str a,.str b=>a==b
 | .lst xs,.lst ys=>deqL xs ys
 | .tup xs,.tup ys=>deqL xs ys
 | _,_=>false
def deqL:List D->List D->Bool
 | [],[]=>true
 | x::xs,y::ys=>deq x y&&deqL xs ys
 | _,_=>false
end
mutual
def puD:Nat->D->Prop
 | n+1,.lst ds=>puL n ds
 | n+1,.tup ds=>puL n ds
 | 0,.lst _=>False
 | 0,.tup _=>False
 | _,.dic _ _=>False
 | _,.mr _=>False
 | _,_=>True
def puL:Nat->List D->Prop
 | _,[]=>True
 | n,d::ds=>puD n d/\puL n ds
end
theorem puL_get {n:Nat}:∀ {ds:List D} {i:Nat} {d:D},puL n ds->ds[i]?=some d->puD n d
 | [],_,_,_,e=>by simp at e
 | d::ds,0,d',h,e=>by simp at e;subst e;unfold puL at h;exact h.1
 | d::ds,i+1,d',h,e=>by unfold puL at h;exact puL_get (i:=i) h.2 (by simpa using e)
mutual
theorem deq_same {φ:List Addr}{H:Hp}:∀ {n:Nat} {d e:D} {v:V},puD n d->puD n e->DIs φ H d v->DIs φ H e v->deq d e=true:=fun {n d e v} pd pe hd he=>by
 cases d with
 | non=>cases(show v=_ from hd);cases e with
  | non=>rfl
  | lst _=>obtain⟨_,_,q,_⟩:=he;cases q
  | tup _=>obtain⟨_,_,q,_⟩:=he;cases q
  | dic _ _=>obtain⟨_,_,_,q,_⟩:=he;cases q
  | mr _=>obtain⟨_,_,q⟩:=he;cases q
  | _=>cases(show _=_ from he)
 | bl b=>cases(show v=_ from hd);cases e with
  | bl c=>cases(show _=_ from he);simp[deq]
  | lst _=>obtain⟨_,_,q,_⟩:=he;cases q
  | tup _=>obtain⟨_,_,q,_⟩:=he;cases q
  | dic _ _=>obtain⟨_,_,_,q,_⟩:=he;cases q
  | mr _=>obtain⟨_,_,q⟩:=he;cases q
  | _=>cases(show _=_ from he)
 | int b=>cases(show v=_ from hd);cases e with
  | int c=>cases(show _=_ from he);simp[deq]
  | lst _=>obtain⟨_,_,q,_⟩:=he;cases q
  | tup _=>obtain⟨_,_,q,_⟩:=he;cases q
  | dic _ _=>obtain⟨_,_,_,q,_⟩:=he;cases q
  | mr _=>obtain⟨_,_,q⟩:=he;cases q
  | _=>cases(show _=_ from he)
 | str b=>cases(show v=_ from hd);cases e with
  | str c=>cases(show _=_ from he);simp[deq]
  | lst _=>obtain⟨_,_,q,_⟩:=he;cases q
  | tup _=>obtain⟨_,_,q,_⟩:=he;cases q
  | dic _ _=>obtain⟨_,_,_,q,_⟩:=he;cases q
  | mr _=>obtain⟨_,_,q⟩:=he;cases q
  | _=>cases(show _=_ from he)
 | lst ds =>
  obtain⟨p,vs,rfl,_,hp,ha⟩:=hd
  cases n with
  | zero=>exact absurd pd (by unfold puD;exact id)
  | succ n =>
   cases e with
   | lst es =>
    obtain⟨p',vs',q,_,hp',ha'⟩:=he;cases q
    rw[hp]at hp';cases hp'
    unfold puD at pd pe
    unfold deq
    exact deqL_same pd pe ha ha'
   | tup es=>obtain⟨p',vs',q,_,hp',ha'⟩:=he;cases q;rw[hp]at hp';cases hp'
   | dic _ _=>exact absurd pe (by unfold puD;exact id)
   | mr _=>exact absurd pe (by unfold puD;exact id)
   | _=>cases(show _=_ from he)
 | tup ds =>
  obtain⟨p,vs,rfl,_,hp,ha⟩:=hd
  cases n with
  | zero=>exact absurd pd (by unfold puD;exact id)
  | succ n =>
   cases e with
   | tup es =>
    obtain⟨p',vs',q,_,hp',ha'⟩:=he;cases q
    rw[hp]at hp';cases hp'
    unfold puD at pd pe
    unfold deq
    exact deqL_same pd pe ha ha'
   | lst es=>obtain⟨p',vs',q,_,hp',ha'⟩:=he;cases q;rw[hp]at hp';cases hp'
   | dic _ _=>exact absurd pe (by unfold puD;exact id)
   | mr _=>exact absurd pe (by unfold puD;exact id)
   | _=>cases(show _=_ from he)
 | dic _ _=>exact absurd pd (by cases n <;> (unfold puD;exact id))
 | mr _=>exact absurd pd (by cases n <;> (unfold puD;exact id))
theorem deqL_same {φ:List Addr}{H:Hp}:∀ {n:Nat} {ds es:List D} {vs:List V},puL n ds->puL n es->DAll φ H ds vs->DAll φ H es vs->deqL ds es=true:=fun {n ds es vs} pd pe hd he=>by
 cases ds with
 | nil =>
  cases(show vs=[]from hd)
  cases es with
  | nil=>unfold deqL;rfl
  | cons e es=>obtain⟨_,_,q,_⟩:=he;cases q
 | cons d ds =>
  obtain⟨v,r,rfl,h1,h2⟩:=hd
  cases es with
  | nil=>cases(show _=_ from he)
  | cons e es =>
   obtain⟨v',r',q,h3,h4⟩:=he
   cases q
   unfold puL at pd pe
   unfold deqL
   rw[deq_same pd.1 pe.1 h1 h3,deqL_same pd.2 pe.2 h2 h4]
   rfl
end
theorem deqL_len:∀ {ds es:List D},ds.length≠es.length->deqL ds es=false
 | [],[],h=>absurd rfl h
 | [],_::_,_=>by unfold deqL;rfl
 | _::_,[],_=>by unfold deqL;rfl
 | d::ds,e::es,h=>by unfold deqL;rw[deqL_len (ds:=ds) (es:=es) (by simpa using h),Bool.and_false]
def atEq (ds es:List D)(j:Nat):Bool:=match ds[j]?,es[j]? with | some a,some b=>deq a b | _,_=>true
theorem range_succ_all (n:Nat)(f:Nat->Bool):(List.range (n+1)).all f=(f 0&&(List.range n).all fun j=>f (j+1)):=by
 rw[List.range_succ_eq_map,List.all_cons,List.all_map];rfl
theorem deqL_range:∀(ds es:List D),ds.length=es.length->(List.range ds.length).all (atEq ds es)=deqL ds es
 | [],[],_=>by unfold deqL;rfl
 | [],_::_,h=>by simp at h
 | _::_,[],h=>by simp at h
 | d::ds,e::es,h=>by
  rw[List.length_cons,range_succ_all]
  unfold deqL
  have ih:=deqL_range ds es (by simpa using h)
  have e1:(fun j=>atEq (d::ds) (e::es) (j+1))=atEq ds es:=by funext j;unfold atEq;simp
  rw[e1,ih]
  rfl
section
variable {X:Cx}{pins:List (Addr×Obj)}{σ:St}{H:Hp}{s:Shared}{φ:List Addr}
theorem val_at {xs:List V}{us:List Value}(r:Vals xs us){j:Nat}(h1:j<us.toArray.size):∃ x,xs[j]?=some x/\RelV x us.toArray[j]:=by
 have hj:j<us.length:=by rwa [List.size_toArray]at h1
 have hx:j<xs.length:=by rw[r.length];exact hj
 obtain⟨u,eu,ru⟩:=r.get (gxA hx)
 refine⟨_,gxA hx,?_⟩
 have:us.toArray[j]=u:=by have:=gxB eu;simpa using this.2
 rw[this];exact ru
theorem seq_of (I:Inv X pins σ H s){d:D}{x:V}{u:Value}{n:Nat}(pd:puD n d)(hd:DIs φ H d x)(ru:RelV x u):(∀ p,u≠.ref p)\/∃ p its ds vs,u=.ref p/\Vals vs its/\DAll φ H ds vs/\∃ m,n=m+1/\puL m ds/\((d=.lst ds/\s.heap.IsList p its.toArray)\/(d=.tup ds/\s.heap.IsTuple p its.toArray)):=by
 cases d with
 | non=>cases(show x=_ from hd);cases ru;exact .inl fun p q=>by cases q
 | bl b=>cases(show x=_ from hd);cases ru;exact .inl fun p q=>by cases q
 | int b=>cases(show x=_ from hd);obtain⟨t,rfl⟩:=ru;exact .inl fun p q=>by cases q
 | str b=>cases(show x=_ from hd);obtain⟨t,rfl⟩:=ru;exact .inl fun p q=>by cases q
 | lst ds =>
  obtain⟨p,vs,rfl,_,hp,ha⟩:=hd
  cases ru
  obtain⟨_,its,k,r,_,ho⟩:=I.lstM hp
  cases n with
  | zero=>exact absurd pd (by unfold puD;exact id)
  | succ n=>exact .inr ⟨p,its,ds,vs,rfl,r,ha,n,rfl,(by unfold puD at pd;exact pd),.inl ⟨rfl,⟨_,ho,rfl,k,rfl⟩⟩⟩
 | tup ds =>
  obtain⟨p,vs,rfl,_,hp,ha⟩:=hd
  cases ru
  obtain⟨_,its,r,ho⟩:=(show ObjOk X.prog X.w H s.heap p (.tup vs)from I.hok p _ hp)
  cases n with
  | zero=>exact absurd pd (by unfold puD;exact id)
  | succ n=>exact .inr ⟨p,its,ds,vs,rfl,r,ha,n,rfl,(by unfold puD at pd;exact pd),.inr ⟨rfl,ho⟩⟩
 | dic _ _=>exact absurd pd (by cases n <;> (unfold puD;exact id))
 | mr _=>exact absurd pd (by cases n <;> (unfold puD;exact id))
theorem flat_of {n:Nat}{d:D}{x:V}(pd:puD n d)(hd:DIs φ H d x)(fx:flatV x=true):(d=.non/\x=.non)\/(∃ b,d=.bl b/\x=.bl b)\/(∃ b,d=.int b/\x=.int b)\/∃ b,d=.str b/\x=.str b:=by
 cases d with
 | non=>exact .inl ⟨rfl,hd⟩
 | bl b=>exact .inr (.inl ⟨b,rfl,hd⟩)
 | int b=>exact .inr (.inr (.inl ⟨b,rfl,hd⟩))
 | str b=>exact .inr (.inr (.inr ⟨b,rfl,hd⟩))
 | lst ds=>obtain⟨p,vs,rfl,_⟩:=hd;cases fx
 | tup ds=>obtain⟨p,vs,rfl,_⟩:=hd;cases fx
 | dic _ _=>exact absurd pd (by cases n <;> (unfold puD;exact id))
 | mr _=>exact absurd pd (by cases n <;> (unfold puD;exact id))
theorem rc_seq (I:Inv X pins σ H s)(n:Nat)(A:Around)(ds es:List D)(vs ws:List V)(its jts:List Value)(p q:Addr)(hu:A.units<cLine)
 (ih:∀(d e:D) (x y:V) (u v:Value),puD n d->puD n e->DIs φ H d x->DIs φ H e y->RelV x u->RelV y v->SeqAt.EqAt A.in1 s u v (deq d e)) (pd:puL n ds) (pe:puL n es) (hd:DAll φ H ds vs) (he:DAll φ H es ws) (rv:Vals vs its) (rw':Vals ws jts) :
 (s.heap.IsList p its.toArray->s.heap.IsList q jts.toArray->SeqAt.RcAt A s (.ref p) (.ref q) (deqL ds es))/\(s.heap.IsTuple p its.toArray->s.heap.IsTuple q jts.toArray->SeqAt.RcAt A s (.ref p) (.ref q) (deqL ds es)):=by
 have l1:its.toArray.size=ds.length:=by rw[List.size_toArray,<- rv.length,hd.len]
 have l2:jts.toArray.size=es.length:=by rw[List.size_toArray,<- rw'.length,he.len]
 have el:∀ j (h1:j<its.toArray.size) (h2:j<jts.toArray.size),SeqAt.EqAt A.in1 s its.toArray[j] jts.toArray[j] (atEq ds es j):=fun j h1 h2=>by
  obtain⟨x,ex,rx⟩:=val_at rv h1
  obtain⟨y,ey,ry⟩:=val_at rw' h2
  obtain⟨d,ed,id'⟩:=hd.getV ex
  obtain⟨e,ee,ie⟩:=he.getV ey
  have q:atEq ds es j=deq d e:=by unfold atEq;rw[ed,ee]
  rw[q]
  exact ih d e x y _ _ (puL_get pd ed) (puL_get pe ee) id' ie rx ry
 constructor
 ·intro hl hq
  by_cases hlen:ds.length=es.length
  ·have:=SeqAt.RcAt.lists hl hq (by rw[l1,l2,hlen]) hu el
   rw[l1,deqL_range ds es hlen]at this
   exact this
  ·rw[deqL_len hlen]
   exact SeqAt.RcAt.lists_lengths hl hq (by rw[l1,l2];simpa using hlen) hu
 ·intro hl hq
  have:=SeqAt.RcAt.tuples hl hq hu el
  rw[l1,l2]at this
  by_cases hlen:ds.length=es.length
  ·rw[<- hlen,Nat.min_self,deqL_range ds es hlen]at this
   simpa using this
  ·rw[deqL_len hlen]
   have e0:(ds.length==es.length)=false:=by simpa using hlen
   rw[e0,Bool.and_false]at this
   exact this
theorem eqAt_D (I:Inv X pins σ H s):∀(n:Nat) (A:Around) (d e:D) (x y:V) (u v:Value),A.units+n<cLine->puD n d->puD n e->DIs φ H d x->DIs φ H e y->RelV x u->RelV y v->SeqAt.EqAt A s u v (deq d e):=by
 intro n
 induction n with
 | zero =>
  intro A d e x y u v hu pd pe hd he ru rv
  have fl:∀ {d:D} {x:V},puD 0 d->DIs φ H d x->flatV x=true:=fun {d x} pd hd=>by
   cases d with
   | non=>cases(show x=_ from hd);rfl
   | bl b=>cases(show x=_ from hd);rfl
   | int b=>cases(show x=_ from hd);rfl
   | str b=>cases(show x=_ from hd);rfl
   | _=>exact absurd pd (by unfold puD;exact id)
  have q:=eqAt_V (A:=A) (s:=s) ru rv (fl pd hd) (fl pe he)
  have eq:eqV x y=deq d e:=by
   cases d <;> first
    | exact absurd pd (by unfold puD;exact id)
    | (cases(show x=_ from hd)
       cases e <;> first
        | exact absurd pe (by unfold puD;exact id)
        | (cases(show y=_ from he);unfold eqV deq;rfl))
  rw[eq]at q
  exact q
 | succ n ih =>
  intro A d e x y u v hu pd pe hd he ru rv
  have hu0:A.units<cLine:=by omega
  have hu1:A.in1.units+n<cLine:=by show A.units+1+n<cLine;omega
  rcases seq_of I pd hd ru with fd | ⟨p,its,ds,vs,rfl,r1,a1,m1,e1,p1,k1⟩
  ·rcases seq_of I pe he rv with fe | ⟨q,jts,es,ws,rfl,r2,a2,m2,e2,p2,k2⟩
   ·have fl:∀ {d:D} {x:V} {u:Value},puD (n+1) d->DIs φ H d x->RelV x u->(∀ p,u≠.ref p)->flatV x=true:=fun {d x u} pd hd ru fu=>by
     cases d with
     | non=>cases(show x=_ from hd);rfl
     | bl b=>cases(show x=_ from hd);rfl
     | int b=>cases(show x=_ from hd);rfl
     | str b=>cases(show x=_ from hd);rfl
     | lst ds=>obtain⟨p,vs,rfl,_⟩:=hd;cases ru;exact absurd rfl (fu p)
     | tup ds=>obtain⟨p,vs,rfl,_⟩:=hd;cases ru;exact absurd rfl (fu p)
     | _=>exact absurd pd (by unfold puD;exact id)
    have fx:=fl pd hd ru fd
    have fy:=fl pe he rv fe
    have q:=eqAt_V (A:=A) (s:=s) ru rv fx fy
    have eq:eqV x y=deq d e:=by
     rcases flat_of pd hd fx with⟨rfl,rfl⟩ | ⟨b,rfl,rfl⟩ | ⟨b,rfl,rfl⟩ | ⟨b,rfl,rfl⟩<;>
     rcases flat_of pe he fy with⟨rfl,rfl⟩ | ⟨c,rfl,rfl⟩ | ⟨c,rfl,rfl⟩ | ⟨c,rfl,rfl⟩<;> (unfold eqV deq;rfl)
    rw[eq]at q
    exact q
   ·rcases k2 with⟨rfl,hl⟩ | ⟨rfl,hl⟩
    ·cases d with
     | non=>cases(show x=_ from hd);cases ru;exact SeqAt.EqAt.none_list hl hu0
     | bl b=>cases(show x=_ from hd);cases ru;exact SeqAt.EqAt.bool_list b hl hu0
     | int b=>cases(show x=_ from hd);obtain⟨t,rfl⟩:=ru;exact SeqAt.EqAt.int_list b t hl hu0
     | str b=>cases(show x=_ from hd);obtain⟨t,rfl⟩:=ru;exact SeqAt.EqAt.str_list b t hl hu0
     | lst _=>obtain⟨_,_,rfl,_⟩:=hd;cases ru;exact absurd rfl (fd _)
     | tup _=>obtain⟨_,_,rfl,_⟩:=hd;cases ru;exact absurd rfl (fd _)
     | _=>exact absurd pd (by unfold puD;exact id)
    ·cases d with
     | non=>cases(show x=_ from hd);cases ru;exact SeqAt.EqAt.none_tuple hl hu0
     | bl b=>cases(show x=_ from hd);cases ru;exact SeqAt.EqAt.bool_tuple b hl hu0
     | int b=>cases(show x=_ from hd);obtain⟨t,rfl⟩:=ru;exact SeqAt.EqAt.int_tuple b t hl hu0
     | str b=>cases(show x=_ from hd);obtain⟨t,rfl⟩:=ru;exact SeqAt.EqAt.str_tuple b t hl hu0
     | lst _=>obtain⟨_,_,rfl,_⟩:=hd;cases ru;exact absurd rfl (fd _)
     | tup _=>obtain⟨_,_,rfl,_⟩:=hd;cases ru;exact absurd rfl (fd _)
     | _=>exact absurd pd (by unfold puD;exact id)
  ·rcases seq_of I pe he rv with fe | ⟨q,jts,es,ws,rfl,r2,a2,m2,e2,p2,k2⟩
   ·rcases k1 with⟨rfl,hl⟩ | ⟨rfl,hl⟩
    ·cases e with
     | non=>cases(show y=_ from he);cases rv;exact SeqAt.EqAt.list_none hl hu0
     | bl b=>cases(show y=_ from he);cases rv;exact SeqAt.EqAt.list_bool b hl hu0
     | int b=>cases(show y=_ from he);obtain⟨t,rfl⟩:=rv;exact SeqAt.EqAt.list_int b t hl hu0
     | str b=>cases(show y=_ from he);obtain⟨t,rfl⟩:=rv;exact SeqAt.EqAt.list_str b t hl hu0
     | lst _=>obtain⟨_,_,rfl,_⟩:=he;cases rv;exact absurd rfl (fe _)
     | tup _=>obtain⟨_,_,rfl,_⟩:=he;cases rv;exact absurd rfl (fe _)
     | _=>exact absurd pe (by unfold puD;exact id)
    ·cases e with
     | non=>cases(show y=_ from he);cases rv;exact SeqAt.EqAt.tuple_none hl hu0
     | bl b=>cases(show y=_ from he);cases rv;exact SeqAt.EqAt.tuple_bool b hl hu0
     | int b=>cases(show y=_ from he);obtain⟨t,rfl⟩:=rv;exact SeqAt.EqAt.tuple_int b t hl hu0
     | str b=>cases(show y=_ from he);obtain⟨t,rfl⟩:=rv;exact SeqAt.EqAt.tuple_str b t hl hu0
     | lst _=>obtain⟨_,_,rfl,_⟩:=he;cases rv;exact absurd rfl (fe _)
     | tup _=>obtain⟨_,_,rfl,_⟩:=he;cases rv;exact absurd rfl (fe _)
     | _=>exact absurd pe (by unfold puD;exact id)
   ·cases e1;cases e2
    have rc:=rc_seq I n A ds es vs ws its jts p q hu0 (fun d e x y u v a b c d' e' f'=>ih A.in1 d e x y u v hu1 a b c d' e' f') p1 p2 a1 a2 r1 r2
    by_cases hpq:p=q
    ·subst hpq
     have hv:x=y:=ru.inj rv
     subst hv
     rw[deq_same pd pe hd he]
     exact SeqAt.EqAt.same _
    ·rcases k1 with⟨rfl,hl⟩ | ⟨rfl,hl⟩<;> rcases k2 with⟨rfl,hl2⟩ | ⟨rfl,hl2⟩
     ·unfold deq;exact .of_refs hpq (rc.1 hl hl2)
     ·unfold deq;exact SeqAt.EqAt.list_tuple hl hl2 hu0
     ·unfold deq;exact SeqAt.EqAt.tuple_list hl hl2 hu0
     ·unfold deq;exact .of_refs hpq (rc.2 hl hl2)
end
end L2
namespace L2
open PySem PySem.Spec PyProof.Rows
section
variable {X:Cx}
def sqs:D->D->Option (List D×List D)
 | .lst xs,.lst ys=>some (xs,ys)
 | .tup xs,.tup ys=>some (xs,ys)
 | _,_=>none
def rDeq (n:Nat)(neg:Bool):R2:=fun x y H Q=>∃ φ d e,puD n d/\puD n e/\DIs φ H d x/\DIs φ H e y/\(sqs d e).isSome=true/\Q (.bl (neg != deq d e)) H
theorem two_seq {pins:List (Addr×Obj)}{s:Shared}{σ:St}{H:Hp}{φ:List Addr}{n:Nat}{d e:D}{x y:V}{u v:Value}(I:Inv X pins σ H s)(pd:puD n d)(pe:puD n e)(hd:DIs φ H d x)(he:DIs φ H e y)(rx:RelV x u)(ry:RelV y v)(hs:(sqs d e).isSome=true) :
 ∃ p q its jts ds es vs ws m,u=.ref p/\v=.ref q/\n=m+1/\Vals vs its/\Vals ws jts/\DAll φ H ds vs/\DAll φ H es ws/\puL m ds/\puL m es/\((d=.lst ds/\e=.lst es/\s.heap.IsList p its.toArray/\s.heap.IsList q jts.toArray)\/(d=.tup ds/\e=.tup es/\s.heap.IsTuple p its.toArray/\s.heap.IsTuple q jts.toArray)):=by
 rcases seq_of I pd hd rx with fd | ⟨p,its,ds,vs,rfl,r1,a1,m1,e1,p1,k1⟩
 ·cases d with
  | lst _=>obtain⟨_,_,rfl,_⟩:=hd;cases rx;exact absurd rfl (fd _)
  | tup _=>obtain⟨_,_,rfl,_⟩:=hd;cases rx;exact absurd rfl (fd _)
  | _=>cases hs
 ·rcases seq_of I pe he ry with fe | ⟨q',jts,es,ws,rfl,r2,a2,m2,e2,p2,k2⟩
  ·cases e with
   | lst _=>obtain⟨_,_,rfl,_⟩:=he;cases ry;exact absurd rfl (fe _)
   | tup _=>obtain⟨_,_,rfl,_⟩:=he;cases ry;exact absurd rfl (fe _)
   | _=>cases d <;> cases hs
  ·subst e1
   cases e2
   refine⟨p,q',its,jts,ds,es,vs,ws,m1,rfl,rfl,rfl,r1,r2,a1,a2,p1,p2,?_⟩
   rcases k1 with⟨rfl,hl⟩ | ⟨rfl,hl⟩<;> rcases k2 with⟨rfl,hl2⟩ | ⟨rfl,hl2⟩
   ·exact .inl ⟨rfl,rfl,hl,hl2⟩
   ·cases hs
   ·cases hs
   ·exact .inr ⟨rfl,rfl,hl,hl2⟩
theorem eqDeep {n:Nat}(hu:X.A.units+n<cLine):OpR X (compareOp .Eq) (rDeq n false):=by
 intro pins s σ H x y u v Q I rx ry h
 obtain⟨φ,d,e,pd,pe,hd,he,hs,q⟩:=h
 obtain⟨p,q',its,jts,ds,es,vs,ws,m1,rfl,rfl,rfl,r1,r2,a1,a2,p1,p2,kk⟩:=two_seq I pd pe hd he rx ry hs
 have rc:=rc_seq I m1 X.A ds es vs ws its jts p q' (by omega) (fun d e x y u v a b c d' e' f'=>eqAt_D I m1 X.A.in1 d e x y u v (by show X.A.units+1+m1<cLine;omega) a b c d' e' f') p1 p2 a1 a2 r1 r2
 rcases kk with⟨rfl,rfl,hl,hl2⟩ | ⟨rfl,rfl,hl,hl2⟩
 ·unfold deq at q;exact rc.1 hl hl2 X.prog X.w X.xe _ ⟨.bl _,H,I,rfl,by rw[fne]at q;exact q⟩
 ·unfold deq at q;exact rc.2 hl hl2 X.prog X.w X.xe _ ⟨.bl _,H,I,rfl,by rw[fne]at q;exact q⟩
theorem neDeep {n:Nat}(hu:X.A.units+n<cLine):OpR X (compareOp .NotEq) (rDeq n true):=by
 intro pins s σ H x y u v Q I rx ry h
 obtain⟨φ,d,e,pd,pe,hd,he,hs,q⟩:=h
 obtain⟨p,q',its,jts,ds,es,vs,ws,m1,rfl,rfl,rfl,r1,r2,a1,a2,p1,p2,kk⟩:=two_seq I pd pe hd he rx ry hs
 have l1:its.toArray.size=ds.length:=by rw[List.size_toArray,<- r1.length,a1.len]
 have l2:jts.toArray.size=es.length:=by rw[List.size_toArray,<- r2.length,a2.len]
 have el:∀ j (h1:j<its.toArray.size) (h2:j<jts.toArray.size),SeqAt.EqAt X.A.in1 s its.toArray[j] jts.toArray[j] (atEq ds es j):=fun j h1 h2=>by
  obtain⟨x,ex,rx⟩:=val_at r1 h1
  obtain⟨y,ey,ry⟩:=val_at r2 h2
  obtain⟨d,ed,id'⟩:=a1.getV ex
  obtain⟨e,ee,ie⟩:=a2.getV ey
  have q:atEq ds es j=deq d e:=by unfold atEq;rw[ed,ee]
  rw[q]
  exact eqAt_D I m1 X.A.in1 d e x y _ _ (by show X.A.units+1+m1<cLine;omega) (puL_get p1 ed) (puL_get p2 ee) id' ie rx ry
 have fin:Q (.bl (!deqL ds es)) H->EP X pins σ Q (.bool (!deqL ds es)) s:=fun q=>⟨.bl _,H,I,rfl,q⟩
 rcases kk with⟨rfl,rfl,hl,hl2⟩ | ⟨rfl,rfl,hl,hl2⟩
 ·unfold deq at q
  rw[tne]at q
  by_cases hlen:ds.length=es.length
  ·have:=SeqAt.RcNeAt.lists hl hl2 (by rw[l1,l2,hlen]) (by omega) el
   rw[l1,deqL_range ds es hlen]at this
   exact this X.prog X.w X.xe _ (fin q)
  ·have t:=fin q
   rw[deqL_len hlen]at t
   exact SeqAt.RcNeAt.lists_lengths hl hl2 (by rw[l1,l2];simpa using hlen) (by omega) X.prog X.w X.xe _ t
 ·unfold deq at q
  rw[tne]at q
  have this:=SeqAt.RcNeAt.tuples hl hl2 (by omega) el
  rw[l1,l2]at this
  by_cases hlen:ds.length=es.length
  ·rw[<- hlen,Nat.min_self,deqL_range ds es hlen]at this
   exact this X.prog X.w X.xe _ (by simpa using fin q)
  ·have t:=fin q
   rw[deqL_len hlen]at t
   have e0:(ds.length==es.length)=false:=by simpa using hlen
   rw[e0,Bool.and_false]at this
   exact this X.prog X.w X.xe _ t
def dEqD (n:Nat)(neg:Bool):DOp:=fun x y μ K=>puD n x/\puD n y/\(sqs x y).isSome=true/\K (.bl (neg != deq x y)) μ
theorem so_eqD {n:Nat}{neg:Bool}:SoOp (rDeq n neg) (dEqD n neg):=fun φ H x y dx dy μ K Q M hx hy k L=>⟨φ,dx,dy,k.1,k.2.1,hx,hy,k.2.2.1,L.val M k.2.2.2 rfl⟩
end
mutual
theorem deq_rfl:∀(d:D) (n:Nat),puD n d->deq d d=true
 | .non,_,_=>by unfold deq;rfl
 | .bl _,_,_=>by simp[deq]
 | .int _,_,_=>by simp[deq]
 | .str _,_,_=>by simp[deq]
 | .lst ds,0,h=>absurd h (by unfold puD;exact id)
 | .lst ds,n+1,h=>by unfold puD at h;unfold deq;exact deqL_rfl ds n h
 | .tup ds,0,h=>absurd h (by unfold puD;exact id)
 | .tup ds,n+1,h=>by unfold puD at h;unfold deq;exact deqL_rfl ds n h
 | .dic _ _,n,h=>absurd h (by cases n <;> (unfold puD;exact id))
 | .mr _,n,h=>absurd h (by cases n <;> (unfold puD;exact id))
theorem deqL_rfl:∀(ds:List D) (n:Nat),puL n ds->deqL ds ds=true
 | [],_,_=>by unfold deqL;rfl
 | d::ds,n,h=>by unfold puL at h;unfold deqL;rw[deq_rfl d n h.1,deqL_rfl ds n h.2];rfl
end
def fltD:D->Bool
 | .non=>true
 | .bl _=>true
 | .int _=>true
 | .str _=>true
 | _=>false
section
variable {X:Cx}
def rInC (neg:Bool):R2:=fun x y H Q=>match x,y with
 | .str z,.str t=>∃ c:Nat,z=⟨#[c]⟩/\Q (.bl (neg != decide (c∈t.cps.toList))) H
 | x,.ref p=>∃ xs,(H p=some (.lst xs)\/H p=some (.tup xs))/\flatV x=true/\xs.all flatV=true/\Q (.bl (neg != inV x xs)) H
 | _,_=>False
theorem inC:OpR X (compareOp .In) (rInC false):=(op_in_str.or op_in_seq).imp fun x y H Q q=>by
 unfold rInC at q
 split at q
 ·obtain⟨c,rfl,q⟩:=q
  exact .inl ⟨_,_,rfl,rfl,by rw[StrLaws.found_one];rw[fne]at q;exact q⟩
 ·obtain⟨xs,h,h1,h2,q⟩:=q
  rw[fne]at q
  rcases h with h | h
  ·exact .inr ⟨_,xs,rfl,.inl (SqL.of h),h1,h2,q⟩
  ·exact .inr ⟨_,xs,rfl,.inr (SqT.of h),h1,h2,q⟩
 ·exact q.elim
end
def dIn (neg:Bool):DOp:=fun x y μ K=>match x,y with
 | .str z,.str t=>∃ c:Nat,z=⟨#[c]⟩/\K (.bl (neg != decide (c∈t.cps.toList))) μ
 | x,y=>opt (lv μ y) fun ds=>fltD x=true/\ds.all fltD=true/\K (.bl (neg != ds.any fun d=>deq d x)) μ
theorem flt_is {φ:List Addr}{H:Hp}{d:D}{v:V}(i:DIs φ H d v)(h:fltD d=true):flatV v=true:=by
 cases d <;> first | exact(Bool.noConfusion (show false=true from h)) | (cases(show v=_ from i);rfl)
theorem flt_eq {φ:List Addr}{H:Hp}{d e:D}{v u:V}(i:DIs φ H d v)(j:DIs φ H e u)(h:fltD d=true)(h':fltD e=true):eqV v u=deq d e:=by
 cases d <;> first
  | exact(Bool.noConfusion (show false=true from h))
  | (cases(show v=_ from i)
     cases e <;> first
      | exact(Bool.noConfusion (show false=true from h'))
      | (cases(show u=_ from j);unfold eqV deq;rfl))
theorem flt_all {φ:List Addr}{H:Hp}{x:D}{v:V}(i:DIs φ H x v)(hx:fltD x=true):∀ {ds:List D} {vs:List V},DAll φ H ds vs->ds.all fltD=true->vs.all flatV=true/\inV v vs=ds.any fun d=>deq d x
 | [],_,h,_=>by cases(show _=[]from h);exact⟨rfl,rfl⟩
 | d::ds,_,h,f=>by
  obtain⟨u,r,rfl,h1,h2⟩:=h
  rw[List.all_cons,Bool.and_eq_true]at f
  obtain⟨a,b⟩:=flt_all i hx h2 f.2
  unfold inV at b ⊢
  rw[List.all_cons,List.any_cons,List.any_cons,a,b,flt_is h1 f.1,flt_eq h1 i f.1 hx]
  exact⟨rfl,rfl⟩
theorem so_in {neg:Bool}:SoOp (rInC neg) (dIn neg):=fun φ H x y dx dy μ K Q M hx hy k L=>by
 unfold dIn at k
 split at k
 ·cases(show x=_ from hx);cases(show y=_ from hy)
  obtain⟨c,rfl,k⟩:=k
  exact⟨c,rfl,L.val M k rfl⟩
 ·obtain⟨ds,el,f1,f2,k⟩:=opt_ex k
  obtain⟨p,vs,rfl,hp,ha⟩:=lv_is M hy el
  obtain⟨a,b⟩:=flt_all hx f1 ha f2
  have fx:=flt_is hx f1
  have key:∃ xs,(H p=some (.lst xs)\/H p=some (.tup xs))/\flatV x=true/\xs.all flatV=true/\Q (.bl (neg != inV x xs)) H:=⟨vs,.inl hp,fx,a,by rw[b];exact L.val M k rfl⟩
  unfold rInC
  cases x <;> exact key
theorem range_any (bs:List Bool):(List.range bs.length).any (fun i=>bs.getD i false)=bs.any id:=by
 rw[Bool.eq_iff_iff,List.any_eq_true,List.any_eq_true]
 constructor
 ·rintro⟨i,hi,e⟩
  have hi':i<bs.length:=by simpa using hi
  rw[List.getD_eq_getElem?_getD,gxA hi']at e
  exact⟨_,List.getElem_mem hi',e⟩
 ·rintro⟨b,hb,e⟩
  obtain⟨i,hi,e2⟩:=List.getElem_of_mem hb
  refine⟨i,by simpa using hi,?_⟩
  rw[List.getD_eq_getElem?_getD,gxA hi,e2]
  exact e
theorem anyC {X:Cx}(hc:X.calm=true):CallR X (.builtin "any") (rAllC fun bs=>bs.any id):=by
 intro pins s σ H vs us Q I rv h
 unfold rAllC at h
 split at h
 ·rename_i p
  obtain⟨bs,hp,q⟩:=h
  obtain⟨u,rfl,ru⟩:=rv.one
  cases ru
  obtain⟨z,its,n,r,hl,e⟩:=I.lstM hp
  have isl:s.heap.IsList p its.toArray:=⟨_,e,rfl,n,rfl⟩
  have lt:p≠s.heap.objs.size:=Nat.ne_of_lt (gxN e)
  refine call_any_walk (wpAny_pyIter_list isl ⟨_,_,_,_,_,_,fun i=>bs.getD i false,rfl,Walks.list (A:=X.A.in1) (I.ok.hd hc) s.heap.objs.size p lt its.toArray,⟨⟨_,Heap.get?_push_size _ rfl,rfl,rfl⟩,isl.push _⟩,?_,fun h' tk kp=>?_⟩)
  ·intro i v s' Q' E' hv hq
   have hv':its[i]?=some v:=by simpa using hv
   have hb:∃ b,bs[i]?=some b/\v=.bool b:=by
    cases eb:(bs.map V.bl)[i]? with
    | none=>have:=r.none_of eb;rw[hv']at this;cases this
    | some y =>
     obtain⟨u,hu,ry⟩:=r.get eb
     rw[hv']at hu;cases hu
     rw[gxH]at eb
     cases e2:bs[i]? with
     | none=>rw[e2]at eb;cases eb
     | some b=>rw[e2]at eb;cases eb;exact⟨b,rfl,ry⟩
   obtain⟨b,eb,rfl⟩:=hb
   have e3:bs.getD i false=b:=by rw[List.getD_eq_getElem?_getD,eb];rfl
   have hq':Q' (bs.getD i false) s':=hq
   rw[e3]at hq'
   exact wpAny_truthy_bool hq'
  ·have I2:Inv X pins σ H { s with heap:=h',toks:=tk}:=I.kept fun b o e'=>kp b o (by simpa using Nat.ne_of_lt (gxN e')) (gxL _ e')
   have len:its.toArray.size=bs.length:=by rw[List.size_toArray,<- hl,gxC]
   rw[len,range_any]
   exact⟨.bl _,H,I2,rfl,q⟩
 ·exact h.elim
end L2
namespace L2
open PySem PySem.Spec PyProof.Rows
def BxQ (H:Hp)(b q:Addr):Prop:=∃(ns:List Int) (i r z:Int),H b=some (.lst [.ref q,.int i,.int r,.int z])/\H q=some (.lst (ns.map V.int))/\q≠b/\0<=i/\0<=z/\z<2147483647
def spTakeQ:Sp:=fun vs H Q _=>match vs with
 | [.ref b,.int n]=>∃ q,BxQ H b q/\0<n/\n<1073741824/\∀ v H',0<=v->v<n->BxQ H' b q->OB b H H'->Q (.int v) H'
 | _=>False
theorem spTakeQ_inv {vs:List V}{H:Hp}{Q:VK}{E:XK}(h:spTakeQ vs H Q E):∃ b n q,vs=[.ref b,.int n]/\BxQ H b q/\0<n/\n<1073741824/\∀ v H',0<=v->v<n->BxQ H' b q->OB b H H'->Q (.int v) H':=by
 unfold spTakeQ at h
 split at h
 ·obtain⟨q,h⟩:=h;exact⟨_,_,q,rfl,h⟩
 ·exact h.elim
def fTake:DSp:=fun ds μ K=>match ds with
 | [.mr k,.int n]=>μ[k]?=some .box/\0<n/\n<1073741824/\∀ v,0<=v->v<n->K (.int v) μ
 | _=>False
theorem take_imp {vs:List V}{H:Hp}{Q:VK}{E:XK}(h:spD fTake vs H Q E):spTakeQ vs H Q E:=by
 obtain⟨φ,ds,μ,K,ha,M,k,L⟩:=h
 unfold fTake at k
 split at k
 ·rename_i kk n
  obtain⟨v,r,rfl,h1,u,r',rfl,h2,h3⟩:=ha
  cases(show r'=[]from h3);cases(show u=_ from h2)
  obtain⟨b,hb,rfl⟩:=h1
  obtain⟨em,hn,hn2,k⟩:=k
  obtain⟨b',e1,q,ns,i,r,z,g1,g2,g3,g4,g5,g6⟩:=M.at_ kk _ em
  rw[hb]at e1;cases e1
  have bin:b∈φ:=gxD hb
  have qb:q≠b:=fun e=>g3 (by rw[e];exact bin)
  refine⟨q,⟨ns,i,r,z,g1,g2,qb,g4,g5,g6⟩,hn,hn2,fun v H' v0 v1 B' ob=>?_⟩
  obtain⟨ns',i',r',z',b1,b2,b3,b4,b5,b6⟩:=B'
  have f:Fr φ H φ H':=⟨⟨[],by simp,fun _ h=>nomatch h⟩,fun c o hc e=>(ob c (fun e'=>hc (by rw[e'];exact bin))).trans e,fun c e=>by
   by_cases hc:c=b
   ·rw[hc,b1]at e;cases e
   ·rw[<- ob c hc];exact e⟩
  refine L _ μ φ _ H' (k v v0 v1) f ⟨M.nd,M.len,fun j m ej=>?_⟩ rfl
  by_cases hj:j=kk
  ·subst hj
   rw[em]at ej;cases ej
   exact⟨b,hb,q,ns',i',r',z',b1,b2,g3,b4,b5,b6⟩
  ·obtain⟨p,e1,e2⟩:=M.at_ j m ej
   refine⟨p,e1,e2.mono f fun o eo=>?_⟩
   have pb:p≠b:=fun e=>by
    subst e
    obtain⟨i1,r1⟩:=gxB hb
    obtain⟨i2,r2⟩:=gxB e1
    rcases Nat.lt_or_gt_of_ne hj with z | z
    ·exact List.pairwise_iff_getElem.mp M.nd j kk i2 i1 z (r2.trans r1.symm)
    ·exact List.pairwise_iff_getElem.mp M.nd kk j i1 i2 z (r1.trans r2.symm)
   rw[ob p pb];exact eo
 ·exact k.elim
def spBoxQ (K:PySem.W.Frag):Sp:=fun vs H Q _=>match vs with
 | [.ref a]=>∃ ns:List Int,SqL K H a (ns.map V.int)/\∀ b q H',BxQ H' b q->H b=none->H q=none->Same H H'->Q (.ref b) H'
 | _=>False
theorem box_start {H:Hp}{b q:Addr}(h:BxQ H b q):MSis [b] H [.box]:=by
 obtain⟨ns,i,r,z,h1,h2,h3,h4,h5,h6⟩:=h
 refine⟨by simp,rfl,fun k m e=>?_⟩
 cases k with
 | zero=>cases e;exact⟨b,rfl,q,ns,i,r,z,h1,h2,by simpa using h3,h4,h5,h6⟩
 | succ k=>simp at e
mutual
def smD:Nat->D->Prop
 | n+1,.lst ds=>ds.length<=100000/\smL n ds
 | n+1,.tup ds=>ds.length<=100000/\smL n ds
 | 0,.lst _=>False
 | 0,.tup _=>False
 | _,.dic _ _=>False
 | _,.mr _=>False
 | _,_=>True
def smL:Nat->List D->Prop
 | _,[]=>True
 | n,d::ds=>smD n d/\smL n ds
end
theorem smL_all {n:Nat}:∀ {ds:List D},(∀ d∈ds,smD n d)->smL n ds
 | [],_=>by unfold smL;trivial
 | d::ds,h=>by unfold smL;exact⟨h d List.mem_cons_self,smL_all fun x hx=>h x (gxI _ hx)⟩
theorem sm_lst {n:Nat}{ds:List D}(hl:ds.length<=100000)(h:∀ d∈ds,smD n d):smD (n+1) (.lst ds):=by unfold smD;exact⟨hl,smL_all h⟩
theorem sm_tup {n:Nat}{ds:List D}(hl:ds.length<=100000)(h:∀ d∈ds,smD n d):smD (n+1) (.tup ds):=by unfold smD;exact⟨hl,smL_all h⟩
theorem sm_int {n:Nat}{i:Int}:smD n (.int i):=by cases n <;> (unfold smD;trivial)
theorem sm_str {n:Nat}{i:Str}:smD n (.str i):=by cases n <;> (unfold smD;trivial)
theorem sm_ints {n:Nat}{ns:List Int}(h:ns.length<=100000):smD (n+1) (.lst (ns.map D.int)):=sm_lst (by rw[gxC];exact h) fun d hd=>by
 obtain⟨i,_,rfl⟩:=List.mem_map.mp hd;exact sm_int
mutual
theorem sm_pu:∀ {n:Nat} {d:D},smD n d->puD n d:=fun {n d} h=>by
 cases d with
 | lst ds =>
  cases n with
  | zero=>exact absurd h (by unfold smD;exact id)
  | succ n=>unfold smD at h;unfold puD;exact sm_puL h.2
 | tup ds =>
  cases n with
  | zero=>exact absurd h (by unfold smD;exact id)
  | succ n=>unfold smD at h;unfold puD;exact sm_puL h.2
 | dic _ _=>exact absurd h (by cases n <;> (unfold smD;exact id))
 | mr _=>exact absurd h (by cases n <;> (unfold smD;exact id))
 | _=>cases n <;> (unfold puD;trivial)
theorem sm_puL:∀ {n:Nat} {ds:List D},smL n ds->puL n ds:=fun {n ds} h=>by
 cases ds with
 | nil=>unfold puL;trivial
 | cons d ds=>unfold smL at h;unfold puL;exact⟨sm_pu h.1,sm_puL h.2⟩
end
mutual
def toDV:D->DV
 | .non=>.non
 | .bl b=>.bl b
 | .int i=>.int i
 | .str z=>.str z
 | .lst ds=>.lst (toDVs ds)
 | .tup ds=>.tup (toDVs ds)
 | _=>.non
def toDVs:List D->List DV
 | []=>[]
 | d::ds=>toDV d::toDVs ds
end
theorem toDVs_len:∀ ds:List D,(toDVs ds).length=ds.length
 | []=>rfl
 | d::ds=>by unfold toDVs;rw[List.length_cons,List.length_cons,toDVs_len ds]
mutual
theorem sm_dv {φ:List Addr}{H:Hp}:∀ {n:Nat} {d:D},smD n d->(∀ v,DIs φ H d v->Is H (toDV d) v)/\dep (toDV d)<=n/\wid (toDV d)<=100000:=fun {n d} h=>by
 cases d with
 | lst ds =>
  cases n with
  | zero=>exact absurd h (by unfold smD;exact id)
  | succ n =>
   unfold smD at h
   obtain⟨a,b,c⟩:=sm_dvs (φ:=φ) (H:=H) h.2
   refine⟨fun v hv=>?_,?_,?_⟩
   ·obtain⟨p,vs,rfl,_,hp,q⟩:=hv
    unfold toDV
    exact⟨p,vs,rfl,hp,a vs q⟩
   ·unfold toDV dep;omega
   ·have:=toDVs_len ds
    unfold toDV wid;omega
 | tup ds =>
  cases n with
  | zero=>exact absurd h (by unfold smD;exact id)
  | succ n =>
   unfold smD at h
   obtain⟨a,b,c⟩:=sm_dvs (φ:=φ) (H:=H) h.2
   refine⟨fun v hv=>?_,?_,?_⟩
   ·obtain⟨p,vs,rfl,_,hp,q⟩:=hv
    unfold toDV
    exact⟨p,vs,rfl,hp,a vs q⟩
   ·unfold toDV dep;omega
   ·have:=toDVs_len ds
    unfold toDV wid;omega
 | non=>exact⟨fun v hv=>hv,Nat.zero_le _,Nat.zero_le _⟩
 | bl b=>exact⟨fun v hv=>hv,Nat.zero_le _,Nat.zero_le _⟩
 | int b=>exact⟨fun v hv=>hv,Nat.zero_le _,Nat.zero_le _⟩
 | str b=>exact⟨fun v hv=>hv,Nat.zero_le _,Nat.zero_le _⟩
 | dic _ _=>exact absurd h (by cases n <;> (unfold smD;exact id))
 | mr _=>exact absurd h (by cases n <;> (unfold smD;exact id))
theorem sm_dvs {φ:List Addr}{H:Hp}:∀ {n:Nat} {ds:List D},smL n ds->(∀ vs,DAll φ H ds vs->IsAll H (toDVs ds) vs)/\depL (toDVs ds)<=n/\widL (toDVs ds)<=100000:=fun {n ds} h=>by
 cases ds with
 | nil=>exact⟨fun vs hv=>hv,Nat.zero_le _,Nat.zero_le _⟩
 | cons d ds =>
  unfold smL at h
  obtain⟨a,b,c⟩:=sm_dv (φ:=φ) (H:=H) h.1
  obtain⟨a',b',c'⟩:=sm_dvs (φ:=φ) (H:=H) h.2
  refine⟨fun vs hv=>?_,?_,?_⟩
  ·obtain⟨v,r,rfl,h1,h2⟩:=hv
   unfold toDVs
   exact⟨v,r,rfl,a v h1,a' r h2⟩
  ·unfold toDVs depL;omega
  ·unfold toDVs widL;omega
end
def frzD (μ:MS):D->Option D
 | .mr k=>(lvM μ k).map .lst
 | x=>some x
theorem frzD_is {φ:List Addr}{H:Hp}{μ:MS}{x d:D}{v:V}{n:Nat}(M:MSis φ H μ)(e:frzD μ x=some d)(hs:smD n d)(h:DIs φ H x v):Is H (toDV d) v:=by
 cases x with
 | mr k =>
  obtain⟨p,hp,rfl⟩:=h
  have e':(lvM μ k).map D.lst=some d:=e
  cases q:lvM μ k with
  | none=>rw[q]at e';cases e'
  | some ds =>
   rw[q]at e';cases e'
   obtain⟨p',e1,vs,hv,ha⟩:=M.at_ k _ (lvM_eq q)
   rw[hp]at e1;cases e1
   cases n with
   | zero=>exact absurd hs (by unfold smD;exact id)
   | succ n =>
    unfold smD at hs
    unfold toDV
    exact⟨p,vs,rfl,hv,(sm_dvs (φ:=φ) (H:=H) hs.2).1 vs ha⟩
 | non=>cases e;exact(sm_dv (φ:=φ) (H:=H) hs).1 v h
 | bl b=>cases e;exact(sm_dv (φ:=φ) (H:=H) hs).1 v h
 | int b=>cases e;exact(sm_dv (φ:=φ) (H:=H) hs).1 v h
 | str b=>cases e;exact(sm_dv (φ:=φ) (H:=H) hs).1 v h
 | lst b=>cases e;exact(sm_dv (φ:=φ) (H:=H) hs).1 v h
 | tup b=>cases e;exact(sm_dv (φ:=φ) (H:=H) hs).1 v h
 | dic _ _=>cases e;exact absurd hs (by cases n <;> (unfold smD;exact id))
def fSame:DSp:=fun ds μ K=>match ds with
 | [x,y]=>∃ d,frzD μ x=some d/\frzD μ y=some d/\smD 5 d/\K (.bl true) μ
 | _=>False
theorem same_imp {vs:List V}{H:Hp}{Q:VK}{E:XK}(h:spD fSame vs H Q E):spSame 5 vs H Q E:=by
 obtain⟨φ,ds,μ,K,ha,M,k,L⟩:=h
 unfold fSame at k
 split at k
 ·obtain⟨v,r,rfl,h1,u,r',rfl,h2,h3⟩:=ha
  cases(show r'=[]from h3)
  obtain⟨d,e1,e2,hs,k⟩:=k
  obtain⟨a,b,c⟩:=sm_dv (φ:=φ) (H:=H) hs
  exact⟨toDV d,b,Nat.lt_of_le_of_lt c (by decide),frzD_is M e1 hs h1,frzD_is M e2 hs h2,fun H' S=>L _ μ φ _ H' k (.same S) (M.same S) rfl⟩
 ·exact k.elim
theorem eqD_same {n:Nat}{x y:D}{μ:MS}{K:DK}(e:x=y)(h:smD n x)(hs:(sqs x x).isSome=true)(k:K (.bl true) μ):dEqD n false x y μ K:=by
 subst e
 refine⟨sm_pu h,sm_pu h,hs,?_⟩
 rw[deq_rfl x n (sm_pu h)]
 exact k
theorem compW_map {it:D->MS->(Option D->MS->Prop)->Prop}{c:MS->Prop}{μ:MS}(hc:c μ)(f:D->Option D):∀ {ds:List D} {K:List D->MS->Prop},(∀ d∈ds,∀(K':Option D->MS->Prop),K' (f d) μ->it d μ K')->K (ds.filterMap f) μ->compW it c ds μ K
 | [],K,_,k=>⟨hc,k⟩
 | d::ds,K,h,k=>⟨hc,h d List.mem_cons_self _ (compW_map hc f (fun x hx=>h x (gxI _ hx)) (by
  cases e:f d with
  | none=>rw[List.filterMap_cons_none e]at k;exact k
  | some y=>rw[List.filterMap_cons_some e]at k;exact k))⟩
theorem compW_inv {it:D->MS->(Option D->MS->Prop)->Prop}{c:MS->Prop}(Pv:List D->List D->MS->Prop):∀ {ds:List D} {μ:MS} {ys:List D} {K:List D->MS->Prop},Pv ds ys μ->(∀ d ds' ys μ,Pv (d::ds') ys μ->c μ/\∀(K':Option D->MS->Prop),(∀ o μ',Pv ds' (ys++o.toList) μ'->K' o μ')->it d μ K')->(∀ ys μ,Pv [] ys μ->c μ)->(∀ zs μ,Pv [] (ys++zs) μ->K zs μ)->compW it c ds μ K
 | [],μ,ys,K,h,hs,hc,hk=>⟨hc ys μ h,hk [] μ (by rw[List.append_nil];exact h)⟩
 | d::ds,μ,ys,K,h,hs,hc,hk=>by
  obtain⟨c',st⟩:=hs d ds ys μ h
  exact⟨c',st _ fun o μ' h'=>compW_inv Pv h' hs hc fun zs μ2 h2=>hk _ μ2 (by rw[<- List.append_assoc];exact h2)⟩
theorem forW_inv {g:DG}{b:Ds}{N:DN}{c:MS->Prop}(Pv:List D->DE->MS->Prop):∀ {ds:List D} {ρ:DE} {μ:MS},Pv ds ρ μ->(∀ d ds' ρ μ,Pv (d::ds') ρ μ->c μ/\∀(nx:DE->MS->Prop),(∀ ρ' μ',Pv ds' ρ' μ'->nx ρ' μ')->g d ρ μ fun ρ2 μ2=>b { N with nx:=nx,ct:=nx,bk:=N.nx} ρ2 μ2)->(∀ ρ μ,Pv [] ρ μ->c μ/\N.nx ρ μ)->forW g b N c ds ρ μ
 | [],ρ,μ,h,hs,hd=>hd ρ μ h
 | d::ds,ρ,μ,h,hs,hd=>by
  obtain⟨c',st⟩:=hs d ds ρ μ h
  exact⟨c',st _ fun ρ' μ' h'=>forW_inv Pv h' hs hd⟩
end L2
namespace L2
open PySem PySem.Spec PyProof.Rows
structure Bi2 (mg:Str->Option Value):Prop where
 len:mg "len"=none
 range:mg "range"=none
 list:mg "list"=none
 isinstance:mg "isinstance"=none
 max:mg "max"=none
 min:mg "min"=none
 bool:mg "bool"=none
 tuple:mg "tuple"=none
 str:mg "str"=none
 int:mg "int"=none
 all:mg "all"=none
 any:mg "any"=none
 zip:mg "zip"=none
 enumerate:mg "enumerate"=none
 reversed:mg "reversed"=none
 dict:mg "dict"=none
 sorted:mg "sorted"=none
abbrev txt (l:List Nat):Str:=⟨l.toArray⟩
def fBars:DSp:=fun ds μ K=>match ds with
 | [.mr k,.int n]=>μ[k]?=some .box/\1<=n/\n<=1000/\∀ l:List Nat,l.length=n.toNat->OX l->K (.str (txt l)) μ
 | _=>False
structure Cuts (n:Int)(cs:List Int):Prop where
 inn:∀ c∈cs,1<=c/\c<n
 up:cs.Pairwise (·<·)
def fCuts:DSp:=fun ds μ K=>match ds with
 | [.mr k,.int n]=>μ[k]?=some .box/\1<=n/\n<=1000/\∀ cs:List Int,cs.length<=n.toNat->Cuts n cs->K (.lst (cs.map D.int)) μ
 | _=>False
def txD (l:List Nat):D:=.str (txt l)
def Good (n:Int)(ls:List (List Nat)):Prop:=∀ l∈ls,(l.length:Int)=n/\OX l
def fPatched:DSp:=fun ds μ K=>match ds with
 | [.mr k,.int n,.lst cs,.mr t]=>μ[k]?=some .box/\k≠t/\1<=n/\n<=1000/\∃(cs':List Int) (ls:List (List Nat)),cs=cs'.map D.int/\cs'.length<=1000/\Cuts n cs'/\μ[t]?=some (.lst (ls.map txD))/\ls≠[]/\ls.length<=100/\Good n ls /\
  ∀ ls':List (List Nat),ls'.length=ls.length->Good n ls'->K (.mr t) (μ.set t (.lst (ls'.map txD)))
 | _=>False
abbrev Tk:=List Nat×Int
def tkD (t:Tk):D:=.tup [.str (txt t.1),.int t.2]
structure Takes (n:Int)(ts:List Tk):Prop where
 few:ts.length<=20
 ok:∀ t∈ts,(t.1.length:Int)=n/\OX t.1/\0<=t.2/\t.2<=60
def fShelf:DSp:=fun ds μ K=>match ds with
 | [.mr k,.int m]=>μ[k]?=some .box/\1<=m/\m<=100/\∀(n:Int) (cs:List Int) (ts:List Tk),1<=n->n<=m->cs.length<=n.toNat->Cuts n cs->Takes n ts->K (.tup [.int n,.lst (cs.map D.int),.lst (ts.map tkD)]) μ
 | _=>False
def fEnds:DSp:=fun ds μ K=>match ds with
 | [.int n,x]=>∃ cs:List Int,lv μ x=some (cs.map D.int)/\cs.length<=1000/\K (.lst ((endsOf n cs).map D.int)) μ
 | _=>False
theorem endsOf_len (n:Int)(cs:List Int):(endsOf n cs).length=cs.length+2:=by unfold endsOf;simp
theorem ends_map (n:Int)(cs:List Int):[D.int 0]++cs.map D.int++[D.int n]=(endsOf n cs).map D.int:=by unfold endsOf;simp
theorem sz {n:Nat}(h:n<=100000):n<=sizeLine:=Nat.le_trans h (by decide)
theorem szS {n:Nat}(h:n<=100000):n<sizeLine:=Nat.lt_of_le_of_lt h (by decide)
def prs (es:List Int):List (Int×Int):=es.zip es.tail
def prD (p:Int×Int):D:=.tup [.int p.1,.int p.2]
def fPieces:DSp:=fun ds μ K=>match ds with
 | [.int n,x]=>∃ cs:List Int,lv μ x=some (cs.map D.int)/\cs.length<=1000/\K (.lst ((prs (endsOf n cs)).map prD)) μ
 | _=>False
def cutN (l:List Nat)(a b:Int):List Nat:=cutL l (some a) (some b)
def bad (ts:List Tk)(p:Int×Int):Bool:=ts.all fun t=>decide (120∈cutN t.1 p.1 p.2)
def barOf (es:List Int)(ts:List Tk):Option (Int×Int):=(prs es).find? (bad ts)
def optPr:Option (Int×Int)->D
 | some p=>prD p
 | none=>.non
def fBarOf:DSp:=fun ds μ K=>match ds with
 | [.int n,x,y]=>∃(cs:List Int) (ts:List Tk),lv μ x=some (cs.map D.int)/\lv μ y=some (ts.map tkD)/\cs.length<=1000/\Takes n ts/\n<=1000/\K (optPr (barOf (endsOf n cs) ts)) μ
 | _=>False
def fBarred:DSp:=fun ds μ K=>match ds with
 | [.lst b,y]=>∃(n:Int) (cs:List Int) (ts:List Tk),b=(endsOf n cs).map D.int/\lv μ y=some (ts.map tkD)/\cs.length<=1000/\1<=n/\n<=1000/\Cuts n cs/\Takes n ts/\K (optPr (barOf (endsOf n cs) ts)) μ
 | _=>False
theorem compW_sub {it:D->MS->(Option D->MS->Prop)->Prop}{c:MS->Prop}{μ:MS}(hc:c μ):∀ {ds:List D} {K:List D->MS->Prop},(∀ d∈ds,∀(K':Option D->MS->Prop),K' (some d) μ->K' none μ->it d μ K')->(∀ zs,zs.Sublist ds->K zs μ)->compW it c ds μ K
 | [],K,_,k=>⟨hc,k [] (.slnil)⟩
 | d::ds,K,h,k=>⟨hc,h d List.mem_cons_self _ (compW_sub hc (fun x hx=>h x (gxI _ hx)) fun zs hz=>k _ (hz.cons₂ d)) (compW_sub hc (fun x hx=>h x (gxI _ hx)) fun zs hz=>k _ (hz.cons d))⟩
theorem compW_any {α:Type}(g:α->D)(P:α->Prop){it:D->MS->(Option D->MS->Prop)->Prop}{c:MS->Prop}{μ:MS}(hc:c μ):∀ {ds:List D} {K:List D->MS->Prop},(∀ d∈ds,∀(K':Option D->MS->Prop),(∀ a,P a->K' (some (g a)) μ)->it d μ K')->(∀ as:List α,as.length=ds.length->(∀ a∈as,P a)->K (as.map g) μ)->compW it c ds μ K
 | [],K,_,k=>⟨hc,k [] rfl fun _ h=>nomatch h⟩
 | d::ds,K,h,k=>⟨hc,h d List.mem_cons_self _ fun a ha=>compW_any g P hc (fun x hx=>h x (gxI _ hx)) fun as hl hp=>k (a::as) (by rw[List.length_cons,List.length_cons,hl]) fun x hx=>by
  rcases List.mem_cons.mp hx with e | e
  ·rw[e];exact ha
  ·exact hp x e⟩
theorem rngD_eq (lo:Int)(n:Nat):rngD lo n=((List.range n).map fun i=>lo+(i:Nat)).map D.int:=by unfold rngD;rw[List.map_map];rfl
theorem rngD_len (lo:Int)(n:Nat):(rngD lo n).length=n:=by unfold rngD;rw[gxC,gxJ]
theorem rngD_mem {lo:Int}{n:Nat}{d:D}(h:d∈rngD lo n):∃ i:Nat,i<n/\d=.int (lo+i):=by
 unfold rngD at h
 obtain⟨i,hi,rfl⟩:=List.mem_map.mp h
 exact⟨i,by simpa using hi,rfl⟩
theorem rng_up (lo:Int)(n:Nat):((List.range n).map fun i=>lo+(i:Nat)).Pairwise (·<·):=by
 rw[List.pairwise_map]
 exact List.Pairwise.imp (fun h=>by omega) List.pairwise_lt_range
theorem rng_cuts {n:Int}{cs:List Int}(h1:1<=n)(h:cs.Sublist ((List.range (n - 1).toNat).map fun i=>1+((i:Nat):Int))):cs.length<=n.toNat/\Cuts n cs:=by
 refine⟨?_,fun c hc=>?_,(rng_up 1 _).sublist h⟩
 ·have:=h.length_le
  rw[gxC,gxJ]at this
  omega
 ·obtain⟨i,hi,rfl⟩:=List.mem_map.mp (h.subset hc)
  rw[List.mem_range]at hi
  omega
theorem sub_map {α:Type}{g:α->D}{zs:List D}{as:List α}(h:zs.Sublist (as.map g)):∃ bs:List α,bs.Sublist as/\zs=bs.map g:=by
 obtain⟨bs,hb,e⟩:=List.sublist_map_iff.mp h
 exact⟨bs,hb,e⟩
theorem ends_up {n:Int}{cs:List Int}(h1:1<=n)(h:Cuts n cs):(endsOf n cs).Pairwise (·<·):=by
 unfold endsOf
 rw[List.cons_append,List.pairwise_cons]
 refine⟨fun x hx=>?_,?_⟩
 ·rcases List.mem_append.mp hx with q | q
  ·have:=h.inn x q;omega
  ·rw[List.mem_singleton.mp q];omega
 ·rw[List.pairwise_append]
  exact⟨h.up,List.pairwise_singleton _ _,fun x hx y hy=>by rw[List.mem_singleton.mp hy];exact(h.inn x hx).2⟩
theorem ends_in {n:Int}{cs:List Int}(h1:1<=n)(h:Cuts n cs){x:Int}(hx:x∈endsOf n cs):0<=x/\x<=n:=by
 unfold endsOf at hx
 rw[List.cons_append]at hx
 rcases List.mem_cons.mp hx with q | q
 ·omega
 ·rcases List.mem_append.mp q with q | q
  ·have:=h.inn x q;omega
  ·rw[List.mem_singleton.mp q];omega
theorem up_get {es:List Int}(h:es.Pairwise (·<·)){i j:Nat}{a b:Int}(hi:es[i]?=some a)(hj:es[j]?=some b)(hij:i<j):a<b:=by
 obtain⟨h1,r1⟩:=gxB hi
 obtain⟨h2,r2⟩:=gxB hj
 have:=List.pairwise_iff_getElem.mp h i j h1 h2 hij
 rw[r1,r2]at this
 exact this
theorem atI_map {α β:Type}{g:α->β}{xs:List α}{i:Nat}{a:α}(h:xs[i]?=some a):atI (xs.map g) (i:Int)=some (g a):=atI_nat (by rw[gxH,h];rfl)
theorem txt_len (l:List Nat):(txt l).length=l.length:=lenS l
theorem txt_list (l:List Nat):(txt l).cps.toList=l:=by simp
theorem cutL_le {α:Type}(l:List α)(lo hi:Option Int):(cutL l lo hi).length<=l.length:=cutL_len l lo hi
theorem OX.cut {l:List Nat}(h:OX l)(lo hi:Option Int):OX (cutL l lo hi):=fun c hc=>h c (by
 unfold cutL at hc
 exact List.mem_of_mem_drop (List.mem_of_mem_take hc))
theorem mrL_all {n:Nat}:∀ {ds:List D},(∀ d∈ds,mrB n d)->mrL n ds
 | [],_=>True.intro
 | d::ds,h=>⟨h d List.mem_cons_self,mrL_all fun x hx=>h x (gxI _ hx)⟩
theorem mrL_ints {n:Nat}(ns:List Int):mrL n (ns.map D.int):=mrL_all fun d hd=>by obtain⟨i,_,rfl⟩:=List.mem_map.mp hd;exact True.intro
theorem mrL_tk {n:Nat}(ts:List Tk):mrL n (ts.map tkD):=mrL_all fun d hd=>by obtain⟨i,_,rfl⟩:=List.mem_map.mp hd;exact⟨True.intro,True.intro,True.intro⟩
theorem sm_tk {n:Nat}(t:Tk):smD (n+1) (tkD t):=by
 unfold tkD
 refine sm_tup (by simp) fun d hd=>?_
 simp only[List.mem_cons,List.not_mem_nil,or_false]at hd
 rcases hd with rfl | rfl
 ·exact sm_str
 ·exact sm_int
theorem sm_tks {n:Nat}{ts:List Tk}(h:ts.length<=100000):smD (n+2) (.lst (ts.map tkD)):=sm_lst (by rw[gxC];exact h) fun d hd=>by
 obtain⟨t,_,rfl⟩:=List.mem_map.mp hd;exact sm_tk t
theorem set_self {μ:MS}{t:Nat}{m:MO}(h:μ[t]?=some m):μ.set t m=μ:=by
 refine List.ext_getElem? fun i=>?_
 by_cases e:t=i
 ·subst e
  rw[List.getElem?_set_self (gxB h).1,h]
 ·rw[List.getElem?_set_ne e]
theorem set_end {μ:MS}{x y:MO}:(μ++[x]).set μ.length y=μ++[y]:=by
 rw[List.set_append_right _ _ (Nat.le_refl _),Nat.sub_self];rfl
theorem zip_tk:∀(ls:List (List Nat)) (as:List Int),List.zipWith (fun a b=>D.tup [a,b]) (ls.map txD) (as.map D.int)=(ls.zip as).map tkD
 | [],_=>by simp
 | _::_,[]=>by simp
 | l::ls,a::as=>by
  rw[List.map_cons,List.map_cons,List.zipWith_cons_cons,zip_tk ls as,List.zip_cons_cons,List.map_cons]
  rfl
theorem old_at {μ:MS}{n:Nat}{x:MO}(hm:∀(j:Nat) (m:MO),μ[j]?=some m->moB μ.length m):∀(j:Nat) (m:MO),j<μ.length->(μ++[x])[j]?=some m->moB μ.length m:=fun j m hj e=>by
 rw[gxF hj]at e;exact hm j m e
theorem take_end {μ:MS}{x:MO}:(μ++[x]).take μ.length=μ:=List.take_left
theorem ages4 {v:Int}(h0:0<=v)(h1:v<4):∃ m,atI [D.int 1,D.int 4,D.int 9,D.int 55] v=some (.int m)/\1<=m/\m<=55:=by
 obtain⟨j,rfl⟩:∃ j:Nat,v=(j:Int):=⟨v.toNat,by omega⟩
 have hj:j<4:=by omega
 match j,hj with
 | 0,_=>exact⟨1,rfl,by decide,by decide⟩
 | 1,_=>exact⟨4,rfl,by decide,by decide⟩
 | 2,_=>exact⟨9,rfl,by decide,by decide⟩
 | 3,_=>exact⟨55,rfl,by decide,by decide⟩
theorem dIx_lv {μ:MS}{x:D}{xs:List D}{i:Int}{d:D}{K:DK}(e:lv μ x=some xs)(h:atI xs i=some d)(k:K d μ):dIx x (.int i) μ K:=by
 cases x with
 | lst ds=>cases e;exact opt_of h k
 | mr j=>exact opt_of e (opt_of h k)
 | _=>cases e
theorem cutN_nat (l:List Nat)(i j:Nat):cutN l i j=(l.drop i).take (j - i):=by
 unfold cutN cutL
 rw[HT.sIx_nat,HT.sIx_nat]
 rcases Nat.le_total i l.length with q | q
 ·rw[Nat.min_eq_left q]
  rcases Nat.le_total j l.length with z | z
  ·rw[Nat.min_eq_left z]
  ·rw[Nat.min_eq_right z,List.take_of_length_le (by rw[List.length_drop];exact Nat.le_refl _),List.take_of_length_le (by rw[List.length_drop];exact Nat.sub_le_sub_right z i)]
 ·rw[Nat.min_eq_right q,List.drop_of_length_le (Nat.le_refl _),List.drop_of_length_le q,List.take_nil,List.take_nil]
theorem cut_clean {l:List Nat}{a b:Int}(ho:OX l)(ha:0<=a)(hab:a<=b)(hb:b<=l.length):decide (txt (cutN l a b)=txt (List.replicate (b - a).toNat 111))=!decide (120∈cutN l a b):=by
 have len:(cutN l a b).length=(b - a).toNat:=by
  obtain⟨i,rfl⟩:=Int.eq_ofNat_of_zero_le ha
  obtain⟨j,rfl⟩:=Int.eq_ofNat_of_zero_le (Int.le_trans ha hab)
  rw[cutN_nat,List.length_take,List.length_drop,Nat.min_eq_left (Nat.sub_le_sub_right (Int.ofNat_le.mp hb) i)]
  omega
 have ox:OX (cutN l a b):=ho.cut _ _
 by_cases h:120∈cutN l a b
 ·rw[decide_eq_true h,decide_eq_false]
  ·rfl
  ·intro e
   have e':cutN l a b=List.replicate (b - a).toNat 111:=by have q:=congrArg (fun z:Str=>z.cps.toList) e;simpa using q
   rw[e']at h
   have:=(List.mem_replicate.mp h).2
   cases this
 ·rw[decide_eq_false h,decide_eq_true]
  ·rfl
  ·congr 2
   refine List.eq_replicate_iff.mpr ⟨len,fun c hc=>?_⟩
   rcases ox c hc with q | q
   ·exact q
   ·rw[q]at hc;exact absurd hc h
theorem prs_get {es:List Int}{i:Nat}:(prs es)[i]?=(match es[i]?,es[i+1]? with | some a,some b=>some (a,b) | _,_=>none):=by
 unfold prs
 rw[List.zip,List.getElem?_zipWith,List.getElem?_tail]
 cases es[i]? <;> cases es[i+1]? <;> rfl
theorem un_of {k n:Nat}{A:Around}(hr:Room k A)(hn:n<=64):A.units+n<cLine:=by have:=hr.units;omega
theorem law_env {m:Nat}{b:Addr}{H:Hp}{x:Option V}:DEnv [b] H (none::some (.mr 0)::List.replicate m none) (x::some (.ref b)::List.replicate m none):=by
 refine⟨by simp,fun i d e=>?_⟩
 cases i with
 | zero=>cases e
 | succ i =>
  cases i with
  | zero=>cases e;exact⟨_,rfl,b,rfl,rfl⟩
  | succ i =>
   have:=List.eq_of_mem_replicate (gxD (show(List.replicate m (none:Option D))[i]?=some (some d)from e))
   cases this
def lawN:DN:={ nx:=fun _ _=>False,rt:=fun d _=>d=.bl true}
theorem law_go {m:Nat}{b q a:Addr}{H:Hp}{Q:VK}{W:Ds}(B:BxQ H b q)(w:W lawN (none::some (.mr 0)::List.replicate m none) [.box])(k:∀ H',Q (.bl true) H'):tDS W { nx:=fun _ H'=>Q .non H',rt:=Q} (some (.ref a)::some (.ref b)::List.replicate m none) H :=
 ⟨[b],_,[.box],lawN,law_env,box_start B,w,⟨fun _ _ _ _ _ z=>z.elim,fun d μ' φ' v H' kd _ _ i=>by cases(show d=.bl true from kd);cases(show v=_ from i);exact k H',fun _ _ _ _ _ z=>z.elim,fun _ _ _ _ _ z=>z.elim⟩⟩
section
variable {κ:Type}[DecidableEq κ]
def valV (kvs:List (κ×V))(k:κ):Option V:=(kvs.find? fun kv=>decide (kv.1=k)).map (·.2)
def putK (kvs:List (κ×V))(k:κ)(v:V):List (κ×V) :=
 if(kvs.any fun kv=>decide (kv.1=k))=true then kvs.map (fun kv=>if kv.1=k then(kv.1,v)else kv)else kvs++[(k,v)]
def dropK (kvs:List (κ×V))(k:κ):List (κ×V):=kvs.filter fun kv=>decide (kv.1≠k)
theorem valV_pos {p:κ×V}{r:List (κ×V)}{k:κ}(e:p.1=k):valV (p::r) k=some p.2:=by simp[valV,List.find?_cons,e]
theorem valV_neg {p:κ×V}{r:List (κ×V)}{k:κ}(e:¬ p.1=k):valV (p::r) k=valV r k:=by simp[valV,List.find?_cons,e]
theorem valV_any (k:κ):∀ kvs:List (κ×V),(kvs.any fun kv=>decide (kv.1=k))=(valV kvs k).isSome
 | []=>rfl
 | p::r=>by
  rw[List.any_cons]
  by_cases e:p.1=k
  ·simp only[valV_pos e,decide_eq_true e,Bool.true_or,Option.isSome_some]
  ·rw[valV_neg e,decide_eq_false e,Bool.false_or];exact valV_any k r
theorem length_putK (kvs:List (κ×V))(k:κ)(v:V):(putK kvs k v).length<=kvs.length+1:=by
 unfold putK
 split
 ·rw[gxC];omega
 ·rw[gxE,List.length_cons,List.length_nil];omega
theorem RelO.isSome_eq {o:Option V}{u:Option Value}(r:RelO o u):o.isSome=u.isSome:=by
 cases o with
 | none=>cases u with
  | none=>rfl
  | some _=>exact(show False from r).elim
 | some _=>cases u with
  | none=>exact(show False from r).elim
  | some _=>rfl
theorem KV.val {kvs:List (κ×V)}{vs:List (κ×Value)}(r:KV kvs vs)(k:κ):RelO (valV kvs k) (valueAt vs k):=by
 unfold KV at r
 induction r with
 | nil=>exact True.intro
 | @cons p q ps qs h t ih =>
  obtain⟨h1,h2⟩:=h
  by_cases e:p.1=k
  ·have e':q.1=k:=h1.symm.trans e
   have b:valueAt (q::qs) k=some q.2:=by simp[valueAt,List.find?_cons,e']
   rw[valV_pos e,b];exact h2
  ·have e':¬ q.1=k:=fun z=>e (h1.trans z)
   have b:valueAt (q::qs) k=valueAt qs k:=by simp[valueAt,List.find?_cons,e']
   rw[valV_neg e,b];exact ih
theorem KV.any {kvs:List (κ×V)}{vs:List (κ×Value)}(r:KV kvs vs)(k:κ):(kvs.any fun kv=>decide (kv.1=k))=vs.any fun kv=>decide (kv.1=k):=by
 unfold KV at r
 induction r with
 | nil=>rfl
 | cons h t ih=>rw[List.any_cons,List.any_cons,ih,h.1]
theorem KV.repl {kvs:List (κ×V)}{vs:List (κ×Value)}(r:KV kvs vs)(k:κ){y:V}{u:Value}(ry:RelV y u) :
 KV (kvs.map fun kv=>if kv.1=k then(kv.1,y)else kv) (vs.map fun kv=>if kv.1=k then(kv.1,u)else kv):=by
 unfold KV at r ⊢
 induction r with
 | nil=>exact .nil
 | @cons p q ps qs h t ih =>
  rw[List.map_cons,List.map_cons]
  refine .cons ?_ ih
  obtain⟨h1,h2⟩:=h
  by_cases e:p.1=k
  ·rw[if_pos e,if_pos (h1.symm.trans e)];exact⟨h1,ry⟩
  ·rw[if_neg e,if_neg (fun z=>e (h1.trans z))];exact⟨h1,h2⟩
theorem KV.put {kvs:List (κ×V)}{vs:List (κ×Value)}(r:KV kvs vs)(k:κ){y:V}{u:Value}(ry:RelV y u):KV (putK kvs k y) (stored vs k u):=by
 unfold putK stored
 rw[r.any k]
 by_cases e:(vs.any fun kv=>decide (kv.1=k))=true
 ·rw[if_pos e,if_pos e];exact r.repl k ry
 ·rw[if_neg e,if_neg e];exact Paired.snoc r ⟨rfl,ry⟩
theorem KV.drop {kvs:List (κ×V)}{vs:List (κ×Value)}(r:KV kvs vs)(k:κ):KV (dropK kvs k) (without vs k):=by
 unfold KV at r ⊢
 unfold dropK without
 induction r with
 | nil=>exact .nil
 | @cons p q ps qs h t ih =>
  obtain⟨h1,h2⟩:=h
  rw[List.filter_cons,List.filter_cons]
  by_cases e:p.1=k
  ·have a:¬ decide (p.1≠k)=true:=by simp[e]
   have b:¬ decide (q.1≠k)=true:=by simp[h1.symm.trans e]
   rw[if_neg a,if_neg b];exact ih
  ·have e':¬ q.1=k:=fun z=>e (h1.trans z)
   have a:decide (p.1≠k)=true:=by simp[e]
   have b:decide (q.1≠k)=true:=by simp[e']
   rw[if_pos a,if_pos b];exact .cons ⟨h1,h2⟩ ih
theorem KV.length {kvs:List (κ×V)}{vs:List (κ×Value)}(r:KV kvs vs):kvs.length=vs.length:=Paired.length r
end
theorem kV_is {P:Program}{w:World}{k:Key}{u:Value}(r:RelV (kV k) u):(mixKind P w).is k u=true:=by
 cases k with
 | inl i=>obtain⟨t,e⟩:=(show ∃ t,u=Value.int i t from r);subst e;exact mixKind_int P w i t
 | inr x=>obtain⟨t,e⟩:=(show ∃ t,u=Value.str x t from r);subst e;exact mixKind_str P w x t
theorem items_are {P:Program}{w:World}:∀ {ks:List Key} {us:List Value},Vals (ks.map kV) us->ItemsAre (mixKind P w) ks us
 | [],_,r=>by rw[List.map_nil]at r;cases r;exact .nil
 | k::ks,_,r=>by
  rw[List.map_cons]at r
  cases r with
  | cons h t=>exact .cons (kV_is h) (items_are t)
abbrev KT (H:Hp):List (List Key×V)->List (List Key×Addr×Value)->Prop:=Paired fun p q=>p.1=q.1/\H q.2.1=some (.tup (p.1.map kV))/\RelV p.2 q.2.2
theorem KT.val {H:Hp}{kvs:List (List Key×V)}{xs:List (List Key×Addr×Value)}(r:KT H kvs xs)(k:List Key):RelO (valV kvs k) ((atKey xs k).map (·.2)):=by
 induction r with
 | nil=>exact True.intro
 | @cons p q ps qs h t ih =>
  obtain⟨h1,_,h2⟩:=h
  by_cases e:p.1=k
  ·have e':q.1=k:=h1.symm.trans e
   have b:atKey (q::qs) k=some q.2:=by simp[atKey,List.find?_cons,e']
   rw[valV_pos e,b];exact h2
  ·have e':¬ q.1=k:=fun z=>e (h1.trans z)
   have b:atKey (q::qs) k=atKey qs k:=by simp[atKey,List.find?_cons,e']
   rw[valV_neg e,b];exact ih
theorem KT.repl {H:Hp}{kvs:List (List Key×V)}{xs:List (List Key×Addr×Value)}(r:KT H kvs xs)(k:List Key){y:V}{u:Value}(ry:RelV y u) :
 KT H (kvs.map fun kv=>if kv.1=k then(kv.1,y)else kv) (xs.map (putAt k u)):=by
 induction r with
 | nil=>exact .nil
 | @cons p q ps qs h t ih =>
  rw[List.map_cons,List.map_cons]
  refine .cons ?_ ih
  obtain⟨h1,h2,h3⟩:=h
  unfold putAt
  by_cases e:p.1=k
  ·rw[if_pos e,if_pos (h1.symm.trans e)];exact⟨h1,h2,ry⟩
  ·rw[if_neg e,if_neg (fun z=>e (h1.trans z))];exact⟨h1,h2,h3⟩
theorem KT.put {H:Hp}{kvs:List (List Key×V)}{xs:List (List Key×Addr×Value)}(r:KT H kvs xs)(k:List Key){b:Addr}{y:V}{u:Value}(hb:H b=some (.tup (k.map kV)))(ry:RelV y u) :
 KT H (putK kvs k y) (storedH xs k b u):=by
 have e:(kvs.any fun kv=>decide (kv.1=k))=(atKey xs k).isSome:=by
  rw[valV_any,(r.val k).isSome_eq,Option.isSome_map]
 unfold putK storedH
 rw[e]
 by_cases q:(atKey xs k).isSome=true
 ·rw[if_pos q,if_pos q];exact r.repl k ry
 ·rw[if_neg q,if_neg q];exact Paired.snoc r ⟨rfl,hb,ry⟩
theorem KT.keeps {H H':Hp}{kvs:List (List Key×V)}{xs:List (List Key×Addr×Value)}(r:KT H kvs xs)(ht:∀ b ys,H b=some (.tup ys)->H' b=some (.tup ys)):KT H' kvs xs :=
 Paired.mapP r fun _ _ z=>⟨z.1,ht _ _ z.2.1,z.2.2⟩
section
variable {P:Program}{w:World}{H:Hp}{h:Heap}{a:Addr}
theorem rd_of {u:HO}(ok:HOk P w H h)(e:Rd H a u):ObjOk P w H h a u:=e.ok ok
theorem dk_rd {kvs:List (Key×V)}(ok:HOk P w H h)(e:Rd H a (.dK kvs)):kvs.length<=sizeLine/\(a==sysModules)=false/\∃ vs,KV kvs vs/\h.DictOf (mixKind P w) a vs :=
 show ObjOk P w H h a (.dK kvs)from rd_of ok e
theorem dk_of {kvs:List (Key×V)}(ok:HOk P w H h)(e:H a=some (.dK kvs)):kvs.length<=sizeLine/\(a==sysModules)=false/\∃ vs,KV kvs vs/\h.DictOf (mixKind P w) a vs:=dk_rd ok (.inl e)
theorem key_of {ks:List Key}(ok:HOk P w H h)(e:H a=some (.tup (ks.map kV))):(tupleKind (mixKind P w)).is h ks a:=by
 obtain⟨_,its,r,o,h1,h2,n,h3⟩:=(show ObjOk P w H h a (.tup (ks.map kV))from ok a _ e)
 exact⟨o,its.toArray,n,h1,h2,h3,by simpa using items_are r⟩
theorem dt_rd {kvs:List (List Key×V)}(ok:HOk P w H h)(e:Rd H a (.dT kvs)):kvs.length<=sizeLine/\(a==sysModules)=false /\
 ∃ xs,KT H kvs xs/\h.DictOfH (tupleKind (mixKind P w)) a xs:=by
 obtain⟨z,y,xs,r,o,es,ep,h1,h2,h3,h4,h5⟩:=(show ObjOk P w H h a (.dT kvs)from rd_of ok e)
 refine⟨z,y,xs,r,o,es,ep,h1,h2,h3,h4,fun x hx=>?_,h5⟩
 have all:∀ {l:List (List Key×V)} {m:List (List Key×Addr×Value)},KT H l m->∀ x∈m,(tupleKind (mixKind P w)).is h x.1 x.2.1:=by
  intro l m q
  induction q with
  | nil=>intro x hx;exact nomatch hx
  | @cons p q ps qs hq t ih =>
   intro x hx
   rcases List.mem_cons.mp hx with e | hx
   ·subst e
    exact key_of ok (by rw[<- hq.1];exact hq.2.1)
   ·exact ih x hx
 exact all r x hx
theorem dt_of {kvs:List (List Key×V)}(ok:HOk P w H h)(e:H a=some (.dT kvs)):kvs.length<=sizeLine/\(a==sysModules)=false /\
 ∃ xs,KT H kvs xs/\h.DictOfH (tupleKind (mixKind P w)) a xs:=dt_rd ok (.inl e)
end
def DGet (H:Hp)(a:Addr)(y:V)(r:Option V):Prop :=
 (∃ kvs k,Rd H a (.dK kvs)/\y=kV k/\r=valV kvs k)\/∃ kvs k b,Rd H a (.dT kvs)/\y=.ref b/\H b=some (.tup (k.map kV))/\r=valV kvs k
def DPut (H:Hp)(a:Addr)(y v:V)(H':Hp):Prop :=
 (∃ kvs k,H a=some (.dK kvs)/\y=kV k/\kvs.length<sizeLine/\H'=upd H a (.dK (putK kvs k v))) \/
 ∃ kvs k b,H a=some (.dT kvs)/\y=.ref b/\H b=some (.tup (k.map kV))/\kvs.length<sizeLine/\H'=upd H a (.dT (putK kvs k v))
theorem DGet.t {H:Hp}{a b:Addr}{kvs:List (List Key×V)}{k:List Key}(e:H a=some (.dT kvs))(eb:H b=some (.tup (k.map kV))):DGet H a (.ref b) (valV kvs k):=.inr ⟨kvs,k,b,.inl e,rfl,eb,rfl⟩
theorem DPut.k {H:Hp}{a:Addr}{kvs:List (Key×V)}{k:Key}{v:V}(e:H a=some (.dK kvs))(hl:kvs.length<sizeLine):DPut H a (kV k) v (upd H a (.dK (putK kvs k v))):=.inl ⟨kvs,k,e,rfl,hl,rfl⟩
theorem DPut.t {H:Hp}{a b:Addr}{kvs:List (List Key×V)}{k:List Key}{v:V}(e:H a=some (.dT kvs))(eb:H b=some (.tup (k.map kV)))(hl:kvs.length<sizeLine) :
 DPut H a (.ref b) v (upd H a (.dT (putK kvs k v))):=.inr ⟨kvs,k,b,e,rfl,eb,hl,rfl⟩
section
variable {X:Cx}{pins:List (Addr×Obj)}{σ:St}{H:Hp}{s:Shared}{a:Addr}{y v:V}{u r:Value}{o:Option V}{A:Around}{E:Value->Shared->Prop}
theorem Inv.big (I:Inv X pins σ H s):sysModules<s.heap.objs.size:=by
 have h:mainGlobals<s.heap.objs.size:=(I.mod.glob.keeps I.bk).lt
 exact Nat.lt_trans (by decide) h
theorem d_getItem {Q:Value->Shared->Prop}(hu:A.units+1<cLine)(I:Inv X pins σ H s)(g:DGet H a y (some v))(ry:RelV y u)(h:∀ w' s',Inv X pins σ H s'->RelV v w'->Q w' s') :
 wpAny (model X.prog X.w) A (getItem (.ref a) u) Q E s:=by
 rcases g with⟨kvs,k,e,ey,l⟩ | ⟨kvs,k,b,e,ey,eb,l⟩
 ·subst ey
  obtain⟨z,hd,vs,rel,dd⟩:=dk_rd I.hok e
  obtain⟨w',hw,rw'⟩:=RelO.some_of (v:=v) (o:=valueAt vs k) (by rw[l];exact rel.val k)
  exact wpAny_getItem_of (kV_is ry) dd.mapOf hw (h w' _ (I.tok _) rw')
 ·subst ey
  cases(show u=Value.ref b from ry)
  obtain⟨z,hd,xs,rel,dd⟩:=dt_rd I.hok e
  obtain⟨w',hw,rw'⟩:=RelO.some_of (v:=v) (o:=(atKey xs k).map (·.2)) (by rw[l];exact rel.val k)
  obtain⟨p,hp,hp2⟩:=Option.map_eq_some_iff.mp hw
  refine wpAny_getItem_heap (tupleKind_room_in1 hu) (key_of I.hok eb) dd hp ?_
  rw[hp2]
  exact h w' _ (I.tok _) rw'
theorem d_notIn {Q:Value->Shared->Prop}(hu:A.units+1<cLine)(I:Inv X pins σ H s)(g:DGet H a y o)(ry:RelV y u)(h:∀ s',Inv X pins σ H s'->Q (.bool (!o.isSome)) s') :
 wpAny (model X.prog X.w) A (compareOp .NotIn u (.ref a)) Q E s:=by
 rcases g with⟨kvs,k,e,ey,l⟩ | ⟨kvs,k,b,e,ey,eb,l⟩
 ·subst ey
  obtain⟨z,hd,vs,rel,dd⟩:=dk_rd I.hok e
  refine wpAny_notIn_of (kV_is ry) hd dd.mapOf ?_
  rw[<- (rel.val k).isSome_eq,<- l]
  exact h _ (I.tok _)
 ·subst ey
  cases(show u=Value.ref b from ry)
  obtain⟨z,hd,xs,rel,dd⟩:=dt_rd I.hok e
  refine wpAny_notIn_heap (tupleKind_room_in1 hu) (key_of I.hok eb) hd dd ?_
  have q:=(rel.val k).isSome_eq
  rw[Option.isSome_map]at q
  rw[<- q,<- l]
  exact h _ (I.tok _)
theorem d_write {h':Heap}{t':Nat}{ob:HO}(I:Inv X pins σ H s)(mu:Mut (H a))(hs:Heap.SameBut a s.heap h')(he:∃ q,h'.get? a=some q)(new:ObjOk X.prog X.w (upd H a ob) h' a ob) :
 Inv X pins σ (upd H a ob) { s with heap:=h',toks:=t'} :=
 I.write (x:=a) (e:=a) mu (.inl rfl) (fun b q hb z=>(hs.2 b hb).trans z) he new
theorem dk_new {P:Program}{w:World}{H':Hp}{h':Heap}{kvs:List (Key×V)}{vs:List (Key×Value)}(z:kvs.length<=sizeLine)(hd:(a==sysModules)=false)(rel:KV kvs vs)(dd:h'.DictOf (mixKind P w) a vs) :
 ObjOk P w H' h' a (.dK kvs):=⟨z,hd,vs,rel,dd⟩
theorem d_setItem {H':Hp}{Q:Unit->Shared->Prop}(hu:A.units+1<cLine)(I:Inv X pins σ H s)(g:DPut H a y v H')(ry:RelV y u)(rv:RelV v r)(h:∀ s',Inv X pins σ H' s'->Q () s') :
 wpAny (model X.prog X.w) A (setItem (.ref a) u r) Q E s:=by
 rcases g with⟨kvs,k,e,ey,l,eH⟩ | ⟨kvs,k,b,e,ey,eb,l,eH⟩
 ·subst ey eH
  obtain⟨z,hd,vs,rel,dd⟩:=dk_of I.hok e
  have hz:vs.length<=sizeLine:=by rw[<- rel.length];exact z
  have hl:(putK kvs k v).length<=sizeLine:=by have:=length_putK kvs k v;omega
  refine wpAny_setItem_pairs (hsz:=hz) (kV_is ry) dd fun h' dd' hs=>h _ ?_
  have he:∃ q,h'.get? a=some q:=let ⟨q,_,_,hq,_⟩:=dd';⟨q,hq⟩
  exact d_write I (by rw[e];exact True.intro) hs he (dk_new hl hd (rel.put k rv) dd')
 ·subst ey eH
  cases(show u=Value.ref b from ry)
  obtain⟨z,hd,xs,rel,dd⟩:=dt_of I.hok e
  have hz:xs.length<=sizeLine:=by rw[<- Paired.length rel];exact z
  have hl:(putK kvs k v).length<=sizeLine:=by have:=length_putK kvs k v;omega
  refine wpAny_setItem_heap (hsz:=hz) (tupleKind_room_in1 hu) (key_of I.hok eb) dd fun h' dd' hs=>h _ ?_
  obtain⟨q,es,ep,hq,h2,h3,h4,_,h5⟩:=dd'
  refine d_write I (by rw[e];exact True.intro) hs ⟨q,hq⟩ ⟨hl,hd,_,(rel.put k eb rv).keeps fun c ys ec=>?_,q,es,ep,hq,h2,h3,h4,h5⟩
  rw[upd_ne (ne_of ec e (fun z=>nomatch z))]
  exact ec
end
def NoSl (i:Expr):Prop:=∀ ov iv,subscripted i false ov iv=operate [ov,iv] (getItem ov iv)
theorem subD_of {prog:Program}{w:World}{A:Around}{E:Value->Shared->Prop}{s:Shared}{env:Env}{value slice:Expr}{pos:Pos}{T id:String}{Q:Value->Shared->Prop}
 (hl:typeLookup (.type T) "__getitem__"=pure (some (.builtin id))) (hs:NoSl slice)
 (h:wpAny (model prog w) A (eval value env) (fun o s₁=>wpAny (model prog w) A (eval slice env) (fun i s₂=>s₂.TypeIs o T/\wpAny (model prog w) A (getItem o i) Q E s₂) E s₁) E s) :
 wpAny (model prog w) A (eval (.Subscript value slice pos) env) Q E s:=by
 refine Subscript_ (wpAny_mono h (fun o s₁ h₁=>wpAny_mono h₁ (fun i s₂ h₂=>?_) fun _ _ x=>x) fun _ _ x=>x)
 obtain⟨hT,h₂⟩:=h₂
 unfold subscriptTail
 refine gxM ?_
 rw[getitemInPython_of_ne hT.not_modules]
 refine gxM (wpAny_specialOf hT hl ?_)
 have fin:wpAny (model prog w) A (subscripted slice false o i) (fun r s₃=>wpAny (model prog w) A (letTemporaryGo value o r >>= fun _=>pure r) Q E s₃) E s₂:=by
  rw[hs o i]
  exact wpAny_operating (wpAny_mono h₂ (fun r s₃ h₃=>gxM (wpAny_letTemporaryGo (wpAny_pure h₃))) fun _ _ x=>x)
 first
  | exact wpAny_pure (gxM fin)
  | exact gxM (wpAny_pure (gxM fin))
  | exact gxM fin
theorem dict_typeIs {X:Cx}{pins:List (Addr×Obj)}{σ:St}{H:Hp}{s:Shared}{a:Addr}{y:V}{o:Option V}(I:Inv X pins σ H s)(g:DGet H a y o):s.TypeIs (.ref a) "dict":=by
 rcases g with⟨kvs,k,e,_,_⟩ | ⟨kvs,k,b,e,_,_,_⟩
 ·obtain⟨_,_,vs,_,dd⟩:=dk_rd I.hok e
  exact dd.typeIs
 ·obtain⟨_,_,xs,_,dd⟩:=dt_rd I.hok e
  exact dd.typeIs
def tDGet (td ty:TE):TE:=fun σ H Q=>td σ H fun x H1=>ty σ H1 fun y H2=>∃ a v,x=.ref a/\DGet H2 a y (some v)/\Q v H2
def tDNotIn (ty td:TE):TE:=fun σ H Q=>ty σ H fun y H1=>td σ H1 fun x H2=>∃ a o,x=.ref a/\DGet H2 a y o/\Q (.bl (!o.isSome)) H2
def sDPut (td ty tv:TE):TS:=fun D σ H=>tv σ H fun v H1=>td σ H1 fun x H2=>ty σ H2 fun y H3=>∃ a H4,x=.ref a/\DPut H3 a y v H4/\D.nx σ H4
section
variable {X:Cx}{o i e value:Expr}{pos pos' tpos:Pos}{td ty tv:TE}
theorem pe_dget (hu:X.A.units+1<cLine)(ho:PE X o td)(hi:PE X i ty)(hs:NoSl i):PE X (.Subscript o i pos) (tDGet td ty):=by
 intro pins s σ H Q I h
 refine subD_of PySem.F.slot_dict_getitem.lookup hs (thn (ho pins s σ H _ I h) fun u s1 hq5=>?_)
 obtain⟨x,H1,I1,rx,q1⟩:=hq5
 refine thn (hi pins s1 σ H1 _ I1 q1) fun iv s2 hq6=>?_
 obtain⟨y,H2,I2,ry,a,v,ex,g,q2⟩:=hq6
 subst ex
 obtain rfl:u=Value.ref a:=rx
 exact⟨dict_typeIs I2 g,d_getItem hu I2 g ry fun w' s3 I3 rw'=>⟨v,H2,I3,rw',q2⟩⟩
theorem pc_dnotin (hu:X.A.units+1<cLine)(hi:PE X i ty)(ho:PE X o td):PC X .NotIn i o (tDNotIn ty td):=by
 intro pins s σ H Q I h
 refine thn (hi pins s σ H _ I h) fun iv s1 hq0=>?_
 obtain⟨y,H1,I1,ry,q1⟩:=hq0
 refine thn (ho pins s1 σ H1 _ I1 q1) fun u s2 hq1=>?_
 obtain⟨x,H2,I2,rx,a,ov,ex,g,q2⟩:=hq1
 subst ex
 obtain rfl:u=Value.ref a:=rx
 exact d_notIn hu I2 g ry fun s3 I3=>⟨.bl (!ov.isSome),H2,I3,rfl,q2⟩
theorem ps_dput (hu:X.A.units+1<cLine)(ho:PE X o td)(hi:PE X i ty)(hv:PE X value tv)(hs:swapsWith value (some (.Subscript o i pos')) pos.line X.env=pure false) :
 PS X (.Assign [.Subscript o i pos'] value pos) (sDPut td ty tv):=by
 intro pins s σ H D I h
 refine wpAny_Assign_Subscript (thn (hv pins s σ H _ I h) fun r s1 hq2=>?_) hs
 obtain⟨v,H1,I1,rv,q1⟩:=hq2
 refine thn (ho pins s1 σ H1 _ I1 q1) fun u s2 hq3=>?_
 obtain⟨x,H2,I2,rx,q2⟩:=hq3
 refine thn (hi pins s2 σ H2 _ I2 q2) fun iv s3 hq4=>?_
 obtain⟨y,H3,I3,ry,a,H4,ex,g,q3⟩:=hq4
 subst ex
 obtain rfl:u=Value.ref a:=rx
 exact d_setItem hu I3 g ry rv fun s4 I4=>⟨σ,H4,I4,q3⟩
end
theorem dk_empty {P:Program}{w:World}{H:Hp}(h:Heap)(hb:sysModules<h.objs.size):ObjOk P w H (h.push { cls:=.type "dict",data:=.dict #[]}) h.objs.size (.dK []) :=
 ⟨Nat.zero_le _,beq_eq_false_iff_ne.mpr (Ne.symm (Nat.ne_of_lt hb)),[],.nil,Heap.DictOf.new h⟩
theorem dt_empty {P:Program}{w:World}{H:Hp}(h:Heap)(hb:sysModules<h.objs.size):ObjOk P w H (h.push { cls:=.type "dict",data:=.dict #[]}) h.objs.size (.dT []) :=
 ⟨Nat.zero_le _,beq_eq_false_iff_ne.mpr (Ne.symm (Nat.ne_of_lt hb)),[],.nil,_,#[],0,Heap.get?_push_size _ rfl,⟨rfl,rfl,rfl⟩,rfl,rfl,List.nodup_nil⟩
def tDNewK:TE:=fun _ H Q=>∀ p,H p=none->Q (.ref p) (upd H p (.dK []))
def tDNewT:TE:=fun _ H Q=>∀ p,H p=none->Q (.ref p) (upd H p (.dT []))
section
variable {X:Cx}{pos:Pos}
theorem pe_dnewK:PE X (.Dict [] [] pos) tDNewK:=fun pins s σ H Q I h =>
 wpAny_Dict_empty ⟨.ref s.heap.objs.size,_,I.laid (a:=s.heap.objs.size) (o:=.dK []) (t':=s.toks) (fun _ _ q=>gxL _ q) (Nat.le_refl _) (dk_empty s.heap I.big),rfl,h _ (I.hok.fresh (Nat.le_refl _))⟩
theorem pe_dnewT:PE X (.Dict [] [] pos) tDNewT:=fun pins s σ H Q I h =>
 wpAny_Dict_empty ⟨.ref s.heap.objs.size,_,I.laid (a:=s.heap.objs.size) (o:=.dT []) (t':=s.toks) (fun _ _ q=>gxL _ q) (Nat.le_refl _) (dt_empty s.heap I.big),rfl,h _ (I.hok.fresh (Nat.le_refl _))⟩
end
structure M1 (X:Cx)(o:Expr)(m:Str)(apos:Pos)(e:Expr)(cpos:Pos):Prop where
 base:attributeBase o m X.env (eval o X.env)=eval o X.env
 few:((backTo cpos (starEach [e] X.env)).all (fun x=>!x.1)&&(backToKw cpos (keywordEach [] X.env)).all (fun x=>x.1.isSome)
  && decide (([e]:List Expr).length+([]:List Keyword).length+(if([]:List Keyword).isEmpty then 0 else 1)<30))=true
 line:(apos.endLine==cpos.line)=true
 trees:backTo cpos (starEach [e] X.env)=[(false,eval e X.env)]
structure M2 (X:Cx)(o:Expr)(m:Str)(apos:Pos)(e f:Expr)(cpos:Pos):Prop where
 base:attributeBase o m X.env (eval o X.env)=eval o X.env
 few:((backTo cpos (starEach [e,f] X.env)).all (fun x=>!x.1)&&(backToKw cpos (keywordEach [] X.env)).all (fun x=>x.1.isSome)
  && decide (([e,f]:List Expr).length+([]:List Keyword).length+(if([]:List Keyword).isEmpty then 0 else 1)<30))=true
 line:(apos.endLine==cpos.line)=true
 trees:backTo cpos (starEach [e,f] X.env)=[(false,eval e X.env),(false,eval f X.env)]
def cxE (X:Cx)(N:List Str)(sc:Scope)(fp:List Addr)(s:Shared)(H:Hp):Cx where
 prog:=X.prog
 w:=X.w
 K:=X.K
 mg:=X.mg
 base:=X.base
 A:=X.A
 N:=N
 s₀:=s
 H₀:=H
 env:=envC sc s.heap.objs.size X.env
 outer:=X.stack
 stack:=X.stack
 ex:=fp
 fn:=fun x=>sc.names.lookup x==some .cell
 calm:=X.calm
 pn:=[]
 xe:=fun _ _=>False
def heapE (sc:Scope)(h:Heap):Heap:=pushCells (h.push { cls:=.type "dict",data:=.dict #[]}) sc.names
theorem heapE_keeps {sc:Scope}{h:Heap}:∀ b o,h.get? b=some o->(heapE sc h).get? b=some o:=fun b o e=>pushCells_keeps _ _ b o (gxL _ e)
section
variable {X:Cx}{pins:List (Addr×Obj)}{σ:St}{H:Hp}{s:Shared}{N:List Str}{js:List (Option Nat)}{sc:Scope}{fp:List Addr}
theorem inv_compE (I:Inv X pins σ H s)(hc:CompOk X N js sc)(hf:∀ b∈fp,FpOk X pins H b)(ho:∀ b∈fp,∃ o,s.heap.get? b=some o)(tk:Nat) :
 Inv (cxE X N sc fp s H) [] (startC js σ) H { s with heap:=heapE sc s.heap,toks:=tk}:=by
 have freeX:∀ y∈sc.names,y.2=.free->∃ c,X.env.cells.lookup y.1=some c:=fun y hy e=>I.ok.has y.1 (hc.free y hy e)
 have ok:=cellsFrom_ok sc.names (s.heap.push { cls:=.type "dict",data:=.dict #[]}) (s.heap.objs.size+1) [] ⟨fun _ _ hm=>(nomatch hm),List.Pairwise.nil⟩
  (by rw[Heap.size_push];exact Nat.le_refl _)
 rw[Heap.size_push]at ok
 have eC:(envC sc s.heap.objs.size X.env).cells=cellsFrom (s.heap.objs.size+1) sc.names []++closOf X.env.cells sc.names []:=cellsFrom_app sc.names _ [] _
 have lk:∀ x c,(envC sc s.heap.objs.size X.env).cells.lookup x=some c->(x,c)∈cellsFrom (s.heap.objs.size+1) sc.names []\/X.env.cells.lookup x=some c:=fun x c e=>by
  rw[eC]at e
  rcases List.mem_append.mp (mem_of_lookup e)with h | h
  ·exact .inl h
  ·rcases closOf_mem freeX x c h with h | h
   ·cases h
   ·exact .inr h
 have big:∀(x:Str) (c:Nat),(x,c)∈cellsFrom (s.heap.objs.size+1) sc.names []->s.heap.objs.size+1<=c:=fun x c h=>(ok.empty x c h).2
 have small:∀(x:Str) (c:Nat),X.env.cells.lookup x=some c->c<s.heap.objs.size:=fun x c h=>let ⟨_,q⟩:=I.cell x c h;q.lt
 have has:∀ x,((envC sc s.heap.objs.size X.env).kindOf x=some .cell\/(envC sc s.heap.objs.size X.env).kindOf x=some .free)->∃ c,(envC sc s.heap.objs.size X.env).cells.lookup x=some c:=fun x h=>by
  have h':(relabel sc X.env).names.lookup x=some .cell\/(relabel sc X.env).names.lookup x=some .free:=h
  rw[lookup_relabel]at h'
  rw[eC,List.lookup_append]
  cases q:sc.names.lookup x with
  | none=>rw[q]at h';rcases h' with h' | h' <;> cases h'
  | some k =>
   rw[q]at h'
   have hk:=relK_vis (env:=X.env) (x:=x) (k:=k) (h'.elim (fun z=>.inl (Option.some.inj z)) fun z=>.inr (Option.some.inj z))
   rcases hk with rfl | rfl
   ·obtain⟨c,hc'⟩:=cell_has (n:=s.heap.objs.size+1) q
    exact⟨c,by rw[hc'];rfl⟩
   ·have z:=closOf_has (cells:=X.env.cells) sc.names [] x (mem_of_lookup q)
    obtain⟨c,hc'⟩:=Option.isSome_iff_exists.mp z
    cases q2:(cellsFrom (s.heap.objs.size+1) sc.names []).lookup x with
    | none=>exact⟨c,by rw[hc'];rfl⟩
    | some d=>exact⟨d,rfl⟩
 have okY:(cxE X N sc fp s H).Ok:=by
  refine⟨I.ok.mod,hc.kind,I.ok.glob,I.ok.blt,Nat.le_refl _,fun x y c h1 h2=>?_,has,fun x c hx h=>?_,I.ok.hd,I.ok.frames,.inl rfl,fun b hb=>⟨?_,fun x c h=>?_⟩,I.bs,Nat.le_trans I.ok.bsz I.sz,fun b o e hb=>?_,fun b hb hs=>?_,I.stack,I.stkFree⟩
  ·rcases lk x c h1 with g1 | g1 <;> rcases lk y c h2 with g2 | g2
   ·exact name_of_addr ok.apart g1 g2
   ·exact absurd (Nat.lt_of_lt_of_le (small _ _ g2) (Nat.le_trans (Nat.le_add_right _ 1) (big _ _ g1))) (Nat.lt_irrefl _)
   ·exact absurd (Nat.lt_of_lt_of_le (small _ _ g1) (Nat.le_trans (Nat.le_add_right _ 1) (big _ _ g2))) (Nat.lt_irrefl _)
   ·exact I.ok.inj x y c g1 g2
  ·have hx':sc.names.lookup x=some .cell:=by simpa [cxE]using hx
   have h':(envC sc s.heap.objs.size X.env).cells.lookup x=some c:=h
   rw[eC,List.lookup_append]at h'
   obtain⟨c2,hc'⟩:=cell_has (n:=s.heap.objs.size+1) hx'
   rw[hc']at h'
   have e:c2=c:=Option.some.inj h'
   subst e
   exact Nat.le_trans (Nat.le_add_right _ 1) (big _ _ (mem_of_lookup hc'))
  ·obtain⟨o,e⟩:=ho b hb
   exact Nat.ne_of_lt (gxN e)
  ·obtain⟨o,e⟩:=ho b hb
   have l:=gxN e
   rcases lk x c h with g | g
   ·exact Nat.ne_of_gt (Nat.lt_of_lt_of_le l (Nat.le_trans (Nat.le_add_right _ 1) (big _ _ g)))
   ·exact(hf b hb).2.2.2.2.1 x c g
  ·rcases(hf b hb).2.2.2.1 with z | z
   ·exact I.ok.noex b o e z
   ·exact absurd (Nat.lt_of_lt_of_le (gxN e) (Nat.le_trans I.ok.bsz z)) (Nat.lt_irrefl _)
  ·rcases List.mem_cons.mp (I.stkSub b hs)with z | z
   ·exact(hf b hb).2.1 z
   ·exact(hf b hb).2.2.1 z
 have keepH:∀ b u,s.heap.get? b=some u->(heapE sc s.heap).get? b=some u:=heapE_keeps
 have nsC:(heapE sc s.heap).Ns s.heap.objs.size fun _=>none:=by
  have q:=(Heap.Ns.new s.heap (.type "dict")).keeps (pushCells_keeps sc.names _)
  exact q
 refine⟨okY,rfl,I.bare,Un.kept keepH,⟨_,nsC,fun i x v e1 e2 e3=>?_⟩,fun x c h=>?_,I.hok.fresh (Nat.le_refl _),fun x c h=>?_,fun p hp=>absurd (show p∈([]:List (Addr×Obj))from hp) (by simp),I.hok.kept keepH,?_⟩
 ·obtain⟨j,hj,hv⟩:=getStart e2
  obtain⟨g1,g2,g3,g4⟩:=hc.slot i x j e1 hj
  have kx:=hc.free _ g2 rfl
  obtain⟨m,hn,hl⟩:=I.loc
  obtain⟨u,r,l⟩:=hl j x v g1 hv (.inr kx)
  refine⟨u,r,?_⟩
  rcases l with⟨z,_⟩ | ⟨_,c,hcc,hcell⟩
  ·have z':X.env.kindOf x=some .local:=z
   rcases kx with k | k <;> (have k':X.env.kindOf x=_:=k;rw[z']at k';cases k')
  ·have kY:(envC sc s.heap.objs.size X.env).kindOf x=some .cell\/(envC sc s.heap.objs.size X.env).kindOf x=some .free:=by
    show(relabel sc X.env).names.lookup x=some .cell\/(relabel sc X.env).names.lookup x=some .free
    rw[lookup_relabel,g3]
    rcases relK_free (env:=X.env) (x:=x)with q | q
    ·exact .inl (show some (relK X.env x .free)=_ by rw[q])
    ·exact .inr (show some (relK X.env x .free)=_ by rw[q])
   obtain⟨c',h'⟩:=has x kY
   refine .inr ⟨kY,c',h',?_⟩
   rcases lk x c' h' with g | g
   ·rcases cellsFrom_mem _ _ _ _ _ g with z | z
    ·exact absurd z g4
    ·cases z
   ·rw[hcc]at g;cases g
    exact hcell.keeps keepH
 ·rcases lk x c h with g | g
  ·exact⟨_,(ok.empty x c g).1⟩
  ·obtain⟨v,q⟩:=I.cell x c g
   exact⟨v,q.keeps keepH⟩
 ·rcases lk x c h with g | g
  ·exact I.hok.fresh (Nat.le_trans (Nat.le_add_right _ 1) (big _ _ g))
  ·exact I.freeC x c g
 ·show(startC js σ).length=N.length
  unfold startC
  rw[gxC];exact hc.len
end
theorem compLoopD_any {prog:Program}{w:World}{A:Around}{R:Result->Shared->Prop}{s:Shared}{kx vx target iter:Expr}{ifs:List Expr}{scope:Scope}{pos:Pos}{it:Value}{D:Addr}{env:Env}(I:Nat->Shared->Prop)
 (turn:∀ n s,I n s->wpAny (model prog w) A (pyNext it) (fun r s₁=>match r with
   | none=>R (.ok .next) s₁
   | some v=>wpAny (model prog w) A (letOwnedTupleGo target it v) (fun _ s₁'=>wpAny (model prog w) A (assign target env v) (fun _ s₂ =>
    wpAny (model prog w) A (forIn ifs true fun c r=>if r=true then do let ok <- isTrue c env (eval c env);pure (ForInStep.yield ok)else pure (ForInStep.yield r)) (fun ok s₃ =>
     if ok=true then wpAny (model prog w) A (eval kx env) (fun kv s₄=>wpAny (model prog w) A (eval vx env) (fun vv s₅ =>
      wpAny (model prog w) A (dictSet D kv vv) (fun _ s₆=>∃ m,m<n/\I m s₆) (fun _ _=>False) s₅) (fun _ _=>False) s₄) (fun _ _=>False) s₃
     else ∃ m,m<n/\I m s₃) (fun _ _=>False) s₂) (fun _ _=>False) s₁') (fun _ _=>False) s₁) (fun _ _=>False) s)
 (n:Nat) (h:I n s) :
 codeAny (model prog w) A (.compLoop (.DictComp kx vx [⟨target,iter,ifs,0⟩] scope pos) 0 it (.ref D) env) R s:=by
 refine codeAny_loop rfl I (fun n s hI=>?_) n h
 show wpAny _ A ((compTurn (.DictComp kx vx [⟨target,iter,ifs,0⟩] scope pos) 0 it (.ref D) env).onRaise (fun x=>do noteFrame x env;theTreesLotGoes x)) _ _ s
 refine wpAny_noted ?_
 rw[compTurn_dict]
 refine gxM (wpAny_standAt (gxM (wpAny_mono (turn n s hI) (fun r s₁ h₁=>?_) fun _ _ h'=>h'.elim)))
 cases r with
 | none=>exact wpAny_pure h₁
 | some v =>
  refine gxM (wpAny_mono h₁ (fun _ s₁' h₁'=>?_) fun _ _ h'=>h'.elim)
  refine gxM (wpAny_mono h₁' (fun _ s₂ h₂=>gxM (wpAny_mono h₂ (fun ok s₃ h₃=>?_) fun _ _ h'=>h'.elim)) fun _ _ h'=>h'.elim)
  cases ok with
  | false=>exact wpAny_pure ⟨rfl,h₃⟩
  | true =>
   exact gxM (gxM (wpAny_mono h₃ (fun x s₄ h₄=>gxM (wpAny_holding (wpAny_mono h₄ (fun y s₅ h₅=>gxM (wpAny_standAt (wpAny_holding (wpAny_mono h₅ (fun _ s₆ h₆=>wpAny_pure ⟨rfl,h₆⟩) fun _ _ h'=>h'.elim)))) fun _ _ h'=>h'.elim))) fun _ _ h'=>h'.elim))
def wCompD (js:List (Option Nat))(g:TG)(tt:TT)(tk tv:TE)(J:It)(σ:St)(D:Addr)(H1:Hp)(fin:List (Key×V)->Hp->Prop):Prop :=
 ∃ W:Nat->Nat->List (Key×V)->Hp->Prop,(∃ m,W 0 m [] H1)/\∀ i m kvs H,W i m kvs H ->
  (J.stop i H/\fin kvs H)\/(J.go i H/\∀ x H',J.yld i H x H'->g x (startC js σ) H' fun σ2 H2=>Ext (startC js σ) σ2/\tt σ2 H2 fun b H3 =>
    if b=true then tk σ2 H3 fun k H4=>tv σ2 H4 fun v H5=>∃ kk:Key,k=kV kk/\H5 D=some (.dK kvs)/\kvs.length<sizeLine/\∃ m',m'<m/\W (i+1) m' (putK kvs kk v) (upd H5 D (.dK (putK kvs kk v)))else ∃ m',m'<m/\W (i+1) m' kvs H3)
section
variable {X:Cx}{pins:List (Addr×Obj)}{σ:St}{H:Hp}{s:Shared}
theorem dict_set {A:Around}{E:Value->Shared->Prop}{a:Addr}{kvs:List (Key×V)}{k:Key}{u r:Value}{v:V}{Q:Unit->Shared->Prop}(I:Inv X pins σ H s)(e:H a=some (.dK kvs))(l:kvs.length<sizeLine)(ry:RelV (kV k) u)(rv:RelV v r)
 (h:∀ s',Inv X pins σ (upd H a (.dK (putK kvs k v))) s'->Q () s'):wpAny (model X.prog X.w) A (dictSet a u r) Q E s:=by
 obtain⟨z,hd,vs,rel,dd⟩:=dk_of I.hok e
 have hz:vs.length<=sizeLine:=by rw[<- rel.length];exact z
 have hl:(putK kvs k v).length<=sizeLine:=by have:=length_putK kvs k v;omega
 refine wpAny_dictSet_pairs (hsz:=hz) (kV_is ry) dd fun h' dd' hs=>h _ ?_
 have he:∃ q,h'.get? a=some q:=let ⟨q,_,_,hq,_⟩:=dd';⟨q,hq⟩
 exact d_write I (by rw[e];exact True.intro) hs he (dk_new hl hd (rel.put k rv) dd')
variable {N:List Str}{js:List (Option Nat)}{sc:Scope}{fp:List Addr}{tg kx vx iter:Expr}{ifs:List Expr}{g:TG}{tt:TT}{tk tv:TE}
theorem compD_block {J:It}{it D:Addr}{tn:Nat->Heap->Prop}{pos:Pos}{R:Result->Shared->Prop}{fin:List (Key×V)->Hp->Prop}{tok:Nat}(I:Inv X pins σ H s)(hc:CompOk X N js sc)(calm:X.calm=true)
 (T:Turn X.prog X.w X.K tg J fp it tn) (st:tn 0 s.heap) (hf:∀ b∈fp,FpOk X pins H b)
 (hg:PG (cxE X N sc fp s H) tg g) (ht:PTs (cxE X N sc fp s H) ifs tt) (hk:PE (cxE X N sc fp s H) kx tk) (hv:PE (cxE X N sc fp s H) vx tv) (q:wCompD js g tt tk tv J σ D H fin)
 (hR:∀ s' H' kvs m,Inv X pins σ H' s'->fin kvs H'->s'.heap.Ns s.heap.objs.size m->H' s.heap.objs.size=none->R (.ok .next) s') :
 codeAny (model X.prog X.w) X.A (.compStart (.DictComp kx vx [⟨tg,iter,ifs,0⟩] sc pos) 0 (.ref it) (.ref D) (envC sc s.heap.objs.size X.env)) R { s with heap:=heapE sc s.heap,toks:=tok}:=by
 have hob:∀ b∈fp,∃ o,s.heap.get? b=some o:=fun b hb=>let ⟨o,e,_⟩:=T.obj 0 s.heap st b hb;⟨o,e⟩
 have I0:=inv_compE I hc hf hob tok
 have okY:=I0.ok
 obtain⟨W,⟨m0,w0⟩,turn⟩:=q
 have stat:∀ {H':Hp},(∀ b∈fp,H' b=none)->∀ b∈fp,FpOk (cxE X N sc fp s H) [] H' b:=fun {H'} hn b hb =>
  ⟨hn b hb,(okY.exf b hb).1,okY.exfs b hb,.inl hb,(okY.exf b hb).2,fun p hp=>absurd (show p∈([]:List (Addr×Obj))from hp) (by simp)⟩
 have st0:tn 0 (heapE sc s.heap):=T.keep 0 _ _ st fun b _ o e=>heapE_keeps b o e
 have loop:codeAny (model X.prog X.w) X.A (.compLoop (.DictComp kx vx [⟨tg,iter,ifs,0⟩] sc pos) 0 (.ref it) (.ref D) (envC sc s.heap.objs.size X.env)) R { s with heap:=heapE sc s.heap,toks:=tok}:=by
  refine compLoopD_any (fun n s'=>∃ i kvs H',Inv (cxE X N sc fp s H) [] (startC js σ) H' s'/\tn i s'.heap/\(∀ b∈fp,H' b=none)/\W i n kvs H') ?_ m0
   ⟨0,[],H,I0,st0,fun b hb=>(hf b hb).1,w0⟩
  rintro n s3 ⟨i,kvs,H3,I3,st3,fr3,w3⟩
  rcases turn i n kvs H3 w3 with⟨stop,qf⟩ | ⟨go,step⟩
  ·refine thn (T.done (cxE X N sc fp s H) rfl rfl rfl calm i _ s3 _ H3 _ I3 (stat fr3) st3 stop) fun r s4 hq5=>?_
   obtain⟨hr,I4⟩:=hq5
   subst hr
   show R (.ok .next) s4
   obtain⟨m,hns,_⟩:=I4.loc
   have IX:Inv X pins σ H3 s4:=I.call' (ch:=fp) I4.os I4.base I4.hok I4.bare fun b hb=>by
    obtain⟨f0,f1,f2,f3,f4,f5⟩:=hf b hb
    exact⟨f3,f1,f4,f5⟩
   exact hR s4 H3 kvs m IX qf hns I4.free
  ·refine thn (T.item (cxE X N sc fp s H) rfl rfl rfl calm i _ s3 _ H3 _ I3 (stat fr3) st3 go) fun r s4 hq6=>?_
   obtain⟨u,hr,h4⟩:=hq6
   subst hr
   refine thn h4 fun _ s5 hq0=>?_
   obtain⟨x,H5,I5,r5,y5,st5,fr5⟩:=hq0
   have I5':=I5.pinned (stat fr5) (T.obj _ _ st5)
   refine thn (hg _ s5 _ H5 x u _ I5' r5 (step x H5 y5)) fun _ s6 ⟨σ6,H6,I6,⟨ext6,q6⟩⟩=>?_
   refine thn (ht _ s6 σ6 H6 _ I6 q6) fun b s7 hq1=>?_
   obtain⟨H7,I7,q7⟩:=hq1
   have back:∀ {s':Shared} {H':Hp},Inv (cxE X N sc fp s H) ([]++pinsAt fp s5.heap) σ6 H' s'->tn (i+1) s'.heap/\(∀ b∈fp,H' b=none)/\Inv (cxE X N sc fp s H) [] (startC js σ) H' s':=fun {s' H'} I'=>by
    refine⟨T.keep _ _ _ st5 fun b hb o e=>(I'.pin (b,o) (List.mem_append_right _ (List.mem_append_right _ (mem_pinsAt hb e)))).1,fun b hb=>?_,(I'.weak ext6.1 ext6.2).unpinned⟩
    obtain⟨o,e,d⟩:=T.obj _ _ st5 b hb
    exact(I'.pin (b,o) (List.mem_append_right _ (List.mem_append_right _ (mem_pinsAt hb e)))).2.1
   cases b with
   | false =>
    obtain⟨m',hm,w7⟩:=q7
    obtain⟨t7,f7,I7'⟩:=back I7
    exact⟨m',hm,i+1,kvs,H7,I7',t7,f7,w7⟩
   | true =>
    refine thn (hk _ s7 σ6 H7 _ I7 q7) fun y s8 hq2=>?_
    obtain⟨yk,H8,I8,ry,q8⟩:=hq2
    refine thn (hv _ s8 σ6 H8 _ I8 q8) fun z s9 hq3=>?_
    obtain⟨zv,H9,I9,rz,kk,ek,eD,hl,m',hm,w9⟩:=hq3
    subst ek
    refine dict_set (X:=cxE X N sc fp s H) I9 eD hl ry rz fun s10 I10=>?_
    obtain⟨t8,f8,I8'⟩:=back I10
    exact⟨m',hm,i+1,_,_,I8',t8,f8,w9⟩
 exact codeAny_compStart_dict loop (T.self _ 0 _ _ _ st0 loop)
def tCompD (wi:TI)(js:List (Option Nat))(g:TG)(tt:TT)(tk tv:TE):TE:=fun σ H Q=>wi σ H fun J H1=>∀ D,H1 D=none->wCompD js g tt tk tv J σ D (upd H1 D (.dK [])) fun _ H'=>Q (.ref D) H'
end
def flV:D->V
 | .bl b=>.bl b
 | .int i=>.int i
 | .str z=>.str z
 | _=>.non
theorem flV_is {φ:List Addr}{H:Hp}{d:D}(h:fltD d=true):DIs φ H d (flV d):=by
 cases d <;> first | exact(Bool.noConfusion (show false=true from h)) | rfl
theorem flV_eq {φ:List Addr}{H:Hp}{d:D}{v:V}(h:fltD d=true)(i:DIs φ H d v):v=flV d:=by
 cases d <;> first | exact(Bool.noConfusion (show false=true from h)) | exact i
theorem flVs {φ:List Addr}{H:Hp}:∀ {ds:List D},ds.all fltD=true->DAll φ H ds (ds.map flV)
 | [],_=>rfl
 | d::ds,h=>by
  rw[List.all_cons,Bool.and_eq_true]at h
  exact⟨_,_,rfl,flV_is h.1,flVs h.2⟩
theorem flVs_eq {φ:List Addr}{H:Hp}:∀ {ds:List D} {vs:List V},ds.all fltD=true->DAll φ H ds vs->vs=ds.map flV
 | [],_,_,h=>h
 | d::ds,_,f,h=>by
  obtain⟨v,r,rfl,h1,h2⟩:=h
  rw[List.all_cons,Bool.and_eq_true]at f
  rw[flV_eq f.1 h1,flVs_eq f.2 h2];rfl
def keyD:D->Option Key
 | .int i=>some (.inl i)
 | .str z=>some (.inr z)
 | _=>none
theorem keyD_is {φ:List Addr}{H:Hp}{d:D}{v:V}{k:Key}(e:keyD d=some k)(i:DIs φ H d v):v=kV k:=by
 cases d with
 | int n=>cases e;exact i
 | str z=>cases e;exact i
 | _=>cases e
def dput (kvs:List (Key×D))(k:Key)(d:D):List (Key×D):=if(kvs.any fun kv=>decide (kv.1=k))=true then kvs.map (fun kv=>if kv.1=k then(kv.1,d)else kv)else kvs++[(k,d)]
def dval (kvs:List (Key×D))(k:Key):Option D:=(kvs.find? fun kv=>decide (kv.1=k)).map (·.2)
def vKV (kvs:List (Key×D)):List (Key×V):=kvs.map fun p=>(p.1,flV p.2)
theorem dput_v (kvs:List (Key×D))(k:Key)(d:D):vKV (dput kvs k d)=putK (vKV kvs) k (flV d):=by
 unfold dput putK vKV
 have e:((kvs.map fun p=>(p.1,flV p.2)).any fun kv=>decide (kv.1=k))=(kvs.any fun kv=>decide (kv.1=k)):=by rw[List.any_map];rfl
 rw[e]
 split
 ·rw[List.map_map,List.map_map]
  congr 1
  funext p
  show(_,_)=_
  by_cases h:p.1=k
  ·simp[h]
  ·simp[h]
 ·rw[List.map_append];rfl
theorem dput_len (kvs:List (Key×D))(k:Key)(d:D):(dput kvs k d).length<=kvs.length+1:=by
 unfold dput
 split
 ·rw[gxC];omega
 ·rw[gxE,List.length_singleton];omega
theorem dput_flat {kvs:List (Key×D)}{k:Key}{d:D}(h:(kvs.map (·.2)).all fltD=true)(hd:fltD d=true):((dput kvs k d).map (·.2)).all fltD=true:=by
 unfold dput
 rw[List.all_eq_true]at h ⊢
 intro x hx
 split at hx
 ·rw[List.map_map]at hx
  obtain⟨p,hp,rfl⟩:=List.mem_map.mp hx
  show fltD (if p.1=k then(p.1,d)else p).2=true
  split
  ·exact hd
  ·exact h _ (List.mem_map.mpr ⟨p,hp,rfl⟩)
 ·rw[List.map_append]at hx
  rcases List.mem_append.mp hx with q | q
  ·exact h x q
  ·rw[List.mem_singleton.mp (show x∈[d]from q)];exact hd
abbrev dicD (kvs:List (Key×D)):D:=.dic (kvs.map (·.1)) (kvs.map (·.2))
def dcompW (it:D->MS->(Option (Key×D)->MS->Prop)->Prop)(c:MS->Prop)(μ:MS):List D->List (Key×D)->(List (Key×D)->Prop)->Prop
 | [],kvs,K=>c (μ++[.dic (kvs.map (·.1)) (kvs.map (·.2))])/\K kvs
 | d::ds,kvs,K=>c (μ++[.dic (kvs.map (·.1)) (kvs.map (·.2))])/\it d (μ++[.dic (kvs.map (·.1)) (kvs.map (·.2))]) fun o μ'=>μ'=μ++[.dic (kvs.map (·.1)) (kvs.map (·.2))]/\(match o with
  | some (k,y)=>fltD y=true/\dcompW it c μ ds (dput kvs k y) K
  | none=>dcompW it c μ ds kvs K)
def dItemD (ρ:DE)(y:DG)(t:Dt)(wk wv:De)(d:D)(μ:MS)(K:Option (Key×D)->MS->Prop):Prop:=y d ρ μ fun ρ2 μ2=>t ρ2 μ2 fun b μ3=>if b=true then wk ρ2 μ3 fun kd μ4=>opt (keyD kd) fun k=>wv ρ2 μ4 fun v μ5=>K (some (k,v)) μ5 else K none μ3
def dCompD (wi:DI)(js:List (Option Nat))(y:DG)(t:Dt)(wk wv:De):De:=fun ρ μ K=>wi ρ μ fun ds c μ1=>ds.length<=sizeLine/\dcompW (dItemD (startD js ρ) y t wk wv) c μ1 ds [] fun kvs=>K (dicD kvs) μ1
theorem Fr.noext {φ φ':List Addr}{H H':Hp}(f:Fr φ H φ' H')(hl:φ'.length=φ.length):φ'=φ:=by
 obtain⟨⟨ψ,rfl,_⟩,_,_⟩:=f
 rw[gxE]at hl
 have:ψ=[]:=List.length_eq_zero_iff.mp (by omega)
 rw[this,List.append_nil]
theorem tD_compD {wi:DI}{js:List (Option Nat)}{g:TG}{y:DG}{S:List Nat}{t:Dt}{wk wv:De}(so:SoG g y S)(mo:MonoG g)(ho:ownJs S js=true){σ:St}{H:Hp}{Q:VK}(h:tD (dCompD wi js y t wk wv) σ H Q):tCompD (tDI wi) js g (tDT t) (tD wk) (tD wv) σ H Q:=by
 obtain⟨φ,ρ,μ,K,A,M,k,L⟩:=h
 refine⟨φ,ρ,μ,_,A,M,k,fun ds c μ1 φ1 J H1 k1 f1 M1 wk' D hD=>?_⟩
 obtain⟨hz,k1⟩:=k1
 have hDf:D∉φ1:=M1.fresh hD
 have fD:Fr φ1 H1 (φ1++[D]) (upd H1 D (.dK [])):=⟨(Fr.snoc (φ:=φ1) hD).ext,fun c u _ e=>Same.upd hD _ _ e,fun c e=>(Same.upd hD).free e⟩
 obtain⟨MD,_⟩:=M1.snoc (m:=.dic [] []) (o:=.dK []) hD ⟨[],[],upd_same,rfl,rfl,rfl⟩
 have lenD:(φ1++[D]).length=μ1.length+1:=by rw[gxE,M1.len];rfl
 have atD:∀ {H':Hp} {kvs:List (Key×L2.D)},(kvs.map (·.2)).all fltD=true->MSis (φ1++[D]) H' (μ1++[.dic (kvs.map (·.1)) (kvs.map (·.2))])->H' D=some (.dK (vKV kvs)):=fun {H' kvs} hfl M'=>by
  obtain⟨p,e1,kvs',vs,e2,e3,e4,e5⟩:=M'.at_ μ1.length _ (by rw[gxG (Nat.le_refl _),Nat.sub_self];rfl)
  rw[gxG (by rw[M1.len];exact Nat.le_refl _),M1.len,Nat.sub_self]at e1
  cases e1
  rw[e2]
  congr 2
  have e6:=flVs_eq hfl e5
  rw[e4]at e6
  unfold vKV
  have key:∀(as:List (Key×V)) (bs:List (Key×L2.D)),as.map (·.1)=bs.map (·.1)->as.map (·.2)=(bs.map (·.2)).map flV->as=bs.map fun p=>(p.1,flV p.2):=by
   intro as
   induction as with
   | nil=>intro bs h1 _;cases bs with
    | nil=>rfl
    | cons _ _=>cases h1
   | cons a as ih =>
    intro bs h1 h2
    cases bs with
    | nil=>cases h1
    | cons b bs =>
     simp only[List.map_cons,List.cons.injEq]at h1 h2 ⊢
     exact⟨Prod.ext h1.1 h2.1,ih bs h1.2 (by simpa using h2.2)⟩
  exact key kvs' kvs e3 e6
 refine⟨fun i n kv H'=>n=ds.length - i/\i<=ds.length/\∃ kvs:List (Key×L2.D),kv=vKV kvs/\kvs.length<=i/\(kvs.map (·.2)).all fltD=true/\Fr φ1 H1 (φ1++[D]) H'/\MSis (φ1++[D]) H' (μ1++[.dic (kvs.map (·.1)) (kvs.map (·.2))])/\dcompW (dItemD (startD js ρ) y t wk wv) c μ1 (ds.drop i) kvs fun kvs=>K (dicD kvs) μ1,
  ⟨ds.length,rfl,Nat.zero_le _,[],rfl,Nat.zero_le _,rfl,fD,MD,k1⟩,?_⟩
 rintro i n kv H' ⟨rfl,hi,kvs,rfl,hkl,hfl,f',M',w'⟩
 by_cases hlt:i<ds.length
 ·rw[List.drop_eq_getElem_cons hlt]at w'
  obtain⟨c',w'⟩:=w'
  obtain⟨go,yld⟩:=(wk' _ H' _ f' M' c' i).1 ds[i] (gxA hlt)
  refine .inr ⟨go,fun x H2 hy2=>?_⟩
  obtain⟨f2,M2,i2⟩:=yld x H2 hy2
  have E2:DEnv (φ1++[D]) H2 (startD js ρ) (startC js σ):=((A.mono (f1.trans (f'.trans f2))).startC js)
  refine mo _ _ _ _ _ (fun σ3 H3 hq4=>?_) (so _ H2 _ _ _ _ x _ E2 M2 i2 w')
  obtain⟨e3,l3,n3,ρ3,E3,k3⟩:=hq4
  refine⟨ext_of ho l3 n3,?_⟩
  subst e3
  refine⟨_,ρ3,_,_,E3,M2,k3,fun b μ4 φ4 H4 k4 f4 M4=>?_⟩
  cases b with
  | true =>
   refine⟨φ4,ρ3,μ4,_,E3.mono f4,M4,k4,fun d5 μ5 φ5 v5 H5 k5 f5 M5 i5=>?_⟩
   obtain⟨kk,ekk,k5⟩:=opt_ex k5
   refine⟨φ5,ρ3,μ5,_,E3.mono (f4.trans f5),M5,k5,fun d6 μ6 φ6 v6 H6 k6 f6 M6 i6=>?_⟩
   obtain⟨e6,hfy,w6⟩:=k6
   subst e6
   have ff:=f2.trans (f4.trans (f5.trans f6))
   have ef:φ6=φ1++[D]:=ff.noext (by rw[M6.len,M'.len])
   subst ef
   have hDv:=atD hfl M6
   refine⟨kk,keyD_is ekk i5,hDv,by unfold vKV;rw[gxC];omega,ds.length - (i+1),by omega,rfl,hlt,dput kvs kk d6,by rw[dput_v,flV_eq hfy i6],by have:=dput_len kvs kk d6;omega,dput_flat hfl hfy,?_,?_,w6⟩
   ·refine(f'.trans ff).trans (.put (List.mem_append_right _ (List.mem_singleton.mpr rfl)))
   ·have hp:(φ1++[D])[μ1.length]?=some D:=by rw[gxG (by rw[M1.len];exact Nat.le_refl _),M1.len,Nat.sub_self];rfl
    have q:=M6.put (k:=μ1.length) (p:=D) (o:=.dK (putK (vKV kvs) kk v6)) (m:=.dic ((dput kvs kk d6).map (·.1)) ((dput kvs kk d6).map (·.2))) hp
     ⟨vKV (dput kvs kk d6),((dput kvs kk d6).map (·.2)).map flV,by rw[upd_same,dput_v,flV_eq hfy i6],by unfold vKV;rw[List.map_map];rfl,by unfold vKV;rw[List.map_map,List.map_map];rfl,flVs (dput_flat hfl hfy)⟩
    have e:(μ1++[MO.dic (kvs.map (·.1)) (kvs.map (·.2))]).set μ1.length (.dic ((dput kvs kk d6).map (·.1)) ((dput kvs kk d6).map (·.2)))=μ1++[.dic ((dput kvs kk d6).map (·.1)) ((dput kvs kk d6).map (·.2))]:=set_end
    rw[e]at q
    exact q
  | false =>
   obtain⟨e4,w4⟩:=k4
   subst e4
   have ff:=f2.trans f4
   have ef:φ4=φ1++[D]:=ff.noext (by rw[M4.len,M'.len])
   subst ef
   exact⟨ds.length - (i+1),by omega,rfl,hlt,kvs,rfl,by omega,hfl,f'.trans ff,M4,w4⟩
 ·have e:i=ds.length:=by omega
  subst e
  rw[List.drop_length]at w'
  refine .inl ⟨(wk' _ H' _ f' M' w'.1 _).2 rfl,?_⟩
  have M'':MSis φ1 H' μ1:=by
   have q:=M'.cutT (n:=μ1.length) (fun k m hk e=>by rw[gxF hk]at e;exact M1.bound k m e)
   rw[List.take_left,show(φ1++[D]).take μ1.length=φ1 by rw[<- M1.len,List.take_left]]at q
   exact q
  have f'':Fr φ1 H1 φ1 H':=⟨⟨[],by simp,fun _ h=>nomatch h⟩,f'.keep,f'.dom⟩
  exact L _ μ1 φ1 _ H' w'.2 (f1.trans f'') M'' ⟨D,vKV kvs,_,rfl,hDf,atD hfl M',by unfold vKV;rw[List.map_map];rfl,rfl,by
   have:(vKV kvs).map (·.2)=(kvs.map (·.2)).map flV:=by unfold vKV;rw[List.map_map,List.map_map];rfl
   rw[this];exact flVs hfl⟩
section
variable {X:Cx}{a b e:Expr}{es:List Expr}{pos:Pos}
variable {N:List Str}{js:List (Option Nat)}{sc:Scope}{tg kx vx iter:Expr}{ifs:List Expr}{g:TG}{y:DG}{S:List Nat}{t:Dt}{wk wv:De}
def dIxK:DOp:=fun x y μ K=>match x with
 | .dic ks ds=>opt (keyD y) fun k=>opt (dval (ks.zip ds) k) fun d=>K d μ
 | _=>False
theorem dval_get {φ:List Addr}{H:Hp}{ks:List Key}:∀ {ds:List D} {kvs:List (Key×V)} {k:Key} {d:D},kvs.map (·.1)=ks->DAll φ H ds (kvs.map (·.2))->dval (ks.zip ds) k=some d->∃ v,valV kvs k=some v/\DIs φ H d v:=by
 intro ds kvs
 induction kvs generalizing ks ds with
 | nil=>intro k d h1 h2 h3;cases h1;cases h3
 | cons p kvs ih =>
  intro k d h1 h2 h3
  cases ks with
  | nil=>cases h1
  | cons k0 ks =>
   cases ds with
   | nil=>cases(show _=_ from h2)
   | cons d0 ds =>
    obtain⟨v,r,e,h4,h5⟩:=h2
    simp only[List.map_cons,List.cons.injEq]at h1 e
    obtain⟨rfl,rfl⟩:=e
    obtain⟨rfl,h1⟩:=h1
    rw[List.zip_cons_cons]at h3
    unfold dval at h3
    rw[List.find?_cons]at h3
    by_cases hk:p.1=k
    ·simp only[hk,decide_true]at h3
     cases h3
     exact⟨p.2,valV_pos hk,h4⟩
    ·simp only[hk,decide_false]at h3
     obtain⟨v,a,b⟩:=ih h1 h5 (k:=k) (d:=d) h3
     exact⟨v,by rw[valV_neg hk];exact a,b⟩
theorem d_ixK {wa wb:De}(hu:X.A.units+1<cLine)(ha:PD X a wa)(hb:PD X b wb)(hs:NoSl b):PD X (.Subscript a b pos) (dOp dIxK wa wb):=(pe_dget hu ha hb hs).imp fun σ H Q hq=>by
 obtain⟨φ,ρ,μ,K,A,M,k,L⟩:=hq
 refine⟨φ,ρ,μ,_,A,M,k,fun d1 μ1 φ1 v1 H1 k1 f1 M1 i1=>?_⟩
 refine⟨φ1,ρ,μ1,_,A.mono f1,M1,k1,fun d2 μ2 φ2 v2 H2 k2 f2 M2 i2=>?_⟩
 unfold dIxK at k2
 split at k2
 ·obtain⟨k,ek,k2⟩:=opt_ex k2
  obtain⟨d,ed,k2⟩:=opt_ex k2
  obtain⟨p,kvs,vs,rfl,_,hp,e1,e2,ha⟩:=i1.mono f2
  cases keyD_is ek i2
  subst e2
  obtain⟨v,ev,iv⟩:=dval_get e1 ha ed
  exact⟨p,v,rfl,.inl ⟨kvs,k,.inl hp,rfl,ev.symm⟩,(L.mono (f1.trans f2)).val M2 k2 iv⟩
 ·exact k2.elim
end
theorem worst_is (ns:List Int):∀ k,k<ns.length->argBest (fun i j=>decide (ns.getD i 0<ns.getD j 0)) k<=k/\∀ j,j<=k->ns.getD (argBest (fun i j=>decide (ns.getD i 0<ns.getD j 0)) k) 0<=ns.getD j 0
 | 0,_=>⟨Nat.le_refl _,fun j hj=>by rw[show j=0 by omega];exact Int.le_refl _⟩
 | k+1,h=>by
  obtain⟨h1,h2⟩:=worst_is ns k (by omega)
  unfold argBest
  by_cases hb:ns.getD (k+1) 0<ns.getD (argBest (fun i j=>decide (ns.getD i 0<ns.getD j 0)) k) 0
  ·rw[if_pos (decide_eq_true hb)]
   refine⟨Nat.le_refl _,fun j hj=>?_⟩
   by_cases e:j=k+1
   ·rw[e];exact Int.le_refl _
   ·exact Int.le_trans (Int.le_of_lt hb) (h2 j (by omega))
  ·rw[if_neg (by simp only[decide_eq_true_eq];exact hb)]
   refine⟨by omega,fun j hj=>?_⟩
   by_cases e:j=k+1
   ·rw[e];omega
   ·exact h2 j (by omega)
section
variable {prog:Program}{w:World}{A:Around}{R:Result->Shared->Prop}{I:Addr}{fp wr:List Addr}{n:Nat}{P:Nat->Value->Prop}{St:Nat->Heap->Prop}{kw:List (Str×Value)}
theorem minK_go (W:Walks prog w A.in1 I fp wr n P St)(bt:Nat->Nat->Bool)(hcmp:CmpOf prog w A.in1 .Lt P bt)(S:Addr)(hSf:S∉fp) :
 ∀(k j:Nat) (s:Shared) (vb:Value) (c:Nat),n - (j+1)=k->j+1<=n->St (j+1) s.heap->P (argBest bt j) vb->s.heap.get? S=some { cls:=.type "list",dict:=none,data:=.seq #[vb,vb] c,slots:=#[]} ->
 (∀ v h' tk,P (argBest bt (n - 1)) v->(∀ b o,b∉wr->b≠S->s.heap.get? b=some o->h'.get? b=some o)->R (.ok (.ret v)) { s with heap:=h',toks:=tk}) ->
 codeAny (model prog w) A (.builtin "min.loop" ⟨[.ref I,.none,.ref S],kw⟩) R s:=by
 have Sw:S∉wr:=fun h=>hSf (W.sub _ h)
 have nm:(toString "min"++toString ".loop" : String) = "min.loop":=by decide
 intro k
 induction k with
 | zero =>
  intro j s vb c hk hj hst hP hS hR
  have ej:j+1=n:=by omega
  refine codeAny_builtin PySem.F.entry_min_loop ?_
  rw[Around.under_plainId PySem.F.plain_min_loop _]
  show wpAny _ _ (seqItems? (.ref S) >>= _) _ _ s
  refine gxM (wpAny_seqItems hS rfl ?_)
  show wpAny _ _ (tryCatch (pyNext (.ref I)) _ >>= _) _ _ s
  refine gxM (wpAny_tryCatch (W.done s _ _ (ej▸hst) fun h' tk kp=>?_))
  show wpAny _ _ (updateSeq S (fun _=>#[]) >>= _) _ _ _
  refine gxM (wpAny_updateSeq (kp S _ Sw hS) rfl (gxM (wpAny_letGo (wpAny_pure ?_))))
  exact hR vb _ tk (by rw[<- ej];exact hP) fun b o hb hbS e=>(Heap.get?_update_other _ _ (Ne.symm hbS)).trans (kp b o hb e)
 | succ k ih =>
  intro j s vb c hk hj hst hP hS hR
  have lt:j+1<n:=by omega
  refine codeAny_builtin PySem.F.entry_min_loop ?_
  rw[Around.under_plainId PySem.F.plain_min_loop _]
  show wpAny _ _ (seqItems? (.ref S) >>= _) _ _ s
  refine gxM (wpAny_seqItems hS rfl ?_)
  show wpAny _ _ (tryCatch (pyNext (.ref I)) _ >>= _) _ _ s
  refine gxM (wpAny_tryCatch (W.item (j+1) s _ _ lt hst fun v h' tk hv hst' kp=>?_))
  have hS':=kp S _ Sw hS
  show wpAny _ _ (tryCatch (holding [v,v] (richCompare .Lt v vb >>= _)) _ >>= _) _ _ _
  refine gxM (wpAny_tryCatch (wpAny_holding (gxM (hcmp (j+1) (argBest bt j) v vb _ _ _ hv hP (gxM (wpAny_holding (wpAny_truthy_bool (gxM (wpAny_letGo (wpAny_pure ?_))))))))))
  cases hb:bt (j+1) (argBest bt j)with
  | true =>
   simp only[if_true]
   refine gxM (wpAny_updateSeq hS' rfl (gxM (wpAny_letGo ?_)))
   rw[nm]
   refine wpAny_pure ⟨plainId_quiet PySem.F.plain_min_loop _,ih (j+1) _ v _ (by omega) lt (W.frame _ _ _ hst' fun b hbf o e=>?_) (by simp only[argBest,hb,if_true];exact hv) (Heap.get?_update_self _ hS' rfl) fun v' h2 tk2 hv2 kp2=>?_⟩
   ·exact(Heap.get?_update_other _ _ (fun h:S=b=>hSf (by rw[h];exact hbf))).trans e
   ·exact hR v' h2 tk2 hv2 fun b o h1 h3 e=>kp2 b o h1 h3 ((Heap.get?_update_other _ _ (Ne.symm h3)).trans (kp b o h1 e))
  | false =>
   simp only[Bool.false_eq_true,if_false]
   refine gxM (wpAny_letGo ?_)
   rw[nm]
   exact wpAny_pure ⟨plainId_quiet PySem.F.plain_min_loop _,ih (j+1) _ vb c (by omega) lt hst' (by simp only[argBest,hb,Bool.false_eq_true,if_false];exact hP) hS' fun v' h2 tk2 hv2 kp2=>hR v' h2 tk2 hv2 fun b o h1 h3 e=>kp2 b o h1 h3 (kp b o h1 e)⟩
end
theorem args_min_d (a v:Value):argsOk "min" ⟨[a],[(Str.ofString "default",v)]⟩:=by unfold argsOk;kernel_rfl
section
variable {X:Cx}
theorem min_default {pins:List (Addr×Obj)}{σ:St}{H:Hp}{s:Shared}{p:Addr}{ns:List Int}{d:V}{dv:Value}{Q:VK}(I:Inv X pins σ H s)(calm:X.calm=true)(hp:H p=some (.lst (ns.map V.int)))(rd:RelV d dv)(q:if ns=[]then Q d H else ∀ m,m∈ns->(∀ y∈ns,m<=y)->Q (.int m) H) :
 wpAny (model X.prog X.w) X.A (call (.builtin "min") [.ref p] [(Str.ofString "default",dv)]) (EP X pins σ Q) X.xe s:=by
 have nm:(toString "min"++toString ".loop" : String) = "min.loop":=by decide
 obtain⟨_,its,n,r,hl,e⟩:=I.lstM hp
 have isl:s.heap.IsList p its.toArray:=⟨_,e,rfl,n,rfl⟩
 have lt:p≠s.heap.objs.size:=Nat.ne_of_lt (gxN e)
 have len:its.toArray.size=ns.length:=by rw[List.size_toArray,<- hl,gxC]
 have val:∀(i:Nat) (v:Value),its.toArray[i]?=some v->∃ t,i<ns.length/\v=.int (ns.getD i 0) t:=fun i v hv=>by
  have hv':its[i]?=some v:=by simpa using hv
  cases eb:(ns.map V.int)[i]? with
  | none=>have:=r.none_of eb;rw[hv']at this;cases this
  | some y =>
   obtain⟨u,hu,ry⟩:=r.get eb
   rw[hv']at hu;cases hu
   rw[gxH]at eb
   cases e2:ns[i]? with
   | none=>rw[e2]at eb;cases eb
   | some b =>
    rw[e2]at eb;cases eb
    obtain⟨t,rfl⟩:=ry
    exact⟨t,(gxB e2).1,by rw[List.getD_eq_getElem?_getD,e2];rfl⟩
 refine PyProof.Rows.kmk_tree PySem.F.kind_min PySem.F.plain_min PySem.F.entry_min (args_min_d _ _) ?_
 show wpAny _ _ (Builtin.Builtins.bindParams "min" ["key", "default"] 0 ⟨[],[(Str.ofString "default",dv)]⟩ >>= _) _ _ s
 refine gxM (wpAny_of_eq (show Builtin.Builtins.bindParams "min" ["key", "default"] 0 ⟨[],[(Str.ofString "default",dv)]⟩=pure [none,some dv]from rfl) (gxM (wpAny_pure (gxM (wpAny_pyIter_list isl (gxM (wpAny_newList ?_ (Nat.zero_le _))))))))
 rw[nm]
 have W:=Walks.list (prog:=X.prog) (w:=X.w) (A:=X.A.in1) (I.ok.hd calm) s.heap.objs.size p lt its.toArray
 have hS:((s.heap.push { cls:=.type "list_iterator",data:=.fields #[.ref p,.int 0 0]}).push { cls:=.type "list",data:=.seq ([]:List Value).toArray}).get? (s.heap.push { cls:=.type "list_iterator",data:=.fields #[.ref p,.int 0 0]}).objs.size=some { cls:=.type "list",dict:=none,data:=.seq #[] 0,slots:=#[]}:=Heap.get?_push_size _ rfl
 have sz1:(s.heap.push { cls:=.type "list_iterator",data:=.fields #[.ref p,.int 0 0]}).objs.size=s.heap.objs.size+1:=Heap.size_push ..
 have ltp:p<s.heap.objs.size:=gxN e
 have Sf:(s.heap.push { cls:=.type "list_iterator",data:=.fields #[.ref p,.int 0 0]}).objs.size∉[s.heap.objs.size,p]:=by
  rw[sz1]
  simp only[List.mem_cons,List.not_mem_nil,or_false,not_or]
  exact⟨Nat.ne_of_gt (Nat.lt_succ_self _),Nat.ne_of_gt (Nat.lt_succ_of_lt ltp)⟩
 have st0:((s.heap.push { cls:=.type "list_iterator",data:=.fields #[.ref p,.int 0 0]}).push { cls:=.type "list",data:=.seq ([]:List Value).toArray}).IsListIter s.heap.objs.size p 0/\((s.heap.push { cls:=.type "list_iterator",data:=.fields #[.ref p,.int 0 0]}).push { cls:=.type "list",data:=.seq ([]:List Value).toArray}).IsList p its.toArray :=
  ⟨⟨_,gxL _ (Heap.get?_push_size _ rfl),rfl,rfl⟩,(isl.push _).push _⟩
 have back:∀ {h':Heap} {tk:Nat},(∀ b o,s.heap.get? b=some o->h'.get? b=some o)->Inv X pins σ H { s with heap:=h',toks:=tk}:=fun kp=>I.kept kp
 refine wpAny_pure ⟨plainId_quiet PySem.F.plain_min_loop _,?_⟩
 refine codeAny_builtin PySem.F.entry_min_loop ?_
 rw[Around.under_plainId PySem.F.plain_min_loop _]
 show wpAny _ _ (seqItems? (.ref _) >>= _) _ _ _
 refine gxM (wpAny_seqItems hS rfl ?_)
 show wpAny _ _ (tryCatch (pyNext (.ref s.heap.objs.size)) _ >>= _) _ _ _
 by_cases hn:ns=[]
 ·rw[if_pos hn]at q
  have z0:its.toArray.size=0:=by rw[len,hn];rfl
  refine gxM (wpAny_tryCatch (W.done _ _ _ (by rw[z0];exact st0) fun h' tk kp=>?_))
  show wpAny _ _ (rule _ >>= _) _ _ _
  refine gxM (wpAny_rule (wpAny_pure ?_))
  exact⟨d,H,back fun b o eb=>kp b o (by simpa using Nat.ne_of_lt (gxN eb)) (gxL _ (gxL _ eb)),rd,q⟩
 ·rw[if_neg hn]at q
  have pos:0<ns.length:=List.length_pos_iff.mpr hn
  refine gxM (wpAny_tryCatch (W.item 0 _ _ _ (by rw[len];exact pos) st0 fun v h' tk hv hst' kp=>?_))
  have hS':=kp _ _ (by simpa using(fun z:(s.heap.push { cls:=.type "list_iterator",data:=.fields #[.ref p,.int 0 0]}).objs.size=s.heap.objs.size=>Sf (by simp[z]))) hS
  show wpAny _ _ (updateSeq _ (fun _=>#[v,v]) >>= _) _ _ _
  refine gxM (wpAny_updateSeq hS' rfl ?_)
  rw[nm]
  refine wpAny_pure ⟨plainId_quiet PySem.F.plain_min_loop _,minK_go W (fun i j=>decide (ns.getD i 0<ns.getD j 0)) ?_ _ Sf _ 0 _ v _ rfl (by rw[len];exact pos) (W.frame _ _ _ hst' fun b hbf o eb=>?_) hv (Heap.get?_update_self _ hS' rfl) fun v' h2 tk2 hv2 kp2=>?_⟩
  ·intro i j vi vj s' Q' E' hi hj hq
   obtain⟨t,_,rfl⟩:=val i vi hi
   obtain⟨t',_,rfl⟩:=val j vj hj
   exact lt_int hq
  ·exact(Heap.get?_update_other _ _ (fun h=>Sf (by rw[h];exact hbf))).trans eb
  ·rw[len]at hv2
   obtain⟨t,hlt,rfl⟩:=val _ v' hv2
   obtain⟨b1,b2⟩:=worst_is ns (ns.length - 1) (by omega)
   have nS:∀ b o,s.heap.get? b=some o->b≠(s.heap.push { cls:=.type "list_iterator",data:=.fields #[.ref p,.int 0 0]}).objs.size:=fun b o eb=>by rw[sz1];exact Nat.ne_of_lt (Nat.lt_succ_of_lt (gxN eb))
   have nI:∀ b o,s.heap.get? b=some o->b∉[s.heap.objs.size]:=fun b o eb=>by simpa using Nat.ne_of_lt (gxN eb)
   refine⟨.int _,H,back fun b o eb=>kp2 b o (nI b o eb) (nS b o eb) ((Heap.get?_update_other _ _ (Ne.symm (nS b o eb))).trans (kp b o (nI b o eb) (gxL _ (gxL _ eb)))),⟨t,rfl⟩,q _ ?_ fun x hx=>?_⟩
   ·rw[List.getD_eq_getElem?_getD,gxA hlt];exact List.getElem_mem _
   ·obtain⟨j,hj,ej⟩:=List.getElem_of_mem hx
    have:=b2 j (by omega)
    rw[List.getD_eq_getElem?_getD (i:=j),gxA hj,ej]at this
    exact this
def dMinD (w wd:De):De:=fun ρ μ K=>w ρ μ fun x μ1=>wd ρ μ1 fun d μ2=>∃ ns:List Int,lv μ2 x=some (ns.map D.int)/\if ns=[]then K d μ2 else ∀ m,m∈ns->(∀ y∈ns,m<=y)->K (.int m) μ2
theorem d_minD {e c:Expr}{p pos kpos:Pos}{w wd:De}(calm:X.calm=true)(hg:Gl X "min")(hm:X.mg "min"=none)(he:PD X e w)(hc:PD X c wd)
 (h1:starEach [e] X.env=(false,eval e X.env)::starEach [] X.env:=by rfl)
 (h2:backTo pos (starEach [e] X.env)=(false,eval e X.env)::backTo pos (starEach [] X.env):=by rfl) (h3:(backTo pos (starEach [e] X.env)).any (·.1)=false:=by rfl)
 (h4:(backToKw pos (keywordEach [⟨some "default",c,kpos⟩] X.env)).all (·.1.isSome)=true:=by rfl) (h5:(backToKw pos (keywordEach [⟨some "default",c,kpos⟩] X.env)).any (·.1.isNone)=false:=by rfl)
 (h6:(backToKw pos (keywordEach [⟨some "default",c,kpos⟩] X.env)).filterMap (·.1)=[Str.ofString "default"]:=by rfl) :
 PD X (.Call (.Name "min" p) [e] [⟨some "default",c,kpos⟩] pos) (dMinD w wd):=by
 intro pins s σ H Q I h
 obtain⟨φ,ρ,μ,K,A,M,k,L⟩:=h
 refine wpAny_Call_Name_kw (ld_blt I hg hm PyProof.Rows.boot_min ?_)
 have q1:tCons (tD w) tNil σ H (fun us H1=>tCons (tD wd) tNil σ H1 fun ds H2=>∃(l:Addr) (d:V) (ns:List Int),us=[.ref l]/\ds=[d]/\H2 l=some (.lst (ns.map V.int))/\if ns=[]then Q d H2 else ∀ m,m∈ns->(∀ y∈ns,m<=y)->Q (.int m) H2):=by
  refine⟨φ,ρ,μ,_,A,M,k,fun d1 μ1 φ1 v1 H1 k1 f1 M1 i1=>?_⟩
  refine⟨φ1,ρ,μ1,_,A.mono f1,M1,k1,fun d2 μ2 φ2 v2 H2 k2 f2 M2 i2=>?_⟩
  obtain⟨ns,el,k2⟩:=k2
  obtain⟨l,vs,rfl,hp,ha⟩:=lv_is M2 (i1.mono f2) el
  have L2':=L.mono (f1.trans f2)
  refine⟨l,v2,ns,rfl,rfl,by rw[hp,ha.ints],?_⟩
  by_cases hn:ns=[]
  ·rw[if_pos hn]at k2 ⊢;exact L2'.val M2 k2 i2
  ·rw[if_neg hn]at k2 ⊢;exact fun m a b=>L2'.val M2 (k2 m a b) rfl
 refine PyProof.Rows.callWith_kw (thn (pa_cons he pa_nil h1 pos pins s σ H _ I q1) fun us s1 hq6=>?_) h2 h3 h4 h5
 obtain⟨vs,H1,I1,r1,q2⟩:=hq6
 refine thn (pk_cons hc pk_nil pos pins s1 σ H1 _ I1 q2) fun ks s2 hq0=>?_
 obtain⟨ds,H2,I2,r2,l,d,ns,e1,e2,hp,q⟩:=hq0
 subst e1 e2
 obtain⟨u,rfl,ru⟩:=r1.one
 obtain⟨u2,rfl,ru2⟩:=r2.one
 cases ru
 rw[h6]
 exact min_default I2 calm hp ru2 q
def rIndexC:V->List V->Hp->VK->Prop:=fun x vs H Q=>∃(l:Addr) (y:Int) (ns:List Int) (j:Nat),x=.ref l/\vs=[.int y]/\H l=some (.lst (ns.map V.int))/\ns[j]?=some y/\(∀ m,m<j->ns[m]?≠some y)/\Q (.int j) H
theorem indexC:MtR X "list.index" rIndexC:=by
 intro pins s σ H x vs v us Q I rx rv h
 ·obtain⟨l,y,ns,j,rfl,rfl,hl,hj,hno,q⟩:=h
  cases rx
  obtain⟨u,rfl,t,rfl⟩:=rv.one
  obtain⟨hz,its,n,r,hlen,e⟩:=I.lstM hl
  have hjl:j<ns.length:=(gxB hj).1
  have len:its.length=ns.length:=by rw[<- hlen,gxC]
  have eU:∀(m:Nat) (hm:m<its.length),its[m]=its[m]/\eqU (.int y) its[m]=decide (ns[m]?=some y):=fun m hm=>by
   obtain⟨w',ew,rw'⟩:=r.get (i:=m) (x:=.int (ns[m]'(by omega))) (by rw[gxH,gxA (by omega)];rfl)
   have:its[m]=w':=by rw[gxA hm]at ew;exact Option.some.inj ew
   refine⟨rfl,?_⟩
   rw[this,eqU_of rw' rfl]
   show(ns[m]==y)=_
   rw[gxA (by omega)]
   by_cases h:ns[m]'(by omega)=y
   ·simp[h]
   ·simp[h]
  refine call_meets PySem.F.slot_list_index ⟨_,e,rfl⟩ PySem.F.entry_list_index (PySem.F.args_list_index_2 _ _) (SeqAt.list_indexAt l its.toArray n none #[] (.int y t) (eqU (.int y)) j (by rw[List.size_toArray,len];exact hjl) (by have:=line63;rw[gxC]at hz;omega) ?_ fun m hm hmj=>?_) ⟨e,fun z hzm=>mem_eqAt (x:=.int y) ⟨t,rfl⟩ rfl r (by simp[flatV]) z (by simpa using hzm),?_⟩
  ·have:=(eU j (by omega)).2
   rw[decide_eq_true hj]at this
   simpa using this
  ·have:=(eU m (by omega)).2
   rw[decide_eq_false (hno m hmj)]at this
   simpa using this
  ·exact⟨.int j,H,I.tok _,⟨_,rfl⟩,q⟩
def fIndex:DMt:=fun d ds μ K=>match ds with
 | [.int y]=>∃(ns:List Int) (j:Nat),lv μ d=some (ns.map D.int)/\ns[j]?=some y/\(∀ m,m<j->ns[m]?≠some y)/\K (.int j) μ
 | _=>False
theorem so_index {Kf:PySem.W.Frag}:SoMt Kf "list" rIndexC fIndex:=fun φ H x vs d ds μ K Q M hx h k L=>by
 unfold fIndex at k
 split at k
 ·obtain⟨v,r,rfl,h1,h2⟩:=h;cases(show r=[]from h2);cases(show v=_ from h1)
  obtain⟨ns,j,el,h1,h2,k⟩:=k
  obtain⟨p,us,rfl,hp,ha⟩:=lv_is M hx el
  exact⟨_,_,ns,j,rfl,rfl,by rw[hp,ha.ints],h1,h2,L.val M k rfl⟩
 ·exact k.elim
end
theorem fmax_ge:∀(xs:List Int) (e:Int),e<=xs.foldl max e/\∀ x∈xs,x<=xs.foldl max e
 | [],e=>⟨Int.le_refl _,fun _ h=>nomatch h⟩
 | y::xs,e=>by
  obtain⟨h1,h2⟩:=fmax_ge xs (max e y)
  rw[List.foldl_cons]
  refine⟨by omega,fun x hx=>?_⟩
  rcases List.mem_cons.mp hx with q | q
  ·omega
  ·exact h2 x q
theorem fmax_mem:∀(xs:List Int) (e:Int),xs.foldl max e=e\/xs.foldl max e∈xs
 | [],e=>.inl rfl
 | y::xs,e=>by
  rw[List.foldl_cons]
  rcases fmax_mem xs (max e y)with h | h
  ·rw[h]
   rcases Int.le_total e y with q | q
   ·exact .inr (by rw[show max e y=y by omega];exact List.mem_cons_self)
   ·exact .inl (by omega)
  ·exact .inr (gxI _ h)
theorem fmax_eq {xs:List Int}{e m:Int}(h1:m∈e::xs)(h2:∀ x∈e::xs,x<=m):m=xs.foldl max e:=by
 obtain⟨a,b⟩:=fmax_ge xs e
 have le:m<=xs.foldl max e:=by
  rcases List.mem_cons.mp h1 with q | q
  ·omega
  ·exact b m q
 have ge:xs.foldl max e<=m:=by
  rcases fmax_mem xs e with q | q
  ·rw[q];exact h2 e List.mem_cons_self
  ·exact h2 _ (gxI _ q)
 omega
def clN (l:List Nat)(e:Nat):Nat:=e+((l.drop e).takeWhile (·==111)).length
theorem clN_is {l:List Nat}{e:Nat}(ho:OX l)(he:e<=l.length):ClT l e (clN l e):=by
 have split:=List.takeWhile_append_dropWhile (p:=fun c=>c==111) (l:=l.drop e)
 have len:=congrArg List.length split
 rw[gxE,List.length_drop]at len
 refine⟨Nat.le_add_right _ _,by unfold clN;omega,fun v h1 h2=>?_,?_⟩
 ·have hv:v - e<((l.drop e).takeWhile (·==111)).length:=by unfold clN at h2;omega
  have g:l[v]?=((l.drop e).takeWhile (·==111))[v - e]?:=by
   have q:(l.drop e)[v - e]?=l[v]?:=by rw[List.getElem?_drop];congr 1;omega
   rw[<- q,<- split,gxF hv]
   simp
  rw[g,gxA hv]
  have:=List.all_eq_true.mp (List.all_takeWhile (l:=l.drop e) (p:=fun c=>c==111)) _ (List.getElem_mem hv)
  simpa using this
 ·cases hd:(l.drop e).dropWhile (·==111)with
  | nil =>
   left
   rw[hd]at len
   unfold clN
   simp at len
   omega
  | cons c r =>
   right
   have g:l[clN l e]?=some c:=by
    have q:(l.drop e)[clN l e - e]?=l[clN l e]?:=by rw[List.getElem?_drop];congr 1;unfold clN;omega
    rw[<- q,<- split,gxG (by unfold clN;simp),hd]
    unfold clN
    simp
   have nc:c≠111:=by
    have:=List.head?_dropWhile_not (p:=fun c=>c==111) (l:=l.drop e)
    rw[hd]at this
    simpa using this
   rw[g]
   rcases ho c (gxD g)with q | q
   ·exact absurd q nc
   ·rw[q]
def farF (es:List Int)(l:List Nat)(e:Int):Int:=(es.filter fun x=>decide (x<=(clN l e.toNat:Int))).foldl max e
theorem farF_is {es:List Int}{l:List Nat}{e:Int}(ho:OX l)(h0:0<=e)(he:e<=l.length)(hm:e∈es):Far es l e (farF es l e):=by
 have ct:=clN_is ho (e:=e.toNat) (by omega)
 have ein:e∈es.filter fun x=>decide (x<=(clN l e.toNat:Int)):=List.mem_filter.mpr ⟨hm,decide_eq_true (by have:=ct.1;omega)⟩
 obtain⟨a,b⟩:=fmax_ge (es.filter fun x=>decide (x<=(clN l e.toNat:Int))) e
 have mi:farF es l e∈es.filter fun x=>decide (x<=(clN l e.toNat:Int)):=by
  rcases fmax_mem (es.filter fun x=>decide (x<=(clN l e.toNat:Int))) e with q | q
  ·unfold farF;rw[q];exact ein
  ·exact q
 obtain⟨m1,m2⟩:=List.mem_filter.mp mi
 exact⟨_,ct,m1,of_decide_eq_true m2,fun x hx hxt=>b x (List.mem_filter.mpr ⟨hx,decide_eq_true hxt⟩)⟩
theorem far_eq {es:List Int}{l:List Nat}{e m:Int}(ho:OX l)(h0:0<=e)(he:e<=l.length)(hm:e∈es)(h:Far es l e m):m=farF es l e:=h.uniq (farF_is ho h0 he hm)
theorem farF_mem {es:List Int}{l:List Nat}{e:Int}(hm:e∈es):farF es l e∈es:=by
 unfold farF
 rcases fmax_mem (es.filter fun x=>decide (x<=(clN l e.toNat:Int))) e with q | q
 ·rw[q];exact hm
 ·exact(List.mem_filter.mp q).1
theorem farF_ge (es:List Int)(l:List Nat)(e:Int):e<=farF es l e:=(fmax_ge _ e).1
def ownE (es:List Int)(ts:List Tk)(a e:Int):Int:=ts.foldl (fun m t=>if t.2<=a then max m (farF es t.1 e)else m) e
def ownR (es:List Int)(ts:List Tk)(a:Int):List Int:=es.map (ownE es ts a)
theorem own_fold (es:List Int)(a e:Int):∀(ts:List Tk) (m:Int),ts.foldl (fun m t=>if t.2<=a then max m (farF es t.1 e)else m) m=((ts.filter fun t=>decide (t.2<=a)).map fun t=>farF es t.1 e).foldl max m
 | [],m=>rfl
 | t::ts,m=>by
  rw[List.foldl_cons,own_fold es a e ts,List.filter_cons]
  by_cases h:t.2<=a
  ·rw[if_pos h,if_pos (decide_eq_true h)];rfl
  ·rw[if_neg h,if_neg (by simp[h])]
theorem ownE_eq (es:List Int)(ts:List Tk)(a e:Int):ownE es ts a e=((ts.filter fun t=>decide (t.2<=a)).map fun t=>farF es t.1 e).foldl max e:=own_fold es a e ts e
theorem ownE_mem {es:List Int}{ts:List Tk}{a e:Int}(hm:e∈es):ownE es ts a e∈es:=by
 rw[ownE_eq]
 rcases fmax_mem ((ts.filter fun t=>decide (t.2<=a)).map fun t=>farF es t.1 e) e with q | q
 ·rw[q];exact hm
 ·obtain⟨t,_,ht⟩:=List.mem_map.mp q
  rw[<- ht];exact farF_mem hm
theorem ownE_ge (es:List Int)(ts:List Tk)(a e:Int):e<=ownE es ts a e:=by rw[ownE_eq];exact(fmax_ge _ e).1
def rowT (es:List Int)(t:Tk):List Int:=es.map (farF es t.1)
def cleanF (es:List Int)(a:Int)(told:List Int)(t:Tk):List Int:=if t.2<=a then List.zipWith max told (rowT es t)else told
theorem clean_own (es:List Int)(a:Int):∀(ts:List Tk) (g:Int->Int),ts.foldl (cleanF es a) (es.map g)=es.map fun e=>ts.foldl (fun m t=>if t.2<=a then max m (farF es t.1 e)else m) (g e)
 | [],g=>rfl
 | t::ts,g=>by
  have e1:cleanF es a (es.map g) t=es.map fun e=>if t.2<=a then max (g e) (farF es t.1 e)else g e:=by
   unfold cleanF
   by_cases h:t.2<=a
   ·rw[if_pos h]
    unfold rowT
    rw[List.zipWith_map]
    have key:∀ xs:List Int,List.zipWith (fun x y=>max (g x) (farF es t.1 y)) xs xs=xs.map fun e=>max (g e) (farF es t.1 e):=by
     intro xs
     induction xs with
     | nil=>rfl
     | cons x xs ih=>rw[List.zipWith_cons_cons,ih];rfl
    rw[key]
    simp[h]
   ·rw[if_neg h];simp[h]
  rw[List.foldl_cons,e1,clean_own es a ts]
  rfl
theorem clean_eq (es:List Int)(ts:List Tk)(a:Int):ts.foldl (cleanF es a) es=ownR es ts a:=by
 have:=clean_own es a ts id
 rw[List.map_id]at this
 rw[this];rfl
def rowAt (es row:List Int)(x:Int):Int:=(row[es.idxOf x]?).getD 0
def nextR (es:List Int)(ts:List Tk)(before:List Int)(a:Int):List Int:=List.zipWith (fun far mid=>max far (rowAt es before mid)) (ownR es ts a) before
structure RowOk (es row:List Int):Prop where
 len:row.length=es.length
 mem:∀ x∈row,x∈es
theorem idx_lt {es:List Int}{x:Int}(h:x∈es):es.idxOf x<es.length:=List.idxOf_lt_length_iff.mpr h
theorem idx_get {es:List Int}{x:Int}(h:x∈es):es[es.idxOf x]?=some x:=by
 rw[gxA (idx_lt h)]
 congr 1
 exact List.getElem_idxOf (idx_lt h)
theorem rowAt_some {es row:List Int}(r:RowOk es row){x:Int}(h:x∈es):row[es.idxOf x]?=some (rowAt es row x):=by
 have hl:es.idxOf x<row.length:=by rw[r.len];exact idx_lt h
 unfold rowAt
 rw[gxA hl];rfl
theorem rowAt_mem {es row:List Int}(r:RowOk es row){x:Int}(h:x∈es):rowAt es row x∈es:=r.mem _ (gxD (rowAt_some r h))
theorem ends_ok (es:List Int):RowOk es es:=⟨rfl,fun _ h=>h⟩
theorem own_ok (es:List Int)(ts:List Tk)(a:Int):RowOk es (ownR es ts a):=⟨by unfold ownR;rw[gxC],fun x hx=>by
 unfold ownR at hx
 obtain⟨e,he,rfl⟩:=List.mem_map.mp hx
 exact ownE_mem he⟩
theorem max_mem {es:List Int}{a b:Int}(ha:a∈es)(hb:b∈es):max a b∈es:=by
 rcases Int.le_total a b with h | h
 ·rw[show max a b=b by omega];exact hb
 ·rw[show max a b=a by omega];exact ha
theorem next_ok {es:List Int}{ts:List Tk}{before:List Int}{a:Int}(r:RowOk es before):RowOk es (nextR es ts before a):=by
 have o:=own_ok es ts a
 refine⟨by unfold nextR;rw[List.length_zipWith,o.len,r.len,Nat.min_self],fun x hx=>?_⟩
 unfold nextR at hx
 obtain⟨i,hi,rfl⟩:=List.getElem_of_mem hx
 rw[List.getElem_zipWith]
 rw[List.length_zipWith]at hi
 exact max_mem (o.mem _ (List.getElem_mem _)) (rowAt_mem r (r.mem _ (List.getElem_mem _)))
def rowsR (es:List Int)(ts:List Tk):Nat->List Int
 | 0=>ownR es ts 0
 | a+1=>nextR es ts (rowsR es ts a) ((a:Int)+1)
theorem rows_ok (es:List Int)(ts:List Tk):∀ a,RowOk es (rowsR es ts a)
 | 0=>own_ok es ts 0
 | a+1=>next_ok (rows_ok es ts a)
theorem rowAt_ends {es:List Int}{x:Int}(h:x∈es):rowAt es es x=x:=by unfold rowAt;rw[idx_get h];rfl
theorem next_ends (es:List Int)(ts:List Tk)(a:Int):nextR es ts es a=ownR es ts a:=by
 unfold nextR ownR
 have key:∀ xs:List Int,(∀ x∈xs,x∈es)->List.zipWith (fun far mid=>max far (rowAt es es mid)) (xs.map (ownE es ts a)) xs=xs.map (ownE es ts a):=by
  intro xs
  induction xs with
  | nil=>intro _;rfl
  | cons x xs ih =>
   intro h
   rw[List.map_cons,List.zipWith_cons_cons,ih fun y hy=>h y (gxI _ hy),rowAt_ends (h x List.mem_cons_self)]
   have:=ownE_ge es ts a x
   rw[show max (ownE es ts a x) x=ownE es ts a x by omega]
 exact key es fun _ h=>h
theorem own_none {es:List Int}{ts:List Tk}{a:Int}(h:∀ t∈ts,a<t.2):ownR es ts a=es:=by
 unfold ownR
 have e:∀ e,ownE es ts a e=e:=fun e=>by
  rw[ownE_eq,List.filter_eq_nil_iff.mpr fun t ht=>by have:=h t ht;simp;omega];rfl
 rw[List.map_congr_left fun x _=>e x,List.map_id']
theorem rows_none {es:List Int}{ts:List Tk}:∀ {a:Nat},(∀ t∈ts,(a:Int)<t.2)->rowsR es ts a=es
 | 0,h=>own_none h
 | a+1,h=>by
  unfold rowsR
  rw[rows_none fun t ht=>by have:=h t ht;omega,next_ends]
  exact own_none fun t ht=>by have:=h t ht;omega
theorem lv_old {μ:MS}{m:MO}{x:D}{ds:List D}(h:lv μ x=some ds):lv (μ++[m]) x=some ds:=by
 cases x with
 | lst es=>exact h
 | mr k=>exact lvM_old h
 | _=>cases h
structure Shelf (n:Int)(cs:List Int)(ts:List Tk):Prop where
 n1:1<=n
 n2:n<=1000
 few:cs.length<=1000
 cuts:Cuts n cs
 takes:Takes n ts
theorem ends_mem0 (n:Int)(cs:List Int):0∈endsOf n cs:=by unfold endsOf;simp
theorem ends_nd {n:Int}{cs:List Int}(h1:1<=n)(h:Cuts n cs):(endsOf n cs).Nodup:=List.Pairwise.imp (fun h=>Int.ne_of_lt h) (ends_up h1 h)
def fEndsM:DSp:=fun ds μ K=>match ds with
 | [.int n,x]=>∃ cs:List Int,lv μ x=some (cs.map D.int)/\cs.length<=1000/\K (.mr μ.length) (μ++[.lst ((endsOf n cs).map D.int)])
 | _=>False
def fFarthest:DSp:=fun ds μ K=>match ds with
 | [.int n,x,.str z,.int e]=>∃ cs:List Int,lv μ x=some (cs.map D.int)/\cs.length<=1000/\(z.length:Int)=n/\n<=1000/\OX z.cps.toList/\0<=e/\e<=n/\e∈endsOf n cs/\K (.int (farF (endsOf n cs) z.cps.toList e)) μ
 | _=>False
def fFar:DSp:=fun ds μ K=>match ds with
 | [.lst b,.str z,.int e]=>∃ es:List Int,b=es.map D.int/\es.length<=2000/\z.length<=1000/\OX z.cps.toList/\0<=e/\e<=z.length/\e∈es/\K (.int (farF es z.cps.toList e)) μ
 | _=>False
def rowTD (es:List Int)(t:Tk):D:=.tup [.int t.2,.lst ((rowT es t).map D.int)]
def fTakeRows:DSp:=fun ds μ K=>match ds with
 | [.int n,x,y]=>∃(cs:List Int) (ts:List Tk),lv μ x=some (cs.map D.int)/\lv μ y=some (ts.map tkD)/\Shelf n cs ts/\K (.lst (ts.map (rowTD (endsOf n cs)))) μ
 | _=>False
def fCleanRow:DSp:=fun ds μ K=>match ds with
 | [x,.lst r,.int a]=>∃(es:List Int) (ts:List Tk),lv μ x=some (es.map D.int)/\r=ts.map (rowTD es)/\es.length<=2000/\ts.length<=100/\K (.lst ((ownR es ts a).map D.int)) μ
 | _=>False
def fNextM:DSp:=fun ds μ K=>match ds with
 | [x,.lst r,y,.int a]=>∃(es:List Int) (ts:List Tk) (bf:List Int),lv μ x=some (es.map D.int)/\r=ts.map (rowTD es)/\es.length<=2000/\ts.length<=100/\es.Nodup/\lv μ y=some (bf.map D.int)/\RowOk es bf/\K (.mr μ.length) (μ++[.lst ((nextR es ts bf a).map D.int)])
 | _=>False
def youngF (ts:List Tk):Int:=match ts.map (·.2)with | []=>0 | a::r=>r.foldl min a
theorem fmin_is:∀(xs:List Int) (e:Int),(xs.foldl min e=e\/xs.foldl min e∈xs)/\xs.foldl min e<=e/\∀ x∈xs,xs.foldl min e<=x
 | [],e=>⟨.inl rfl,Int.le_refl _,fun _ h=>nomatch h⟩
 | y::xs,e=>by
  obtain⟨h0,h1,h2⟩:=fmin_is xs (min e y)
  rw[List.foldl_cons]
  refine⟨?_,by omega,fun x hx=>?_⟩
  ·rcases h0 with h | h
   ·rw[h]
    rcases Int.le_total e y with q | q
    ·exact .inl (by omega)
    ·exact .inr (by rw[show min e y=y by omega];exact List.mem_cons_self)
   ·exact .inr (gxI _ h)
  ·rcases List.mem_cons.mp hx with q | q
   ·omega
   ·exact h2 x q
theorem young_is {ts:List Tk}{m:Int}(hm:m∈ts.map (·.2))(hl:∀ y∈ts.map (·.2),m<=y):m=youngF ts:=by
 unfold youngF
 cases e:ts.map (·.2)with
 | nil=>rw[e]at hm;cases hm
 | cons a r =>
  rw[e]at hm hl
  obtain⟨h0,h1,h2⟩:=fmin_is r a
  have a1:m<=r.foldl min a:=by
   rcases h0 with q | q
   ·rw[q];exact hl a List.mem_cons_self
   ·exact hl _ (gxI _ q)
  have a2:r.foldl min a<=m:=by
   rcases List.mem_cons.mp hm with q | q
   ·omega
   ·exact h2 m q
  show m=r.foldl min a
  omega
theorem young_le {ts:List Tk}:∀ t∈ts,youngF ts<=t.2:=fun t ht=>by
 have hm:t.2∈ts.map (·.2):=List.mem_map.mpr ⟨t,ht,rfl⟩
 unfold youngF
 cases e:ts.map (·.2)with
 | nil=>rw[e]at hm;cases hm
 | cons a r =>
  rw[e]at hm
  obtain⟨h0,h1,h2⟩:=fmin_is r a
  show r.foldl min a<=t.2
  rcases List.mem_cons.mp hm with q | q
  ·omega
  ·exact h2 _ q
theorem young_nn {ts:List Tk}{n:Int}(h:Takes n ts):0<=youngF ts/\youngF ts<=60:=by
 unfold youngF
 cases e:ts.map (·.2)with
 | nil=>exact⟨Int.le_refl _,by decide⟩
 | cons a r =>
  obtain⟨h0,h1,h2⟩:=fmin_is r a
  have key:∀ x∈a::r,0<=x/\x<=60:=fun x hx=>by
   rw[<- e]at hx
   obtain⟨t,ht,rfl⟩:=List.mem_map.mp hx
   have:=h.ok t ht
   exact⟨this.2.2.1,this.2.2.2⟩
  show 0<=r.foldl min a/\r.foldl min a<=60
  rcases h0 with q | q
  ·rw[q];exact key a List.mem_cons_self
  ·exact key _ (gxI _ q)
def fYoungest:DSp:=fun ds μ K=>match ds with
 | [y]=>∃ ts:List Tk,lv μ y=some (ts.map tkD)/\ts.length<=100/\K (.int (youngF ts)) μ
 | _=>False
def fOwn:DSp:=fun ds μ K=>match ds with
 | [.lst b,y,.int a]=>∃(n:Int) (cs:List Int) (ts:List Tk),b=(endsOf n cs).map D.int/\lv μ y=some (ts.map tkD)/\Shelf n cs ts/\K (.lst ((ownR (endsOf n cs) ts a).map D.int)) μ
 | _=>False
def fRows:DSp:=fun ds μ K=>match ds with
 | [.lst b,y,.int m]=>∃(n:Int) (cs:List Int) (ts:List Tk),b=(endsOf n cs).map D.int/\lv μ y=some (ts.map tkD)/\Shelf n cs ts/\0<=m/\m<=1000/\K (.lst ((List.range m.toNat).map fun a=>.lst ((rowsR (endsOf n cs) ts a).map D.int))) μ
 | _=>False
def inSc (x sc:Scope):Scope:={ sc with names:=sc.names.map fun(n,k)=>if k==NameKind.free&&x.kind==.function&&x.names.lookup n==some .cell then(n,NameKind.cell)else(n,k)}
theorem compOkN {X0:Cx}{N0:List Str}{xsc sc0:Scope}{N:List Str}{js:List (Option Nat)}{sc:Scope}{fp:List Addr}{s:Shared}{H:Hp}(hs:X0.env.scope=xsc)(h:compChk N0 (inSc xsc sc0) N js sc=true):CompOk (cxC X0 N0 sc0 fp s H) N js sc:=by
 subst hs
 exact compOk h rfl rfl
def keepI (p:Int->Bool):D->Option D
 | .int i=>if p i=true then some (.int i)else none
 | _=>none
theorem fm_keepI (p:Int->Bool)(es:List Int):(es.map D.int).filterMap (keepI p)=(es.filter p).map D.int:=by
 induction es with
 | nil=>rfl
 | cons e es ih =>
  rw[List.map_cons,List.filterMap_cons,List.filter_cons]
  unfold keepI at ih ⊢
  by_cases h:p e=true
  ·simp only[h,if_true,List.map_cons];rw[ih]
  ·simp only[h,if_false];rw[ih];rfl
theorem keepI_y {p:Int->Bool}{i:Int}{K:Option D->MS->Prop}{μ:MS}(h:p i=true)(k:K (keepI p (.int i)) μ):K (some (.int i)) μ:=by have e:keepI p (.int i)=some (.int i):=if_pos h;rw[e]at k;exact k
theorem keepI_n {p:Int->Bool}{i:Int}{K:Option D->MS->Prop}{μ:MS}(h:¬ p i=true)(k:K (keepI p (.int i)) μ):K none μ:=by have e:keepI p (.int i)=none:=if_neg h;rw[e]at k;exact k
def mapI (g:Int->D):D->Option D
 | .int i=>some (g i)
 | _=>none
theorem fm_mapI (g:Int->D)(es:List Int):(es.map D.int).filterMap (mapI g)=es.map g:=by rw[List.filterMap_map,<- List.filterMap_eq_map];rfl
def mapT (g:Tk->D):D->Option D
 | .tup [.str z,.int a]=>some (g (z.cps.toList,a))
 | _=>none
theorem fm_mapT (g:Tk->D)(ts:List Tk):(ts.map tkD).filterMap (mapT g)=ts.map g:=by rw[List.filterMap_map,<- List.filterMap_eq_map];rfl
def mapP (g:Int->Int->D):D->Option D
 | .tup [.int a,.int b]=>some (g a b)
 | _=>none
theorem fm_mapP (g:Int->Int->D)(xs ys:List Int):(List.zipWith (fun a b=>D.tup [a,b]) (xs.map D.int) (ys.map D.int)).filterMap (mapP g)=List.zipWith g xs ys:=by
 rw[List.zipWith_map]
 induction xs generalizing ys with
 | nil=>simp
 | cons x xs ih =>
  cases ys with
  | nil=>simp
  | cons y ys=>rw[List.zipWith_cons_cons,List.zipWith_cons_cons,List.filterMap_cons,ih];rfl
theorem zip_mem {xs ys:List Int}{d:D}(h:d∈List.zipWith (fun a b=>D.tup [a,b]) (xs.map D.int) (ys.map D.int)):∃ a∈xs,∃ b∈ys,d=.tup [.int a,.int b]:=by
 rw[List.zipWith_map]at h
 induction xs generalizing ys with
 | nil=>simp at h
 | cons x xs ih =>
  cases ys with
  | nil=>simp at h
  | cons y ys =>
   rw[List.zipWith_cons_cons]at h
   rcases List.mem_cons.mp h with q | q
   ·exact⟨x,List.mem_cons_self,y,List.mem_cons_self,q⟩
   ·obtain⟨a,ha,b,hb,e⟩:=ih q
    exact⟨a,gxI _ ha,b,gxI _ hb,e⟩
theorem zw_map {α β γ δ:Type}(f:γ->δ)(g:α->β->γ):∀(xs:List α) (ys:List β),(List.zipWith g xs ys).map f=List.zipWith (fun a b=>f (g a b)) xs ys
 | [],_=>by simp
 | _::_,[]=>by simp
 | x::xs,y::ys=>by rw[List.zipWith_cons_cons,List.zipWith_cons_cons,List.map_cons,zw_map f g xs ys]
abbrev kI (i:Int):Key:=.inl i
def enumF:Nat->List Int->List D
 | _,[]=>[]
 | n,e::es=>.tup [.int n,.int e]::enumF (n+1) es
theorem enumF_get:∀(n:Nat) (es:List Int) (i:Nat),(enumF n es)[i]?=(es[i]?).map fun e=>D.tup [.int ((n+i:Nat):Int),.int e]
 | n,[],i=>by simp[enumF]
 | n,e::es,0=>by simp[enumF]
 | n,e::es,i+1=>by
  unfold enumF
  rw[List.getElem?_cons_succ,List.getElem?_cons_succ,enumF_get (n+1) es i]
  congr 1
  funext e
  rw[show n+1+i=n+(i+1) by omega]
theorem enumF_eq (es:List Int):enumD (es.map D.int)=enumF 0 es:=by
 apply List.ext_getElem?
 intro i
 rw[enumF_get]
 unfold enumD
 rw[List.getElem?_zipWith,gxC,gxH]
 cases e:es[i]? with
 | none=>simp
 | some x =>
  have hi:=(gxB e).1
  rw[List.getElem?_range hi]
  simp
def whereF:Nat->List Int->List (Key×D)
 | _,[]=>[]
 | n,e::es=>(kI e,.int n)::whereF (n+1) es
theorem where_go {it:D->MS->(Option (Key×D)->MS->Prop)->Prop}{c:MS->Prop}{μ:MS}{K:List (Key×D)->Prop}(hc:∀ m,c (μ++[m]))(hit:∀(i:Nat) (e:Int) (μ':MS) (K':Option (Key×D)->MS->Prop),K' (some (kI e,.int i)) μ'->it (.tup [.int i,.int e]) μ' K'):∀(es:List Int) (n:Nat) (kvs:List (Key×D)),es.Nodup->(∀ kv∈kvs,∀ e∈es,kv.1≠kI e)->K (kvs++whereF n es)->dcompW it c μ (enumF n es) kvs K
 | [],n,kvs,_,_,k=>by
  unfold enumF dcompW
  rw[show whereF n []=[]from rfl,List.append_nil]at k
  exact⟨hc _,k⟩
 | e::es,n,kvs,nd,hk,k=>by
  unfold enumF dcompW
  refine⟨hc _,hit n e _ _ ⟨rfl,rfl,?_⟩⟩
  have hn:(kvs.any fun kv=>decide (kv.1=kI e))=false:=by
   rw[List.any_eq_false]
   intro kv hkv
   simp only[decide_eq_true_eq]
   exact hk kv hkv e List.mem_cons_self
  have hd:dput kvs (kI e) (.int n)=kvs++[(kI e,.int n)]:=by unfold dput;rw[hn];rfl
  rw[hd]
  refine where_go hc hit es (n+1) _ (List.nodup_cons.mp nd).2 (fun kv hkv e' he'=>?_) ?_
  ·rcases List.mem_append.mp hkv with q | q
   ·exact hk kv q e' (gxI _ he')
   ·rw[List.mem_singleton.mp q]
    intro z
    have z':e=e':=by injection z
    rw[z']at nd
    exact(List.nodup_cons.mp nd).1 he'
  ·rw[List.append_assoc];exact k
theorem zip_parts {α β:Type}:∀ l:List (α×β),(l.map (·.1)).zip (l.map (·.2))=l
 | []=>rfl
 | p::l=>by rw[List.map_cons,List.map_cons,List.zip_cons_cons,zip_parts l]
theorem where_val:∀ {es:List Int} {n:Nat} {m:Int},m∈es->dval (whereF n es) (kI m)=some (.int ((n+es.idxOf m:Nat):Int))
 | [],n,m,h=>by cases h
 | e::es,n,m,h=>by
  unfold whereF dval
  rw[List.find?_cons]
  by_cases q:e=m
  ·subst q;simp
  ·have hm : m ∈ es := by rcases List.mem_cons.mp h with z | z
                          ·exact absurd z.symm q
                          ·exact z
   have nk:decide ((kI e)=kI m)=false:=decide_eq_false fun z=>q (by injection z)
   have nk':decide ((kI e,D.int (n:Int)).fst=kI m)=false:=nk
   rw[nk']
   show Option.map _ _=_
   have:=where_val (n:=n+1) hm
   unfold dval at this
   rw[this,show(e::es).idxOf m=es.idxOf m+1 by rw[List.idxOf_cons,show(e==m)=false from beq_false_of_ne q];rfl]
   congr 3
   omega
section
variable {X:Cx}{N:List Str}{sc:Scope}{js:List (Option Nat)}{tg iter kx vx:Expr}{ifs:List Expr}{g:TG}{tt:TT}{tk tv:TE}
theorem pe_compD {wi:TI}{pos:Pos}(hc:CompOk X N js sc)(calm:X.calm=true)(hi:PI X tg iter wi)(hg:∀ fp s H,PG (cxE X N sc fp s H) tg g)
 (ht:∀ fp s H,PTs (cxE X N sc fp s H) ifs tt) (hk:∀ fp s H,PE (cxE X N sc fp s H) kx tk) (hv:∀ fp s H,PE (cxE X N sc fp s H) vx tv)
 (hs:∀ x,foldedSetIterable iter X.env x=pure x:=by intro _;rfl):PE X (.DictComp kx vx [⟨tg,iter,ifs,0⟩] sc pos) (tCompD wi js g tt tk tv):=by
 intro pins s σ H Q I h
 rw[show eval (.DictComp kx vx [⟨tg,iter,ifs,0⟩] sc pos) X.env=comprehension (.DictComp kx vx [⟨tg,iter,ifs,0⟩] sc pos) sc X.env (firstIterPos [⟨tg,iter,ifs,0⟩] pos) newDict (firstAsync [⟨tg,iter,ifs,0⟩]) (firstIter [⟨tg,iter,ifs,0⟩] X.env)from rfl]
 refine wpAny_comprehension_free (use:=none) rfl hs (closureFor_eq fun y hy e=>I.ok.has y.1 (hc.free y hy e)) hc.kind hc.loc (thn (hi pins s σ H _ I h) fun v s1 h1=>thn h1 fun itv s2 h2=>?_)
 obtain⟨it,fp,tn,J,H2,e,I2,T,st2,f2,q⟩:=h2
 subst e
 refine wpAny_newObj_type (newEnv_comp ?_)
 have hD:H2 s2.heap.objs.size=none:=I2.hok.fresh (Nat.le_refl _)
 have I3:Inv X pins σ (upd H2 s2.heap.objs.size (.dK [])) { s2 with heap:=s2.heap.push { cls:=.type "dict",data:=.dict #[]}}:=I2.laid (t':=s2.toks) (fun _ _ q=>gxL _ q) (Nat.le_refl _) (dk_empty s2.heap I2.big)
 have hC:(s2.heap.push { cls:=.type "dict",data:=.dict #[]}).objs.size=s2.heap.objs.size+1:=Heap.size_push ..
 have st3:tn 0 (s2.heap.push { cls:=.type "dict",data:=.dict #[]}):=T.keep 0 _ _ st2 fun b _ o e=>gxL _ e
 have hob:∀ b∈fp,b≠s2.heap.objs.size:=fun b hb=>let ⟨o,e,_⟩:=T.obj 0 s2.heap st2 b hb;Nat.ne_of_lt (gxN e)
 have f3:∀ b∈fp,FpOk X pins (upd H2 s2.heap.objs.size (.dK [])) b:=fun b hb=>⟨by rw[upd_ne (hob b hb)];exact(f2 b hb).1,(f2 b hb).2⟩
 refine compD_block (s:={ s2 with heap:=s2.heap.push { cls:=.type "dict",data:=.dict #[]}}) (tok:=s2.toks) I3 hc calm T st3 f3 (hg fp _ _) (ht fp _ _) (hk fp _ _) (hv fp _ _) (q s2.heap.objs.size hD) fun s' H' kvs m IX qf nC hn=>?_
 have hlt:s2.heap.objs.size<(s2.heap.push { cls:=.type "dict",data:=.dict #[]}).objs.size:=by rw[hC];exact Nat.lt_succ_self _
 have neC:∀(b:Addr) (o:Obj),s2.heap.get? b=some o->b≠(s2.heap.push { cls:=.type "dict",data:=.dict #[]}).objs.size:=fun b o e=>Nat.ne_of_lt (Nat.lt_trans (gxN e) hlt)
 refine⟨m,nC,fun h' sb=>?_⟩
 have IY:Inv X pins σ H' { s' with heap:=h'}:=IX.turned (t':=s'.toks) (it:=(s2.heap.push { cls:=.type "dict",data:=.dict #[]}).objs.size) (fun b o hb e=>(sb.2 b hb).trans e) hn
  (Nat.ne_of_gt (Nat.lt_trans I2.lt hlt)) (.inr (Nat.le_of_lt (Nat.lt_of_le_of_lt I2.sz hlt))) (fun x c e=>let ⟨v,z⟩:=I2.cell x c e;Nat.ne_of_lt (Nat.lt_trans z.lt hlt)) (fun p hp=>neC _ _ (I2.pin p hp).1)
 exact⟨.ref _,_,IY,rfl,qf⟩
variable {y:DG}{S:List Nat}{t:Dt}{wk wv:De}
theorem d_compD {wi:DI}{pos:Pos}(hc:CompOk X N js sc)(calm:X.calm=true)(so:SoG g y S)(mo:MonoG g)(ho:ownJs S js=true)(hi:PDI X tg iter wi)(hg:∀ fp s H,PG (cxE X N sc fp s H) tg g)
 (ht:∀ fp s H,PDTs (cxE X N sc fp s H) ifs t) (hk:∀ fp s H,PD (cxE X N sc fp s H) kx wk) (hv:∀ fp s H,PD (cxE X N sc fp s H) vx wv)
 (hs:∀ x,foldedSetIterable iter X.env x=pure x:=by intro _;rfl):PD X (.DictComp kx vx [⟨tg,iter,ifs,0⟩] sc pos) (dCompD wi js y t wk wv):=(pe_compD hc calm hi hg ht hk hv hs).imp fun σ H Q h=>tD_compD so mo ho h
end
def befR (es:List Int)(ts:List Tk):Nat->List Int
 | 0=>es
 | b+1=>rowsR es ts b
theorem bef_next (es:List Int)(ts:List Tk):∀ b:Nat,nextR es ts (befR es ts b) (b:Int)=befR es ts (b+1)
 | 0=>next_ends es ts 0
 | b+1=>by show nextR es ts (rowsR es ts b) ((b+1:Nat):Int)=rowsR es ts (b+1);rfl
theorem bef_young {es:List Int}{ts:List Tk}:∀ {b:Nat},(∀ t∈ts,(b:Int)<=t.2)->befR es ts b=es
 | 0,_=>rfl
 | b+1,h=>rows_none fun t ht=>by have:=h t ht;omega
theorem rngD_cons (lo:Int)(n:Nat):rngD lo (n+1)=.int lo::rngD (lo+1) n:=by
 unfold rngD
 rw[List.range_succ_eq_map,List.map_cons,List.map_map]
 congr 1
 ·simp
 ·refine List.map_congr_left fun i _=>?_
  show D.int (lo+((i+1:Nat):Int))=_
  congr 1
  omega
theorem lvM_app {μ g:MS}{j:Nat}{ds:List D}(h:lvM μ j=some ds):lvM (μ++g) j=some ds:=lvM_of (by rw[gxF (gxB (lvM_eq h)).1];exact lvM_eq h)
theorem old_app {μ g:MS}(hm:∀(j:Nat) (m:MO),μ[j]?=some m->moB μ.length m):∀(j:Nat) (m:MO),j<μ.length->(μ++g)[j]?=some m->moB μ.length m:=fun j m hj e=>by
 rw[gxF hj]at e;exact hm j m e
def keepT (p:Tk->Bool)(g:Tk->D):D->Option D
 | .tup [.str z,.int a]=>if p (z.cps.toList,a)=true then some (g (z.cps.toList,a))else none
 | _=>none
theorem keepT_at (p:Tk->Bool)(g:Tk->D)(t:Tk):keepT p g (tkD t)=if p t=true then some (g t)else none:=rfl
theorem fm_keepT (p:Tk->Bool)(g:Tk->D):∀ ts:List Tk,(ts.map tkD).filterMap (keepT p g)=(ts.filter p).map g
 | []=>rfl
 | t::ts=>by
  rw[List.map_cons,List.filterMap_cons,keepT_at,List.filter_cons]
  by_cases h:p t=true
  ·rw[if_pos h,if_pos h,List.map_cons,fm_keepT p g ts]
  ·rw[if_neg h,if_neg h,fm_keepT p g ts]
theorem keepT_y {p:Tk->Bool}{g:Tk->D}{t:Tk}{K:Option D->MS->Prop}{μ:MS}(h:p t=true)(k:K (keepT p g (tkD t)) μ):K (some (g t)) μ:=by rw[keepT_at,if_pos h]at k;exact k
theorem keepT_n {p:Tk->Bool}{g:Tk->D}{t:Tk}{K:Option D->MS->Prop}{μ:MS}(h:¬ p t=true)(k:K (keepT p g (tkD t)) μ):K none μ:=by rw[keepT_at,if_neg h]at k;exact k
theorem lvM_ty {μ:MS}{k:Nat}{ds:List D}(h:lvM μ k=some ds):TyD "list" μ (.mr k):=by show(match μ[k]? with | some (.lst _) => "list" = "list" | some (.dic _ _) => "list" = "dict" | _=>False);rw[lvM_eq h]
theorem atI_lastOf {α:Type}(xs:List α)(x:α):atI (xs++[x]) (-1)=some x:=by
 unfold atI ixN
 rw[if_neg (by decide),if_pos (by rw[gxE,List.length_singleton];omega)]
 show(xs++[x])[((-1:Int)+((xs++[x]).length:Nat)).toNat]?=some x
 rw[gxE,List.length_singleton,show((-1:Int)+((xs.length+1:Nat):Int)).toNat=xs.length by omega,gxG (Nat.le_refl _),Nat.sub_self]
 rfl
theorem fm_byIx {α:Type}(g:α->D)(xs:List α)(f:Int->D)(h:∀(i:Nat) (x:α),xs[i]?=some x->f (i:Int)=g x):(rngD 0 xs.length).filterMap (mapI f)=xs.map g:=by
 rw[rngD_eq,fm_mapI,List.map_map]
 apply List.ext_getElem?
 intro i
 rw[gxH,gxH]
 cases e:xs[i]? with
 | none =>
  have:=List.getElem?_eq_none_iff.mp e
  rw[List.getElem?_eq_none_iff.mpr (by rw[gxJ];exact this)];rfl
 | some x =>
  have hi:=(gxB e).1
  rw[List.getElem?_range hi]
  show some (f (0+(i:Int)))=some (g x)
  rw[Int.zero_add,h i x e]
theorem idx_first {es:List Int}(nd:es.Nodup){x:Int}(h:x∈es):∀ m,m<es.idxOf x->es[m]?≠some x:=fun m hm e=>by
 have hx:=idx_get h
 obtain⟨h1,e1⟩:=gxB e
 obtain⟨h2,e2⟩:=gxB hx
 exact List.pairwise_iff_getElem.mp nd m _ h1 h2 hm (e1.trans e2.symm)
theorem next_at {es:List Int}{ts:List Tk}{bf:List Int}{a:Int}{i:Nat}{f m:Int}(hf:(ownR es ts a)[i]?=some f)(hm:bf[i]?=some m):(nextR es ts bf a)[i]?=some (max f (rowAt es bf m)):=by
 unfold nextR
 rw[List.getElem?_zipWith,hf,hm]
theorem cutN_mem {l:List Nat}{a b:Int}{v c:Nat}(ha:0<=a)(h1:a<=v)(h2:(v:Int)<b)(h:l[v]?=some c):c∈cutN l a b:=by
 obtain⟨i,rfl⟩:=Int.eq_ofNat_of_zero_le ha
 obtain⟨j,rfl⟩:=Int.eq_ofNat_of_zero_le (Int.le_trans (Int.natCast_nonneg v) (Int.le_of_lt h2))
 have h1:=Int.ofNat_le.mp h1
 rw[cutN_nat]
 refine gxD (i:=v - i) ?_
 rw[List.getElem?_take_of_lt (Nat.sub_lt_sub_right h1 (Int.ofNat_lt.mp h2)),List.getElem?_drop,Nat.add_sub_cancel' h1]
 exact h
theorem clean_far {es:List Int}{l:List Nat}{a b:Int}(ho:OX l)(ha:0<=a)(hb:b<=l.length)(hab:a<=b)(hm:b∈es)(h:120∉cutN l a b):b<=farF es l a:=by
 have ct:=clN_is ho (e:=a.toNat) (by omega)
 have hc:b<=(clN l a.toNat:Int):=by
  by_cases q:b<=(clN l a.toNat:Int)
  ·exact q
  ·rcases ct.2.2.2 with z | z
   ·omega
   ·exact absurd (cutN_mem ha (by have:=ct.1;omega) (by omega) z) h
 exact(fmax_ge _ a).2 b (List.mem_filter.mpr ⟨hm,decide_eq_true hc⟩)
theorem no_bar {n:Int}{cs:List Int}{ts:List Tk}(S:Shelf n cs ts)(hb:barOf (endsOf n cs) ts=none){i:Nat}{u v:Int}(hu:(endsOf n cs)[i]?=some u)(hv:(endsOf n cs)[i+1]?=some v):∃ t∈ts,v<=farF (endsOf n cs) t.1 u:=by
 unfold barOf at hb
 have hp:(u,v)∈prs (endsOf n cs):=by
  have:=prs_get (es:=endsOf n cs) (i:=i)
  rw[hu,hv]at this
  exact gxD this
 have nb:=List.find?_eq_none.mp hb _ hp
 unfold bad at nb
 rw[Bool.not_eq_true,List.all_eq_false]at nb
 obtain⟨t,ht,hc⟩:=nb
 have hc':120∉cutN t.1 u v:=by simpa using hc
 have ok:=S.takes.ok t ht
 have hu2:=ends_in S.n1 S.cuts (gxD hu)
 have hv2:=ends_in S.n1 S.cuts (gxD hv)
 have huv:=up_get (ends_up S.n1 S.cuts) hu hv (Nat.lt_succ_self _)
 exact⟨t,ht,clean_far ok.2.1 hu2.1 (by omega) (by omega) (gxD hv) hc'⟩
theorem own_far {es:List Int}{ts:List Tk}{a e:Int}{t:Tk}(ht:t∈ts)(ha:t.2<=a):farF es t.1 e<=ownE es ts a e:=by
 rw[ownE_eq]
 exact(fmax_ge _ e).2 _ (List.mem_map.mpr ⟨t,List.mem_filter.mpr ⟨ht,decide_eq_true ha⟩,rfl⟩)
theorem own_get {es:List Int}{ts:List Tk}{a:Int}{i:Nat}{e:Int}(h:es[i]?=some e):(ownR es ts a)[i]?=some (ownE es ts a e):=by unfold ownR;rw[gxH,h];rfl
theorem rows_own {es:List Int}{ts:List Tk}:∀ {a i:Nat} {e:Int},es[i]?=some e->∃ x,(rowsR es ts a)[i]?=some x/\ownE es ts a e<=x
 | 0,i,e,h=>⟨_,own_get h,Int.le_refl _⟩
 | a+1,i,e,h=>by
  have hi:=(gxB h).1
  obtain⟨m,hm⟩:∃ m,(rowsR es ts a)[i]?=some m:=⟨_,gxA (by rw[(rows_ok es ts a).len];exact hi)⟩
  refine⟨_,next_at (own_get h) hm,?_⟩
  show ownE es ts ((a:Int)+1) e<=_
  omega
def Goes (es:List Int)(row:List Int)(k:Nat):Prop:=∀ i,i<es.length->∃ j,min (i+k) (es.length - 1)<=j/\j<es.length/\row[i]?=es[j]?
theorem up_ge {es:List Int}(hu:es.Pairwise (·<·)){i j:Nat}{a b:Int}(hi:es[i]?=some a)(hj:es[j]?=some b)(h:a<=b):i<=j:=by
 by_cases q:i<=j
 ·exact q
 ·have:=up_get hu hj hi (by omega);omega
theorem goes_one {n:Int}{cs:List Int}{ts:List Tk}(S:Shelf n cs ts)(hb:barOf (endsOf n cs) ts=none){a:Nat}(ha:∀ t∈ts,t.2<=(a:Int)):Goes (endsOf n cs) (rowsR (endsOf n cs) ts a) 1:=fun i hi=>by
 have hu:=ends_up S.n1 S.cuts
 obtain⟨e,he⟩:∃ e,(endsOf n cs)[i]?=some e:=⟨_,gxA hi⟩
 obtain⟨x,hx,hox⟩:=rows_own (ts:=ts) (a:=a) he
 have xm:=(rows_ok (endsOf n cs) ts a).mem x (gxD hx)
 obtain⟨j,hj,ej⟩:=List.getElem_of_mem xm
 have ej':(endsOf n cs)[j]?=some x:=by rw[gxA hj,ej]
 refine⟨j,?_,hj,hx.trans ej'.symm⟩
 by_cases q:i+1<(endsOf n cs).length
 ·obtain⟨v,hv⟩:∃ v,(endsOf n cs)[i+1]?=some v:=⟨_,gxA q⟩
  obtain⟨t,ht,hf⟩:=no_bar S hb he hv
  have:=own_far (es:=endsOf n cs) (e:=e) ht (ha t ht)
  have:=up_ge hu hv ej' (by omega)
  omega
 ·have:=ownE_ge (endsOf n cs) ts a e
  have:=up_ge hu he ej' (by omega)
  omega
theorem idx_at {es:List Int}(hu:es.Pairwise (·<·)){i:Nat}{e:Int}(h:es[i]?=some e):es.idxOf e=i:=by
 have hm:=gxD h
 have g:=idx_get hm
 have h1:=up_ge hu g h (Int.le_refl _)
 have h2:=up_ge hu h g (Int.le_refl _)
 omega
theorem goes_two {i j j' q k L:Nat}(h1:min (i+k) L<=j)(g1:min (j+k) L<=j')(h:j'<=q):min (i+(k+k)) L<=q:=by omega
theorem goes_next {es:List Int}{ts:List Tk}{a k:Nat}(hu:es.Pairwise (·<·))(h:Goes es (rowsR es ts a) k):Goes es (rowsR es ts (a+1)) (k+k):=fun i hi=>by
 obtain⟨j,h1,h2,h3⟩:=h i hi
 obtain⟨j',g1,g2,g3⟩:=h j h2
 obtain⟨e,he⟩:∃ e,es[i]?=some e:=⟨_,gxA hi⟩
 obtain⟨m,hm⟩:∃ m,es[j]?=some m:=⟨_,gxA h2⟩
 obtain⟨m',hm'⟩:∃ m',es[j']?=some m':=⟨_,gxA g2⟩
 have nx:=next_at (es:=es) (ts:=ts) (bf:=rowsR es ts a) (a:=(a:Int)+1) (own_get he) (h3.trans hm)
 have ra:rowAt es (rowsR es ts a) m=m':=by
  unfold rowAt
  rw[idx_at hu hm,g3,hm'];rfl
 rw[ra]at nx
 have xm:=(rows_ok es ts (a+1)).mem _ (gxD nx)
 obtain⟨q,hq,eq⟩:=List.getElem_of_mem xm
 have eq':es[q]?=some (max (ownE es ts ((a:Int)+1) e) m'):=by rw[gxA hq,eq]
 refine⟨q,?_,hq,nx.trans eq'.symm⟩
 exact goes_two h1 g1 (up_ge hu hm' eq' (by omega))
theorem goes_pow {n:Int}{cs:List Int}{ts:List Tk}(S:Shelf n cs ts)(hb:barOf (endsOf n cs) ts=none){a:Nat}(ha:∀ t∈ts,t.2<=(a:Int)):∀ j:Nat,Goes (endsOf n cs) (rowsR (endsOf n cs) ts (a+j)) (2 ^ j)
 | 0=>goes_one S hb ha
 | j+1=>by
  have:=goes_next (ends_up S.n1 S.cuts) (goes_pow S hb ha j)
  rw[show 2 ^ (j+1)=2 ^ j+2 ^ j by rw[Nat.pow_succ];omega]
  exact this
theorem ends_last (n:Int)(cs:List Int):(endsOf n cs)[(endsOf n cs).length - 1]?=some n:=by
 rw[endsOf_len]
 unfold endsOf
 rw[show cs.length+2 - 1=(0::cs).length by simp]
 simp
structure LeastIs (es:List Int)(ts:List Tk)(n:Int)(a:Nat):Prop where
 at_:(rowsR es ts a)[0]?=some n
 low:∀ b,b<a->(rowsR es ts b)[0]?≠some n
theorem LeastIs.uniq {es:List Int}{ts:List Tk}{n:Int}{a b:Nat}(h:LeastIs es ts n a)(g:LeastIs es ts n b):a=b:=by
 rcases Nat.lt_trichotomy a b with q | q | q
 ·exact absurd h.at_ (g.low a q)
 ·exact q
 ·exact absurd g.at_ (h.low b q)
theorem least_ex {es:List Int}{ts:List Tk}{n:Int}:∀ {m:Nat},(rowsR es ts m)[0]?=some n->∃ a,a<=m/\LeastIs es ts n a:=by
 intro m
 induction m using Nat.strongRecOn with
 | ind m ih =>
  intro h
  by_cases q:∃ b,b<m/\(rowsR es ts b)[0]?=some n
  ·obtain⟨b,hb,e⟩:=q
   obtain⟨a,h1,h2⟩:=ih b hb e
   exact⟨a,by omega,h2⟩
  ·exact⟨m,Nat.le_refl _,h,fun b hb e=>q ⟨b,hb,e⟩⟩
theorem least_some {n:Int}{cs:List Int}{ts:List Tk}(S:Shelf n cs ts)(hl:cs.length<=60)(hb:barOf (endsOf n cs) ts=none){a:Nat}(ha:∀ t∈ts,t.2<=(a:Int)):∃ x,x<=a+6/\LeastIs (endsOf n cs) ts n x:=by
 refine least_ex ?_
 obtain⟨j,h1,h2,h3⟩:=goes_pow S hb ha 6 0 (by rw[endsOf_len];omega)
 rw[h3]
 have:j=(endsOf n cs).length - 1:=by rw[endsOf_len]at *;omega
 rw[this]
 exact ends_last n cs
theorem least_ex60 {n:Int}{cs:List Int}{ts:List Tk}(S:Shelf n cs ts)(hl:cs.length<=60)(hb:barOf (endsOf n cs) ts=none):∃ x,x<=66/\LeastIs (endsOf n cs) ts n x:=least_some S hl hb (a:=60) fun t ht=>(S.takes.ok t ht).2.2.2
theorem least_young {n:Int}{cs:List Int}{ts:List Tk}(S:Shelf n cs ts){a:Nat}(h:LeastIs (endsOf n cs) ts n a):youngF ts<=a:=by
 by_cases q:youngF ts<=a
 ·exact q
 ·have:=h.at_
  rw[rows_none fun t ht=>by have:=young_le t ht;omega]at this
  have h0:(endsOf n cs)[0]?=some 0:=rfl
  rw[h0]at this
  have:=Option.some.inj this
  have:=S.n1
  omega
theorem bar_takes {n:Int}{cs:List Int}{ts:List Tk}(S:Shelf n cs ts)(hb:barOf (endsOf n cs) ts=none):ts≠[]:=fun e=>by
 obtain⟨u,hu⟩:∃ u,(endsOf n cs)[0]?=some u:=⟨_,gxA (by rw[endsOf_len];omega)⟩
 obtain⟨v,hv⟩:∃ v,(endsOf n cs)[0+1]?=some v:=⟨_,gxA (by rw[endsOf_len];omega)⟩
 obtain⟨t,ht,_⟩:=no_bar S hb hu hv
 rw[e]at ht;cases ht
def leastK (es:List Int)(ts:List Tk)(n:Int)(μ:MS)(K:DK):Prop:=match barOf es ts with
 | some _=>K .non μ
 | none=>∀ a:Nat,a<=66->LeastIs es ts n a->K (.int a) μ
def fLeast:DSp:=fun ds μ K=>match ds with
 | [.int n,x,y]=>∃(cs:List Int) (ts:List Tk),lv μ x=some (cs.map D.int)/\lv μ y=some (ts.map tkD)/\Shelf n cs ts/\cs.length<=60/\leastK (endsOf n cs) ts n μ K
 | _=>False
def fLeastL:DSp:=fun ds μ K=>match ds with
 | [.lst b,y]=>∃(n:Int) (cs:List Int) (ts:List Tk),b=(endsOf n cs).map D.int/\lv μ y=some (ts.map tkD)/\Shelf n cs ts/\cs.length<=60/\leastK (endsOf n cs) ts n μ K
 | _=>False
end L2
namespace L2
end L2
namespace L2
open PySem PySem.Spec PyProof.Rows
theorem far_mono {es:List Int}{l:List Nat}{e e':Int}(ho:OX l)(h0:0<=e)(hee:e<=e')(he':e'<=l.length)(hm:e∈es):farF es l e<=farF es l e':=by
 have c1:=clN_is ho (e:=e.toNat) (by omega)
 have c2:=clN_is ho (e:=e'.toNat) (by omega)
 have ge':=farF_ge es l e'
 have fm:=farF_mem (es:=es) (l:=l) hm
 obtain⟨t,ht,_,hft,_⟩:=farF_is (es:=es) ho h0 (by omega) hm
 have et:=ht.uniq c1
 subst et
 by_cases q:farF es l e<=e'
 ·omega
 ·have hc:clN l e.toNat<=clN l e'.toNat:=by
   by_cases z:clN l e.toNat<=clN l e'.toNat
   ·exact z
   ·rcases c2.2.2.2 with y | y
    ·have:=c1.2.1;omega
    ·have:=c1.2.2.1 (clN l e'.toNat) (by have:=c2.1;omega) (by omega)
     rw[y]at this;cases this
  exact(fmax_ge _ e').2 _ (List.mem_filter.mpr ⟨fm,decide_eq_true (by omega)⟩)
theorem own_mono {n:Int}{es:List Int}{ts:List Tk}{a e e':Int}(T:Takes n ts)(h0:0<=e)(hee:e<=e')(he':e'<=n)(hm:e∈es):ownE es ts a e<=ownE es ts a e':=by
 have ge:=ownE_ge es ts a e'
 rw[ownE_eq es ts a e]
 rcases fmax_mem ((ts.filter fun t=>decide (t.2<=a)).map fun t=>farF es t.1 e) e with q | q
 ·rw[q];omega
 ·obtain⟨t,ht,e1⟩:=List.mem_map.mp q
  obtain⟨ht1,ht2⟩:=List.mem_filter.mp ht
  rw[<- e1]
  have ok:=T.ok t ht1
  have:=far_mono ok.2.1 h0 hee (by omega) hm
  have:=own_far (es:=es) (e:=e') ht1 (of_decide_eq_true ht2)
  omega
def Rises (row:List Int):Prop:=∀(i j:Nat) (a b:Int),i<=j->row[i]?=some a->row[j]?=some b->a<=b
theorem up_le {es:List Int}(hu:es.Pairwise (·<·)):Rises es:=fun i j a b h hi hj=>by
 rcases Nat.lt_or_ge i j with q | q
 ·exact Int.le_of_lt (up_get hu hi hj q)
 ·have:i=j:=by omega
  subst this
  rw[hi]at hj;cases hj;exact Int.le_refl _
theorem own_rises {n:Int}{cs:List Int}{ts:List Tk}{a:Int}(S:Shelf n cs ts):Rises (ownR (endsOf n cs) ts a):=fun i j x y h hi hj=>by
 unfold ownR at hi hj
 rw[gxH]at hi hj
 cases e1:(endsOf n cs)[i]? with
 | none=>rw[e1]at hi;cases hi
 | some u =>
  cases e2:(endsOf n cs)[j]? with
  | none=>rw[e2]at hj;cases hj
  | some v =>
   rw[e1]at hi;rw[e2]at hj
   cases hi;cases hj
   have hu:=ends_in S.n1 S.cuts (gxD e1)
   have hv:=ends_in S.n1 S.cuts (gxD e2)
   exact own_mono S.takes hu.1 (up_le (ends_up S.n1 S.cuts) i j u v h e1 e2) hv.2 (gxD e1)
def fFars:DSp:=fun ds μ K=>match ds with
 | [.lst b,y]=>∃(n:Int) (cs:List Int) (ts:List Tk),b=(endsOf n cs).map D.int/\lv μ y=some (ts.map tkD)/\Shelf n cs ts/\K (.lst (ts.map (rowTD (endsOf n cs)))) μ
 | _=>False
def nearT (t:Tk):Tk:=(t.1,t.2%9)
def fNear:DSp:=fun ds μ K=>match ds with
 | [y]=>∃ ts:List Tk,lv μ y=some (ts.map tkD)/\ts.length<=1000/\K (.lst ((ts.map nearT).map tkD)) μ
 | _=>False
theorem near_ok {n:Int}{ts:List Tk}(h:Takes n ts):Takes n (ts.map nearT):=⟨by rw[gxC];exact h.few,fun t ht=>by
 obtain⟨u,hu,rfl⟩:=List.mem_map.mp ht
 have:=h.ok u hu
 exact⟨this.1,this.2.1,Int.emod_nonneg _ (by decide),by show u.2%9<=60;omega⟩⟩
theorem atI_end {α:Type}{xs:List α}{x:α}(h:xs[xs.length - 1]?=some x):atI xs (-1)=some x:=by
 have hl:=(gxB h).1
 have e:xs=xs.dropLast++[x]:=by
  have hne:xs≠[]:=fun e=>by rw[e]at hl;simp at hl
  have:=List.dropLast_concat_getLast hne
  rw[List.getLast_eq_getElem]at this
  rw[gxA hl]at h
  rw[Option.some.inj h]at this
  exact this.symm
 rw[e]
 exact atI_last _ _
theorem compW_gen {α:Type}{it:D->MS->(Option D->MS->Prop)->Prop}{c:MS->Prop}{μ:MS}(hc:c μ)(g:α->D)(f:α->Option D):∀ {xs:List α} {K:List D->MS->Prop},(∀ x∈xs,∀(K':Option D->MS->Prop),K' (f x) μ->it (g x) μ K')->K (xs.filterMap f) μ->compW it c (xs.map g) μ K
 | [],K,_,k=>⟨hc,k⟩
 | x::xs,K,h,k=>⟨hc,h x List.mem_cons_self _ (compW_gen hc g f (fun y hy=>h y (gxI _ hy)) (by
  cases e:f x with
  | none=>rw[List.filterMap_cons_none e]at k;exact k
  | some y=>rw[List.filterMap_cons_some e]at k;exact k))⟩
theorem compW_all {α:Type}{it:D->MS->(Option D->MS->Prop)->Prop}{c:MS->Prop}{μ:MS}(hc:c μ)(g f:α->D){xs:List α}{K:List D->MS->Prop}(h:∀ x∈xs,∀(K':Option D->MS->Prop),K' (some (f x)) μ->it (g x) μ K')(k:K (xs.map f) μ):compW it c (xs.map g) μ K:=by
 refine compW_gen hc g (fun x=>some (f x)) h ?_
 rw[List.filterMap_eq_map']
 exact k
theorem atI_maps {α:Type}{g:α->D}{xs:List α}{k:Nat}{x:α}(h:xs[k]?=some x):atI (xs.map g) (k:Int)=some (g x):=atI_map h
end L2
namespace L2
end L2
namespace L2
open PySem PySem.Spec PyProof.Rows
theorem Room.le {j k:Nat}{A:Around}(r:Room k A)(h:j<=k:=by first | decide | exact Nat.le_refl _ | omega):Room j A:=r.mono h
theorem lo {sc:Scope}{x:Str}(h:Loc sc x:=by first | exact Or.inl rfl | exact Or.inr rfl):Loc sc x:=h
section
variable {X:Cx}
def rMinL:List V->Hp->VK->Prop:=fun vs H Q=>match vs with
 | [.ref p]=>∃ ns:List Int,H p=some (.lst (ns.map V.int))/\ns≠[]/\∀ m,m∈ns->(∀ x∈ns,m<=x)->Q (.int m) H
 | _=>False
theorem minL (hc:X.calm=true):CallR X (.builtin "min") rMinL:=by
 intro pins s σ H vs us Q I rv h
 unfold rMinL at h
 split at h
 ·rename_i p
  obtain⟨ns,hp,hne,q⟩:=h
  obtain⟨u,rfl,ru⟩:=rv.one
  cases ru
  obtain⟨z,its,n,r,hl,e⟩:=I.lstM hp
  have isl:s.heap.IsList p its.toArray:=⟨_,e,rfl,n,rfl⟩
  have lt:p≠s.heap.objs.size:=Nat.ne_of_lt (gxN e)
  have len:its.toArray.size=ns.length:=by rw[List.size_toArray,<- hl,gxC]
  have pos:0<ns.length:=List.length_pos_iff.mpr hne
  have val:∀ i v,its.toArray[i]?=some v->∃ t,i<ns.length/\v=.int (ns.getD i 0) t:=fun i v hv=>by
   have hv':its[i]?=some v:=by simpa using hv
   cases eb:(ns.map V.int)[i]? with
   | none=>have:=r.none_of eb;rw[hv']at this;cases this
   | some y =>
    obtain⟨u,hu,ry⟩:=r.get eb
    rw[hv']at hu;cases hu
    rw[gxH]at eb
    cases e2:ns[i]? with
    | none=>rw[e2]at eb;cases eb
    | some b =>
     rw[e2]at eb;cases eb
     obtain⟨t,rfl⟩:=ry
     exact⟨t,(gxB e2).1,by rw[List.getD_eq_getElem?_getD,e2];rfl⟩
  refine call_min_walk (wpAny_pyIter_list isl ⟨_,_,_,_,_,_,fun i j=>decide (ns.getD i 0<ns.getD j 0),rfl,Walks.list (A:=X.A.in1) (I.ok.hd hc) s.heap.objs.size p lt its.toArray,⟨⟨_,Heap.get?_push_size _ rfl,rfl,rfl⟩,isl.push _⟩,?_,by rw[len];exact pos,?_,fun v h' tk hv kp=>?_⟩)
  ·intro b hb
   simp only[List.mem_cons,List.not_mem_nil,or_false]at hb
   show b<(s.heap.push _).objs.size
   rw[Heap.size_push]
   rcases hb with rfl | rfl
   ·exact Nat.lt_succ_self _
   ·exact Nat.lt_succ_of_lt (gxN e)
  ·intro i j vi vj s' Q' E' hi hj hq
   obtain⟨t,_,rfl⟩:=val i vi hi
   obtain⟨t',_,rfl⟩:=val j vj hj
   exact lt_int hq
  ·have I2:Inv X pins σ H { s with heap:=h',toks:=tk}:=I.kept fun b o e'=>kp b o (by simpa using Nat.ne_of_lt (gxN e')) (gxL _ e')
   rw[len]at hv
   obtain⟨t,hlt,rfl⟩:=val _ v hv
   obtain⟨b1,b2⟩:=worst_is ns (ns.length - 1) (by omega)
   refine⟨.int _,H,I2,⟨t,rfl⟩,q _ ?_ fun x hx=>?_⟩
   ·rw[List.getD_eq_getElem?_getD,gxA hlt];exact List.getElem_mem _
   ·obtain⟨j,hj,ej⟩:=List.getElem_of_mem hx
    have:=b2 j (by omega)
    rw[List.getD_eq_getElem?_getD (i:=j),gxA hj,ej]at this
    exact this
 ·exact h.elim
end
def fMinL:DSp:=fun ds μ K=>match ds with
 | [x]=>∃ ns:List Int,lv μ x=some (ns.map D.int)/\ns≠[]/\∀ m,m∈ns->(∀ y∈ns,m<=y)->K (.int m) μ
 | _=>False
theorem so_minL:SoCall rMinL fMinL:=fun φ H vs ds μ K Q M h k L=>by
 unfold fMinL at k
 split at k
 ·obtain⟨v,r,rfl,h1,h2⟩:=h;cases(show r=[]from h2)
  obtain⟨ns,el,hn,k⟩:=k
  obtain⟨p,vs,rfl,hp,ha⟩:=lv_is M h1 el
  exact⟨ns,by rw[hp,ha.ints],hn,fun m a b=>L.val M (k m a b) rfl⟩
 ·exact k.elim
def rowI (L:Nat)(f:Nat->Int):List D:=(List.range L).map fun j=>D.int (f j)
def tabR (L:Nat)(T:Nat->Nat->Int):List D:=(List.range L).map fun i=>D.lst (rowI L (T i))
def minD0:List Int->Int
 | []=>0
 | x::r=>r.foldl min x
theorem minD0_is {ns:List Int}{m:Int}(h1:m∈ns)(h2:∀ y∈ns,m<=y):m=minD0 ns:=by
 cases ns with
 | nil=>cases h1
 | cons x r =>
  obtain⟨a,b,c⟩:=fmin_is r x
  show m=r.foldl min x
  have g1:r.foldl min x<=m:=by
   rcases List.mem_cons.mp h1 with q | q
   ·rw[q];exact b
   ·exact c m q
  have g2:m<=r.foldl min x:=by
   rcases a with q | q
   ·rw[q];exact h2 x List.mem_cons_self
   ·exact h2 _ (gxI _ q)
  omega
theorem minD0_mem {ns:List Int}(h:ns≠[]):minD0 ns∈ns/\∀ y∈ns,minD0 ns<=y:=by
 cases ns with
 | nil=>exact absurd rfl h
 | cons x r =>
  obtain⟨a,b,c⟩:=fmin_is r x
  refine⟨?_,fun y hy=>?_⟩
  ·rcases a with q | q
   ·show r.foldl min x∈_;rw[q];exact List.mem_cons_self
   ·exact gxI _ q
  ·rcases List.mem_cons.mp hy with q | q
   ·rw[q];exact b
   ·exact c y q
def candL (T:Nat->Nat->Int)(i j:Nat):List Int:=(List.range (j - (i+1))).filterMap fun x=>if 0<T i (i+1+x)*T (i+1+x) j then some (T i (i+1+x)+T (i+1+x) j)else none
theorem cand_mem {T:Nat->Nat->Int}{i j:Nat}{v:Int}:v∈candL T i j↔∃ k,i<k/\k<j/\0<T i k*T k j/\v=T i k+T k j:=by
 unfold candL
 rw[List.mem_filterMap]
 constructor
 ·rintro⟨x,hx,e⟩
  rw[List.mem_range]at hx
  split at e
  ·cases e;exact⟨i+1+x,by omega,by omega,by assumption,rfl⟩
  ·cases e
 ·rintro⟨k,h1,h2,h3,rfl⟩
  refine⟨k - (i+1),List.mem_range.mpr (by omega),?_⟩
  rw[show i+1+(k - (i+1))=k by omega,if_pos h3]
def stepL (es own:List Int)(T:Nat->Nat->Int)(i j:Nat):Int:=if j<=i then 0 else if es.getD j 0<=own.getD i 0 then 1 else minD0 (candL T i j)
def tabL (es:List Int)(ts:List Tk):Nat->Nat->Nat->Int
 | 0=>fun _ _=>0
 | a+1=>stepL es (ownR es ts a) (tabL es ts a)
theorem step_bd {es own:List Int}{T:Nat->Nat->Int}(h:∀ i j,0<=T i j/\T i j<=((j - i:Nat):Int))(i j:Nat):0<=stepL es own T i j/\stepL es own T i j<=((j - i:Nat):Int):=by
 unfold stepL
 split
 ·omega
 ·split
  ·omega
  ·by_cases hn:candL T i j=[]
   ·rw[hn];show(0:Int)<=0/\(0:Int)<=_;omega
   ·obtain⟨k,h1,h2,h3,e⟩:=cand_mem.mp (minD0_mem hn).1
    rw[e]
    have a:=h i k
    have b:=h k j
    omega
theorem tab_bd (es:List Int)(ts:List Tk):∀ a i j,0<=tabL es ts a i j/\tabL es ts a i j<=((j - i:Nat):Int)
 | 0,i,j=>by show(0:Int)<=0/\(0:Int)<=_;omega
 | a+1,i,j=>step_bd (tab_bd es ts a) i j
def fFewNext:DSp:=fun ds μ K=>match ds with
 | [.lst b,.lst o,.lst l]=>∃(es own:List Int) (T:Nat->Nat->Int),b=es.map D.int/\o=own.map D.int/\own.length=es.length/\es≠[]/\es.length<=2000/\((l=[]/\T=fun _ _=>0)\/l=tabR es.length T)/\(∀ i j,0<=T i j/\T i j<=((j - i:Nat):Int))/\K (.lst (tabR es.length (stepL es own T))) μ
 | _=>False
def partT (S:Nat->Nat->Int)(i j:Nat)(a b:Nat):Int:=if a<i\/(a=i/\b<j)then S a b else 0
def RowsM (L:Nat)(T:Nat->Nat->Int)(g:MS):Prop:=g.length=L/\∀ a,a<L->g[a]?=some (.lst (rowI L (T a)))
theorem rowI_get {L:Nat}{f:Nat->Int}{j:Nat}(h:j<L):(rowI L f)[j]?=some (.int (f j)):=by unfold rowI;rw[gxH,List.getElem?_range h];rfl
theorem rowI_len (L:Nat)(f:Nat->Int):(rowI L f).length=L:=by unfold rowI;rw[gxC,gxJ]
theorem tabR_get {L:Nat}{T:Nat->Nat->Int}{j:Nat}(h:j<L):(tabR L T)[j]?=some (.lst (rowI L (T j))):=by unfold tabR;rw[gxH,List.getElem?_range h];rfl
theorem tabR_len (L:Nat)(f:Nat->Nat->Int):(tabR L f).length=L:=by unfold tabR;rw[gxC,gxJ]
theorem rowI_set {L:Nat}{f:Nat->Int}{j:Nat}{v:Int}(h:j<L):(rowI L f).set j (.int v)=rowI L (fun b=>if b=j then v else f b):=by
 apply List.ext_getElem?
 intro b
 by_cases hb:b<L
 ·rw[rowI_get hb]
  by_cases e:b=j
  ·subst e;rw[List.getElem?_set_self (by rw[rowI_len];exact h),if_pos rfl]
  ·rw[List.getElem?_set_ne (Ne.symm e),rowI_get hb,if_neg e]
 ·rw[List.getElem?_eq_none_iff.mpr (by rw[List.length_set,rowI_len];omega),List.getElem?_eq_none_iff.mpr (by rw[rowI_len];omega)]
theorem rowI_ext {L:Nat}{f g:Nat->Int}(h:∀ j,j<L->f j=g j):rowI L f=rowI L g:=by
 unfold rowI
 exact List.map_congr_left fun j hj=>by rw[h j (List.mem_range.mp hj)]
theorem RowsM.ext {L:Nat}{T T':Nat->Nat->Int}{g:MS}(h:RowsM L T g)(e:∀ i j,i<L->j<L->T i j=T' i j):RowsM L T' g:=⟨h.1,fun a ha=>by rw[h.2 a ha,rowI_ext (fun j hj=>e a j ha hj)]⟩
theorem RowsM.put {L:Nat}{T:Nat->Nat->Int}{g:MS}(h:RowsM L T g){i j:Nat}(hi:i<L)(hj:j<L)(v:Int):RowsM L (fun a b=>if a=i/\b=j then v else T a b) (g.set i (.lst ((rowI L (T i)).set j (.int v)))):=by
 refine⟨by rw[List.length_set];exact h.1,fun a ha=>?_⟩
 by_cases e:a=i
 ·subst e
  rw[List.getElem?_set_self (by rw[h.1];exact hi),rowI_set hj]
  congr 2
  apply rowI_ext
  intro b _
  simp
 ·rw[List.getElem?_set_ne (Ne.symm e),h.2 a ha]
  congr 2
  apply rowI_ext
  intro b _
  simp[e]
theorem set_app {μ g:MS}{i:Nat}{m:MO}:(μ++g).set (μ.length+i) m=μ++g.set i m:=by
 rw[List.set_append_right _ _ (by omega),Nat.add_sub_cancel_left]
theorem lvM_at {μ g:MS}{i:Nat}{ds:List D}(h:g[i]?=some (.lst ds)):lvM (μ++g) (μ.length+i)=some ds:=lvM_of (by rw[gxG (by omega),Nat.add_sub_cancel_left];exact h)
theorem mr_all {n:Nat}:∀ {ds:List D},(∀ d∈ds,mrB n d)->mrL n ds
 | [],_=>by unfold mrL;trivial
 | d::ds,h=>by unfold mrL;exact⟨h d List.mem_cons_self,mr_all fun x hx=>h x (gxI _ hx)⟩
theorem mr_rowI {n:Nat}(L:Nat)(f:Nat->Int):mrB n (.lst (rowI L f)):=mr_all fun d hd=>by obtain⟨i,_,rfl⟩:=List.mem_map.mp hd;exact trivial
theorem mr_tabR {n:Nat}(L:Nat)(f:Nat->Nat->Int):mrB n (.lst (tabR L f)):=mr_all fun d hd=>by obtain⟨i,_,rfl⟩:=List.mem_map.mp hd;exact mr_rowI L _
theorem sm_rowI {n:Nat}(L:Nat)(f:Nat->Int)(h:L<=100000):smD (n+1) (.lst (rowI L f)):=sm_lst (by rw[rowI_len];exact h) fun d hd=>by obtain⟨i,_,rfl⟩:=List.mem_map.mp hd;exact sm_int
theorem sm_tabR {n:Nat}(L:Nat)(f:Nat->Nat->Int)(h:L<=100000):smD (n+2) (.lst (tabR L f)):=sm_lst (by rw[tabR_len];exact h) fun d hd=>by obtain⟨i,_,rfl⟩:=List.mem_map.mp hd;exact sm_rowI L _ h
theorem All2.self {R:D->D->Prop}{ds:List D}(h:∀ d∈ds,R d d):All2 R ds ds:=⟨rfl,fun i a b e1 e2=>by rw[e1]at e2;cases e2;exact h a (gxD e1)⟩
theorem frz_tab {n L:Nat}{T:Nat->Nat->Int}{μ g:MS}(hn:n=μ.length)(h:RowsM L T g):FrzR n (μ++g) 2 (.lst ((List.range L).map fun i=>.mr (n+i))) (.lst (tabR L T)):=by
 refine .inr (.inr (.inl ⟨_,_,rfl,rfl,by rw[gxC,gxJ,tabR_len],fun i a b e1 e2=>?_⟩))
 have hi:i<L:=by have:=(gxB e2).1;rwa [tabR_len]at this
 rw[tabR_get hi]at e2
 rw[gxH,List.getElem?_range hi]at e1
 cases e1;cases e2
 refine .inr (.inl ⟨n+i,_,_,rfl,by omega,by rw[hn];exact lvM_eq (lvM_at (h.2 i hi)),rfl,All2.self fun d hd=>?_⟩)
 obtain⟨j,_,rfl⟩:=List.mem_map.mp hd
 exact⟨rfl,trivial⟩
end L2
namespace L2
end L2
namespace L2
open PySem PySem.Spec PyProof.Rows
abbrev IsZipG (h:Heap)(z TI TO:Addr)(f:Value)(bb:Bool):Prop:=h.get? z=some { cls:=.type "zip",dict:=none,data:=.fields #[f,.bool bb,.bool false,.ref TI,.ref TO],slots:=#[]}
structure ZG (z TI TO i1 i2 l1 l2:Addr)(f:Value)(bb:Bool)(a b:Value)(k1 k2:Nat)(xs ys:Array Value)(h:Heap):Prop where
 z:IsZipG h z TI TO f bb
 ti:IsPair h TI (.ref i1) (.ref i2)
 to:IsPair h TO a b
 n1:ItOf false h i1 l1 k1
 n2:ItOf false h i2 l2 k2
 q1:SqOf false h l1 xs
 q2:SqOf false h l2 ys
section
variable {z TI TO i1 i2 l1 l2:Addr}{f f' a b x y:Value}{bb bb':Bool}{k1 k2:Nat}{xs ys:Array Value}{h h':Heap}
theorem ZG.mz (S:ZG z TI TO i1 i2 l1 l2 f bb a b k1 k2 xs ys h)(D:ZipApart z TI TO i1 i2 l1 l2)(e:IsZipG h' z TI TO f' bb')(k:Heap.ExtBut z h h'):ZG z TI TO i1 i2 l1 l2 f' bb' a b k1 k2 xs ys h' :=
 ⟨e,k _ _ D.TIz S.ti,k _ _ D.TOz S.to,S.n1.extBut k D.i1z,S.n2.extBut k D.i2z,S.q1.extBut k D.l1z,S.q2.extBut k D.l2z⟩
theorem ZG.m1 {j:Nat}(S:ZG z TI TO i1 i2 l1 l2 f bb a b k1 k2 xs ys h)(D:ZipApart z TI TO i1 i2 l1 l2)(e:ItOf false h' i1 l1 j)(k:Heap.ExtBut i1 h h'):ZG z TI TO i1 i2 l1 l2 f bb a b j k2 xs ys h' :=
 ⟨k _ _ D.i1z.symm S.z,k _ _ D.TIi1 S.ti,k _ _ D.TOi1 S.to,e,S.n2.extBut k D.i12.symm,S.q1.extBut k D.l1i1,S.q2.extBut k D.l2i1⟩
theorem ZG.m2 {j:Nat}(S:ZG z TI TO i1 i2 l1 l2 f bb a b k1 k2 xs ys h)(D:ZipApart z TI TO i1 i2 l1 l2)(e:ItOf false h' i2 l2 j)(k:Heap.ExtBut i2 h h'):ZG z TI TO i1 i2 l1 l2 f bb a b k1 j xs ys h' :=
 ⟨k _ _ D.i2z.symm S.z,k _ _ D.TIi2 S.ti,k _ _ D.TOi2 S.to,S.n1.extBut k D.i12,e,S.q1.extBut k D.l1i2,S.q2.extBut k D.l2i2⟩
theorem ZG.mo (S:ZG z TI TO i1 i2 l1 l2 f bb a b k1 k2 xs ys h)(D:ZipApart z TI TO i1 i2 l1 l2)(e:IsPair h' TO x y)(k:Heap.ExtBut TO h h'):ZG z TI TO i1 i2 l1 l2 f bb x y k1 k2 xs ys h' :=
 ⟨k _ _ D.TOz.symm S.z,k _ _ D.TITO S.ti,e,S.n1.extBut k D.TOi1.symm,S.n2.extBut k D.TOi2.symm,S.q1.extBut k D.l1TO,S.q2.extBut k D.l2TO⟩
theorem ZG.push (S:ZG z TI TO i1 i2 l1 l2 f bb a b k1 k2 xs ys h)(o:Obj):ZG z TI TO i1 i2 l1 l2 f bb a b k1 k2 xs ys (h.push o) :=
 ⟨gxL _ S.z,gxL _ S.ti,gxL _ S.to,S.n1.at fun _ e=>gxL _ e,S.n2.at fun _ e=>gxL _ e,
  S.q1.extBut (b:=h.objs.size) (fun _ _ _ e=>gxL _ e) (S.q1.lt),S.q2.extBut (b:=h.objs.size) (fun _ _ _ e=>gxL _ e) (S.q2.lt)⟩
end
section
variable {prog:Program}{w:World}{A:Around}{E:Value->Shared->Prop}{s:Shared}
variable {z TI TO i1 i2 l1 l2:Addr}{k1 k2:Nat}{xs ys:Array Value}{x y a b f:Value}{bb:Bool}
theorem free_ok {Q:Bool->Shared->Prop}(hz:IsZipG s.heap z TI TO f bb)(hf:f=.none\/∃ T0:Addr,f=rawInt T0/\s.heap.get? T0=none)(q:Q true s):wpAny (model prog w) A (Builtin.SmallTypes.ownedTupleIsFree (.ref z)) Q E s:=by
 rcases hf with rfl | ⟨T0,rfl,hd⟩
 ·exact gxM (wpAny_field hz rfl (x:=.none) rfl (wpAny_pure q))
 ·refine gxM (wpAny_field hz rfl (x:=rawInt T0) rfl ?_)
  show wpAny _ _ (loadIfAlive T0 >>= _) _ _ s
  refine gxM (wpAny_alive ?_)
  rw[hd]
  exact wpAny_pure q
theorem busy_ok {Q:Bool->Shared->Prop}{T0:Addr}{o:Obj}(hz:IsZipG s.heap z TI TO (rawInt T0) bb)(hd:s.heap.get? T0=some o)(q:∀ g,IsZipG g z TI TO (rawInt T0) true->Heap.SameBut z s.heap g->Q false { s with heap:=g}):wpAny (model prog w) A (Builtin.SmallTypes.ownedTupleIsFree (.ref z)) Q E s:=by
 refine gxM (wpAny_field hz rfl (x:=rawInt T0) rfl ?_)
 show wpAny _ _ (loadIfAlive T0 >>= _) _ _ s
 refine gxM (wpAny_alive ?_)
 rw[hd]
 show wpAny _ _ (field (.ref z) 1 >>= _) _ _ s
 refine gxM (wpAny_field hz rfl (x:=.bool bb) rfl ?_)
 cases bb with
 | true=>exact wpAny_pure (q s.heap hz ⟨rfl,fun _ _=>rfl⟩)
 | false=>exact gxM (wpAny_setField_rec hz (by simp) fun g e t=>wpAny_pure (q g e t))
theorem zg_free {Q:Value->Shared->Prop}(D:ZipApart z TI TO i1 i2 l1 l2)(S:ZG z TI TO i1 i2 l1 l2 f bb a b k1 k2 xs ys s.heap)(hf:f=.none\/∃ T0:Addr,f=rawInt T0/\s.heap.get? T0=none)(hx:xs[k1]?=some x)(hy:ys[k2]?=some y)
 (hQ:∀ h',ZG z TI TO i1 i2 l1 l2 (rawInt s.heap.objs.size) false x y (k1+1) (k2+1) xs ys h'->IsPair h' s.heap.objs.size x y->h'.objs.size=s.heap.objs.size+1->ZK z TO i1 i2 s.heap h'->Q (.ref s.heap.objs.size) { s with heap:=h'}) :
 wpAny (model prog w) A (Builtin.«zip.__next__» ⟨[.ref z],[]⟩) (fun fin s'=>∃ v,fin=.done (.ret v)/\Q v s') E s:=by
 refine gxM (wpAny_pure (gxM (wpAny_field S.z rfl (x:=.bool false) rfl (gxM (wpAny_field S.z rfl (x:=.ref TI) rfl (gxM (wpAny_seqItems S.ti rfl ?_)))))))
 refine gxM (m:=Builtin.SmallTypes.ownedTupleIsFree (.ref z)) (free_ok S.z hf ?_)
 refine gxM (wpAny_rule (gxM (wpAny_field S.z rfl (x:=.ref TO) rfl (gxM (wpAny_setField_rec S.z (by simp) fun g1 e1 t1=>?_)))))
 have S1:=S.mz D (f':=.ellipsis) (bb':=bb) e1 t1.extBut
 refine gxM ?_
 rw[show(#[Value.ref i1,Value.ref i2]:Array Value).toList.zipIdx=[(.ref i1,0),(.ref i2,1)]from rfl,List.forIn_cons]
 refine gxM (gxM (wpAny_onRaise (gxM (nextG_item S1.n1 S1.q1 hx fun g2 e2 t2=>wpAny_pure ?_))))
 have S2:=S1.m1 D e2 t2.extBut
 refine gxM (wpAny_seqItems S2.to rfl (gxM (wpAny_updateSeq_pair S2.to fun g3 e3 t3=>gxM (wpAny_letGo (wpAny_pure ?_)))))
 have S3:=S2.mo D (x:=x) (y:=b) e3 t3.extBut
 dsimp only
 rw[List.forIn_cons]
 refine gxM (gxM (wpAny_onRaise (gxM (nextG_item S3.n2 S3.q2 hy fun g4 e4 t4=>wpAny_pure ?_))))
 have S4:=S3.m2 D e4 t4.extBut
 refine gxM (wpAny_seqItems S4.to rfl (gxM (wpAny_updateSeq_pair S4.to fun g5 e5 t5=>gxM (wpAny_letGo (wpAny_pure ?_)))))
 have S5:=S4.mo D (x:=x) (y:=y) e5 t5.extBut
 dsimp only
 rw[List.forIn_nil]
 have sz:g5.objs.size=s.heap.objs.size:=t5.1.trans (t4.1.trans (t3.1.trans (t2.1.trans t1.1)))
 refine wpAny_pure (gxM (wpAny_seqItems S5.to rfl (gxM (wpAny_newTuple ?_))))
 have S6:=S5.push { cls:=.type "tuple",data:=.seq #[x,y]}
 refine gxM (m:=Builtin.SmallTypes.ownedTupleHandOut (.ref z) (.ref g5.objs.size)) (gxM (wpAny_setField_rec S6.z (by simp) fun g7 e7 t7=>?_))
 have S7:=S6.mz D (f':=rawInt g5.objs.size) (bb':=bb) e7 t7.extBut
 refine wpAny_setField_rec S7.z (by simp) fun g8 e8 t8=>?_
 have S8:=S7.mz D (f':=rawInt g5.objs.size) (bb':=false) e8 t8.extBut
 have zlt:g5.objs.size≠z:=Nat.ne_of_gt (gxN S5.z)
 have hT:IsPair g8 g5.objs.size x y:=t8.extBut _ _ zlt (t7.extBut _ _ zlt (Heap.get?_push_size _ rfl))
 have z8:g8.objs.size=s.heap.objs.size+1:=by rw[t8.1,t7.1,Heap.size_push,sz]
 have kk:ZK z TO i1 i2 s.heap g8:=((((((zk_z t1.extBut).trans (zk_1 t2.extBut)).trans (zk_o t3.extBut)).trans (zk_2 t4.extBut)).trans (zk_o t5.extBut)).trans (fun d o _ _ _ _ e=>gxL _ e)).trans ((zk_z t7.extBut).trans (zk_z t8.extBut))
 rw[sz]at S8 hT
 refine wpAny_pure ⟨_,rfl,?_⟩
 show Q (.ref g5.objs.size) _
 rw[sz]
 exact hQ g8 S8 hT z8 kk
theorem zg_busy {Q:Value->Shared->Prop}{T0:Addr}{o:Obj}(D:ZipApart z TI TO i1 i2 l1 l2)(S:ZG z TI TO i1 i2 l1 l2 (rawInt T0) bb a b k1 k2 xs ys s.heap)(hd:s.heap.get? T0=some o)(hx:xs[k1]?=some x)(hy:ys[k2]?=some y)
 (hQ:∀ h',ZG z TI TO i1 i2 l1 l2 (rawInt T0) true a b (k1+1) (k2+1) xs ys h'->IsPair h' s.heap.objs.size x y->h'.objs.size=s.heap.objs.size+1->ZK z TO i1 i2 s.heap h'->Q (.ref s.heap.objs.size) { s with heap:=h'}) :
 wpAny (model prog w) A (Builtin.«zip.__next__» ⟨[.ref z],[]⟩) (fun fin s'=>∃ v,fin=.done (.ret v)/\Q v s') E s:=by
 refine gxM (wpAny_pure (gxM (wpAny_field S.z rfl (x:=.bool false) rfl (gxM (wpAny_field S.z rfl (x:=.ref TI) rfl (gxM (wpAny_seqItems S.ti rfl ?_)))))))
 refine gxM (m:=Builtin.SmallTypes.ownedTupleIsFree (.ref z)) (busy_ok S.z hd fun g1 e1 t1=>?_)
 have S1:=S.mz D (bb':=true) e1 t1.extBut
 show wpAny _ _ (forIn (#[Value.ref i1,Value.ref i2]:Array Value) (none,#[]) _ >>= _) _ _ _
 rw[<- Array.forIn_toList]
 refine gxM ?_
 rw[show(#[Value.ref i1,Value.ref i2]:Array Value).toList=[.ref i1,.ref i2]from rfl,List.forIn_cons]
 refine gxM (gxM (wpAny_holding (gxM (nextG_item (s:={ s with heap:=g1}) S1.n1 S1.q1 hx fun g2 e2 t2=>wpAny_pure (wpAny_pure ?_)))))
 have S2:=S1.m1 D e2 t2.extBut
 dsimp only
 rw[List.forIn_cons]
 refine gxM (gxM (wpAny_holding (gxM (nextG_item (s:={ s with heap:=g2}) S2.n2 S2.q2 hy fun g3 e3 t3=>wpAny_pure (wpAny_pure ?_)))))
 have S3:=S2.m2 D e3 t3.extBut
 dsimp only
 rw[List.forIn_nil]
 refine wpAny_pure (gxM (wpAny_newTuple (wpAny_pure ⟨_,rfl,?_⟩) (by show 2<=sizeLine;decide)))
 have sz:g3.objs.size=s.heap.objs.size:=t3.1.trans (t2.1.trans t1.1)
 have S4:=S3.push { cls:=.type "tuple",data:=.seq #[x,y]}
 have hT:IsPair (g3.push { cls:=.type "tuple",data:=.seq #[x,y]}) g3.objs.size x y:=Heap.get?_push_size _ rfl
 have z4:(g3.push { cls:=.type "tuple",data:=.seq #[x,y]}).objs.size=s.heap.objs.size+1:=by rw[Heap.size_push,sz]
 have kk:ZK z TO i1 i2 s.heap (g3.push { cls:=.type "tuple",data:=.seq #[x,y]}):=(((zk_z t1.extBut).trans (zk_1 t2.extBut)).trans (zk_2 t3.extBut)).trans fun d o _ _ _ _ e=>gxL _ e
 show Q (.ref g3.objs.size) _
 rw[sz]at hT ⊢
 exact hQ _ S4 hT z4 kk
def ZZ (z TI TO i1 i2 l1 l2:Addr)(k:Nat)(h:Heap):Prop:=∃ f bb a b,IsZipG h z TI TO f bb/\(f=.none\/∃ T0:Addr,f=rawInt T0)/\IsPair h TI (.ref i1) (.ref i2)/\IsPair h TO a b/\ItOf false h i1 l1 k/\ItOf false h i2 l2 k
theorem ZZ.keep {k:Nat}{h h':Heap}(Z:ZZ z TI TO i1 i2 l1 l2 k h)(kp:∀ b∈[z,TI,TO,i1,i2],∀ o,h.get? b=some o->h'.get? b=some o):ZZ z TI TO i1 i2 l1 l2 k h':=by
 obtain⟨f,bb,a,b,h1,h2,h3,h4,h5,h6⟩:=Z
 exact⟨f,bb,a,b,kp z (by simp) _ h1,h2,kp TI (by simp) _ h3,kp TO (by simp) _ h4,h5.at fun o e=>kp i1 (by simp) o e,h6.at fun o e=>kp i2 (by simp) o e⟩
theorem zz_next {k:Nat}{Q:Value->Shared->Prop}(D:ZipApart z TI TO i1 i2 l1 l2)(Z:ZZ z TI TO i1 i2 l1 l2 k s.heap)(q1:SqOf false s.heap l1 xs)(q2:SqOf false s.heap l2 ys)(hx:xs[k]?=some x)(hy:ys[k]?=some y)
 (hQ:∀ h',ZZ z TI TO i1 i2 l1 l2 (k+1) h'->IsPair h' s.heap.objs.size x y->h'.objs.size=s.heap.objs.size+1->ZK z TO i1 i2 s.heap h'->Q (.ref s.heap.objs.size) { s with heap:=h'}) :
 wpAny (model prog w) A (Builtin.SmallTypes.nextOf (.ref z)) Q E s:=by
 obtain⟨f,bb,a,b,h1,h2,h3,h4,h5,h6⟩:=Z
 have ty:s.TypeIs (.ref z) "zip":=⟨_,h1,rfl⟩
 unfold Builtin.SmallTypes.nextOf
 refine gxM (wpAny_callSpecial?_slot (name:=Str.ofString "__next__") ty F.slot_zip_next (wpAny_call_entry F.slot_zip_next ty F.entry_zip_next ?_ (F.args_zip_next_1 _)))
 rcases h2 with rfl | ⟨T0,rfl⟩
 ·exact zg_free D ⟨h1,h3,h4,h5,h6,q1,q2⟩ (.inl rfl) hx hy fun h' S hT hz hk=>wpAny_pure (hQ h' ⟨_,_,_,_,S.z,.inr ⟨_,rfl⟩,S.ti,S.to,S.n1,S.n2⟩ hT hz hk)
 ·cases hd:s.heap.get? T0 with
  | none=>exact zg_free D ⟨h1,h3,h4,h5,h6,q1,q2⟩ (.inr ⟨T0,rfl,hd⟩) hx hy fun h' S hT hz hk=>wpAny_pure (hQ h' ⟨_,_,_,_,S.z,.inr ⟨_,rfl⟩,S.ti,S.to,S.n1,S.n2⟩ hT hz hk)
  | some o=>exact zg_busy D ⟨h1,h3,h4,h5,h6,q1,q2⟩ hd hx hy fun h' S hT hz hk=>wpAny_pure (hQ h' ⟨_,_,_,_,S.z,.inr ⟨_,rfl⟩,S.ti,S.to,S.n1,S.n2⟩ hT hz hk)
theorem zg_over_free {Q:Fin->Shared->Prop}(hh:A.handled=none)(D:ZipApart z TI TO i1 i2 l1 l2)(S:ZG z TI TO i1 i2 l1 l2 f bb a b k1 k2 xs ys s.heap)(hf:f=.none\/∃ T0:Addr,f=rawInt T0/\s.heap.get? T0=none)(hx:xs[k1]?=none\/ys[k2]?=none)
 (hE:∀ h' e,ZK z TO i1 i2 s.heap h'->(∃ o,h'.get? e=some o/\o.cls=.type "StopIteration")->E (.ref e) { s with heap:=h'}) :
 wpAny (model prog w) A (Builtin.«zip.__next__» ⟨[.ref z],[]⟩) Q E s:=by
 refine gxM (wpAny_pure (gxM (wpAny_field S.z rfl (x:=.bool false) rfl (gxM (wpAny_field S.z rfl (x:=.ref TI) rfl (gxM (wpAny_seqItems S.ti rfl ?_)))))))
 refine gxM (m:=Builtin.SmallTypes.ownedTupleIsFree (.ref z)) (free_ok S.z hf ?_)
 refine gxM (wpAny_rule (gxM (wpAny_field S.z rfl (x:=.ref TO) rfl (gxM (wpAny_setField_rec S.z (by simp) fun g1 e1 t1=>?_)))))
 have S1:=S.mz D (f':=.ellipsis) (bb':=bb) e1 t1.extBut
 refine gxM ?_
 rw[show(#[Value.ref i1,Value.ref i2]:Array Value).toList.zipIdx=[(.ref i1,0),(.ref i2,1)]from rfl,List.forIn_cons]
 cases ex:xs[k1]? with
 | none =>
  refine gxM (gxM (wpAny_onRaise (gxM (nextG_end hh S1.n1 S1.q1 ex fun g2 e t2 he=>?_))))
  obtain⟨oe,hoe,hce⟩:=he
  have hz2:IsZipG g2 z TI TO .ellipsis bb:=t2 _ _ D.i1z.symm S1.z
  have hez:e≠z:=fun q=>by subst q;rw[hz2]at hoe;cases hoe;simp at hce
  exact wpAny_setField_rec hz2 (by simp) fun g3 _ t3=>hE g3 e (((zk_z t1.extBut).trans (zk_1 t2)).trans (zk_z t3.extBut)) ⟨oe,t3.extBut _ _ hez hoe,hce⟩
 | some x =>
  have hy:ys[k2]?=none:=by
   rcases hx with q | q
   ·rw[ex]at q;cases q
   ·exact q
  refine gxM (gxM (wpAny_onRaise (gxM (nextG_item S1.n1 S1.q1 ex fun g2 e2 t2=>wpAny_pure ?_))))
  have S2:=S1.m1 D e2 t2.extBut
  refine gxM (wpAny_seqItems S2.to rfl (gxM (wpAny_updateSeq_pair S2.to fun g3 e3 t3=>gxM (wpAny_letGo (wpAny_pure ?_)))))
  have S3:=S2.mo D (x:=x) (y:=b) e3 t3.extBut
  dsimp only
  rw[List.forIn_cons]
  refine gxM (gxM (wpAny_onRaise (gxM (nextG_end hh S3.n2 S3.q2 hy fun g4 e t4 he=>?_))))
  obtain⟨oe,hoe,hce⟩:=he
  have hz2:IsZipG g4 z TI TO .ellipsis bb:=t4 _ _ D.i2z.symm S3.z
  have hez:e≠z:=fun q=>by subst q;rw[hz2]at hoe;cases hoe;simp at hce
  exact wpAny_setField_rec hz2 (by simp) fun g5 _ t5=>hE g5 e ((((((zk_z t1.extBut).trans (zk_1 t2.extBut)).trans (zk_o t3.extBut)).trans (zk_2 t4))).trans (zk_z t5.extBut)) ⟨oe,t5.extBut _ _ hez hoe,hce⟩
theorem zg_over_busy {Q:Fin->Shared->Prop}{T0:Addr}{o:Obj}(hh:A.handled=none)(D:ZipApart z TI TO i1 i2 l1 l2)(S:ZG z TI TO i1 i2 l1 l2 (rawInt T0) bb a b k1 k2 xs ys s.heap)(hd:s.heap.get? T0=some o)(hx:xs[k1]?=none\/ys[k2]?=none)
 (hE:∀ h' e,ZK z TO i1 i2 s.heap h'->(∃ o,h'.get? e=some o/\o.cls=.type "StopIteration")->E (.ref e) { s with heap:=h'}) :
 wpAny (model prog w) A (Builtin.«zip.__next__» ⟨[.ref z],[]⟩) Q E s:=by
 refine gxM (wpAny_pure (gxM (wpAny_field S.z rfl (x:=.bool false) rfl (gxM (wpAny_field S.z rfl (x:=.ref TI) rfl (gxM (wpAny_seqItems S.ti rfl ?_)))))))
 refine gxM (m:=Builtin.SmallTypes.ownedTupleIsFree (.ref z)) (busy_ok S.z hd fun g1 e1 t1=>?_)
 have S1:=S.mz D (bb':=true) e1 t1.extBut
 show wpAny _ _ (forIn (#[Value.ref i1,Value.ref i2]:Array Value) (none,#[]) _ >>= _) _ _ _
 rw[<- Array.forIn_toList]
 refine gxM ?_
 rw[show(#[Value.ref i1,Value.ref i2]:Array Value).toList=[.ref i1,.ref i2]from rfl,List.forIn_cons]
 cases ex:xs[k1]? with
 | none=>exact gxM (gxM (wpAny_holding (gxM (nextG_end (s:={ s with heap:=g1}) hh S1.n1 S1.q1 ex fun g2 e t2 he=>hE g2 e ((zk_z t1.extBut).trans (zk_1 t2)) he))))
 | some x =>
  have hy:ys[k2]?=none:=by
   rcases hx with q | q
   ·rw[ex]at q;cases q
   ·exact q
  refine gxM (gxM (wpAny_holding (gxM (nextG_item (s:={ s with heap:=g1}) S1.n1 S1.q1 ex fun g2 e2 t2=>wpAny_pure (wpAny_pure ?_)))))
  have S2:=S1.m1 D e2 t2.extBut
  dsimp only
  rw[List.forIn_cons]
  exact gxM (gxM (wpAny_holding (gxM (nextG_end (s:={ s with heap:=g2}) hh S2.n2 S2.q2 hy fun g3 e t3 he=>hE g3 e (((zk_z t1.extBut).trans (zk_1 t2.extBut)).trans (zk_2 t3)) he))))
theorem zz_end {k:Nat}{Q:Value->Shared->Prop}(hh:A.handled=none)(D:ZipApart z TI TO i1 i2 l1 l2)(Z:ZZ z TI TO i1 i2 l1 l2 k s.heap)(q1:SqOf false s.heap l1 xs)(q2:SqOf false s.heap l2 ys)(hx:xs[k]?=none\/ys[k]?=none)
 (hE:∀ h' e,ZK z TO i1 i2 s.heap h'->(∃ o,h'.get? e=some o/\o.cls=.type "StopIteration")->E (.ref e) { s with heap:=h'}) :
 wpAny (model prog w) A (Builtin.SmallTypes.nextOf (.ref z)) Q E s:=by
 obtain⟨f,bb,a,b,h1,h2,h3,h4,h5,h6⟩:=Z
 have ty:s.TypeIs (.ref z) "zip":=⟨_,h1,rfl⟩
 unfold Builtin.SmallTypes.nextOf
 refine gxM (wpAny_callSpecial?_slot (name:=Str.ofString "__next__") ty F.slot_zip_next (wpAny_call_entry F.slot_zip_next ty F.entry_zip_next ?_ (F.args_zip_next_1 _)))
 rcases h2 with rfl | ⟨T0,rfl⟩
 ·exact zg_over_free hh D ⟨h1,h3,h4,h5,h6,q1,q2⟩ (.inl rfl) hx hE
 ·cases hd:s.heap.get? T0 with
  | none=>exact zg_over_free hh D ⟨h1,h3,h4,h5,h6,q1,q2⟩ (.inr ⟨T0,rfl,hd⟩) hx hE
  | some o=>exact zg_over_busy hh D ⟨h1,h3,h4,h5,h6,q1,q2⟩ hd hx hE
theorem enz_next {e:Addr}{i:Nat}{old:Value}{Q:Value->Shared->Prop}(D:ZipApart z TI TO i1 i2 l1 l2)(he:IsEnum s.heap e z i old)(Z:ZZ z TI TO i1 i2 l1 l2 i s.heap)(ne:e∉[z,TI,TO,i1,i2])(q1:SqOf false s.heap l1 xs)(q2:SqOf false s.heap l2 ys)(hx:xs[i]?=some x)(hy:ys[i]?=some y)
 (hQ:∀ h1 h2 tk,IsPair h1 s.heap.objs.size x y->h1.objs.size=s.heap.objs.size+1->(∀ b o,b∉[z,TO,i1,i2]->s.heap.get? b=some o->h1.get? b=some o) ->
   IsEnumOut h2 e z ((i:Int)+1) (.ref s.heap.objs.size) (s.heap.objs.size+1)->ZZ z TI TO i1 i2 l1 l2 (i+1) h2->IsPair h2 (s.heap.objs.size+1) (.int i tk) (.ref s.heap.objs.size)->(∀ b o,b≠e->h1.get? b=some o->h2.get? b=some o)->Q (.ref (s.heap.objs.size+1)) { s with heap:=h2,toks:=tk+1}) :
 wpAny (model prog w) A (Builtin.«enumerate.__next__» ⟨[.ref e],[]⟩) (fun fin s'=>∃ v,fin=.done (.ret v)/\Q v s') E s:=by
 obtain⟨hp,g,d,tk,os⟩:=s
 show wpAny _ _ (field (.ref e) 2 >>= _) _ _ _
 refine gxM (wpAny_field he rfl (x:=.ref z) rfl ?_)
 have elt:e<hp.objs.size:=gxN he
 refine gxM (zz_next D Z q1 q2 hx hy fun h₁ Z₁ hT₁ sz₁ hk₁=>?_)
 replace hT₁:IsPair h₁ hp.objs.size x y:=hT₁
 replace sz₁:h₁.objs.size=hp.objs.size+1:=sz₁
 simp only[List.mem_cons,List.not_mem_nil,or_false,not_or]at ne
 obtain⟨n1,n2,n3,n4,n5⟩:=ne
 have he₁:IsEnum h₁ e z i old:=hk₁ e _ n1 n3 n4 n5 he
 show wpAny _ _ (field (.ref e) 3 >>= _) _ _ ⟨h₁,g,d,tk,os⟩
 refine gxM (wpAny_field he₁ rfl (x:=rawInt i) rfl ?_)
 show wpAny _ _ (field (.ref e) 4 >>= _) _ _ ⟨h₁,g,d,tk,os⟩
 refine gxM (wpAny_field he₁ rfl (x:=.none) rfl ?_)
 show wpAny _ _ (mkInt i >>= _) _ _ ⟨h₁,g,d,tk,os⟩
 refine gxM (wpAny_mkInt ?_)
 show wpAny _ _ (setField (.ref e) 3 (rawInt ((i:Int)+1)) >>= _) _ _ ⟨h₁,g,d,tk+1,os⟩
 refine gxM (wpAny_setField_rec he₁ (by simp) fun h₂ he₂ hs₂=>?_)
 replace hs₂:Heap.SameBut e h₁ h₂:=hs₂
 replace he₂:IsEnum h₂ e z ((i:Int)+1) old:=he₂
 show wpAny _ _ (setField (.ref e) 4 .none >>= _) _ _ ⟨h₂,g,d,tk+1,os⟩
 refine gxM (wpAny_setField_rec he₂ (by simp) fun h₃ he₃ hs₃=>?_)
 replace hs₃:Heap.SameBut e h₂ h₃:=hs₃
 replace he₃:IsEnum h₃ e z ((i:Int)+1) old:=he₃
 show wpAny _ _ (newTuple [.int i tk,.ref hp.objs.size] >>= _) _ _ ⟨h₃,g,d,tk+1,os⟩
 refine gxM (wpAny_newTuple ?_)
 have he₄:IsEnum (h₃.push { cls:=.type "tuple",data:=.seq #[.int i tk,.ref hp.objs.size]}) e z ((i:Int)+1) old:=gxL _ he₃
 have hsz:h₃.objs.size=hp.objs.size+1:=by rw[hs₃.1,hs₂.1,sz₁]
 have ht₄:(h₃.push { cls:=.type "tuple",data:=.seq #[.int i tk,.ref hp.objs.size]}).get? (hp.objs.size+1)=some { cls:=.type "tuple",data:=.seq #[.int i tk,.ref hp.objs.size]}:=by rw[<- hsz];exact Heap.get?_push_size _ rfl
 have hk₄:∀ b o,b≠e->h₁.get? b=some o->(h₃.push { cls:=.type "tuple",data:=.seq #[.int i tk,.ref hp.objs.size]}).get? b=some o:=fun b o hb eo=>gxL _ (hs₃.extBut b o hb (hs₂.extBut b o hb eo))
 generalize h₃.push { cls:=.type "tuple",data:=.seq #[.int i tk,.ref hp.objs.size]}=h₄ at he₄ ht₄ hk₄
 show wpAny _ _ (Builtin.SmallTypes.ownedTupleIsFree (.ref e) >>= _) _ _ ⟨h₄,g,d,tk+1,os⟩
 rw[hsz]
 refine gxM ?_
 unfold Builtin.SmallTypes.ownedTupleIsFree
 refine gxM (wpAny_field he₄ rfl (x:=.none) rfl (wpAny_pure ?_))
 simp only[if_true]
 refine gxM (wpAny_rule ?_)
 refine gxM (wpAny_field he₄ rfl (x:=old) rfl ?_)
 refine gxM (wpAny_setField_rec he₄ (by simp) fun h₅ he₅ hs₅=>?_)
 replace hs₅:Heap.SameBut e h₄ h₅:=hs₅
 replace he₅:IsEnum h₅ e z ((i:Int)+1) (.ref hp.objs.size):=he₅
 show wpAny _ _ (Builtin.SmallTypes.ownedTupleHandOut (.ref e) (.ref (hp.objs.size+1)) >>= _) _ _ ⟨h₅,g,d,tk+1,os⟩
 refine gxM ?_
 unfold Builtin.SmallTypes.ownedTupleHandOut
 refine gxM (wpAny_setField_rec he₅ (by simp) fun h₆ he₆ hs₆=>?_)
 replace hs₆:Heap.SameBut e h₅ h₆:=hs₆
 replace he₆:IsEnumOut h₆ e z ((i:Int)+1) (.ref hp.objs.size) (hp.objs.size+1):=he₆
 refine wpAny_setField_rec he₆ (by simp) fun h₇ he₇ hs₇=>?_
 replace hs₇:Heap.SameBut e h₆ h₇:=hs₇
 replace he₇:IsEnumOut h₇ e z ((i:Int)+1) (.ref hp.objs.size) (hp.objs.size+1):=he₇
 have k47:∀ b o,b≠e->h₄.get? b=some o->h₇.get? b=some o:=fun b o hb eo=>hs₇.extBut b o hb (hs₆.extBut b o hb (hs₅.extBut b o hb eo))
 refine gxM (wpAny_letGo (wpAny_pure ⟨_,rfl,hQ h₁ h₇ tk hT₁ sz₁ (fun b o hb eo=>hk₁ b o (fun q=>hb (by simp[q])) (fun q=>hb (by simp[q])) (fun q=>hb (by simp[q])) (fun q=>hb (by simp[q])) eo) he₇ ?_ ?_ fun b o hb eo=>k47 b o hb (hk₄ b o hb eo)⟩))
 ·refine Z₁.keep fun b hb o eo=>k47 b o ?_ (hk₄ b o ?_ eo)<;>
  ·intro q
   subst q
   simp only[List.mem_cons,List.not_mem_nil,or_false]at hb
   rcases hb with q | q | q | q | q
   ·exact n1 q
   ·exact n2 q
   ·exact n3 q
   ·exact n4 q
   ·exact n5 q
 ·exact k47 (hp.objs.size+1) _ (Nat.ne_of_gt (Nat.lt_succ_of_lt elt)) ht₄
end
section
variable {prog:Program}{w:World}{A:Around}{E:Value->Shared->Prop}{s:Shared}
theorem enumerate_newZ (z TI TO:Addr) :
 Meets (Builtin.«enumerate.__new__» ⟨[.type "enumerate",.ref z],[]⟩) (fun _ R s=>IsZip s.heap z TI TO .none /\
  R (.ok (.ret (.ref s.heap.objs.size))) { s with heap:=s.heap.push { cls:=.type "enumerate",data:=.fields #[.none,.bool false,.ref z,rawInt 0,.none,.none]}}) :=
 .of_wp fun prog w A R s h=>by
  obtain⟨hp,g,d,tk,os⟩:=s
  obtain⟨hz,h⟩:=h
  have hsub:=sub_enumerate
  have hz':IsZip (Shared.heap ⟨hp,g,d,tk,os⟩) z TI TO .none:=hz
  wp_walk using wpAny_pyIter_zip hz'
  refine wpAny_stack_any fun st=>wpAny_pure ?_
  split
  ·rename_i c _ _ _ _ _
   cases(c==Value.type "enumerate")
   ·wp_walk using wpAny_pyIter_zip hz'
    exact⟨_,rfl,h⟩
   ·wp_walk using wpAny_pyIter_zip hz'
    exact⟨_,rfl,h⟩
  ·wp_walk using wpAny_pyIter_zip hz'
   exact⟨_,rfl,h⟩
theorem call_enumerate_zip {z TI TO:Addr}{Q:Value->Shared->Prop}(hz:IsZip s.heap z TI TO .none)
 (h:∀ h',IsEnum h' s.heap.objs.size z 0 .none->h'.objs.size=s.heap.objs.size+1->(∀ b o,s.heap.get? b=some o->h'.get? b=some o)->Q (.ref s.heap.objs.size) { s with heap:=h'}) :
 wpAny (model prog w) A (call (.type "enumerate") [.ref z]) Q E s:=by
 refine callType_new F.called_enumerate (by decide) (F.typeCall_enumerate_1 _) (F.newCall_enumerate_1 _) (fun obj=>F.args_object_init_2 obj _) F.entry_enumerate_new (enumerate_newZ z TI TO) ⟨hz,?_⟩
 have he:IsEnum (s.heap.push { cls:=.type "enumerate",data:=.fields #[.none,.bool false,.ref z,rawInt 0,.none,.none]}) s.heap.objs.size z 0 .none:=Heap.get?_push_size _ rfl
 exact⟨⟨_,he,rfl⟩,h _ he (by rw[Heap.size_push]) fun b o x=>gxL _ x⟩
end
def Itez (l1 l2:Addr):It :=
 ⟨fun i H=>∃ xs ys x y,H l1=some (.lst xs)/\H l2=some (.lst ys)/\xs[i]?=some x/\ys[i]?=some y,
  fun i H v H'=>∃ T1 T2 x y,v=.ref T2/\H T1=none/\(upd H T1 (.tup [x,y])) T2=none/\H'=upd (upd H T1 (.tup [x,y])) T2 (.tup [.int i,.ref T1])/\(∀ xs,H l1=some (.lst xs)->xs[i]?=some x)/\(∀ ys,H l2=some (.lst ys)->ys[i]?=some y),
  fun i H=>∃ xs ys,H l1=some (.lst xs)/\H l2=some (.lst ys)/\(xs.length<=i\/ys.length<=i)⟩
theorem FpOk.upd {X:Cx}{pins:List (Addr×Obj)}{H:Hp}{b T:Addr}{o:HO}(f:FpOk X pins H b)(h:b≠T):FpOk X pins (upd H T o) b:=⟨by rw[upd_ne h];exact f.1,f.2⟩
theorem turn_enumZ {P:Program}{w:World}{K:PySem.W.Frag}{elts:List Expr}{kk:Nat}{tpos:Pos}{e z TI TO i1 i2 l1 l2:Addr}(D:ZipApart z TI TO i1 i2 l1 l2)(ne:e∉[z,TI,TO,i1,i2]) :
 Turn P w K (.Tuple elts kk tpos) (Itez l1 l2) [e,z,TI,TO,i1,i2] e (fun i h=>(∃ old,IsEnum h e z i old)/\ZZ z TI TO i1 i2 l1 l2 i h) where
 mem:=by simp
 obj:=fun i h st b hb=>by
  obtain⟨⟨old,he⟩,f,bb,a,b',h1,h2,h3,h4,h5,h6⟩:=st
  simp only[List.mem_cons,List.not_mem_nil,or_false]at hb
  rcases hb with rfl | rfl | rfl | rfl | rfl | rfl
  ·exact⟨_,he,fun v q=>by cases q⟩
  ·exact⟨_,h1,fun v q=>by cases q⟩
  ·exact⟨_,h3,fun v q=>by cases q⟩
  ·exact⟨_,h4,fun v q=>by cases q⟩
  ·exact h5.data
  ·exact h6.data
 keep:=fun i h h' st k=>by
  obtain⟨⟨old,he⟩,Z⟩:=st
  exact⟨⟨old,k e (by simp) _ he⟩,Z.keep fun b hb o eo=>k b (gxI _ hb) o eo⟩
 item:=by
  intro X hP hw hK hc i pins s σ H E I hf st hg
  subst hP hw hK
  obtain⟨⟨old,he⟩,Z⟩:=st
  obtain⟨xs,ys,x,y,q1,q2,ex,ey⟩:=hg
  obtain⟨_,us,n1,r1,_,p1⟩:=I.lstM q1
  obtain⟨_,ws,n2,r2,_,p2⟩:=I.lstM q2
  obtain⟨u,eu,ru⟩:=r1.get ex
  obtain⟨v,ev,rv⟩:=r2.get ey
  have s1:SqOf false s.heap l1 us.toArray:=⟨_,p1,rfl,n1,rfl⟩
  have s2:SqOf false s.heap l2 ws.toArray:=⟨_,p2,rfl,n2,rfl⟩
  have hT:s.TypeIs (.ref e) "enumerate":=⟨_,he,rfl⟩
  have old_lt:∀ b∈[e,z,TI,TO,i1,i2],b<s.heap.objs.size:=fun b hb=>by
   obtain⟨f,bb,a,b',h1,h2,h3,h4,h5,h6⟩:=Z
   simp only[List.mem_cons,List.not_mem_nil,or_false]at hb
   rcases hb with rfl | rfl | rfl | rfl | rfl | rfl
   ·exact gxN he
   ·exact gxN h1
   ·exact gxN h3
   ·exact gxN h4
   ·obtain⟨o,q⟩:=h5.ex;exact gxN q
   ·obtain⟨o,q⟩:=h6.ex;exact gxN q
  unfold pyNext
  refine gxM (wpAny_attempt (wpAny_callSpecial?_slot (name:=Str.ofString "__next__") hT F.slot_enumerate_next (wpAny_call_entry F.slot_enumerate_next hT F.entry_enumerate_next (enz_next D he Z ne s1 s2 (x:=u) (y:=v) (by simpa using eu) (by simpa using ev) fun h1 h2 tk hT1 sz1 fr1 ho2 Z2 hT2 fr2=>wpAny_pure ?_) (F.args_enumerate_next_1 _))))
  refine⟨_,rfl,wpAny_letOwnedTupleGo_enum ho2 fun h3 he3 hs3=>?_⟩
  have I1:Inv X pins σ (upd H s.heap.objs.size (.tup [x,y])) { s with heap:=h1}:=I.turnT (ch:=[z,TO,i1,i2]) (h'':=h1) (fun b hb=>hf b (by
   simp only[List.mem_cons,List.not_mem_nil,or_false]at hb ⊢
   rcases hb with q | q | q | q <;> simp[q])) fr1 hT1 ru rv
  have elt:=old_lt e (by simp)
  have en:e≠s.heap.objs.size+1:=Nat.ne_of_lt (Nat.lt_succ_of_lt elt)
  have hT3:IsPair h3 (s.heap.objs.size+1) (.int i tk) (.ref s.heap.objs.size):=hs3.extBut _ _ (Ne.symm en) hT2
  have I2:=I1.turnT (ch:=[e]) (h'':=h3) (x:=.int i) (y:=.ref s.heap.objs.size) (u:=.int i tk) (v:=.ref s.heap.objs.size) (fun b hb=>by
   rw[List.mem_singleton.mp hb]
   exact(hf e (by simp)).upd (Nat.ne_of_lt elt)) (fun b o hb eo=>hs3.extBut b o (fun q=>hb (by simp[q])) (fr2 b o (fun q=>hb (by simp[q])) eo)) (by show IsPair h3 h1.objs.size _ _;rw[sz1];exact hT3) ⟨tk,rfl⟩ rfl
  have hn1:H s.heap.objs.size=none:=I.hok.fresh (Nat.le_refl _)
  have hn2:(upd H s.heap.objs.size (.tup [x,y])) (s.heap.objs.size+1)=none:=by
   rw[upd_ne (Nat.succ_ne_self _)]
   exact I.hok.fresh (Nat.le_succ _)
  have I3:=I2.tok (tk+1)
  have e1:(({ s with heap:=h1}:Shared).heap.objs.size)=s.heap.objs.size+1:=sz1
  rw[e1]at I3
  refine⟨.ref (s.heap.objs.size+1),_,I3,rfl,⟨_,_,x,y,rfl,hn1,hn2,rfl,fun zs q=>by rw[q1]at q;cases q;exact ex,fun zs q=>by rw[q2]at q;cases q;exact ey⟩,⟨⟨_,by simpa using he3⟩,Z2.keep fun b hb o eo=>hs3.extBut b o (fun q=>ne (q▸hb)) eo⟩,fun b hb=>?_⟩
  have:=old_lt b hb
  rw[upd_ne (Nat.ne_of_lt (Nat.lt_succ_of_lt this)),upd_ne (Nat.ne_of_lt this)]
  exact(hf b hb).1
 done:=by
  intro X hP hw hK hc i pins s σ H E I hf st hg
  subst hP hw hK
  obtain⟨⟨old,he⟩,Z⟩:=st
  obtain⟨xs,ys,q1,q2,hx⟩:=hg
  obtain⟨_,us,n1,r1,ll1,p1⟩:=I.lstM q1
  obtain⟨_,ws,n2,r2,ll2,p2⟩:=I.lstM q2
  have s1:SqOf false s.heap l1 us.toArray:=⟨_,p1,rfl,n1,rfl⟩
  have s2:SqOf false s.heap l2 ws.toArray:=⟨_,p2,rfl,n2,rfl⟩
  have hT:s.TypeIs (.ref e) "enumerate":=⟨_,he,rfl⟩
  unfold pyNext
  refine gxM (wpAny_attempt (wpAny_callSpecial?_slot (name:=Str.ofString "__next__") hT F.slot_enumerate_next (wpAny_call_entry F.slot_enumerate_next hT F.entry_enumerate_next ?_ (F.args_enumerate_next_1 _))))
  show wpAny _ _ (field (.ref e) 2 >>= _) _ _ _
  refine gxM (wpAny_field he rfl (x:=.ref z) rfl ?_)
  refine gxM (zz_end (I.ok.hd hc) D Z s1 s2 (by simp only[List.getElem?_toArray,List.getElem?_eq_none_iff];omega) fun h' x hk hx'=>?_)
  obtain⟨o,ho,hcl⟩:=hx'
  refine gxM (wpAny_isInstance (T := "StopIteration") (b:=true) ⟨o,ho,hcl⟩ isSubtype_stop ?_)
  refine wpAny_pure ⟨rfl,I.turnK (ch:=[z,TO,i1,i2]) (fun b hb=>hf b (by
   simp only[List.mem_cons,List.not_mem_nil,or_false]at hb ⊢
   rcases hb with q | q | q | q <;> simp[q])) fun b o hb eo=>hk b o (fun q=>hb (by simp[q])) (fun q=>hb (by simp[q])) (fun q=>hb (by simp[q])) (fun q=>hb (by simp[q])) eo⟩
 self:=fun _ _ _ _ _ st h=>let ⟨⟨_,e⟩,_⟩:=st;wpAny_pyIter_enum e h
section
variable {X:Cx}{a b e:Expr}{es:List Expr}{pos:Pos}
def iEnumZ (ta:TA):TI:=fun σ H R=>ta σ H fun vs H1=>match vs with
 | [.ref l1,.ref l2]=>∃ xs ys,H1 l1=some (.lst xs)/\H1 l2=some (.lst ys)/\R (Itez l1 l2) H1
 | _=>False
theorem pi_enumZ {elts:List Expr}{kk:Nat}{tpos p2 pos2:Pos}{ta:TA}{p:Pos}(hg:Gl X "enumerate")(hm:X.mg "enumerate"=none)(hg2:Gl X "zip")(hm2:X.mg "zip"=none)(ha:PA X [a,b] ta)(hs:starEach [a,b] X.env=[(false,eval a X.env),(false,eval b X.env)]:=by rfl)(hs2:starEach [b] X.env=[(false,eval b X.env)]:=by rfl)
 (hs3:starEach [.Call (.Name "zip" p2) [a,b] [] pos2] X.env=[(false,eval (.Call (.Name "zip" p2) [a,b] [] pos2) X.env)]:=by rfl) :
 PI X (.Tuple elts kk tpos) (.Call (.Name "enumerate" p) [.Call (.Name "zip" p2) [a,b] [] pos2] [] pos) (iEnumZ ta):=by
 intro pins s σ H R I h
 refine Call_ (ld_blt I hg hm (show bootBuiltins "enumerate"=some (.type "enumerate") by decide +kernel) (PyProof.Rows.callWith_type1 ?_ hs3 rfl))
 rw[hs3]
 show wpAny _ _ (spliced ((false,eval (.Call (.Name "zip" p2) [a,b] [] pos2) X.env)::backTo pos [])) _ _ s
 refine Calls.spliced_cons ?_
 refine Call_ (ld_blt I hg2 hm2 boot_zip (PyProof.Rows.callWith_type1 (thn (ha pos2 pins s σ H _ I h) fun us s1 hq1=>?_) (by rw[hs,hs2]) (by rw[hs2];rfl)))
 obtain⟨vs,H1,I1,r1,q1⟩:=hq1
 try dsimp only at q1
 split at q1
 ·rename_i l1 l2
  obtain⟨xs,ys,h1,h2,q⟩:=q1
  obtain⟨u1,u2,rfl,e1,e2⟩:=r1.two
  cases e1;cases e2
  obtain⟨_,i1,n1,v1,_,p1⟩:=I1.lstM h1
  obtain⟨_,i2,n2,v2,_,p2⟩:=I1.lstM h2
  have s1q:SqOf false s1.heap l1 i1.toArray:=⟨_,p1,rfl,n1,rfl⟩
  have s2q:SqOf false s1.heap l2 i2.toArray:=⟨_,p2,rfl,n2,rfl⟩
  have lt1:l1<s1.heap.objs.size:=gxN p1
  have lt2:l2<s1.heap.objs.size:=gxN p2
  refine zip_made s1q s2q fun h' hz hTI hTO m1 m2 kp=>?_
  refine Calls.spliced_nil ?_
  refine call_enumerate_zip (s:={ s1 with heap:=h'}) hz fun h'' he hsz kp2=>wpAny_pyIter_enum he ?_
  have zlt:s1.heap.objs.size+4<h'.objs.size:=gxN hz
  have I2:Inv X pins σ H1 { s1 with heap:=h''}:=I1.kept (t':=s1.toks) fun b o eo=>kp2 b o (kp b o eo)
  have Z0:ZZ (s1.heap.objs.size+4) (s1.heap.objs.size+2) (s1.heap.objs.size+3) s1.heap.objs.size (s1.heap.objs.size+1) l1 l2 0 h':=⟨_,_,_,_,hz,.inl rfl,hTI,hTO,m1,m2⟩
  have ne:h'.objs.size∉[s1.heap.objs.size+4,s1.heap.objs.size+2,s1.heap.objs.size+3,s1.heap.objs.size,s1.heap.objs.size+1]:=by
   simp only[List.mem_cons,List.not_mem_nil,or_false]
   omega
  refine⟨h'.objs.size,_,_,_,H1,rfl,I2,turn_enumZ (zipApart_new lt1 lt2) ne,⟨⟨_,he⟩,Z0.keep fun b _ o eo=>kp2 b o eo⟩,fun b hb=>?_,q⟩
  have hb':s1.heap.objs.size<=b:=by
   simp only[List.mem_cons,List.not_mem_nil,or_false]at hb
   rcases hb with q | q | q | q | q | q
   ·rw[q];exact Nat.le_of_lt (Nat.lt_of_le_of_lt (Nat.le_add_right _ 4) zlt)
   ·rw[q];exact Nat.le_add_right _ _
   ·rw[q];exact Nat.le_add_right _ _
   ·rw[q];exact Nat.le_add_right _ _
   ·rw[q];exact Nat.le_refl _
   ·rw[q];exact Nat.le_add_right _ _
  exact I1.fpOk hb' (I1.hok.fresh hb')
 ·exact q1.elim
def dItEZ (w:DA):DI:=fun ρ μ K=>w ρ μ fun ds μ1=>match ds with
 | [x,y]=>opt (lv μ1 x) fun xs=>opt (lv μ1 y) fun ys=>K (enumD (List.zipWith (fun a b=>D.tup [a,b]) xs ys)) (fun μ'=>lc x xs μ'/\lc y ys μ') μ1
 | _=>False
theorem i_enumZ {elts:List Expr}{kk:Nat}{tpos p2 pos2:Pos}{w:DA}{p:Pos}(hg:Gl X "enumerate")(hm:X.mg "enumerate"=none)(hg2:Gl X "zip")(hm2:X.mg "zip"=none)(ha:PDA X [a,b] w)(hs:starEach [a,b] X.env=[(false,eval a X.env),(false,eval b X.env)]:=by rfl)(hs2:starEach [b] X.env=[(false,eval b X.env)]:=by rfl)
 (hs3:starEach [.Call (.Name "zip" p2) [a,b] [] pos2] X.env=[(false,eval (.Call (.Name "zip" p2) [a,b] [] pos2) X.env)]:=by rfl) :
 PDI X (.Tuple elts kk tpos) (.Call (.Name "enumerate" p) [.Call (.Name "zip" p2) [a,b] [] pos2] [] pos) (dItEZ w):=(pi_enumZ hg hm hg2 hm2 ha hs hs2 hs3).imp fun σ H Q hq=>by
 obtain⟨φ,ρ,μ,K,A,M,k,L⟩:=hq
 refine⟨φ,ρ,μ,_,A,M,k,fun ds μ1 φ1 vs H1 k1 f1 M1 i1=>?_⟩
 split at k1
 ·rename_i x y
  obtain⟨xs,ex,k1⟩:=opt_ex k1
  obtain⟨ys,ey,k1⟩:=opt_ex k1
  obtain⟨v,r,rfl,h1,u,r',rfl,h2,h3⟩:=i1
  cases(show r'=[]from h3)
  obtain⟨p1,vx,rfl,hp1,ax⟩:=lv_is M1 h1 ex
  obtain⟨p2,vy,rfl,hp2,ay⟩:=lv_is M1 h2 ey
  refine⟨vx,vy,hp1,hp2,L _ _ μ1 φ1 _ H1 k1 f1 M1 fun φ' H' μ' f M' c i=>?_⟩
  obtain⟨vx,hx,ax⟩:=lv_stay M1 h1 ex f M' c.1
  obtain⟨vy,hy,ay⟩:=lv_stay M1 h2 ey f M' c.2
  have lx:=ax.len
  have ly:=ay.len
  refine⟨fun d hd=>?_,fun hi=>⟨vx,vy,hx,hy,by rw[enumD_len,List.length_zipWith]at hi;omega⟩⟩
  obtain⟨q,hq,rfl⟩:=enumD_get hd
  rw[List.getElem?_zipWith]at hq
  cases e1:xs[i]? with
  | none=>rw[e1]at hq;cases hq
  | some dx =>
   cases e2:ys[i]? with
   | none=>rw[e1,e2]at hq;cases hq
   | some dy =>
    rw[e1,e2]at hq
    cases hq
    obtain⟨v1,g1,j1⟩:=ax.get e1
    obtain⟨v2,g2,j2⟩:=ay.get e2
    refine⟨⟨vx,vy,v1,v2,hx,hy,g1,g2⟩,fun z H'' hy'=>?_⟩
    obtain⟨T1,T2,x',y',rfl,hT1,hT2,rfl,q1,q2⟩:=hy'
    have c1:=q1 vx hx
    have c2:=q2 vy hy
    rw[g1]at c1;cases c1
    rw[g2]at c2;cases c2
    have fn1:=Fr.new (φ:=φ') (o:=.tup [v1,v2]) hT1
    have M1':=M'.same (Same.upd (o:=.tup [v1,v2]) hT1)
    have fn2:=Fr.new (φ:=φ') (o:=.tup [.int i,.ref T1]) hT2
    have M2':=M1'.same (Same.upd (o:=.tup [.int i,.ref T1]) hT2)
    have d1:DIs φ' (upd H' T1 (.tup [v1,v2])) (.tup [dx,dy]) (.ref T1):=⟨T1,_,rfl,M'.fresh hT1,upd_same,v1,_,rfl,j1.mono fn1,v2,_,rfl,j2.mono fn1,rfl⟩
    exact⟨fn1.trans fn2,M2',T2,_,rfl,M1'.fresh hT2,upd_same,.int i,_,rfl,rfl,.ref T1,_,rfl,d1.mono fn2,rfl⟩
 ·exact k1.elim
end
def rMin3:List V->Hp->VK->Prop:=fun vs H Q=>∃ i j k,vs=[.int i,.int j,.int k]/\Q (.int (min i (min j k))) H
theorem min3C {X:Cx}(hc:X.calm=true):CallR X (.builtin "min") rMin3:=by
 intro pins s σ H xs us Q I r h
 obtain⟨i,j,k,rfl,h⟩:=h
 cases r with
 | cons r1 r2 =>
  obtain⟨u,v,rfl,⟨t2,rfl⟩,⟨t3,rfl⟩⟩:=Vals.two r2
  obtain⟨t1,rfl⟩:=r1
  refine min_three_ints (I.ok.hd hc) fun h' tk kp=>⟨_,H,I.kept kp,?_,h⟩
  by_cases h1:j<i
  ·by_cases h2:k<j
   ·rw[if_pos h1,if_pos h2,show min i (min j k)=k by omega];exact⟨_,rfl⟩
   ·rw[if_pos h1,if_neg h2,show min i (min j k)=j by omega];exact⟨_,rfl⟩
  ·by_cases h2:k<i
   ·rw[if_neg h1,if_pos h2,show min i (min j k)=k by omega];exact⟨_,rfl⟩
   ·rw[if_neg h1,if_neg h2,show min i (min j k)=i by omega];exact⟨_,rfl⟩
def fMin3:DSp:=fun ds μ K=>match ds with | [.int i,.int j,.int k]=>K (.int (min i (min j k))) μ | _=>False
theorem so_min3:SoCall rMin3 fMin3:=fun φ H vs ds μ K Q M h k L=>by
 unfold fMin3 at k
 split at k
 ·obtain⟨v,r,rfl,h1,u,r',rfl,h2,w,r'',rfl,h3,h4⟩:=h
  cases(show r''=[]from h4);cases(show v=_ from h1);cases(show u=_ from h2);cases(show w=_ from h3);exact⟨_,_,_,rfl,L.val M k rfl⟩
 ·exact k.elim
section
variable {X:Cx}{e:Expr}{pos:Pos}
def dDNew:De:=fun _ μ K=>K (.mr μ.length) (μ++[.dic [] []])
theorem d_dnew:PD X (.Dict [] [] pos) dDNew:=pe_dnewK.imp fun σ H Q ⟨φ,ρ,μ,K,A,M,k,L⟩=>fun p hp=>by
 obtain⟨M',f⟩:=M.snoc (o:=.dK []) (m:=.dic [] []) hp ⟨[],[],upd_same,rfl,rfl,rfl⟩
 exact L _ _ _ _ _ k f M' ⟨p,by rw[gxG (by rw[M.len];exact Nat.le_refl _),M.len,Nat.sub_self];rfl,rfl⟩
def dAsgK (w wo wi:De):Ds:=fun N ρ μ=>w ρ μ fun d μ1=>wo ρ μ1 fun o μ2=>wi ρ μ2 fun i μ3=>match o with
 | .mr k=>∃ ks ds,μ3[k]?=some (.dic ks ds)/\ks.length<sizeLine/\opt (keyD i) fun kk=>kk∉ks/\N.nx ρ (μ3.set k (.dic (ks++[kk]) (ds++[d])))
 | _=>False
theorem s_asgK {o i:Expr}{w wo wi:De}{pos':Pos}(hu:X.A.units+1<cLine)(he:PD X e w)(ho:PD X o wo)(hi:PD X i wi)(hs:swapsWith e (some (.Subscript o i pos')) pos.line X.env=pure false:=by rfl) :
 PDS X (.Assign [.Subscript o i pos'] e pos) (dAsgK w wo wi):=(ps_dput hu ho hi he hs).imp fun E σ H hq=>by
 obtain⟨φ,ρ,μ,N,A,M,w,L⟩:=hq
 refine⟨φ,ρ,μ,_,A,M,w,fun d μ1 φ1 v1 H1 k1 f1 M1 i1=>?_⟩
 refine⟨φ1,ρ,μ1,_,A.mono f1,M1,k1,fun d2 μ2 φ2 v2 H2 k2 f2 M2 i2=>?_⟩
 refine⟨φ2,ρ,μ2,_,A.mono (f1.trans f2),M2,k2,fun d3 μ3 φ3 v3 H3 k3 f3 M3 i3=>?_⟩
 cases d2 with
 | mr k =>
  obtain⟨ks,ds,em,hl,k3⟩:=k3
  obtain⟨kk,ek,hn,k3⟩:=opt_ex k3
  obtain⟨p,hp,rfl⟩:=i2.mono f3
  obtain⟨p',e1,kvs,vs,hv,h1,h2,ha⟩:=M3.at_ k _ em
  rw[hp]at e1;cases e1
  cases keyD_is ek i3
  have hn':(kvs.any fun kv=>decide (kv.1=kk))=false:=by
   rw[List.any_eq_false]
   intro kv hkv
   rw[decide_eq_true_eq]
   intro z
   exact hn (by rw[<- h1,<- z];exact List.mem_map_of_mem hkv)
  have ep:putK kvs kk v1=kvs++[(kk,v1)]:=by unfold putK;rw[hn'];rfl
  have f4:Fr φ3 H3 φ3 (upd H3 p (.dK (putK kvs kk v1))):=.put (gxD hp)
  refine⟨p,_,rfl,DPut.k hv (by rw[<- h1,gxC]at hl;exact hl),?_⟩
  have M4:=M3.put (k:=k) (p:=p) (o:=.dK (putK kvs kk v1)) (m:=.dic (ks++[kk]) (ds++[d])) hp ⟨putK kvs kk v1,vs++[v1],upd_same,by rw[ep,List.map_append,h1];rfl,by rw[ep,List.map_append,h2];rfl,
   (ha.mono f4).app ⟨v1,[],rfl,(i1.mono (f2.trans f3)).mono f4,rfl⟩⟩
  exact L.nx ρ _ φ3 σ _ k3 ((f1.trans (f2.trans f3)).trans f4) (A.mono ((f1.trans (f2.trans f3)).trans f4)) M4
 | _=>exact k3.elim
end
def bareP (L:Nat)(i j:Nat):Int:=if j<=i then 0 else(L:Int) - 1
def joinP (P:Nat->Nat->Int)(i j:Nat):List Int:=(List.range (j - (i+1))).map fun x=>P i (i+1+x)+P (i+1+x) j+1
def stepP (L:Nat)(es own:List Int)(P:Nat->Nat->Int)(i j:Nat):Int:=if es.getD j 0<=own.getD i 0 then 0 else(joinP P i j).foldl min ((L:Int) - 1)
def tabP (es:List Int)(ts:List Tk):Nat->Nat->Nat->Int
 | 0=>bareP es.length
 | a+1=>stepP es.length es (ownR es ts a) (tabP es ts a)
theorem join_mem {P:Nat->Nat->Int}{i j:Nat}{v:Int}:v∈joinP P i j↔∃ k,i<k/\k<j/\v=P i k+P k j+1:=by
 unfold joinP
 rw[List.mem_map]
 constructor
 ·rintro⟨x,hx,rfl⟩
  rw[List.mem_range]at hx
  exact⟨i+1+x,by omega,by omega,rfl⟩
 ·rintro⟨k,h1,h2,rfl⟩
  exact⟨k - (i+1),List.mem_range.mpr (by omega),by rw[show i+1+(k - (i+1))=k by omega]⟩
theorem joinP_ext {P P':Nat->Nat->Int}{L i j:Nat}(hi:i<L)(hj:j<L)(h:∀ a b,a<L->b<L->P a b=P' a b):joinP P i j=joinP P' i j:=by
 unfold joinP
 apply List.map_congr_left
 intro x hx
 rw[List.mem_range]at hx
 rw[h i _ hi (by omega),h _ j (by omega) hj]
theorem stepP_ext {P P':Nat->Nat->Int}{L:Nat}{es own:List Int}{i j:Nat}(hi:i<L)(hj:j<L)(h:∀ a b,a<L->b<L->P a b=P' a b):stepP L es own P i j=stepP L es own P' i j:=by
 unfold stepP;rw[joinP_ext hi hj h]
def SideT (L:Nat)(T P:Nat->Nat->Int):Prop:=∀ i j,i<L->j<L->(j<=i->P i j=0)/\(i<j->(T i j=0/\P i j=(L:Int) - 1)\/(1<=T i j/\T i j<=((j - i:Nat):Int)/\P i j=T i j - 1))
theorem side_step {L:Nat}{es own:List Int}{T P:Nat->Nat->Int}(hs:∀ i j,i<L->j<=i->es.getD j 0<=own.getD i 0)(h:SideT L T P):SideT L (stepL es own T) (stepP L es own P):=by
 intro i j hi hj
 refine⟨fun hji=>by unfold stepP;rw[if_pos (hs i j hi hji)],fun hij=>?_⟩
 unfold stepL stepP
 rw[if_neg (show ¬ j<=i by omega)]
 by_cases q:es.getD j 0<=own.getD i 0
 ·rw[if_pos q,if_pos q];right;omega
 rw[if_neg q,if_neg q]
 obtain⟨a1,a2,a3⟩:=fmin_is (joinP P i j) ((L:Int) - 1)
 generalize hm:(joinP P i j).foldl min ((L:Int) - 1)=m at a1 a2 a3 ⊢
 clear hm
 have kk:∀ k,i<k->k<j->(0<T i k*T k j/\1<=T i k/\1<=T k j/\T i k+T k j<=((j - i:Nat):Int)/\P i k+P k j+1=T i k+T k j - 1)\/(¬ 0<T i k*T k j/\(L:Int) - 1<P i k+P k j+1):=fun k h1 h2=>by
  have x1:=(h i k hi (by omega)).2 h1
  have x2:=(h k j (by omega) hj).2 h2
  rcases x1 with⟨y1,y2⟩ | ⟨y1,y2,y3⟩
  ·right;refine⟨by rw[y1,Int.zero_mul];omega,?_⟩
   rcases x2 with⟨z1,z2⟩ | ⟨z1,z2,z3⟩<;> omega
  ·rcases x2 with⟨z1,z2⟩ | ⟨z1,z2,z3⟩
   ·right;exact⟨by rw[z1,Int.mul_zero];omega,by omega⟩
   ·left;exact⟨Int.mul_pos (by omega) (by omega),y1,z1,by omega,by omega⟩
 by_cases hn:candL T i j=[]
 ·left
  rw[hn]
  refine⟨rfl,?_⟩
  rcases a1 with e | e
  ·exact e
  ·exfalso
   obtain⟨k,h1,h2,e⟩:=join_mem.mp e
   rcases kk k h1 h2 with⟨y,_⟩ | ⟨_,y⟩
   ·have:=cand_mem.mpr ⟨k,h1,h2,y,rfl⟩
    rw[hn]at this;cases this
   ·omega
 ·right
  obtain⟨b1,b2⟩:=minD0_mem hn
  generalize minD0 (candL T i j)=t at b1 b2 ⊢
  obtain⟨k,h1,h2,h3,e⟩:=cand_mem.mp b1
  rcases kk k h1 h2 with⟨_,y1,y2,y3,y4⟩ | ⟨y,_⟩
  ·have:=a3 _ (join_mem.mpr ⟨k,h1,h2,rfl⟩)
   refine⟨by omega,by omega,?_⟩
   rcases a1 with e' | e'
   ·omega
   ·obtain⟨k',g1,g2,e'⟩:=join_mem.mp e'
    rcases kk k' g1 g2 with⟨w0,w1,w2,w3,w4⟩ | ⟨_,w⟩
    ·have:=b2 _ (cand_mem.mpr ⟨k',g1,g2,w0,rfl⟩)
     omega
    ·omega
  ·exact absurd h3 y
theorem side_tab {es:List Int}{ts:List Tk}(hs:∀ a i j,i<es.length->j<=i->es.getD j 0<=(ownR es ts a).getD i 0):∀ a,SideT es.length (tabL es ts a) (tabP es ts a)
 | 0=>fun i j hi hj=>⟨fun h=>by show bareP _ i j=0;unfold bareP;rw[if_pos h],fun h=>.inl ⟨rfl,by show bareP _ i j=_;unfold bareP;rw[if_neg (by omega)]⟩⟩
 | a+1=>side_step (hs a) (side_tab hs a)
theorem own_same {es:List Int}{ts:List Tk}{a:Int}(h:∀ t∈ts,t.2≠a):ownR es ts a=ownR es ts (a - 1):=by
 unfold ownR
 apply List.map_congr_left
 intro e _
 rw[ownE_eq,ownE_eq]
 congr 2
 apply List.filter_congr
 intro t ht
 have:=h t ht
 exact decide_eq_decide.mpr ⟨fun q=>by omega,fun q=>by omega⟩
theorem own_bare {es:List Int}{ts:List Tk}{a:Int}(h:∀ t∈ts,a<t.2):ownR es ts a=es:=by
 unfold ownR
 have:es.map (ownE es ts a)=es.map id:=by
  apply List.map_congr_left
  intro e _
  rw[ownE_eq]
  have:(ts.filter fun t=>decide (t.2<=a))=[]:=by
   rw[List.filter_eq_nil_iff]
   intro t ht
   have:=h t ht
   simp;omega
  rw[this];rfl
 rw[this,List.map_id]
theorem getD_some {xs:List Int}{i:Nat}(h:i<xs.length):xs[i]?=some (xs.getD i 0):=by rw[List.getD_eq_getElem?_getD,gxA h];rfl
theorem up_getD {es:List Int}(hu:es.Pairwise (·<·)){i j:Nat}(hi:i<es.length)(h:j<=i):es.getD j 0<=es.getD i 0:=up_le hu j i _ _ h (getD_some (by omega)) (getD_some hi)
theorem own_getD {es:List Int}{ts:List Tk}{a:Int}(hu:es.Pairwise (·<·))(i j:Nat)(hi:i<es.length)(h:j<=i):es.getD j 0<=(ownR es ts a).getD i 0:=by
 have e:=own_get (ts:=ts) (a:=a) (getD_some hi)
 rw[List.getD_eq_getElem?_getD (l:=ownR es ts a),e]
 have:=ownE_ge es ts a (es.getD i 0)
 have:=up_getD hu hi h
 show _<=ownE es ts a (es.getD i 0)
 omega
theorem bare_fix {es:List Int}(hu:es.Pairwise (·<·)){i j:Nat}(hi:i<es.length)(hj:j<es.length):stepP es.length es es (bareP es.length) i j=bareP es.length i j:=by
 unfold stepP
 by_cases q:j<=i
 ·rw[if_pos (up_getD hu hi q)];unfold bareP;rw[if_pos q]
 ·have hij:i<j:=by omega
  have:=List.pairwise_iff_getElem.mp hu i j hi hj hij
  rw[if_neg (by
   have e1:=getD_some hi
   have e2:=getD_some hj
   rw[gxA hi]at e1
   rw[gxA hj]at e2
   rw[<- Option.some.inj e1,<- Option.some.inj e2];omega)]
  obtain⟨a1,a2,a3⟩:=fmin_is (joinP (bareP es.length) i j) ((es.length:Int) - 1)
  have eb:bareP es.length i j=(es.length:Int) - 1:=by unfold bareP;rw[if_neg q]
  rw[eb]
  rcases a1 with e | e
  ·exact e
  ·exfalso
   obtain⟨k,h1,h2,e⟩:=join_mem.mp e
   have b1:bareP es.length i k=(es.length:Int) - 1:=by unfold bareP;rw[if_neg (by omega)]
   have b2:bareP es.length k j=(es.length:Int) - 1:=by unfold bareP;rw[if_neg (by omega)]
   omega
theorem tabR_ext {L:Nat}{T T':Nat->Nat->Int}(h:∀ i j,i<L->j<L->T i j=T' i j):tabR L T=tabR L T':=by
 unfold tabR
 apply List.map_congr_left
 intro i hi
 rw[rowI_ext fun j hj=>h i j (List.mem_range.mp hi) hj]
theorem deqL_get:∀ {xs ys:List D} {i:Nat} {x y:D},deqL xs ys=true->xs[i]?=some x->ys[i]?=some y->deq x y=true
 | [],_,i,_,_,_,h1,_=>by simp at h1
 | _::_,[],i,_,_,_,_,h2=>by simp at h2
 | x::xs,y::ys,0,_,_,h,h1,h2=>by
  unfold deqL at h;rw[Bool.and_eq_true]at h
  simp at h1 h2;subst h1;subst h2;exact h.1
 | x::xs,y::ys,i+1,_,_,h,h1,h2=>by
  unfold deqL at h;rw[Bool.and_eq_true]at h
  exact deqL_get h.2 (by simpa using h1) (by simpa using h2)
theorem deq_tab {L:Nat}{S T:Nat->Nat->Int}(h:deq (.lst (tabR L S)) (.lst (tabR L T))=true):∀ i j,i<L->j<L->S i j=T i j:=fun i j hi hj=>by
 unfold deq at h
 have h1:=deqL_get h (tabR_get hi) (tabR_get hi)
 unfold deq at h1
 have h2:=deqL_get h1 (rowI_get hj) (rowI_get hj)
 unfold deq at h2
 exact eq_of_beq h2
theorem fix_next {es:List Int}{ts:List Tk}{k:Nat}(hf:∀ i j,i<es.length->j<es.length->stepP es.length es (ownR es ts ((k:Int) - 1)) (tabP es ts k) i j=tabP es ts k i j)(hn:∀ t∈ts,t.2≠(k:Int))(i j:Nat)(hi:i<es.length)(hj:j<es.length):tabP es ts (k+1) i j=tabP es ts k i j:=by
 show stepP es.length es (ownR es ts k) (tabP es ts k) i j=_
 rw[own_same hn];exact hf i j hi hj
theorem fix_kept {es:List Int}{ts:List Tk}{k:Nat}(h:∀ i j,i<es.length->j<es.length->tabP es ts (k+1) i j=tabP es ts k i j)(i j:Nat)(hi:i<es.length)(hj:j<es.length):stepP es.length es (ownR es ts (((k+1:Nat):Int) - 1)) (tabP es ts (k+1)) i j=tabP es ts (k+1) i j:=by
 rw[show((k+1:Nat):Int) - 1=(k:Int) by omega,stepP_ext (P':=tabP es ts k) hi hj h];rfl
theorem fix_start {n:Int}{cs:List Int}{ts:List Tk}(S:Shelf n cs ts)(i j:Nat)(hi:i<(endsOf n cs).length)(hj:j<(endsOf n cs).length):stepP (endsOf n cs).length (endsOf n cs) (ownR (endsOf n cs) ts (((0:Nat):Int) - 1)) (tabP (endsOf n cs) ts 0) i j=tabP (endsOf n cs) ts 0 i j:=by
 rw[own_bare fun t ht=>by have:=(S.takes.ok t ht).2.2.1;omega]
 exact bare_fix (ends_up S.n1 S.cuts) hi hj
theorem cut_rowI {L i j:Nat}{f:Nat->Int}(hj:j<=L):cutD (rowI L f) (some ((i:Int)+1)) (some (j:Int))=(List.range (j - (i+1))).map fun x=>D.int (f (i+1+x)):=by
 unfold cutD
 rw[rowI_len,show HT.sIx L 0 (some ((i:Int)+1))=min (i+1) L from HT.sIx_nat L 0 (i+1),HT.sIx_nat,Nat.min_eq_left hj]
 rcases Nat.lt_or_ge (i+1) j with q | q
 ·rw[Nat.min_eq_left (Nat.le_trans (Nat.le_of_lt q) hj)]
  apply List.ext_getElem?
  intro x
  rw[List.getElem?_take,gxH]
  by_cases hx:x<j - (i+1)
  ·rw[if_pos hx,List.getElem?_drop,List.getElem?_range hx,rowI_get (by omega)];rfl
  ·rw[if_neg hx,List.getElem?_eq_none_iff.mpr (by rw[gxJ];exact Nat.not_lt.mp hx)];rfl
 ·rw[Nat.sub_eq_zero_of_le q,Nat.sub_eq_zero_of_le (Nat.le_min.mpr ⟨q,hj⟩)];rfl
theorem zip_join {L:Nat}{P:Nat->Nat->Int}{i j:Nat}:List.zipWith (fun a b:Int=>a+b+1) ((List.range (j - (i+1))).map fun x=>P i (i+1+x)) ((List.range (j - (i+1))).map fun x=>P (i+1+x) j)=joinP P i j:=by
 unfold joinP
 rw[List.zipWith_map]
 generalize List.range (j - (i+1))=xs
 induction xs with
 | nil=>rfl
 | cons x xs ih=>rw[List.zipWith_cons_cons,ih];rfl
theorem enum_maps {ds:List D}{L:Nat}(g:Nat->D)(hl:ds.length=L)(h:∀ i,i<L->ds[i]?=some (g i)):enumD ds=(List.range L).map fun i=>D.tup [.int (i:Nat),g i]:=by
 unfold enumD
 apply List.ext_getElem?
 intro i
 rw[List.getElem?_zipWith,gxH,hl]
 by_cases hi:i<L
 ·rw[List.getElem?_range hi,h i hi];rfl
 ·rw[List.getElem?_eq_none_iff.mpr (by rw[gxJ];omega)];rfl
theorem enum_es {es:List Int}:enumD (es.map D.int)=(List.range es.length).map fun j=>D.tup [.int (j:Nat),.int (es.getD j 0)] :=
 enum_maps _ (gxC ..) fun i hi=>by rw[gxH,getD_some hi];rfl
theorem enum_tab {L:Nat}{P:Nat->Nat->Int}{own:List Int}(hl:own.length=L):enumD (List.zipWith (fun a b=>D.tup [a,b]) (tabR L P) (own.map D.int))=(List.range L).map fun i=>D.tup [.int (i:Nat),.tup [.lst (rowI L (P i)),.int (own.getD i 0)]] :=
 enum_maps (fun i=>.tup [.lst (rowI L (P i)),.int (own.getD i 0)]) (by rw[List.length_zipWith,tabR_len,gxC];omega) fun i hi=>by rw[List.getElem?_zipWith,tabR_get hi,gxH,getD_some (by omega)];rfl
theorem tabR_succ {L k:Nat}{T:Nat->Nat->Int}:((List.range (k+1)).map fun i=>D.lst (rowI L (T i)))=((List.range k).map fun i=>D.lst (rowI L (T i)))++[.lst (rowI L (T k))]:=by rw[List.range_succ,List.map_append];rfl
theorem mr_tabk {n:Nat}(L k:Nat)(f:Nat->Nat->Int):mrL n ((List.range k).map fun i=>D.lst (rowI L (f i))):=mr_all fun d hd=>by obtain⟨i,_,rfl⟩:=List.mem_map.mp hd;exact mr_rowI L _
theorem zip_ints {ls rs:List Int}:List.zipWith (fun a b=>D.tup [a,b]) (ls.map D.int) (rs.map D.int)=(ls.zip rs).map fun p=>D.tup [.int p.1,.int p.2]:=by
 rw[List.zipWith_map,List.zip,List.map_zipWith]
theorem zip_plus {ls rs:List Int}:(ls.zip rs).map (fun p=>D.int (p.1+p.2+1))=(List.zipWith (fun a b=>a+b+1) ls rs).map D.int:=by
 rw[List.zip,List.map_zipWith,List.map_zipWith]
theorem or_in {i j k:Nat}{ρ:DE}{μ:MS}{K:Bool->MS->Prop}(ch:Bool)(now:Int)(ages:List Int)(h8:ρ[i]?=some (some (.bl ch)))(h10:ρ[j]?=some (some (.int now)))(h6:ρ[k]?=some (some (.lst (ages.map D.int))))(h:∀ c,(c=false->ch=false/\now∉ages)->K c μ):dtOr (dTst (dVar i)) (dTst (dOp (dIn false) (dVar j) (dVar k))) ρ μ K:=by
 unfold dtOr dTst dOp dVar
 rw[h8,h10,h6]
 show if ch=true then K true μ else _
 by_cases q:ch=true
 ·rw[if_pos q];exact h true fun z=>by cases z
 ·rw[if_neg q]
  refine⟨rfl,by rw[List.all_map];exact List.all_eq_true.mpr fun x _=>rfl,?_⟩
  refine h _ fun z=>⟨by cases ch with | true=>exact absurd rfl q | false=>rfl,fun hm=>?_⟩
  have z2:((ages.map D.int).any fun d=>deq d (.int now))=false:=by cases q2:((ages.map D.int).any fun d=>deq d (.int now))with | true=>rw[q2]at z;exact absurd z (by decide) | false=>rfl
  rw[List.any_eq_false]at z2
  exact z2 _ (List.mem_map_of_mem hm) (by unfold deq;exact beq_self_eq_true now)
def fNoMake:DSp:=fun ds μ K=>match ds with
 | [.lst b]=>b.length<=2000/\K (.int ((b.length:Int) - 1)) μ
 | _=>False
def fBareT:DSp:=fun ds μ K=>match ds with
 | [.lst b]=>b.length<=2000/\K (.lst (tabR b.length (bareP b.length))) μ
 | _=>False
def fFewestJ:DSp:=fun ds μ K=>match ds with
 | [.lst l,.lst r,.int m]=>∃ ls rs:List Int,l=ls.map D.int/\r=rs.map D.int/\ls.length<=2000/\rs.length<=2000/\K (.int ((List.zipWith (fun a b=>a+b+1) ls rs).foldl min m)) μ
 | _=>False
def fNextTab:DSp:=fun ds μ K=>match ds with
 | [.lst b,.lst c,.lst l]=>∃(es own:List Int) (P:Nat->Nat->Int),b=es.map D.int/\c=own.map D.int/\own.length=es.length/\es.length<=2000/\l=tabR es.length P/\K (.lst (tabR es.length (stepP es.length es own P))) μ
 | _=>False
def tabsD (es:List Int)(ts:List Tk)(k:Nat):List D:=(List.range k).map fun a=>D.lst (tabR es.length (tabP es ts (a+1)))
def keysD (k:Nat):List Key:=(List.range k).map fun a=>(Sum.inl ((a:Nat):Int):Key)
def fFewTabs:DSp:=fun ds μ K=>match ds with
 | [.int n,.lst x,.lst y,.int a]=>∃(cs:List Int) (ts:List Tk),x=cs.map D.int/\y=ts.map tkD/\Shelf n cs ts/\0<=a/\a<=1000/\K (.dic (keysD (a.toNat+1)) (tabsD (endsOf n cs) ts (a.toNat+1))) μ
 | _=>False
theorem keys_new (k:Nat):(Sum.inl ((k:Nat):Int):Key)∉keysD k:=fun h=>by
 obtain⟨a,ha,e⟩:=List.mem_map.mp h
 rw[List.mem_range]at ha
 have:=Sum.inl.inj e
 omega
theorem keysD_succ (k:Nat):keysD (k+1)=keysD k++[Sum.inl ((k:Nat):Int)]:=by unfold keysD;rw[List.range_succ,List.map_append];rfl
theorem tabsD_succ (es:List Int)(ts:List Tk)(k:Nat):tabsD es ts (k+1)=tabsD es ts k++[.lst (tabR es.length (tabP es ts (k+1)))]:=by unfold tabsD;rw[List.range_succ,List.map_append];rfl
theorem dval_at:∀ {xs:List Nat} {k:Nat} (g:Nat->D),k∈xs->dval ((xs.map fun a=>(Sum.inl ((a:Nat):Int):Key)).zip (xs.map g)) (.inl (k:Int))=some (g k)
 | x::xs,k,g,h=>by
  rw[List.map_cons,List.map_cons,List.zip_cons_cons]
  unfold dval
  rw[List.find?_cons]
  by_cases e:x=k
  ·subst e;simp
  ·have:¬ (Sum.inl ((x:Nat):Int):Key)=Sum.inl ((k:Nat):Int):=fun z=>e (by have:=Sum.inl.inj z;omega)
   simp only[this,decide_false]
   exact dval_at g (by rcases List.mem_cons.mp h with q | q;exact absurd q.symm e;exact q)
structure StepF (es:List Int)(F:Int->Int):Prop where
 mem:∀ e∈es,F e∈es
 ge:∀ e,e<=F e
 mono:∀ a∈es,∀ b∈es,a<=b->F a<=F b
theorem own_step {n:Int}{cs:List Int}{ts:List Tk}(S:Shelf n cs ts)(a:Int):StepF (endsOf n cs) (ownE (endsOf n cs) ts a):=by
 refine⟨fun e he=>ownE_mem he,fun e=>ownE_ge _ _ _ _,fun a' ha b hb hab=>?_⟩
 obtain⟨i,hi,e1⟩:=List.getElem_of_mem ha
 obtain⟨j,hj,e2⟩:=List.getElem_of_mem hb
 have g1:(endsOf n cs)[i]?=some a':=by rw[gxA hi,e1]
 have g2:(endsOf n cs)[j]?=some b:=by rw[gxA hj,e2]
 exact own_rises S i j _ _ (up_ge (ends_up S.n1 S.cuts) g1 g2 hab) (own_get g1) (own_get g2)
theorem idx_up {es:List Int}(hu:es.Pairwise (·<·)){x:Int}(hx:x∈es)(g:Int->Int):rowAt es (es.map g) x=g x:=by
 unfold rowAt
 rw[gxH,idx_get hx];rfl
theorem next_map {es:List Int}{ts:List Tk}{a:Int}(hu:es.Pairwise (·<·)){g:Int->Int}(hg:∀ e∈es,g e∈es):nextR es ts (es.map g) a=es.map fun e=>max (ownE es ts a e) (g (g e)):=by
 apply List.ext_getElem?
 intro i
 by_cases hi:i<es.length
 ·have he:es[i]?=some es[i]:=gxA hi
  have hm:=List.getElem_mem hi
  rw[next_at (own_get he) (by rw[gxH,he];rfl:(es.map g)[i]?=some (g es[i])),gxH,he,idx_up hu (hg _ hm)]
  rfl
 ·rw[List.getElem?_eq_none_iff.mpr (by rw[(next_ok (⟨gxC ..,fun x hx=>by obtain⟨e,he,rfl⟩:=List.mem_map.mp hx;exact hg e he⟩:RowOk es (es.map g))).len];omega),List.getElem?_eq_none_iff.mpr (by rw[gxC];omega)]
theorem cutN_in {l:List Nat}{a b:Int}{c:Nat}(ha:0<=a)(hb:0<=b)(h:c∈cutN l a b):∃ k:Nat,a<=k/\(k:Int)<b/\l[k]?=some c:=by
 obtain⟨i,rfl⟩:=Int.eq_ofNat_of_zero_le ha
 obtain⟨j,rfl⟩:=Int.eq_ofNat_of_zero_le hb
 rw[cutN_nat]at h
 obtain⟨t,ht,e⟩:=List.getElem_of_mem h
 have g:((l.drop i).take (j - i))[t]?=some c:=by rw[gxA ht,e]
 have ht:t<j - i:=Nat.lt_of_lt_of_le ht (List.length_take_le ..)
 rw[List.getElem?_take_of_lt ht,List.getElem?_drop]at g
 exact⟨i+t,Int.ofNat_le.mpr (Nat.le_add_right _ _),by omega,g⟩
def jnT (l1 l2:List Nat)(p:Int):List Nat:=l1.take p.toNat++l2.drop p.toNat
def Mkd (cs:List Int)(ts:List Tk):Nat->List Nat->Int->Prop
 | 0,l,a=>(l,a)∈ts
 | r+1,l,a=>Mkd cs ts r l a\/∃ l1 a1 l2 a2 p,Mkd cs ts r l1 a1/\Mkd cs ts r l2 a2/\p∈cs/\l=jnT l1 l2 p/\a=max a1 a2+1
theorem Mkd.up {cs:List Int}{ts:List Tk}{l:List Nat}{a:Int}{r:Nat}(h:Mkd cs ts r l a):∀ k,Mkd cs ts (r+k) l a
 | 0=>h
 | k+1=>.inl (Mkd.up h k)
def Cln (l:List Nat)(e x:Int):Prop:=∀ k:Nat,e<=k->(k:Int)<x->l[k]?=some 111
theorem far_cln {es:List Int}{l:List Nat}{e x:Int}(ho:OX l)(h0:0<=e)(he:e<=l.length)(hx:x<=farF es l e):Cln l e x:=fun k h1 h2=>by
 have ct:=clN_is ho (e:=e.toNat) (by omega)
 have:farF es l e<=max e (clN l e.toNat:Int):=by
  unfold farF
  rcases fmax_mem (es.filter fun x=>decide (x<=(clN l e.toNat:Int))) e with q | q
  ·rw[q];omega
  ·have:=of_decide_eq_true (List.mem_filter.mp q).2;omega
 have c1:=ct.1
 exact ct.2.2.1 k (by omega) (by omega)
theorem cln_far {es:List Int}{l:List Nat}{e x:Int}(ho:OX l)(h0:0<=e)(hex:e<=x)(hx:x<=l.length)(hm:x∈es)(h:Cln l e x):x<=farF es l e:=by
 refine clean_far ho h0 hx hex hm fun z=>?_
 obtain⟨k,k1,k2,k3⟩:=cutN_in h0 (by omega) z
 rw[h k k1 k2]at k3
 cases k3
def RF (es:List Int)(ts:List Tk):Nat->Int->Int
 | 0=>ownE es ts 0
 | a+1=>fun e=>max (ownE es ts ((a:Int)+1) e) (RF es ts a (RF es ts a e))
theorem RF_step {n:Int}{cs:List Int}{ts:List Tk}(S:Shelf n cs ts):∀ a,StepF (endsOf n cs) (RF (endsOf n cs) ts a)
 | 0=>own_step S 0
 | a+1=>by
  have h:=RF_step S a
  have g:=own_step S ((a:Int)+1)
  refine⟨fun e he=>max_mem (g.mem e he) (h.mem _ (h.mem e he)),fun e=>?_,fun x hx y hy hxy=>?_⟩
  ·have:=g.ge e
   show e<=max _ _
   omega
  ·have g1:=g.mono x hx y hy hxy
   have g2:=h.mono _ (h.mem x hx) _ (h.mem y hy) (h.mono x hx y hy hxy)
   show max _ _<=max _ _
   omega
theorem rows_RF {n:Int}{cs:List Int}{ts:List Tk}(S:Shelf n cs ts):∀ a,rowsR (endsOf n cs) ts a=(endsOf n cs).map (RF (endsOf n cs) ts a)
 | 0=>rfl
 | a+1=>by
  show nextR (endsOf n cs) ts (rowsR (endsOf n cs) ts a) _=_
  rw[rows_RF S a,next_map (ends_up S.n1 S.cuts) (RF_step S a).mem]
  rfl
def rNeNil:R2:=fun x y H Q=>∃ p q vs,x=.ref p/\y=.ref q/\H p=some (.lst vs)/\H q=some (.lst [])/\Q (.bl (!vs.isEmpty)) H
theorem neNil {X:Cx}(hu:X.A.units+1<cLine):OpR X (compareOp .NotEq) rNeNil:=by
 intro pins s σ H x y u v Q I rx ry h
 obtain⟨p,q,vs,rfl,rfl,hp,hq,k⟩:=h
 cases rx
 cases ry
 obtain⟨its,rv,pl,_⟩:=I.list (SqL.of hp)
 obtain⟨jts,rw',ql,_⟩:=I.list (SqL.of hq)
 cases rw'
 have fin:EP X pins σ Q (.bool (!vs.isEmpty)) s:=⟨.bl _,H,I,rfl,k⟩
 cases rv with
 | nil =>
  have:=SeqAt.RcNeAt.lists (A:=X.A) (e:=fun _=>true) pl.isList ql.isList rfl (by omega) fun j h1 h2=>absurd h1 (Nat.not_lt_zero _)
  exact this X.prog X.w X.xe _ fin
 | cons r rs =>
  exact SeqAt.RcNeAt.lists_lengths pl.isList ql.isList (by simp) (by omega) X.prog X.w X.xe _ fin
def dNeNil:DOp:=fun x y μ K=>match y with
 | .lst []=>opt (lv μ x) fun ds=>K (.bl (!ds.isEmpty)) μ
 | _=>False
theorem so_neNil:SoOp rNeNil dNeNil:=fun φ H x y dx dy μ K Q M hx hy k L=>by
 unfold dNeNil at k
 split at k
 ·obtain⟨ds,el,k⟩:=opt_ex k
  obtain⟨p,vs,rfl,hp,ha⟩:=lv_is M hx el
  obtain⟨q,ws,rfl,_,hq,hb⟩:=hy
  cases(show ws=[]from hb)
  have e:vs.isEmpty=ds.isEmpty:=by
   have:=ha.len
   cases vs <;> cases ds <;> first | rfl | (simp at this)
  exact⟨p,q,vs,rfl,rfl,hp,hq,by rw[e];exact L.val M k rfl⟩
 ·exact k.elim
theorem part_put {k i j:Nat}{S:Nat->Nat->Int}{g:MS}{v:Int}(RM:RowsM k (partT S i j) g)(hi:i<k)(hj:j<k)(hv:S i j=v):RowsM k (partT S i (j+1)) (g.set i (.lst ((rowI k (partT S i j i)).set j (.int v)))) :=
 (RM.put hi hj v).ext fun a b _ _=>by
  clear RM
  unfold partT
  by_cases q:a=i/\b=j
  ·rw[if_pos q,q.1,q.2,<- hv,if_pos (.inr ⟨rfl,Nat.lt_succ_self _⟩)]
  ·rw[if_neg q]
   by_cases h1:a<i\/(a=i/\b<j)
   ·rw[if_pos h1,if_pos (h1.imp_right fun z=>⟨z.1,Nat.lt_succ_of_lt z.2⟩)]
   ·rw[if_neg h1,if_neg (by omega)]
theorem part_skip {k i j:Nat}{S:Nat->Nat->Int}{g:MS}(RM:RowsM k (partT S i j) g)(h0:S i j=0):RowsM k (partT S i (j+1)) g:=RM.ext fun a b _ _=>by
 clear RM
 unfold partT
 by_cases h1:a<i\/(a=i/\b<j)
 ·rw[if_pos h1,if_pos (h1.imp_right fun z=>⟨z.1,Nat.lt_succ_of_lt z.2⟩)]
 ·rw[if_neg h1]
  by_cases h2:a=i/\b=j
  ·rw[if_pos (.inr ⟨h2.1,by rw[h2.2];exact Nat.lt_succ_self _⟩),h2.1,h2.2,h0]
  ·rw[if_neg (by omega)]
theorem part_from {k i:Nat}{S:Nat->Nat->Int}{g:MS}(S0:∀ a b,b<=a->S a b=0)(RM:RowsM k (partT S i 0) g):RowsM k (partT S i (i+1)) g:=RM.ext fun a b _ _=>by
 clear RM
 unfold partT
 by_cases h1:a<i
 ·rw[if_pos (.inl h1),if_pos (.inl h1)]
 ·rw[if_neg (by omega)]
  by_cases h2:a=i/\b<i+1
  ·rw[if_pos (.inr h2),S0 a b (by omega)]
  ·rw[if_neg (by omega)]
theorem part_next {k i j:Nat}{S:Nat->Nat->Int}{g:MS}(hj:k<=j)(RM:RowsM k (partT S i j) g):RowsM k (partT S (i+1) 0) g:=RM.ext fun a b _ hb=>by
 clear RM
 unfold partT
 by_cases h1:a<i\/(a=i/\b<j)
 ·rw[if_pos h1,if_pos (by omega)]
 ·rw[if_neg h1,if_neg (by omega)]
theorem part_all {k i:Nat}{S:Nat->Nat->Int}(hi:k<=i):tabR k (partT S i 0)=tabR k S:=by
 unfold tabR
 refine List.map_congr_left fun a ha=>?_
 rw[List.mem_range]at ha
 rw[rowI_ext fun b _=>by unfold partT;rw[if_pos (.inl (Nat.lt_of_lt_of_le ha hi))]]
theorem part_start {k:Nat}{S:Nat->Nat->Int}{g:MS}(hg:g.length=k)(hga:∀ a,a<k->g[a]?=some (.lst (rowI k fun _=>0))):RowsM k (partT S 0 0) g:=⟨hg,fun a ha=>by
 rw[hga a ha]
 congr 2
 apply rowI_ext
 intro j _
 unfold partT
 rw[if_neg (by omega)]⟩
theorem zero_row (es:List Int):es.map (fun _:Int=>D.int 0)=rowI es.length (fun _=>0):=by
 unfold rowI
 rw[List.map_const',List.map_const',gxJ]
theorem cand_zero (i j:Nat):candL (fun _ _=>0) i j=[]:=by
 rw[List.eq_nil_iff_forall_not_mem]
 intro x hx
 obtain⟨k,_,_,h3,_⟩:=cand_mem.mp hx
 simp at h3
theorem tabR_ne {k:Nat}{T:Nat->Nat->Int}(h:0<k):(tabR k T).isEmpty=false:=by
 cases q:tabR k T with
 | nil=>have:=tabR_len k T;rw[q]at this;exact absurd this (Nat.ne_of_lt h)
 | cons a b=>rfl
theorem cand_D (T:Nat->Nat->Int)(i j:Nat):(List.range (j - (i+1))).filterMap (fun x=>(if 0<T i (i+1+x)*T (i+1+x) j then some (T i (i+1+x)+T (i+1+x) j)else none).map D.int)=(candL T i j).map D.int:=by
 unfold candL;rw[List.map_filterMap]
theorem ends_0 (n:Int)(cs:List Int):(endsOf n cs)[0]?=some 0:=rfl
theorem own_getD' {es:List Int}{ts:List Tk}{a:Int}{i:Nat}{e:Int}(h:es[i]?=some e):(ownR es ts a).getD i 0=ownE es ts a e:=by rw[List.getD_eq_getElem?_getD,own_get h];rfl
theorem getD_at {es:List Int}{i:Nat}{e:Int}(h:es[i]?=some e):es.getD i 0=e:=by rw[List.getD_eq_getElem?_getD,h];rfl
theorem ends_lastN (n:Int)(cs:List Int):(endsOf n cs)[cs.length+1]?=some n:=by
 have:=ends_last n cs
 rwa [endsOf_len]at this
end L2
namespace L2
open PySem PySem.Spec PyProof.Rows PySem.SeqAt
end L2
namespace L2
open PySem PySem.Spec PyProof.Rows
def AsGood (ts ts':List Tk):Prop:=∀ t∈ts,∃ t'∈ts',t'.2=t.2/\∀ k:Nat,t.1[k]?=some 111->t'.1[k]?=some 111
theorem AsGood.refl (ts:List Tk):AsGood ts ts:=fun t ht=>⟨t,ht,rfl,fun _ h=>h⟩
structure More (n:Int)(cs:List Int)(ts:List Tk)(cs':List Int)(ts':List Tk):Prop where
 S:Shelf n cs ts
 S':Shelf n cs' ts'
 sub:∀ c∈cs,c∈cs'
 good:AsGood ts ts'
theorem More.refl {n:Int}{cs:List Int}{ts:List Tk}(S:Shelf n cs ts):More n cs ts cs ts:=⟨S,S,fun _ h=>h,.refl ts⟩
theorem More.ends {n:Int}{cs cs':List Int}{ts ts':List Tk}(h:More n cs ts cs' ts'){e:Int}(he:e∈endsOf n cs):e∈endsOf n cs':=by
 unfold endsOf at he ⊢
 rw[List.cons_append]at he ⊢
 rcases List.mem_cons.mp he with q | q
 ·exact List.mem_cons.mpr (.inl q)
 ·rcases List.mem_append.mp q with q | q
  ·exact gxI _ (List.mem_append.mpr (.inl (h.sub e q)))
  ·exact gxI _ (List.mem_append.mpr (.inr q))
theorem More.own {n:Int}{cs cs':List Int}{ts ts':List Tk}(h:More n cs ts cs' ts'){a a' e:Int}(ha:a<=a')(he:e∈endsOf n cs):ownE (endsOf n cs) ts a e<=ownE (endsOf n cs') ts' a' e:=by
 rw[ownE_eq (endsOf n cs)]
 rcases fmax_mem ((ts.filter fun t=>decide (t.2<=a)).map fun t=>farF (endsOf n cs) t.1 e) e with q | q
 ·rw[q];exact ownE_ge _ _ _ _
 ·obtain⟨t,ht,et⟩:=List.mem_map.mp q
  obtain⟨t1,t2⟩:=List.mem_filter.mp ht
  rw[<- et]
  obtain⟨t',m',e2,hc⟩:=h.good t t1
  have ok:=h.S.takes.ok t t1
  have ok':=h.S'.takes.ok t' m'
  have he2:=ends_in h.S.n1 h.S.cuts he
  have fm:=farF_mem (l:=t.1) he
  have f2:=(ends_in h.S.n1 h.S.cuts fm).2
  have hl:=ok.1
  have hl':=ok'.1
  have c:=far_cln (es:=endsOf n cs) ok.2.1 he2.1 (by omega) (Int.le_refl _)
  exact Int.le_trans (cln_far ok'.2.1 he2.1 (farF_ge _ _ _) (by omega) (h.ends fm) fun k k1 k2=>hc k (c k k1 k2)) (own_far m' (by rw[e2];exact Int.le_trans (of_decide_eq_true t2) ha))
theorem More.rf {n:Int}{cs cs':List Int}{ts ts':List Tk}(h:More n cs ts cs' ts'):∀(a:Nat) {e:Int},e∈endsOf n cs->RF (endsOf n cs) ts a e<=RF (endsOf n cs') ts' a e
 | 0,e,he=>h.own (Int.le_refl _) he
 | a+1,e,he=>by
  have g:=RF_step h.S a
  have g':=RF_step h.S' a
  have i1:=h.rf a he
  have i2:=h.rf a (g.mem e he)
  have i3:=g'.mono _ (h.ends (g.mem e he)) _ (g'.mem e (h.ends he)) i1
  have i4:=h.own (a:=(a:Int)+1) (Int.le_refl _) he
  show max _ _<=max _ _
  omega
theorem rf_at {n:Int}{cs:List Int}{ts:List Tk}(S:Shelf n cs ts)(a:Nat){i:Nat}{e:Int}(he:(endsOf n cs)[i]?=some e):(rowsR (endsOf n cs) ts a)[i]?=some (RF (endsOf n cs) ts a e):=by rw[rows_RF S,gxH,he];rfl
theorem More.least {n:Int}{cs cs':List Int}{ts ts':List Tk}(h:More n cs ts cs' ts'){a:Nat}(hl:LeastIs (endsOf n cs) ts n a):RF (endsOf n cs') ts' a 0=n:=by
 have e:=hl.at_
 rw[rf_at h.S a (ends_0 n cs)]at e
 have e:=Option.some.inj e
 have:=h.rf a (ends_mem0 n cs)
 have:=(ends_in h.S'.n1 h.S'.cuts ((RF_step h.S' a).mem 0 (ends_mem0 n cs'))).2
 omega
theorem least_le {n:Int}{cs:List Int}{ts:List Tk}(S:Shelf n cs ts){a b:Nat}(h:RF (endsOf n cs) ts a 0=n)(hl:LeastIs (endsOf n cs) ts n b):b<=a:=by
 by_cases q:b<=a
 ·exact q
 ·exact absurd (by rw[rf_at S a (ends_0 n cs),h]) (hl.low a (by omega))
theorem mul_pos2 {x y:Int}(hx:0<=x)(hy:0<=y)(h:0<x*y):0<x/\0<y:=by
 refine⟨?_,?_⟩
 ·rcases Int.lt_or_le 0 x with q | q
  ·exact q
  ·rw[show x=0 by omega,Int.zero_mul]at h;exact absurd h (by decide)
 ·rcases Int.lt_or_le 0 y with q | q
  ·exact q
  ·rw[show y=0 by omega,Int.mul_zero]at h;exact absurd h (by decide)
theorem step_cand {es own:List Int}{T:Nat->Nat->Int}{i j:Nat}{v:Int}(hT:∀ i j,0<=T i j)(hij:i<j)(hv:v∈candL T i j):0<stepL es own T i j/\stepL es own T i j<=v:=by
 have pos:∀ w∈candL T i j,2<=w:=fun w hw=>by
  obtain⟨k,_,_,h3,rfl⟩:=cand_mem.mp hw
  have:=mul_pos2 (hT i k) (hT k j) h3
  omega
 have v2:=pos v hv
 have m:=minD0_mem (ns:=candL T i j) fun z=>by rw[z]at hv;cases hv
 have m1:=pos _ m.1
 have m2:=m.2 v hv
 unfold stepL
 rw[if_neg (by omega)]
 by_cases q:es.getD j 0<=own.getD i 0
 ·rw[if_pos q];omega
 ·rw[if_neg q];omega
theorem More.tab {n:Int}{cs cs':List Int}{ts ts':List Tk}(h:More n cs ts cs' ts'):∀(a a':Nat),a<=a'->∀(i j i' j':Nat) (x y:Int),(endsOf n cs)[i]?=some x->(endsOf n cs)[j]?=some y->(endsOf n cs')[i']?=some x->(endsOf n cs')[j']?=some y ->
 0<tabL (endsOf n cs) ts a i j->0<tabL (endsOf n cs') ts' a' i' j'/\tabL (endsOf n cs') ts' a' i' j'<=tabL (endsOf n cs) ts a i j
 | 0,_,_,i,j,i',j',x,y,_,_,_,_,hp=>absurd hp (Int.lt_irrefl _)
 | a+1,0,ha,_,_,_,_,_,_,_,_,_,_,_=>absurd ha (by omega)
 | a+1,a'+1,ha,i,j,i',j',x,y,hi,hj,hi',hj',hp=>by
  have up:=ends_up h.S.n1 h.S.cuts
  have up':=ends_up h.S'.n1 h.S'.cuts
  by_cases hij:j<=i
  ·exact absurd (show 0<stepL _ _ _ i j from hp) (by unfold stepL;rw[if_pos hij];decide)
  have xy:=up_get up hi hj (by omega)
  have hij':i'<j':=by
   by_cases q:i'<j'
   ·exact q
   ·have:=up_le up' j' i' _ _ (by omega) hj' hi';omega
  have bd:=tab_bd (endsOf n cs) ts a
  have bd':=tab_bd (endsOf n cs') ts' a'
  by_cases q:y<=ownE (endsOf n cs) ts a x
  ·have q':=Int.le_trans q (h.own (a':=(a':Int)) (by omega) (gxD hi))
   have e':tabL (endsOf n cs') ts' (a'+1) i' j'=1:=by
    show stepL _ _ _ i' j'=1
    unfold stepL
    rw[if_neg (by omega),if_pos (by rw[getD_at hj',own_getD' hi'];exact q')]
   rw[e']
   exact⟨by decide,hp⟩
  ·have e:tabL (endsOf n cs) ts (a+1) i j=minD0 (candL (tabL (endsOf n cs) ts a) i j):=by
    show stepL _ _ _ i j=_
    unfold stepL
    rw[if_neg hij,if_neg (by rw[getD_at hj,own_getD' hi];exact q)]
   rw[e]at hp ⊢
   have m:=minD0_mem (ns:=candL (tabL (endsOf n cs) ts a) i j) fun z=>by rw[z]at hp;exact absurd hp (by decide)
   obtain⟨k,k1,k2,k3,ek⟩:=cand_mem.mp m.1
   rw[ek]
   have kp:=mul_pos2 (bd i k).1 (bd k j).1 k3
   have hk:(endsOf n cs)[k]?=some ((endsOf n cs).getD k 0):=getD_some (Nat.lt_trans k2 (gxB hj).1)
   have mk:=h.ends (gxD hk)
   have hk':=idx_get mk
   have r1:=h.tab a a' (by omega) i k i' _ _ _ hi hk hi' hk' kp.1
   have r2:=h.tab a a' (by omega) k j _ j' _ _ hk hj hk' hj' kp.2
   have w1:=up_get up hi hk k1
   have w2:=up_get up hk hj k2
   have c1:i'<(endsOf n cs').idxOf ((endsOf n cs).getD k 0):=by
    by_cases q:i'<(endsOf n cs').idxOf ((endsOf n cs).getD k 0)
    ·exact q
    ·have:=up_le up' _ i' _ _ (by omega) hk' hi';omega
   have c2:(endsOf n cs').idxOf ((endsOf n cs).getD k 0)<j':=by
    by_cases q:(endsOf n cs').idxOf ((endsOf n cs).getD k 0)<j'
    ·exact q
    ·have:=up_le up' j' _ _ _ (by omega) hj' hk';omega
   have st:=step_cand (es:=endsOf n cs') (own:=ownR (endsOf n cs') ts' a') (fun i j=>(bd' i j).1) hij' (cand_mem.mpr ⟨_,c1,c2,Int.mul_pos r1.1 r2.1,rfl⟩)
   exact⟨st.1,Int.le_trans st.2 (Int.add_le_add r1.2 r2.2)⟩
theorem tab_reach {n:Int}{cs:List Int}{ts:List Tk}(S:Shelf n cs ts):∀(a i j:Nat) (x y:Int),(endsOf n cs)[i]?=some x->(endsOf n cs)[j]?=some y->i<j->y<=RF (endsOf n cs) ts a x->0<tabL (endsOf n cs) ts (a+1) i j:=by
 have own:∀(a i j:Nat) (x y:Int),(endsOf n cs)[i]?=some x->(endsOf n cs)[j]?=some y->i<j->y<=ownE (endsOf n cs) ts a x->0<tabL (endsOf n cs) ts (a+1) i j:=fun a i j x y hi hj hij hy=>by
  show 0<stepL _ _ _ i j
  unfold stepL
  rw[if_neg (by omega),if_pos (by rw[getD_at hj,own_getD' hi];exact hy)]
  decide
 intro a
 induction a with
 | zero=>exact own 0
 | succ a ih =>
  intro i j x y hi hj hij hy
  by_cases q:y<=ownE (endsOf n cs) ts ((a+1:Nat):Int) x
  ·exact own (a+1) i j x y hi hj hij q
  have hy:y<=max (ownE (endsOf n cs) ts ((a:Int)+1) x) (RF (endsOf n cs) ts a (RF (endsOf n cs) ts a x)):=hy
  have hy2:y<=RF (endsOf n cs) ts a (RF (endsOf n cs) ts a x):=by
   have:((a+1:Nat):Int)=(a:Int)+1:=by omega
   rw[this]at q;omega
  have up:=ends_up S.n1 S.cuts
  have mm:=(RF_step S a).mem x (gxD hi)
  have ge:=(RF_step S a).ge x
  obtain⟨k,hk,ek⟩:=List.getElem_of_mem mm
  have gk:(endsOf n cs)[k]?=some (RF (endsOf n cs) ts a x):=by rw[gxA hk,ek]
  by_cases q1:y<=RF (endsOf n cs) ts a x
  ·exact((More.refl S).tab (a+1) (a+2) (by omega) i j i j x y hi hj hi hj (ih i j x y hi hj hij q1)).1
  have kj:k<j:=by
   by_cases z:k<j
   ·exact z
   ·exact absurd (up_le up j k _ _ (by omega) hj gk) q1
  have ik:=up_ge up hi gk ge
  by_cases z:i=k
  ·subst z
   rw[hi]at gk
   have gk:=Option.some.inj gk
   rw[<- gk]at hy2 q1
   rw[<- gk]at hy2
   exact absurd hy2 q1
  have p1:=ih i k x _ hi gk (by omega) (Int.le_refl _)
  have p2:=ih k j _ y gk hj kj hy2
  exact(step_cand (es:=endsOf n cs) (own:=ownR (endsOf n cs) ts ((a+1:Nat):Int)) (fun i j=>(tab_bd (endsOf n cs) ts (a+1) i j).1) hij (cand_mem.mpr ⟨k,by omega,kj,Int.mul_pos p1 p2,rfl⟩)).1
theorem tab_least {n:Int}{cs:List Int}{ts:List Tk}(S:Shelf n cs ts){a:Nat}(hl:LeastIs (endsOf n cs) ts n a):0<tabL (endsOf n cs) ts (a+1) 0 (cs.length+1):=by
 refine tab_reach S a 0 (cs.length+1) 0 n (ends_0 n cs) (ends_lastN n cs) (by omega) ?_
 rw[(More.refl S).least hl]
 exact Int.le_refl _
theorem sideT {n:Int}{cs:List Int}{ts:List Tk}(S:Shelf n cs ts)(a:Nat):SideT (endsOf n cs).length (tabL (endsOf n cs) ts a) (tabP (endsOf n cs) ts a):=side_tab (fun a i j hi h=>own_getD (ends_up S.n1 S.cuts) i j hi h) a
def insM (C:Addr)(μ:MS)(k:Nat):Option (List Str×List D):=match μ[k]? with | some (.ins C' ns ds)=>if C'=C then some (ns,ds)else none | _=>none
theorem insM_eq {C:Addr}{μ:MS}{k:Nat}{q:List Str×List D}(h:insM C μ k=some q):μ[k]?=some (.ins C q.1 q.2):=by
 unfold insM at h
 split at h
 ·rename_i C' ns ds e
  by_cases z:C'=C
  ·rw[if_pos z]at h;cases h;rw[e,z]
  ·rw[if_neg z]at h;cases h
 ·cases h
theorem insM_of {C:Addr}{μ:MS}{k:Nat}{ns:List Str}{ds:List D}(h:μ[k]?=some (.ins C ns ds)):insM C μ k=some (ns,ds):=by unfold insM;rw[h];exact if_pos rfl
def lookN (f:Str):List Str->List D->Option D
 | n::ns,d::ds=>if n=f then some d else lookN f ns ds
 | _,_=>none
def putN (f:Str)(d:D):List Str->List D->List Str×List D
 | n::ns,e::ds=>if n=f then(n::ns,d::ds)else(n::(putN f d ns ds).1,e::(putN f d ns ds).2)
 | _,_=>([f],[d])
theorem lookN_is {φ:List Addr}{H:Hp}{f:Str}{d:D}:∀ {fs:List (Str×V)} {ds:List D},DAll φ H ds (fs.map (·.2))->lookN f (fs.map (·.1)) ds=some d->∃ v,fs.lookup f=some v/\DIs φ H d v
 | [],ds,h,e=>by cases ds <;> cases e
 | (n,x)::fs,ds,h,e=>by
  cases ds with
  | nil=>cases e
  | cons d0 ds =>
   obtain⟨v,r,e1,h1,h2⟩:=h
   simp only[List.map_cons,List.cons.injEq]at e1
   obtain⟨rfl,rfl⟩:=e1
   simp only[List.map_cons,lookN]at e
   rw[List.lookup_cons]
   by_cases q:n=f
   ·rw[if_pos q]at e;cases e
    subst q
    exact⟨x,by simp,h1⟩
   ·rw[if_neg q]at e
    have:(f==n)=false:=beq_eq_false_iff_ne.mpr fun z=>q z.symm
    simp only[this]
    exact lookN_is h2 e
theorem lookN_no {φ:List Addr}{H:Hp}{f:Str}:∀ {fs:List (Str×V)} {ds:List D},DAll φ H ds (fs.map (·.2))->lookN f (fs.map (·.1)) ds=none->fs.lookup f=none
 | [],ds,h,e=>rfl
 | (n,x)::fs,ds,h,e=>by
  cases ds with
  | nil=>cases(show _=_ from h)
  | cons d0 ds =>
   obtain⟨v,r,e1,h1,h2⟩:=h
   simp only[List.map_cons,List.cons.injEq]at e1
   obtain⟨rfl,rfl⟩:=e1
   simp only[List.map_cons,lookN]at e
   rw[List.lookup_cons]
   by_cases q:n=f
   ·rw[if_pos q]at e;cases e
   ·rw[if_neg q]at e
    have:(f==n)=false:=beq_eq_false_iff_ne.mpr fun z=>q z.symm
    simp only[this]
    exact lookN_no h2 e
theorem putN_is {φ:List Addr}{H:Hp}{f:Str}{d:D}{v:V}(hd:DIs φ H d v):∀ {fs:List (Str×V)} {ds:List D},DAll φ H ds (fs.map (·.2))->(putF f v fs).map (·.1)=(putN f d (fs.map (·.1)) ds).1/\DAll φ H (putN f d (fs.map (·.1)) ds).2 ((putF f v fs).map (·.2))
 | [],ds,h=>by cases ds <;> exact⟨rfl,v,[],rfl,hd,rfl⟩
 | (n,x)::fs,ds,h=>by
  cases ds with
  | nil=>cases(show _=_ from h)
  | cons d0 ds =>
   obtain⟨v',r,e1,h1,h2⟩:=h
   simp only[List.map_cons,List.cons.injEq]at e1
   obtain⟨rfl,rfl⟩:=e1
   simp only[putF,List.map_cons,putN]
   by_cases q:n=f
   ·rw[if_pos q,if_pos q]
    exact⟨rfl,_,_,rfl,hd,h2⟩
   ·rw[if_neg q,if_neg q]
    obtain⟨i1,i2⟩:=putN_is hd h2
    exact⟨by simp only[List.map_cons,i1],_,_,rfl,h1,i2⟩
section
variable {X:Cx}{a b e o:Expr}{es:List Expr}{pos:Pos}{C:Addr}
def dFld (C:Addr)(f:Str)(w:De):De:=fun ρ μ K=>w ρ μ fun x μ1=>match x with
 | .mr k=>∃ d,(insM C μ1 k).bind (fun q=>lookN f q.1 q.2)=some d/\K d μ1
 | _=>False
theorem d_fld {f:Str}{w:De}(c:Cls X.K C)(n:NoAttr X.K C f)(h:PD X e w)(hb:attributeBase e f X.env (eval e X.env)=eval e X.env:=by rfl):PD X (.Attribute e f pos) (dFld C f w):=(pe_fld h hb).imp fun σ H Q hq=>by
 obtain⟨φ,ρ,μ,K,A,M,k,L⟩:=hq
 refine⟨φ,ρ,μ,_,A,M,k,fun d1 μ1 φ1 v1 H1 k1 f1 M1 i1=>?_⟩
 cases d1 with
 | mr j =>
  obtain⟨d,e1,k1⟩:=k1
  obtain⟨q,e2,e3⟩:=Option.bind_eq_some_iff.mp e1
  obtain⟨p,hp,rfl⟩:=i1
  obtain⟨p',e4,dx,fs,h1,h2,h3⟩:=M1.at_ j _ (insM_eq e2)
  rw[hp]at e4;cases e4
  rw[<- h2]at e3
  obtain⟨v,l,iv⟩:=lookN_is h3 e3
  exact⟨p,C,dx,fs,v,rfl,h1,c,n,l,L _ μ1 φ1 v H1 k1 f1 M1 iv⟩
 | _=>exact k1.elim
def dSFld (C:Addr)(f:Str)(w wo:De):Ds:=fun N ρ μ=>w ρ μ fun d μ1=>wo ρ μ1 fun x μ2=>match x with
 | .mr k=>∃ q q':List Str×List D,insM C μ2 k=some q/\putN f d q.1 q.2=q'/\q.1.length<1000/\N.nx ρ (μ2.set k (.ins C q'.1 q'.2))
 | _=>False
theorem s_fld {f:Str}{w wo:De}{pos':Pos}(c:Cls X.K C)(n:NoAttr X.K C f)(he:PD X e w)(ho:PD X o wo)(hs:swapsWith e (some (.Attribute o f pos')) pos.line X.env=pure false:=by rfl):PDS X (.Assign [.Attribute o f pos'] e pos) (dSFld C f w wo) :=
 (ps_fld ho he hs).imp fun E σ H hq=>by
 obtain⟨φ,ρ,μ,N,A,M,k,L⟩:=hq
 refine⟨φ,ρ,μ,_,A,M,k,fun d μ1 φ1 v1 H1 k1 f1 M1 i1=>?_⟩
 refine⟨φ1,ρ,μ1,_,A.mono f1,M1,k1,fun d2 μ2 φ2 v2 H2 k2 f2 M2 i2=>?_⟩
 cases d2 with
 | mr j =>
  obtain⟨q,_,e2,rfl,hl,k2⟩:=k2
  obtain⟨p,hp,rfl⟩:=i2
  obtain⟨p',e4,dx,fs,h1,h2,h3⟩:=M2.at_ j _ (insM_eq e2)
  rw[hp]at e4;cases e4
  have f4:Fr φ2 H2 φ2 (upd H2 p (.ins C dx (putF f v1 fs))):=.put (gxD hp)
  obtain⟨g1,g2⟩:=putN_is (f:=f) ((i1.mono f2).mono f4) (h3.mono f4)
  rw[h2]at g1 g2
  refine⟨p,C,dx,fs,rfl,h1,c,n,by rw[<- h2,gxC]at hl;exact hl,?_⟩
  exact L.nx ρ _ φ2 σ _ k2 ((f1.trans f2).trans f4) (A.mono ((f1.trans f2).trans f4)) (M2.put hp ⟨dx,_,upd_same,g1,g2⟩)
 | _=>exact k2.elim
structure CalM (P:Program)(w:World)(K:PySem.W.Frag)(mg:Str->Option Value)(base:Heap)(C:Addr)(m:Str)(k:Nat)(ps:List Str)(sp:Sp):Prop where
 ex:∃ f fd,FnOk P w K mg base CX0 k f fd ps sp/\Meth K C m f/\Binds K fd ps []
def dMeth (C:Addr)(m:Str)(f:DSp)(wo:De)(w:DA):De:=fun ρ μ K=>wo ρ μ fun x μ1=>match x with
 | .mr k=>(insM C μ1 k).map (fun q=>lookN m q.1 q.2)=some none/\w ρ μ1 fun ds μ2=>f (.mr k::ds) μ2 K
 | _=>False
theorem tD_meth {m:Str}{f:DSp}{wo:De}{w:DA}{σ:St}{H:Hp}{Q:VK}(h:tD (dMeth C m f wo w) σ H Q):tMeth C m (spD f) [] E0 (tD wo) (tDA w) σ H Q:=by
 obtain⟨φ,ρ,μ,K,A,M,k,L⟩:=h
 refine⟨φ,ρ,μ,_,A,M,k,fun d1 μ1 φ1 v1 H1 k1 f1 M1 i1=>?_⟩
 cases d1 with
 | mr j =>
  obtain⟨e1,k1⟩:=k1
  obtain⟨q,e2,e3⟩:=Option.map_eq_some_iff.mp e1
  have i1':=i1
  obtain⟨p,hp,rfl⟩:=i1
  obtain⟨p',e4,dx,fs,h1,h2,h3⟩:=M1.at_ j _ (insM_eq e2)
  rw[hp]at e4;cases e4
  rw[<- h2]at e3
  refine⟨p,dx,fs,rfl,h1,lookN_no h3 e3,φ1,ρ,μ1,_,A.mono f1,M1,k1,fun ds μ2 φ2 vs H2 k2 f2 M2 i2=>?_⟩
  show spD f (.ref p::(vs++[])) H2 Q E0
  rw[List.append_nil]
  exact⟨φ2,.mr j::ds,μ2,K,⟨_,vs,rfl,DIs.mono f2 i1',i2⟩,M2,k2,L.mono (f1.trans f2)⟩
 | _=>exact k1.elim
theorem d_meth {m:Str}{f:DSp}{wo:De}{w:DA}{apos:Pos}{pl:Sem Bool}{k:Nat}{ps:List Str}(CM:CalM X.prog X.w X.K X.mg X.base C m k ps (spD f))(c:Cls X.K C)(hr:Room k X.A)(ho:PD X o wo)(ha:PDA X (e::es) w)
 (hst:starEach (e::es) X.env=(false,eval e X.env)::starEach es X.env:=by rfl) (hpl:(backTo pos (starEach es X.env)).any (·.1)=false:=by rfl)
 (ht:eval (.Call (.Attribute o m apos) (e::es) [] pos) X.env=(do
   let ov <- eval o X.env
   standAt apos.atName
   let (f,first) <- holding [ov] (getMethod ov m pl)
   callWith pos f first (backTo pos (starEach (e::es) X.env)) (backToKw pos (keywordEach [] X.env))):=by rfl) :
 PD X (.Call (.Attribute o m apos) (e::es) [] pos) (dMeth C m f wo w):=by
 obtain⟨f',fd,F,hm,hb⟩:=CM.ex
 exact(pe_meth ho c hm F hr hb .nil pass0 ha hst hpl ht).imp fun σ H Q hq=>tD_meth hq
structure CalI (P:Program)(w:World)(K:PySem.W.Frag)(mg:Str->Option Value)(base:Heap)(x:Str)(C:Addr)(k:Nat)(ps:List Str)(sp:Sp):Prop where
 ex:∃ f fd,FnOk P w K mg base CX0 k f fd ps sp/\Mk K C f/\mg x=some (.ref C)/\Binds K fd ps []
def dMake (C:Addr)(f:DSp)(w:DA):De:=fun ρ μ K=>w ρ μ fun ds μ1=>f (.mr μ1.length::ds) (μ1++[.ins C [] []]) fun d μ2=>d=.non/\K (.mr μ1.length) μ2
theorem tD_make {f:DSp}{w:DA}{σ:St}{H:Hp}{Q:VK}(h:tD (dMake C f w) σ H Q):tMake C (spD f) [] E0 (tDA w) σ H Q:=by
 obtain⟨φ,ρ,μ,K,A,M,k,L⟩:=h
 refine⟨φ,ρ,μ,_,A,M,k,fun ds μ1 φ1 vs H1 k1 f1 M1 i1 x dx hx hdx ne=>?_⟩
 have S1:Same H1 (upd H1 dx (.own x)):=Same.upd hdx
 have hx':upd H1 dx (.own x) x=none:=by rw[upd_ne (Ne.symm ne)];exact hx
 have fa:Fr φ1 H1 φ1 (upd H1 dx (.own x)):=.same S1
 obtain⟨M2,f2⟩:=(M1.same S1).snoc (m:=.ins C [] []) (o:=.ins C dx []) hx' ⟨dx,[],upd_same,rfl,rfl⟩
 have f3:=fa.trans f2
 have hin:DIs (φ1++[x]) (upd (upd H1 dx (.own x)) x (.ins C dx [])) (.mr μ1.length) (.ref x):=⟨x,by rw[gxG (by rw[M1.len];exact Nat.le_refl _),M1.len,Nat.sub_self];rfl,rfl⟩
 show spD f (.ref x::(vs++[])) _ _ E0
 rw[List.append_nil]
 refine⟨φ1++[x],.mr μ1.length::ds,μ1++[.ins C [] []],_,⟨_,vs,rfl,hin,i1.mono f3⟩,M2,k1,fun d μ3 φ3 v H3 k3 f4 M3 i3=>?_⟩
 obtain⟨rfl,k3⟩:=k3
 exact⟨i3,L _ μ3 φ3 _ H3 k3 ((f1.trans f3).trans f4) M3 (hin.mono f4)⟩
theorem d_make {x:Str}{f:DSp}{w:DA}{p:Pos}{k:Nat}{ps:List Str}(CI:CalI X.prog X.w X.K X.mg X.base x C k ps (spD f))(hr:Room (k+1) X.A)(hg:Gl X x)(ha:PDA X (e::es) w)
 (hdb:(x==("__debug__" : Str))=false:=by decide) (he:starEach (e::es) X.env=(false,eval e X.env)::starEach es X.env:=by rfl) (hpl:(backTo pos (starEach es X.env)).any (·.1)=false:=by rfl) :
 PD X (.Call (.Name x p) (e::es) [] pos) (dMake C f w):=by
 obtain⟨f',fd,F,M,hm,hb⟩:=CI.ex
 exact(pe_make M F hr hg hm hb .nil pass0 ha hdb he hpl).imp fun σ H Q hq=>tD_make hq
theorem cal_of {P:Program}{w:World}{K:PySem.W.Frag}{mg:Str->Option Value}{base h:Heap}{x q:Str}{st:Stmt}{f:Addr}{fd:FuncData}{k:Nat}{ps:List Str}{sp:Sp}(G:K.In h)(N:h.Ns mainGlobals mg)(F:Fun K x q st f fd)(ok:FnOk P w K mg base CX0 k f fd ps sp)(hb:Binds K fd ps [])
 (a:PySem.W.nsIn K mainGlobals x=some (some (.ref f)):=by kernel_rfl):Cal P w K mg base x k ps sp:=⟨f,fd,ok,PySem.W.mg_of G N a,F.kp,hb⟩
theorem calm_of {P:Program}{w:World}{K:PySem.W.Frag}{mg:Str->Option Value}{base:Heap}{C:Addr}{x q:Str}{st:Stmt}{f:Addr}{fd:FuncData}{k:Nat}{ps:List Str}{sp:Sp}(F:Fun K x q st f fd)(ok:FnOk P w K mg base CX0 k f fd ps sp)(hb:Binds K fd ps [])
 (a:PySem.W.findIn K (.ref C) x=some (some (.ref f)):=by kernel_rfl) (i:PySem.W.isFn K (.ref f)=true:=by kernel_rfl):CalM P w K mg base C x k ps sp:=⟨f,fd,ok,⟨a,i,F.kp⟩,hb⟩
theorem cali_of {P:Program}{w:World}{K:PySem.W.Frag}{mg:Str->Option Value}{base h:Heap}{C:Addr}{y q:Str}{st:Stmt}{f:Addr}{fd:FuncData}{k:Nat}{ps:List Str}{sp:Sp}(G:K.In h)(N:h.Ns mainGlobals mg)(F:Fun K "__init__" q st f fd)(ok:FnOk P w K mg base CX0 k f fd ps sp)(hb:Binds K fd ps [])
 (n:PySem.W.nsIn K mainGlobals y=some (some (.ref C)):=by kernel_rfl) (a:PySem.W.findIn K (.ref C) "__init__"=some (some (.ref f)):=by kernel_rfl) (i:PySem.W.isFn K (.ref f)=true:=by kernel_rfl) (m:PySem.W.makesIn K C=true:=by kernel_rfl) (p:PySem.W.keepIn K (.ref C)=true:=by kernel_rfl):CalI P w K mg base y C k ps sp:=⟨f,fd,ok,⟨m,a,i,p⟩,PySem.W.mg_of G N n,hb⟩
def keysL:List D->Option (List Key)
 | []=>some []
 | d::ds=>(keyD d).bind fun k=>(keysL ds).map (k::·)
def keyT:D->Option (List Key)
 | .tup ds=>keysL ds
 | _=>none
theorem keysL_is {φ:List Addr}{H:Hp}:∀ {ds:List D} {vs:List V} {ks:List Key},keysL ds=some ks->DAll φ H ds vs->vs=ks.map kV
 | [],_,ks,e,h=>by cases e;exact h
 | d::ds,_,ks,e,h=>by
  obtain⟨v,r,rfl,h1,h2⟩:=h
  unfold keysL at e
  obtain⟨k,e1,e2⟩:=Option.bind_eq_some_iff.mp e
  obtain⟨ks',e3,rfl⟩:=Option.map_eq_some_iff.mp e2
  rw[keyD_is e1 h1,keysL_is e3 h2];rfl
theorem keyT_is {φ:List Addr}{H:Hp}{d:D}{v:V}{ks:List Key}(e:keyT d=some ks)(h:DIs φ H d v):∃ p,v=.ref p/\H p=some (.tup (ks.map kV)):=by
 cases d with
 | tup ds=>obtain⟨p,vs,rfl,_,hp,ha⟩:=h;exact⟨p,rfl,by rw[hp,keysL_is e ha]⟩
 | _=>cases e
def dtuM (μ:MS)(j:Nat):Option (List (List Key)×List D):=match μ[j]? with | some (.dtu ks ds)=>some (ks,ds) | _=>none
theorem dtuM_eq {μ:MS}{j:Nat}{q:List (List Key)×List D}(h:dtuM μ j=some q):μ[j]?=some (.dtu q.1 q.2):=by
 unfold dtuM at h
 split at h
 ·rename_i e;cases h;exact e
 ·cases h
def tval (ks:List (List Key))(ds:List D)(k:List Key):Option D:=match ks,ds with
 | k'::ks,d::ds=>if k'=k then some d else tval ks ds k
 | _,_=>none
def tput (ks:List (List Key))(ds:List D)(k:List Key)(d:D):List (List Key)×List D:=if(ks.any fun x=>decide (x=k))=true then(ks,(ks.zip ds).map fun p=>if p.1=k then d else p.2)else(ks++[k],ds++[d])
theorem tval_rel {φ:List Addr}{H:Hp}(k:List Key):∀ {kvs:List (List Key×V)} {ds:List D},DAll φ H ds (kvs.map (·.2))->(tval (kvs.map (·.1)) ds k=none/\valV kvs k=none)\/∃ d v,tval (kvs.map (·.1)) ds k=some d/\valV kvs k=some v/\DIs φ H d v
 | [],ds,h=>.inl ⟨by cases ds <;> rfl,rfl⟩
 | p::kvs,ds,h=>by
  cases ds with
  | nil=>cases(show _=_ from h)
  | cons d0 ds =>
   obtain⟨v,r,e,h4,h5⟩:=h
   simp only[List.map_cons,List.cons.injEq]at e
   obtain⟨rfl,rfl⟩:=e
   simp only[List.map_cons,tval]
   by_cases hk:p.1=k
   ·rw[if_pos hk];exact .inr ⟨_,_,rfl,valV_pos hk,h4⟩
   ·rw[if_neg hk,valV_neg hk];exact tval_rel k h5
theorem tput_rel {φ:List Addr}{H:Hp}{k:List Key}{d:D}{v:V}(hd:DIs φ H d v){kvs:List (List Key×V)}{ds:List D}(ha:DAll φ H ds (kvs.map (·.2))) :
 (putK kvs k v).map (·.1)=(tput (kvs.map (·.1)) ds k d).1/\DAll φ H (tput (kvs.map (·.1)) ds k d).2 ((putK kvs k v).map (·.2)):=by
 have ea:(kvs.any fun p=>decide (p.1=k))=(kvs.map (·.1)).any fun x=>decide (x=k):=by rw[List.any_map];rfl
 unfold putK tput
 rw[ea]
 by_cases q:((kvs.map (·.1)).any fun x=>decide (x=k))=true
 ·rw[if_pos q,if_pos q]
  clear q ea
  induction kvs generalizing ds with
  | nil=>cases(show ds=[] by cases ds with | nil=>rfl | cons _ _=>obtain⟨_,_,e,_⟩:=ha;cases e);exact⟨rfl,rfl⟩
  | cons p kvs ih =>
   cases ds with
   | nil=>cases(show _=_ from ha)
   | cons d0 ds =>
    obtain⟨v0,r,e2,h4,h5⟩:=ha
    simp only[List.map_cons,List.cons.injEq]at e2
    obtain⟨rfl,rfl⟩:=e2
    obtain⟨i1,i2⟩:=ih h5
    simp only[List.map_cons,List.zip_cons_cons]at i1 ⊢
    by_cases hk:p.1=k
    ·rw[if_pos hk,if_pos hk];exact⟨by rw[i1],_,_,rfl,hd,i2⟩
    ·rw[if_neg hk,if_neg hk];exact⟨by rw[i1],_,_,rfl,h4,i2⟩
 ·rw[if_neg q,if_neg q,List.map_append,List.map_append]
  exact⟨rfl,ha.app ⟨v,[],rfl,hd,rfl⟩⟩
def dNewT:De:=fun _ μ K=>K (.mr μ.length) (μ++[.dtu [] []])
theorem d_dnewT:PD X (.Dict [] [] pos) dNewT:=pe_dnewT.imp fun σ H Q hq p hp=>by
 obtain⟨φ,ρ,μ,K,A,M,k,L⟩:=hq
 obtain⟨M',f'⟩:=M.snoc (m:=.dtu [] []) (o:=.dT []) hp ⟨[],upd_same,rfl,rfl⟩
 exact L _ _ _ _ _ k f' M' ⟨p,by rw[gxG (by rw[M.len];exact Nat.le_refl _),M.len,Nat.sub_self];rfl,rfl⟩
def ixT (μ:MS)(j:Nat)(y:D):Option (Option D):=(dtuM μ j).bind fun q=>(keyT y).map fun k=>tval q.1 q.2 k
theorem ixT_ex {φ:List Addr}{H:Hp}{μ:MS}{j:Nat}{y:D}{o:Option D}{vx vy:V}(M:MSis φ H μ)(ix:DIs φ H (.mr j) vx)(iy:DIs φ H y vy)(h:ixT μ j y=some o) :
 ∃ p kvs k b,vx=.ref p/\H p=some (.dT kvs)/\vy=.ref b/\H b=some (.tup (k.map kV))/\((o=none/\valV kvs k=none)\/∃ d v,o=some d/\valV kvs k=some v/\DIs φ H d v):=by
 obtain⟨q,e1,e2⟩:=Option.bind_eq_some_iff.mp h
 obtain⟨k,e3,rfl⟩:=Option.map_eq_some_iff.mp e2
 obtain⟨p,hp,rfl⟩:=ix
 obtain⟨p',e4,kvs,h1,h2,h3⟩:=M.at_ j _ (dtuM_eq e1)
 rw[hp]at e4;cases e4
 obtain⟨b,rfl,hb⟩:=keyT_is e3 iy
 refine⟨p,kvs,k,b,rfl,h1,rfl,hb,?_⟩
 rw[<- h2]
 exact tval_rel k h3
def dIxT:DOp:=fun x y μ K=>match x with
 | .mr j=>∃ d,ixT μ j y=some (some d)/\K d μ
 | _=>False
theorem d_ixT {wa wb:De}(hu:X.A.units+1<cLine)(ha:PD X a wa)(hb:PD X b wb)(hs:NoSl b):PD X (.Subscript a b pos) (dOp dIxT wa wb):=(pe_dget hu ha hb hs).imp fun σ H Q hq=>by
 obtain⟨φ,ρ,μ,K,A,M,k,L⟩:=hq
 refine⟨φ,ρ,μ,_,A,M,k,fun d1 μ1 φ1 v1 H1 k1 f1 M1 i1=>?_⟩
 refine⟨φ1,ρ,μ1,_,A.mono f1,M1,k1,fun d2 μ2 φ2 v2 H2 k2 f2 M2 i2=>?_⟩
 cases d1 with
 | mr j =>
  obtain⟨d,ex,k2⟩:=k2
  obtain⟨p,kvs,k,b,rfl,h1,rfl,hb,z⟩:=ixT_ex M2 (i1.mono f2) i2 ex
  rcases z with⟨z,_⟩ | ⟨d',v,z,ev,iv⟩
  ·cases z
  ·cases z
   exact⟨p,v,rfl,by rw[<- ev];exact DGet.t h1 hb,L _ μ2 φ2 _ H2 k2 (f1.trans f2) M2 iv⟩
 | _=>exact k2.elim
def dNotInT:DOp:=fun x y μ K=>match y with
 | .mr j=>∃ o,ixT μ j x=some o/\K (.bl (!o.isSome)) μ
 | _=>False
theorem tD_notinT {wa wb:De}{σ:St}{H:Hp}{Q:VK}(h:tD (dOp dNotInT wa wb) σ H Q):tDNotIn (tD wa) (tD wb) σ H Q:=by
 obtain⟨φ,ρ,μ,K,A,M,k,L⟩:=h
 refine⟨φ,ρ,μ,_,A,M,k,fun d1 μ1 φ1 v1 H1 k1 f1 M1 i1=>?_⟩
 refine⟨φ1,ρ,μ1,_,A.mono f1,M1,k1,fun d2 μ2 φ2 v2 H2 k2 f2 M2 i2=>?_⟩
 cases d2 with
 | mr j =>
  obtain⟨oo,ex,k2⟩:=k2
  obtain⟨p,kvs,k,b,rfl,h1,rfl,hb,z⟩:=ixT_ex M2 i2 (i1.mono f2) ex
  refine⟨p,valV kvs k,rfl,DGet.t h1 hb,?_⟩
  have es:(valV kvs k).isSome=oo.isSome:=by
   rcases z with⟨g1,g2⟩ | ⟨d,v,g1,g2,_⟩
   ·rw[g1,g2];rfl
   ·rw[g1,g2];rfl
  rw[es]
  exact L _ μ2 φ2 _ H2 k2 (f1.trans f2) M2 rfl
 | _=>exact k2.elim
theorem t_notinT {wa wb:De}(hu:X.A.units+1<cLine)(ha:PD X a wa)(hb:PD X b wb)(hmk:behindInMarks .NotIn b=false):PDT X (.Compare a [.NotIn] [b] pos) (dTst (dOp dNotInT wa wb)):=(pt_cmp (pc_dnotin hu ha hb) hmk).imp fun σ H Q hq=>by
 obtain⟨φ,ρ,μ,K,E,M,k,L⟩:=hq
 refine tD_notinT ⟨φ,ρ,μ,_,E,M,k,fun d μ' φ' v H' k' f M' i=>?_⟩
 cases d with
 | bl b=>cases(show v=_ from i);exact⟨b,rfl,L b μ' φ' H' k' f M'⟩
 | _=>exact k'.elim
def dAsgT (w wo wi:De):Ds:=fun N ρ μ=>w ρ μ fun d μ1=>wo ρ μ1 fun o μ2=>wi ρ μ2 fun i μ3=>match o with
 | .mr j=>∃ ks ds k,μ3[j]?=some (.dtu ks ds)/\ks.length<sizeLine/\keyT i=some k/\N.nx ρ (μ3.set j (.dtu (tput ks ds k d).1 (tput ks ds k d).2))
 | _=>False
theorem s_asgT {i:Expr}{w wo wi:De}{pos':Pos}(hu:X.A.units+1<cLine)(he:PD X e w)(ho:PD X o wo)(hi:PD X i wi)(hs:swapsWith e (some (.Subscript o i pos')) pos.line X.env=pure false:=by rfl) :
 PDS X (.Assign [.Subscript o i pos'] e pos) (dAsgT w wo wi):=(ps_dput hu ho hi he hs).imp fun E σ H hq=>by
 obtain⟨φ,ρ,μ,N,A,M,w,L⟩:=hq
 refine⟨φ,ρ,μ,_,A,M,w,fun d μ1 φ1 v1 H1 k1 f1 M1 i1=>?_⟩
 refine⟨φ1,ρ,μ1,_,A.mono f1,M1,k1,fun d2 μ2 φ2 v2 H2 k2 f2 M2 i2=>?_⟩
 refine⟨φ2,ρ,μ2,_,A.mono (f1.trans f2),M2,k2,fun d3 μ3 φ3 v3 H3 k3 f3 M3 i3=>?_⟩
 cases d2 with
 | mr j =>
  obtain⟨ks,ds,k,em,hl,ek,k3⟩:=k3
  obtain⟨p,hp,rfl⟩:=i2.mono f3
  obtain⟨p',e1,kvs,hv,h1,ha⟩:=M3.at_ j _ em
  rw[hp]at e1;cases e1
  obtain⟨b,rfl,hb⟩:=keyT_is ek i3
  have f4:Fr φ3 H3 φ3 (upd H3 p (.dT (putK kvs k v1))):=.put (gxD hp)
  obtain⟨g1,g2⟩:=tput_rel (k:=k) ((i1.mono (f2.trans f3)).mono f4) (ha.mono f4)
  rw[h1]at g1 g2
  refine⟨p,_,rfl,DPut.t hv hb (by have:=congrArg List.length h1;rw[gxC]at this;omega),?_⟩
  exact L.nx ρ _ φ3 σ _ k3 ((f1.trans (f2.trans f3)).trans f4) (A.mono ((f1.trans (f2.trans f3)).trans f4)) (M3.put (k:=j) hp ⟨putK kvs k v1,upd_same,g1,g2⟩)
 | _=>exact k3.elim
end
def nTk (es:List Int)(ts:List Tk)(a:Int)(i j:Nat):List Nat:=(List.range ts.length).filter fun x=>match ts[x]? with
 | some t=>decide (t.2<=a)&&decide (es.getD j 0<=farF es t.1 (es.getD i 0))
 | none=>false
def midP (T U:Nat->Nat->Int)(i j:Nat):List Nat:=((List.range (j - (i+1))).map (i+1+·)).filter fun k=>decide (U i k+U k j+1=T i j)
def ctP (es:List Int)(ts:List Tk):Nat->Nat->Nat->Int
 | 0,_,_=>0
 | a+1,i,j=>if tabP es ts (a+1) i j=0 then((nTk es ts a i j).length:Nat)else((midP (tabP es ts (a+1)) (tabP es ts a) i j).map fun k=>ctP es ts a i k*ctP es ts a k j).sum
theorem mid_mem {T U:Nat->Nat->Int}{i j k:Nat}:k∈midP T U i j↔i<k/\k<j/\U i k+U k j+1=T i j:=by
 unfold midP
 rw[List.mem_filter,List.mem_map,decide_eq_true_eq]
 constructor
 ·rintro⟨⟨x,hx,rfl⟩,h⟩
  rw[List.mem_range]at hx
  exact⟨by omega,by omega,h⟩
 ·rintro⟨h1,h2,h3⟩
  exact⟨⟨k - (i+1),List.mem_range.mpr (by omega),by omega⟩,h3⟩
theorem mid_len (T U:Nat->Nat->Int)(i j:Nat):(midP T U i j).length<=j - (i+1):=by
 unfold midP
 refine Nat.le_trans (List.length_filter_le _ _) ?_
 rw[gxC,gxJ];exact Nat.le_refl _
theorem nTk_len (es:List Int)(ts:List Tk)(a:Int)(i j:Nat):(nTk es ts a i j).length<=ts.length:=by
 unfold nTk
 refine Nat.le_trans (List.length_filter_le _ _) ?_
 rw[gxJ];exact Nat.le_refl _
theorem sum_le {f:Nat->Int}{B:Int}(hB:0<=B):∀ {l:List Nat},(∀ x∈l,0<=f x/\f x<=B)->0<=(l.map f).sum/\(l.map f).sum<=(l.length:Int)*B
 | [],_=>by simp
 | x::l,h=>by
  have h1:=h x (by simp)
  have h2:=sum_le hB (l:=l) fun y hy=>h y (by simp[hy])
  rw[List.map_cons,List.sum_cons,List.length_cons]
  refine⟨by omega,?_⟩
  have e:(((l.length+1:Nat):Int))*B=(l.length:Int)*B+B:=by rw[Int.natCast_add,Int.add_mul];simp
  omega
theorem ct_bd {es:List Int}{ts:List Tk}(hL:es.length<=100)(ht:ts.length<=100):∀(a i j:Nat),i<j->j<es.length->0<=ctP es ts a i j/\ctP es ts a i j<=128 ^ (2*(j - i) - 1)
 | 0,i,j,_,_=>⟨by show(0:Int)<=0;omega,by show(0:Int)<=_;exact Int.le_of_lt (Int.pow_pos (by omega))⟩
 | a+1,i,j,hij,hj=>by
  have hp:∀ n:Nat,(0:Int)<128 ^ n:=fun n=>Int.pow_pos (by omega)
  have e1:(128:Int) ^ (2*(j - i) - 1)=128 ^ (2*(j - i) - 2)*128:=by rw[<- Int.pow_succ,show(2*(j - i) - 2).succ=2*(j - i) - 1 by omega]
  have hq:=hp (2*(j - i) - 2)
  rw[e1]
  generalize hB:(128:Int) ^ (2*(j - i) - 2)=B at hq ⊢
  show 0<=(if tabP es ts (a+1) i j=0 then(((nTk es ts a i j).length:Nat):Int)else _)/\(if tabP es ts (a+1) i j=0 then(((nTk es ts a i j).length:Nat):Int)else _)<=_
  split
  ·have:=nTk_len es ts a i j
   refine⟨by omega,?_⟩
   omega
  ·have hm:=mid_len (tabP es ts (a+1)) (tabP es ts a) i j
   have key:∀ k∈midP (tabP es ts (a+1)) (tabP es ts a) i j,0<=ctP es ts a i k*ctP es ts a k j/\ctP es ts a i k*ctP es ts a k j<=B:=fun k hk=>by
    obtain⟨h1,h2,_⟩:=mid_mem.mp hk
    have b1:=ct_bd hL ht a i k h1 (by omega)
    have b2:=ct_bd hL ht a k j h2 hj
    refine⟨Int.mul_nonneg b1.1 b2.1,?_⟩
    have:=Int.mul_le_mul b1.2 b2.2 b2.1 (Int.le_of_lt (hp _))
    rw[<- Int.pow_add]at this
    rw[<- hB,show 2*(j - i) - 2=2*(k - i) - 1+(2*(j - k) - 1) by omega]
    exact this
   obtain⟨s1,s2⟩:=sum_le (Int.le_of_lt hq) key
   refine⟨s1,Int.le_trans s2 ?_⟩
   rw[Int.mul_comm B]
   exact Int.mul_le_mul_of_nonneg_right (by omega) (Int.le_of_lt hq)
theorem bits_of {x:Int}{d:Nat}(h0:0<=x)(h:x<=128 ^ d)(hd:d<=2000):Builtin.Int.intBits x<=2 ^ 20:=by
 refine intBits_le_iff.mpr ?_
 have e:(128:Int) ^ d=((2 ^ (7*d):Nat):Int):=by rw[Nat.pow_mul];norm_cast
 have h1:x.natAbs<=2 ^ (7*d):=by omega
 refine Nat.lt_of_le_of_lt h1 (Nat.pow_lt_pow_right (by omega) ?_)
 have:(2:Nat) ^ 20=1048576:=by decide
 omega
theorem ct_mul {es:List Int}{ts:List Tk}(hL:es.length<=100)(ht:ts.length<=100)(a i k j:Nat)(h1:i<k)(h2:k<j)(hj:j<es.length):IntMulOk (ctP es ts a i k) (ctP es ts a k j):=by
 have b1:=ct_bd hL ht a i k h1 (by omega)
 have b2:=ct_bd hL ht a k j h2 hj
 exact .of_bits (bits_of b1.1 b1.2 (by omega)) (bits_of b2.1 b2.2 (by omega))
section
variable {X:Cx}
theorem mulB:OpR X (binaryOp .Mult) (rI IntMulOk fun i j=>.int (i*j)):=opI fun _ _ _ _ _ _ _ hc q=>mul_int q hc
end
def dMulB:DOp:=fun x y μ K=>match x,y with
 | .int i,.int j=>IntMulOk i j/\K (.int (i*j)) μ
 | _,_=>False
theorem so_mulB:SoOp (rI IntMulOk fun i j=>.int (i*j)) dMulB:=fun φ H x y dx dy μ K Q M hx hy k L=>by
 unfold dMulB at k
 split at k
 ·cases(show x=_ from hx);cases(show y=_ from hy);exact⟨_,_,rfl,rfl,k.1,L.val M k.2 rfl⟩
 ·exact k.elim
def stD (a:Int)(i j:Nat):D:=.tup [.int a,.int i,.int j]
def stK (a i j:Nat):List Key:=[.inl (a:Int),.inl (i:Int),.inl (j:Int)]
theorem stK_inj {a i j b k l:Nat}(h:stK a i j=stK b k l):a=b/\i=k/\j=l:=by
 unfold stK at h
 simp only[List.cons.injEq,Sum.inl.injEq,and_true]at h
 omega
def bmN:List Str:=["places", "rows", "tables", "whole", "counts"]
def bmV (es:List Int)(ts:List Tk)(A j:Nat):List D:=[.lst (es.map D.int),.lst (ts.map (rowTD es)),.dic (keysD (A+1)) (tabsD es ts (A+1)),stD A 0 (es.length - 1),.mr j]
inductive Memo (es:List Int)(ts:List Tk)(A:Nat):List (List Key)->List D->Prop
 | nil:Memo es ts A [] []
 | add {ks:List (List Key)} {ds:List D} (h:Memo es ts A ks ds) {a i j:Nat} (ha:a<=A) (hi:i<es.length) (hj:j<es.length) (hn:stK a i j∉ks):Memo es ts A (ks++[stK a i j]) (ds++[.int (ctP es ts (a+1) i j)])
theorem Memo.len {es:List Int}{ts:List Tk}{A:Nat}{ks:List (List Key)}{ds:List D}(h:Memo es ts A ks ds):ds.length=ks.length:=by
 induction h with
 | nil=>rfl
 | add h ha hi hj hn ih=>simp[ih]
theorem tval_app {ks ks':List (List Key)}{ds ds':List D}(k:List Key)(hl:ds.length=ks.length):tval (ks++ks') (ds++ds') k=match tval ks ds k with | some d=>some d | none=>tval ks' ds' k:=by
 induction ks generalizing ds with
 | nil=>cases ds with
  | nil=>rfl
  | cons _ _=>cases hl
 | cons k0 ks ih =>
  cases ds with
  | nil=>cases hl
  | cons d ds =>
   simp only[List.cons_append,tval]
   by_cases h:k0=k
   ·rw[if_pos h,if_pos h]
   ·rw[if_neg h,if_neg h];exact ih (by simpa using hl)
theorem Memo.get {es:List Int}{ts:List Tk}{A:Nat}{ks:List (List Key)}{ds:List D}(h:Memo es ts A ks ds)(a i j:Nat):(stK a i j∉ks/\tval ks ds (stK a i j)=none)\/(stK a i j∈ks/\tval ks ds (stK a i j)=some (.int (ctP es ts (a+1) i j))):=by
 induction h with
 | nil=>exact .inl ⟨by simp,rfl⟩
 | @add ks ds h b k l ha hi hj hn ih =>
  rw[tval_app _ h.len]
  rcases ih with⟨h1,h2⟩ | ⟨h1,h2⟩
  ·rw[h2]
   by_cases e:stK b k l=stK a i j
   ·obtain⟨rfl,rfl,rfl⟩:=stK_inj e
    right
    exact⟨by simp,by simp[tval]⟩
   ·left
    refine⟨fun z=>?_,by simp only[tval];rw[if_neg e]⟩
    rcases List.mem_append.mp z with z | z
    ·exact h1 z
    ·exact e (List.mem_singleton.mp z).symm
  ·rw[h2];right;exact⟨List.mem_append_left _ h1,rfl⟩
def stN (L a i j:Nat):Nat:=(a*L+i)*L+j
theorem nodup_bd:∀(N:Nat) (l:List Nat),l.Nodup->(∀ x∈l,x<N)->l.length<=N
 | 0,l,_,h=>by
  cases l with
  | nil=>exact Nat.le_refl _
  | cons x l=>exact absurd (h x (by simp)) (Nat.not_lt_zero _)
 | N+1,l,nd,h=>by
  have h1:=nodup_bd N (l.filter fun x=>decide (x≠N)) (nd.sublist List.filter_sublist) fun x hx=>by
   rw[List.mem_filter,decide_eq_true_eq]at hx
   have:=h x hx.1;omega
  have h2:l.length<=(l.filter fun x=>decide (x≠N)).length+1:=by
   clear h1 h
   induction l with
   | nil=>simp
   | cons x l ih =>
    rw[List.nodup_cons]at nd
    rw[List.filter_cons]
    by_cases e:x=N
    ·subst e
     have:l.filter (fun y=>decide (y≠x))=l:=List.filter_eq_self.mpr fun y hy=>by
      rw[decide_eq_true_eq];rintro rfl;exact nd.1 hy
     rw[if_neg (by simp),this,List.length_cons]
     omega
    ·rw[if_pos (by simp[e]),List.length_cons,List.length_cons]
     have:=ih nd.2;omega
  omega
theorem Memo.codes {es:List Int}{ts:List Tk}{A:Nat}{ks:List (List Key)}{ds:List D}(h:Memo es ts A ks ds):∃ cs:List (Nat×Nat×Nat),cs.Nodup/\(∀ c∈cs,c.1<=A/\c.2.1<es.length/\c.2.2<es.length)/\ks=cs.map fun c=>stK c.1 c.2.1 c.2.2:=by
 induction h with
 | nil=>exact⟨[],by simp,by simp,rfl⟩
 | @add ks ds h a i j ha hi hj hn ih =>
  obtain⟨cs,h1,h2,rfl⟩:=ih
  refine⟨cs++[(a,i,j)],?_,?_,by simp⟩
  ·rw[List.nodup_append]
   refine⟨h1,by simp,fun x hx y hy=>?_⟩
   rw[List.mem_singleton.mp hy]
   rintro rfl
   exact hn (List.mem_map.mpr ⟨_,hx,rfl⟩)
  ·intro c hc
   rcases List.mem_append.mp hc with hc | hc
   ·exact h2 c hc
   ·rw[List.mem_singleton.mp hc];exact⟨ha,hi,hj⟩
theorem stN_lt {L a i j A:Nat}(ha:a<=A)(hi:i<L)(hj:j<L):stN L a i j<(A+1)*L*L:=by
 unfold stN
 have h1:a*L+i<(A+1)*L:=by
  have:(a+1)*L<=(A+1)*L:=Nat.mul_le_mul_right L (by omega)
  rw[Nat.add_mul]at this;omega
 have h2:(a*L+i+1)*L<=(A+1)*L*L:=Nat.mul_le_mul_right L h1
 rw[Nat.add_mul]at h2;omega
theorem two_inj {L x y x' y':Nat}(hy:y<L)(hy':y'<L)(h:x*L+y=x'*L+y'):x=x'/\y=y':=by
 have hL:0<L:=by omega
 have q:∀ u v:Nat,v<L->(u*L+v) / L=u:=fun u v hv=>by rw[Nat.mul_comm,Nat.mul_add_div hL,Nat.div_eq_of_lt hv,Nat.add_zero]
 have e:x=x':=by rw[<- q x y hy,h,q x' y' hy']
 subst e
 exact⟨rfl,by omega⟩
theorem stN_inj {L a i j b k l:Nat}(hi:i<L)(hj:j<L)(hk:k<L)(hl:l<L)(h:stN L a i j=stN L b k l):a=b/\i=k/\j=l:=by
 obtain⟨h1,h2⟩:=two_inj hj hl h
 obtain⟨h3,h4⟩:=two_inj hi hk h1
 exact⟨h3,h4,h2⟩
theorem Memo.bd {es:List Int}{ts:List Tk}{A:Nat}{ks:List (List Key)}{ds:List D}(h:Memo es ts A ks ds):ks.length<=(A+1)*es.length*es.length:=by
 obtain⟨cs,h1,h2,rfl⟩:=h.codes
 rw[gxC]
 have:=nodup_bd ((A+1)*es.length*es.length) (cs.map fun c=>stN es.length c.1 c.2.1 c.2.2) ?_ ?_
 ·rwa [gxC]at this
 ·refine List.pairwise_map.mpr (List.Pairwise.imp_of_mem (fun {x y} hx hy ne e=>ne ?_) h1)
  obtain⟨x1,x2,x3⟩:=h2 _ hx
  obtain⟨y1,y2,y3⟩:=h2 _ hy
  obtain⟨e1,e2,e3⟩:=stN_inj x2 x3 y2 y3 e
  exact Prod.ext e1 (Prod.ext e2 e3)
 ·intro x hx
  obtain⟨c,hc,rfl⟩:=List.mem_map.mp hx
  obtain⟨a1,a2,a3⟩:=h2 c hc
  exact stN_lt a1 a2 a3
structure Bm (C:Addr)(μ:MS)(k:Nat)(es:List Int)(ts:List Tk)(A j a i b:Nat):Prop where
 at_:μ[k]?=some (.ins C bmN (bmV es ts A j))
 ha:a<=A
 hib:i<b
 hb:b<es.length
 hl:es.length<=100
 ht:ts.length<=100
 hA:A<=100
 ok:tabP es ts (a+1) i b<(es.length:Int) - 1
theorem fldE {C:Addr}{μ:MS}{k:Nat}{ns:List Str}{ds:List D}{f:Str}{d:D}(h:μ[k]?=some (.ins C ns ds))(e:lookN f ns ds=some d):(insM C μ k).bind (fun q=>lookN f q.1 q.2)=some d:=by rw[insM_of h];exact e
theorem metE {C:Addr}{μ:MS}{k:Nat}{ns:List Str}{ds:List D}{f:Str}(h:μ[k]?=some (.ins C ns ds))(e:lookN f ns ds=none):(insM C μ k).map (fun q=>lookN f q.1 q.2)=some none:=by rw[insM_of h];exact congrArg some e
section
variable {es:List Int}{ts:List Tk}{A j:Nat}
theorem bm_places:lookN "places" bmN (bmV es ts A j)=some (.lst (es.map D.int)):=by kernel_rfl
theorem bm_rows:lookN "rows" bmN (bmV es ts A j)=some (.lst (ts.map (rowTD es))):=by kernel_rfl
theorem bm_tables:lookN "tables" bmN (bmV es ts A j)=some (.dic (keysD (A+1)) (tabsD es ts (A+1))):=by kernel_rfl
theorem bm_whole:lookN "whole" bmN (bmV es ts A j)=some (stD A 0 (es.length - 1)):=by kernel_rfl
theorem bm_counts:lookN "counts" bmN (bmV es ts A j)=some (.mr j):=by kernel_rfl
theorem bm_m {f:Str}(h:f∈([("is_take" : Str), "clean_takes", "halves", "counted", "count_anew", "numbered", "rank"]:List Str)):lookN f bmN (bmV es ts A j)=none:=by
 simp only[List.mem_cons,List.not_mem_nil,or_false]at h
 rcases h with rfl | rfl | rfl | rfl | rfl | rfl | rfl <;> kernel_rfl
theorem tabs_at {a:Nat}(ha:a<=A):dval ((keysD (A+1)).zip (tabsD es ts (A+1))) (.inl (a:Int))=some (.lst (tabR es.length (tabP es ts (a+1)))) :=
 dval_at (xs:=List.range (A+1)) (k:=a) (fun k=>D.lst (tabR es.length (tabP es ts (k+1)))) (List.mem_range.mpr (by omega))
theorem tab_at {T:Nat->Nat->Int}{L i:Nat}(h:i<L):atI (tabR L T) (i:Int)=some (.lst (rowI L (T i))):=atI_nat (tabR_get h)
theorem row_at {f:Nat->Int}{L i:Nat}(h:i<L):atI (rowI L f) (i:Int)=some (.int (f i)):=atI_nat (rowI_get h)
end
def fIsTake (C:Addr):DSp:=fun ds μ K=>match ds with
 | [.mr k,s]=>∃(es:List Int) (ts:List Tk) (A j a i b:Nat),Bm C μ k es ts A j a i b/\s=stD a i b/\K (.bl (decide (tabP es ts (a+1) i b=0))) μ
 | _=>False
def fCleanT (C:Addr):DSp:=fun ds μ K=>match ds with
 | [.mr k,s]=>∃(es:List Int) (ts:List Tk) (A j a i b:Nat),Bm C μ k es ts A j a i b/\s=stD a i b/\K (.lst ((nTk es ts a i b).map fun x=>.int (x:Nat))) μ
 | _=>False
def halfD (es:List Int)(a i b k:Nat):D:=.tup [.int (es.getD k 0),stD ((a:Int) - 1) i k,stD ((a:Int) - 1) k b]
def fHalves (C:Addr):DSp:=fun ds μ K=>match ds with
 | [.mr k,s]=>∃(es:List Int) (ts:List Tk) (A j a i b:Nat),Bm C μ k es ts A j a i b/\s=stD a i b/\1<=a/\K (.lst ((midP (tabP es ts (a+1)) (tabP es ts a) i b).map (halfD es a i b))) μ
 | _=>False
structure TbOk (es:List Int)(ts:List Tk):Prop where
 nn:∀ a x y,x<es.length->y<es.length->0<=tabP es ts a x y
 z:∀ x y,x<es.length->y<es.length->tabP es ts 1 x y<(es.length:Int) - 1->tabP es ts 1 x y=0
def fCnt (C:Addr)(n:Nat):DSp:=fun ds μ K=>match ds with
 | [.mr k,s]=>∃(es:List Int) (ts:List Tk) (A j a i b:Nat) (ks:List (List Key)) (dd:List D),Bm C μ k es ts A j a i b/\s=stD a i b/\a<n/\TbOk es ts/\k≠j/\μ[j]?=some (.dtu ks dd)/\Memo es ts A ks dd /\
  ∀ ks' dd',Memo es ts A ks' dd'->K (.int (ctP es ts (a+1) i b)) (μ.set j (.dtu ks' dd'))
 | _=>False
theorem Bm.put {C:Addr}{μ:MS}{k:Nat}{es:List Int}{ts:List Tk}{A j a i b:Nat}{m:MO}(h:Bm C μ k es ts A j a i b)(hk:k≠j):Bm C (μ.set j m) k es ts A j a i b:=⟨by rw[List.getElem?_set_ne (Ne.symm hk)];exact h.at_,h.ha,h.hib,h.hb,h.hl,h.ht,h.hA,h.ok⟩
theorem FnOk.never {P:Program}{w:World}{K:PySem.W.Frag}{mg:Str->Option Value}{base:Heap}{CX:CXT}{k:Nat}{f:Addr}{fd:FuncData}{ps:List Str}{sp:Sp}(h:∀ vs H Q E,¬ sp vs H Q E):FnOk P w K mg base CX k f fd ps sp :=
 ⟨fun vs H Q E q=>(h vs H Q E q).elim,fun A outer s H args us vs Q E _ _ _ _ q=>(h vs H Q E q).elim⟩
theorem fCnt_zero {C:Addr}(vs:List V)(H:Hp)(Q:VK)(E:XK):¬ spD (fCnt C 0) vs H Q E:=fun h=>by
 obtain⟨φ,ds,μ,K,_,_,h,_⟩:=h
 unfold fCnt at h
 split at h
 ·obtain⟨es,ts,A,j,a,i,b,ks,dd,_,_,h,_⟩:=h;omega
 ·exact h
def fInit (C:Addr):DSp:=fun ds μ K=>match ds with
 | [.mr k,.int n,.lst x,.lst y]=>∃(cs:List Int) (ts:List Tk),x=cs.map D.int/\y=ts.map tkD/\Shelf n cs ts/\cs.length<=60/\barOf (endsOf n cs) ts=none/\μ[k]?=some (.ins C [] []) /\
  ∀ A:Nat,A<=66->LeastIs (endsOf n cs) ts n A->K .non (μ.set k (.ins C bmN (bmV (endsOf n cs) ts A μ.length))++[.dtu [] []])
 | _=>False
def cntK (es:List Int)(ts:List Tk)(n:Int)(μ:MS)(K:DK):Prop:=match barOf es ts with
 | some _=>K (.int 0) μ
 | none=>∀ a:Nat,a<=66->LeastIs es ts n a->K (.int (ctP es ts (a+1) 0 (es.length - 1))) μ
def fCountBest:DSp:=fun ds μ K=>match ds with
 | [.int n,.lst x,.lst y]=>∃(cs:List Int) (ts:List Tk),x=cs.map D.int/\y=ts.map tkD/\Shelf n cs ts/\cs.length<=60/\cntK (endsOf n cs) ts n μ K
 | _=>False
theorem tab1_zero {n:Int}{cs:List Int}{ts:List Tk}(S:Shelf n cs ts)(x y:Nat)(hx:x<(endsOf n cs).length)(hy:y<(endsOf n cs).length)(h:tabP (endsOf n cs) ts 1 x y<((endsOf n cs).length:Int) - 1):tabP (endsOf n cs) ts 1 x y=0:=by
 have s0:=sideT S 0
 have s1:=sideT S 1 x y hx hy
 by_cases q:y<=x
 ·exact s1.1 q
 ·rcases s1.2 (by omega)with⟨_,e⟩ | ⟨g1,g2,g3⟩
  ·omega
  ·rw[g3]
   have:tabL (endsOf n cs) ts 1 x y<=1:=by
    show stepL (endsOf n cs) (ownR (endsOf n cs) ts (0:Nat)) (tabL (endsOf n cs) ts 0) x y<=1
    unfold stepL
    split
    ·omega
    ·split
     ·omega
     ·have:candL (tabL (endsOf n cs) ts 0) x y=[]:=List.eq_nil_iff_forall_not_mem.mpr fun v hv=>by
       obtain⟨k,_,_,z,_⟩:=cand_mem.mp hv
       exact absurd z (by show ¬ (0:Int)<0*0;omega)
      rw[this];show(0:Int)<=1;omega
   omega
theorem fm_if {α:Type}(p:α->Bool)(f:α->D):∀ xs:List α,xs.filterMap (fun x=>if p x=true then some (f x)else none)=(xs.filter p).map f
 | []=>rfl
 | x::xs=>by
  rw[List.filterMap_cons,List.filter_cons]
  by_cases h:p x=true
  ·rw[if_pos h,if_pos h];show _::_=_;rw[fm_if p f xs];rfl
  ·rw[if_neg h,if_neg h];exact fm_if p f xs
theorem enum_range (ds:List D):enumD ds=(List.range ds.length).map fun x=>D.tup [.int (x:Nat),ds.getD x .non]:=by
 apply List.ext_getElem?
 intro i
 rw[gxH]
 by_cases h:i<ds.length
 ·rw[List.getElem?_range h]
  unfold enumD
  rw[List.getElem?_zipWith,List.getElem?_range h,gxA h]
  simp[List.getD_eq_getElem?_getD,gxA h]
 ·rw[List.getElem?_eq_none (by rw[enumD_len];omega),List.getElem?_eq_none (by rw[gxJ];omega)];rfl
theorem rng_map (i:Int)(n:Nat):rngD i n=(List.range n).map fun x=>D.int (i+(x:Nat)):=rfl
theorem rowTD_at {es:List Int}{ts:List Tk}{x:Nat}{t:Tk}(h:ts[x]?=some t):(ts.map (rowTD es)).getD x .non=rowTD es t:=by rw[List.getD_eq_getElem?_getD,gxH,h];rfl
theorem tb_ok {n:Int}{cs:List Int}{ts:List Tk}(S:Shelf n cs ts):TbOk (endsOf n cs) ts:=by
 refine⟨fun a x y hx hy=>?_,fun x y hx hy h=>tab1_zero S x y hx hy h⟩
 have s:=sideT S a x y hx hy
 by_cases q:y<=x
 ·rw[s.1 q];omega
 ·rcases s.2 (by omega)with⟨_,e⟩ | ⟨_,_,e⟩<;> omega
theorem half_eq (es:List Int)(a i b:Nat):halfD es (a+1) i b=fun k=>D.tup [.int (es.getD k 0),stD a i k,stD a k b]:=by
 funext k
 unfold halfD
 rw[show((a+1:Nat):Int) - 1=(a:Int) by omega]
theorem sum_snoc {f:Nat->Int}{M:List Nat}{z:Nat}(h:z<M.length):((M.take (z+1)).map f).sum=((M.take z).map f).sum+f M[z]:=by
 rw[List.take_succ,gxA h,List.map_append,List.sum_append]
 simp
theorem mid_filter (T U:Nat->Nat->Int)(i b:Nat):midP T U i b=((List.range (b - (i+1))).filter fun x=>decide (U i (i+1+x)+U (i+1+x) b+1=T i b)).map (i+1+·):=by
 unfold midP
 rw[List.filter_map];rfl
theorem Memo.same {es:List Int}{ts:List Tk}{A:Nat}{ks:List (List Key)}{ds:List D}(h:Memo es ts A ks ds)(a i b:Nat):∀ p∈ks.zip ds,p.1=stK a i b->p.2=.int (ctP es ts (a+1) i b):=by
 induction h with
 | nil=>intro p hp;cases hp
 | @add ks ds h b' k' l' ha hi hj hn ih =>
  intro p hp e
  rw[List.zip_append h.len.symm]at hp
  rcases List.mem_append.mp hp with hp | hp
  ·exact ih p hp e
  ·simp only[List.zip_cons_cons,List.zip_nil_right,List.mem_singleton]at hp
   subst hp
   obtain⟨rfl,rfl,rfl⟩:=stK_inj e
   rfl
theorem Memo.put {es:List Int}{ts:List Tk}{A:Nat}{ks:List (List Key)}{ds:List D}(h:Memo es ts A ks ds){a i b:Nat}(ha:a<=A)(hi:i<es.length)(hb:b<es.length) :
 Memo es ts A (tput ks ds (stK a i b) (.int (ctP es ts (a+1) i b))).1 (tput ks ds (stK a i b) (.int (ctP es ts (a+1) i b))).2/\stK a i b∈(tput ks ds (stK a i b) (.int (ctP es ts (a+1) i b))).1:=by
 have em:(ks.any fun x=>decide (x=stK a i b))=true↔stK a i b∈ks:=by simp only[List.any_eq_true,decide_eq_true_eq];exact⟨fun hq4=>by obtain⟨x,h1,h2⟩:=hq4;exact h2▸h1,fun h=>⟨_,h,rfl⟩⟩
 unfold tput
 by_cases q:stK a i b∈ks
 ·rw[if_pos (em.mpr q)]
  refine⟨?_,q⟩
  have e:(ks.zip ds).map (fun p=>if p.1=stK a i b then D.int (ctP es ts (a+1) i b)else p.2)=ds:=by
   have e1:(ks.zip ds).map (fun p=>if p.1=stK a i b then D.int (ctP es ts (a+1) i b)else p.2)=(ks.zip ds).map (·.2):=List.map_congr_left fun p hp=>by
    by_cases z:p.1=stK a i b
    ·rw[if_pos z,h.same a i b p hp z]
    ·rw[if_neg z]
   rw[e1,List.map_snd_zip (by rw[h.len];exact Nat.le_refl _)]
  rw[e];exact h
 ·rw[if_neg fun z=>q (em.mp z)]
  exact⟨h.add ha hi hb q,by simp⟩
inductive LeastD (es:List Int)(ts:List Tk)(n:Int):D->Prop
 | no (h:barOf es ts≠none):LeastD es ts n .non
 | yes (a:Nat) (ha:a<=66) (hb:barOf es ts=none) (h:LeastIs es ts n a):LeastD es ts n (.int a)
theorem leastK_all {es:List Int}{ts:List Tk}{n:Int}{μ:MS}{K:DK}(h:∀ d,LeastD es ts n d->K d μ):leastK es ts n μ K:=by
 unfold leastK
 cases hb:barOf es ts with
 | some p=>exact h _ (.no (by rw[hb];simp))
 | none=>exact fun a ha la=>h _ (.yes a ha hb la)
inductive CntD (es:List Int)(ts:List Tk)(n:Int):Int->Prop
 | no (h:barOf es ts≠none):CntD es ts n 0
 | yes (a:Nat) (ha:a<=66) (hb:barOf es ts=none) (h:LeastIs es ts n a):CntD es ts n (ctP es ts (a+1) 0 (es.length - 1))
theorem cntK_all {es:List Int}{ts:List Tk}{n:Int}{μ:MS}{K:DK}(h:∀ c,CntD es ts n c->K (.int c) μ):cntK es ts n μ K:=by
 unfold cntK
 cases hb:barOf es ts with
 | some p=>exact h _ (.no (by rw[hb];simp))
 | none=>exact fun a ha la=>h _ (.yes a ha hb la)
section
variable {X:Cx}{e:Expr}{pos:Pos}
def dgetL:D->D->MS->DK->Prop:=fun o i μ K=>match o,i with
 | .mr k,.int j=>opt (lvM μ k) fun ds=>0<=j/\opt (ds[j.toNat]?) fun d=>K d μ
 | _,_=>False
def dAugS (wo wi w:De)(ro:DOp):Ds:=fun N ρ μ=>wo ρ μ fun o μ1=>wi ρ μ1 fun i μ2=>dgetL o i μ2 fun x μ3=>w ρ μ3 fun y μ4=>ro x y μ4 fun z μ5=>dsetL o i z μ5 fun μ6=>N.nx ρ μ6
theorem s_augS {o i:Expr}{wo wi w:De}{op:Operator}{ti:TIp}{ro:DOp}{tpos:Pos}(ho:PD X o wo)(hi:PD X i wi)(he:PD X e w)(hp:PIp X op ti)(so:SoIp ti ro)
 (ha:∀ ov iv new,augStore i ov iv new=(do holding [new,ov,iv] (setItem ov iv new);release [new,ov,iv] [];pure .next):=by intros;rfl):PDS X (.AugAssign (.Subscript o i tpos) op e pos) (dAugS wo wi w ro):=(ps_augS (pos:=pos) (tpos:=tpos) ho hi getC he hp setC ha).imp fun E σ H hq=>by
 obtain⟨φ,ρ,μ,N,A,M,w,L⟩:=hq
 refine⟨φ,ρ,μ,_,A,M,w,fun d1 μ1 φ1 v1 H1 k1 f1 M1 i1=>?_⟩
 refine⟨φ1,ρ,μ1,_,A.mono f1,M1,k1,fun d2 μ2 φ2 v2 H2 k2 f2 M2 i2=>?_⟩
 unfold dgetL at k2
 split at k2
 ·rename_i k j
  obtain⟨ds,em,k2⟩:=opt_ex k2
  obtain⟨j0,k2⟩:=k2
  obtain⟨d3,e3,k2⟩:=opt_ex k2
  have i1':=i1.mono f2
  obtain⟨p,hp',rfl⟩:=i1'
  cases(show v2=_ from i2)
  obtain⟨p',e1,vs,hv,ha'⟩:=M2.at_ k _ (lvM_eq em)
  rw[hp']at e1;cases e1
  obtain⟨v3,ev3,i3⟩:=ha'.get e3
  refine⟨vs,hv,j0,opt_of ev3 ?_⟩
  refine⟨φ2,ρ,μ2,_,A.mono (f1.trans f2),M2,k2,fun d4 μ4 φ4 v4 H4 k4 f4 M4 i4=>?_⟩
  refine so φ4 H4 _ _ d3 d4 μ4 _ _ M4 (i3.mono f4) i4 k4 fun d5 μ5 φ5 v5 H5 k5 f5 M5 i5=>?_
  have f25:=f4.trans f5
  exact so_set φ5 H5 _ _ _ (.mr k) (.int j) d5 μ5 _ _ M5 ((show DIs φ2 H2 (.mr k) _ from⟨p,hp',rfl⟩).mono f25) rfl i5 k5 fun μ' H' k6 f6 M6=>L.nx ρ μ' φ5 σ H' k6 ((f1.trans (f2.trans f25)).trans f6) (A.mono ((f1.trans (f2.trans f25)).trans f6)) M6
 ·exact k2.elim
end
def termL (T U W:Nat->Nat->Int)(i j k:Nat):Int:=if 0<U i k*U k j/\U i k+U k j=T i j then W i k*W k j else 0
def wayN (es:List Int)(ts:List Tk)(a:Int)(T U W:Nat->Nat->Int)(i j:Nat):Int:=if j<=i then 0 else if T i j=1 then((nTk es ts a i j).length:Nat)else if 1<T i j then((List.range (j - (i+1))).map fun x=>termL T U W i j (i+1+x)).sum else 0
def wayL (es:List Int)(ts:List Tk):Nat->Nat->Nat->Int
 | 0=>fun _ _=>0
 | a+1=>wayN es ts a (tabL es ts (a+1)) (tabL es ts a) (wayL es ts a)
theorem sum_filt (f:Nat->Int)(p:Nat->Bool):∀ l:List Nat,((l.filter p).map f).sum=(l.map fun x=>if p x=true then f x else 0).sum
 | []=>rfl
 | x::l=>by
  rw[List.filter_cons,List.map_cons,List.sum_cons,<- sum_filt f p l]
  by_cases h:p x=true
  ·rw[if_pos h,if_pos h,List.map_cons,List.sum_cons]
  ·rw[if_neg h,if_neg h,Int.zero_add]
theorem way_ct {n:Int}{cs:List Int}{ts:List Tk}(S:Shelf n cs ts):∀(a i j:Nat),i<j->j<(endsOf n cs).length->tabL (endsOf n cs) ts a i j≠0->wayL (endsOf n cs) ts a i j=ctP (endsOf n cs) ts a i j
 | 0,i,j,_,_,h=>absurd rfl h
 | a+1,i,j,hij,hj,h=>by
  obtain⟨es,hes⟩:∃ es,es=endsOf n cs:=⟨_,rfl⟩
  have s1:=(sideT S (a+1) i j (by omega) hj).2 hij
  have s0:=sideT S a
  have ih:=way_ct S a
  rw[<- hes]at h hj s1 s0 ih ⊢
  rcases s1 with⟨z,_⟩ | ⟨g1,g2,g3⟩
  ·exact absurd z h
  show wayN es ts a (tabL es ts (a+1)) (tabL es ts a) (wayL es ts a) i j=(if tabP es ts (a+1) i j=0 then(((nTk es ts a i j).length:Nat):Int)else _)
  unfold wayN
  rw[if_neg (show ¬ j<=i by omega)]
  by_cases q:tabL es ts (a+1) i j=1
  ·rw[if_pos q,if_pos (by omega)]
  ·rw[if_neg q,if_pos (by omega),if_neg (by omega)]
   unfold midP
   rw[sum_filt,List.map_map]
   congr 1
   refine List.map_congr_left fun x hx=>?_
   rw[List.mem_range]at hx
   simp only[Function.comp]
   unfold termL
   have b1:=(s0 i (i+1+x) (by omega) (by omega)).2 (by omega)
   have b2:=(s0 (i+1+x) j (by omega) (by omega)).2 (by omega)
   rcases b1 with⟨z1,z2⟩ | ⟨b11,b12,b13⟩
   ·rw[if_neg (by rw[z1];omega),if_neg (by rw[decide_eq_true_eq,z2];rcases b2 with⟨_,z⟩ | ⟨_,_,z⟩<;> omega)]
   rcases b2 with⟨z1,z2⟩ | ⟨b21,b22,b23⟩
   ·rw[if_neg (by rw[z1];omega),if_neg (by rw[decide_eq_true_eq,z2];omega)]
   rw[ih i (i+1+x) (by omega) (by omega) (by omega),ih (i+1+x) j (by omega) (by omega) (by omega)]
   have hp:0<tabL es ts a i (i+1+x)*tabL es ts a (i+1+x) j:=Int.mul_pos (by omega) (by omega)
   by_cases c:tabL es ts a i (i+1+x)+tabL es ts a (i+1+x) j=tabL es ts (a+1) i j
   ·rw[if_pos ⟨hp,c⟩,if_pos (by rw[decide_eq_true_eq];omega)]
   ·rw[if_neg (fun z=>c z.2),if_neg (by rw[decide_eq_true_eq];omega)]
theorem way_mul {n:Int}{cs:List Int}{ts:List Tk}(S:Shelf n cs ts)(hL:cs.length<=60){a i k j:Nat}(h1:i<k)(h2:k<j)(hj:j<(endsOf n cs).length)(h:0<tabL (endsOf n cs) ts a i k*tabL (endsOf n cs) ts a k j):IntMulOk (wayL (endsOf n cs) ts a i k) (wayL (endsOf n cs) ts a k j):=by
 have hl:=endsOf_len n cs
 have e1:tabL (endsOf n cs) ts a i k≠0:=fun z=>by rw[z]at h;omega
 have e2:tabL (endsOf n cs) ts a k j≠0:=fun z=>by rw[z]at h;omega
 rw[way_ct S a i k h1 (by omega) e1,way_ct S a k j h2 hj e2]
 exact ct_mul (by omega) (by have:=S.takes.few;omega) a i k j h1 h2 hj
theorem filt_len {α:Type}(p:α->Bool):∀ ts:List α,((List.range ts.length).filter fun x=>match ts[x]? with | some t=>p t | none=>false).length=(ts.filter p).length
 | []=>rfl
 | t::ts=>by
  rw[List.length_cons,List.range_succ_eq_map,List.filter_cons,List.filter_map,List.filter_cons]
  have ih:=filt_len p ts
  by_cases h:p t=true
  ·rw[if_pos (by simpa using h),if_pos h,List.length_cons,List.length_cons,gxC]
   exact congrArg (·+1) ih
  ·rw[if_neg (by simpa using h),if_neg h,gxC]
   exact ih
theorem nTk_is (es:List Int)(ts:List Tk)(a:Int)(i j:Nat):(nTk es ts a i j).length=(((ts.filter fun t=>decide (t.2<=a)).map fun t=>farF es t.1 (es.getD i 0)).filter fun f=>decide (es.getD j 0<=f)).length:=by
 unfold nTk
 refine Eq.trans ?_ (Eq.trans (filt_len (fun t:Tk=>decide (t.2<=a)&&decide (es.getD j 0<=farF es t.1 (es.getD i 0))) ts) ?_)
 ·congr 2
  funext x
  cases ts[x]? <;> rfl
 rw[List.filter_map,gxC,List.filter_filter]
 congr 2
 funext t
 simp only[Function.comp]
 rw[Bool.and_comm]
def partS (T U W:Nat->Nat->Int)(i j m:Nat):Int:=((List.range m).map fun x=>termL T U W i j (i+1+x)).sum
theorem partS_succ (T U W:Nat->Nat->Int)(i j m:Nat):partS T U W i j (m+1)=partS T U W i j m+termL T U W i j (i+1+m):=by
 unfold partS
 rw[List.range_succ,List.map_append,List.sum_append]
 simp
abbrev wEnv (es:List Int)(ts:List Tk)(A f:Nat)(l:List D)(k m:Nat)(r:DE):DE:=some (.lst (es.map D.int))::some (.lst (ts.map tkD))::some (.int A)::some (.mr f)::some (.lst l)::some (.lst ((List.range k).map fun i=>D.mr (m+i)))::r
abbrev cellW (es:List Int)(ts:List Tk)(A:Nat)(T S:Nat->Nat->Int)(i j m a b:Nat):Int:=if a=i/\b=j then(if T i j=1 then(((nTk es ts A i j).length:Nat):Int)else if 1<T i j then partS T (tabL es ts A) (wayL es ts A) i j m else 0)else partT S i j a b
theorem cell_next {es:List Int}{ts:List Tk}{A k:Nat}{T S:Nat->Nat->Int}{i j m:Nat}{g:MS}(hz:¬ 1<T i j\/termL T (tabL es ts A) (wayL es ts A) i j (i+1+m)=0)(h:RowsM k (cellW es ts A T S i j m) g):RowsM k (cellW es ts A T S i j (m+1)) g:=h.ext fun a b _ _=>by
 unfold cellW
 split
 ·split
  ·rfl
  ·split
   ·rw[partS_succ]
    rcases hz with hz | hz
    ·exact absurd (by assumption) hz
    ·rw[hz,Int.add_zero]
   ·rfl
 ·rfl
theorem set_ix {k j:Nat}{f:Nat->Int}(h:j<k):ixN (rowI k f).length (j:Int)=some j:=by
 unfold ixN;rw[rowI_len,if_pos (by omega),if_pos (by omega),gxK]
def fewsD (es:List Int)(ts:List Tk)(m:Nat):List D:=(List.range m).map fun x=>.lst (tabR es.length (tabL es ts (x+1)))
def fWaysNext:DSp:=fun ds μ K=>match ds with
 | [.lst b,y,.int a,.mr f,.lst l]=>∃(n:Int) (cs:List Int) (ts:List Tk),b=(endsOf n cs).map D.int/\y=.lst (ts.map tkD)/\Shelf n cs ts/\cs.length<=60/\0<=a/\a<=1000/\lvM μ f=some (fewsD (endsOf n cs) ts (a.toNat+1))/\((a=0/\l=[])\/(1<=a/\l=tabR (endsOf n cs).length (wayL (endsOf n cs) ts a.toNat)))/\K (.lst (tabR (endsOf n cs).length (wayL (endsOf n cs) ts (a.toNat+1)))) μ
 | _=>False
def fWays:DSp:=fun ds μ K=>match ds with
 | [.lst b,y,.int a]=>∃(n:Int) (cs:List Int) (ts:List Tk),b=(endsOf n cs).map D.int/\y=.lst (ts.map tkD)/\Shelf n cs ts/\cs.length<=60/\0<=a/\a<=1000/\K (.int (wayL (endsOf n cs) ts (a.toNat+1) 0 (cs.length+1))) μ
 | _=>False
theorem CntD.uniq {es:List Int}{ts:List Tk}{n c c':Int}(h:CntD es ts n c)(h':CntD es ts n c'):c'=c:=by
 cases h with
 | no h =>
  cases h' with
  | no _=>rfl
  | yes a ha hb _=>exact absurd hb h
 | yes a ha hb la =>
  cases h' with
  | no h=>exact absurd hb h
  | yes b _ _ lb=>rw[la.uniq lb]
end L2
namespace Pf
open PySem L2 PyProof.Rows
def top (i:Nat):Stmt:=PySem.Challenge.pw_hissroom_k17_best_makes_counted.main.body.getD i (.Pass ⟨0,0,0,0⟩)
def met (i j:Nat):Stmt:=(clsBody (top i)).getD j (.Pass ⟨0,0,0,0⟩)
abbrev s_box:Stmt:=top 22
abbrev s_take:Stmt:=top 23
abbrev s_bars:Stmt:=top 24
abbrev s_cuts:Stmt:=top 25
abbrev s_patched:Stmt:=top 26
abbrev s_shelf:Stmt:=top 27
abbrev s_same:Stmt:=top 37
abbrev s_ends:Stmt:=top 2
abbrev s_pieces:Stmt:=top 3
abbrev s_bar_of:Stmt:=top 5
abbrev s_farthest:Stmt:=top 4
abbrev s_take_rows:Stmt:=top 9
abbrev s_clean_row:Stmt:=top 10
abbrev s_next_reach:Stmt:=top 11
abbrev s_youngest:Stmt:=top 8
abbrev s_least_age:Stmt:=top 7
abbrev s_no_make:Stmt:=top 14
abbrev s_bare_table:Stmt:=top 15
abbrev s_fewest_joined:Stmt:=top 17
abbrev s_next_table:Stmt:=top 16
abbrev s_few_tables:Stmt:=top 13
abbrev s_BestMakes_is_take:Stmt:=met 20 1
abbrev s_BestMakes_clean_takes:Stmt:=met 20 2
abbrev s_BestMakes_halves:Stmt:=met 20 3
abbrev s_BestMakes_count_anew:Stmt:=met 20 5
abbrev s_BestMakes_counted:Stmt:=met 20 4
abbrev s_BestMakes___init__:Stmt:=met 20 0
abbrev s_count_best:Stmt:=top 19
abbrev s_far:Stmt:=top 28
abbrev s_own:Stmt:=top 29
abbrev s_rows:Stmt:=top 30
abbrev s_barred:Stmt:=top 31
abbrev s_least:Stmt:=top 32
abbrev s_near:Stmt:=top 38
abbrev s_few_next:Stmt:=top 33
abbrev s_ways_next:Stmt:=top 35
abbrev s_ways:Stmt:=top 36
abbrev s_law:Stmt:=top 39
structure ZBestMakes (K:PySem.W.Frag)(C:Addr):Prop where
 cl:Cls K C
 n_places:PySem.W.findIn K (.ref C) "places"=some none
 n_rows:PySem.W.findIn K (.ref C) "rows"=some none
 n_tables:PySem.W.findIn K (.ref C) "tables"=some none
 n_whole:PySem.W.findIn K (.ref C) "whole"=some none
 n_counts:PySem.W.findIn K (.ref C) "counts"=some none
theorem sc_box:FnScope ["_law_script"] ["_law_script"] (defScope s_box):=⟨rfl,rfl,rfl,by decide +kernel,rfl,by decide +kernel,by decide +kernel⟩
theorem sc_take:FnScope ["_law_box_here", "_law_many", "_law_rest", "_law_cell", "_law_one", "_law_two"] ["_law_box_here", "_law_many"] (defScope s_take):=⟨rfl,rfl,rfl,by decide +kernel,rfl,by decide +kernel,by decide +kernel⟩
theorem sc_bars:FnScope ["_law_box_here", "_law_size", "_law_kind", "_law_first", "_law_behind"] ["_law_box_here", "_law_size"] (defScope s_bars):=⟨rfl,rfl,rfl,by decide +kernel,rfl,by decide +kernel,by decide +kernel⟩
theorem sc_cuts:FnScope ["_law_box_here", "_law_size", "_law_kind"] ["_law_box_here", "_law_size"] (defScope s_cuts):=⟨rfl,rfl,rfl,by decide +kernel,rfl,by decide +kernel,by decide +kernel⟩
theorem sc_patched:FnScope ["_law_box_here", "_law_size", "_law_cuts_here", "_law_texts", "_law_border", "_law_k", "_law_at", "_law_old", "_law_clean"] ["_law_box_here", "_law_size", "_law_cuts_here", "_law_texts"] (defScope s_patched):=⟨rfl,rfl,rfl,by decide +kernel,rfl,by decide +kernel,by decide +kernel⟩
theorem sc_shelf:FnScope ["_law_box_here", "_law_most", "_law_size", "_law_cuts_here", "_law_many", "_law_texts", "_law_kind", "_law_low", "_law_ages"] ["_law_box_here", "_law_most"] (defScope s_shelf):=⟨rfl,rfl,rfl,by decide +kernel,rfl,by decide +kernel,by decide +kernel⟩
theorem sc_same:FnScope ["_law_found", "_law_due"] ["_law_found", "_law_due"] (defScope s_same):=⟨rfl,rfl,rfl,by decide +kernel,rfl,by decide +kernel,by decide +kernel⟩
theorem sc_ends:FnScope ["size", "cuts"] ["size", "cuts"] (defScope s_ends):=⟨rfl,rfl,rfl,by decide +kernel,rfl,by decide +kernel,by decide +kernel⟩
theorem sc_pieces:FnScope ["size", "cuts", "places"] ["size", "cuts"] (defScope s_pieces):=⟨rfl,rfl,rfl,by decide +kernel,rfl,by decide +kernel,by decide +kernel⟩
theorem sc_bar_of:FnScope ["size", "cuts", "takes", "first", "behind"] ["size", "cuts", "takes"] (defScope s_bar_of):=⟨rfl,rfl,rfl,by decide +kernel,rfl,by decide +kernel,by decide +kernel⟩
theorem sc_farthest:FnScope ["size", "cuts", "text", "end", "spoilt", "clean_to"] ["size", "cuts", "text", "end"] (defScope s_farthest):=⟨rfl,rfl,rfl,by decide +kernel,rfl,by decide +kernel,by decide +kernel⟩
theorem sc_take_rows:FnScope ["size", "cuts", "takes", "places"] ["size", "cuts", "takes"] (defScope s_take_rows):=⟨rfl,rfl,rfl,by decide +kernel,rfl,by decide +kernel,by decide +kernel⟩
theorem sc_clean_row:FnScope ["places", "rows", "age", "told", "take_age", "row"] ["places", "rows", "age"] (defScope s_clean_row):=⟨rfl,rfl,rfl,by decide +kernel,rfl,by decide +kernel,by decide +kernel⟩
theorem sc_next_reach:FnScope ["places", "rows", "before", "age", "where", "clean"] ["places", "rows", "before", "age"] (defScope s_next_reach):=⟨rfl,rfl,rfl,by decide +kernel,rfl,by decide +kernel,by decide +kernel⟩
theorem sc_youngest:FnScope ["takes"] ["takes"] (defScope s_youngest):=⟨rfl,rfl,rfl,by decide +kernel,rfl,by decide +kernel,by decide +kernel⟩
theorem sc_least_age:FnScope ["size", "cuts", "takes", "places", "rows", "age", "told"] ["size", "cuts", "takes"] (defScope s_least_age):=⟨rfl,rfl,rfl,by decide +kernel,rfl,by decide +kernel,by decide +kernel⟩
theorem sc_no_make:FnScope ["places"] ["places"] (defScope s_no_make):=⟨rfl,rfl,rfl,by decide +kernel,rfl,by decide +kernel,by decide +kernel⟩
theorem sc_bare_table:FnScope ["places", "none"] ["places"] (defScope s_bare_table):=⟨rfl,rfl,rfl,by decide +kernel,rfl,by decide +kernel,by decide +kernel⟩
theorem sc_fewest_joined:FnScope ["lefts", "rights", "none"] ["lefts", "rights", "none"] (defScope s_fewest_joined):=⟨rfl,rfl,rfl,by decide +kernel,rfl,by decide +kernel,by decide +kernel⟩
theorem sc_next_table:FnScope ["places", "clean", "before", "columns", "none", "told", "first", "row", "far"] ["places", "clean", "before"] (defScope s_next_table):=⟨rfl,rfl,rfl,by decide +kernel,rfl,by decide +kernel,by decide +kernel⟩
theorem sc_few_tables:FnScope ["size", "cuts", "takes", "age", "places", "rows", "ages", "table", "changing", "told", "now", "before"] ["size", "cuts", "takes", "age"] (defScope s_few_tables):=⟨rfl,rfl,rfl,by decide +kernel,rfl,by decide +kernel,by decide +kernel⟩
theorem sc_BestMakes_is_take:FnScope ["self", "stretch", "age", "first", "behind"] ["self", "stretch"] (defScope s_BestMakes_is_take):=⟨rfl,rfl,rfl,by decide +kernel,rfl,by decide +kernel,by decide +kernel⟩
theorem sc_BestMakes_clean_takes:FnScope ["self", "stretch", "age", "first", "behind", "end"] ["self", "stretch"] (defScope s_BestMakes_clean_takes):=⟨rfl,rfl,rfl,by decide +kernel,rfl,by decide +kernel,by decide +kernel⟩
theorem sc_BestMakes_halves:FnScope ["self", "stretch", "age", "first", "behind", "many", "before"] ["self", "stretch"] (defScope s_BestMakes_halves):=⟨rfl,rfl,rfl,by decide +kernel,rfl,by decide +kernel,by decide +kernel⟩
theorem sc_BestMakes_count_anew:FnScope ["self", "stretch", "many", "place", "left", "right"] ["self", "stretch"] (defScope s_BestMakes_count_anew):=⟨rfl,rfl,rfl,by decide +kernel,rfl,by decide +kernel,by decide +kernel⟩
theorem sc_BestMakes_counted:FnScope ["self", "stretch"] ["self", "stretch"] (defScope s_BestMakes_counted):=⟨rfl,rfl,rfl,by decide +kernel,rfl,by decide +kernel,by decide +kernel⟩
theorem sc_BestMakes___init__:FnScope ["self", "size", "cuts", "takes", "least"] ["self", "size", "cuts", "takes"] (defScope s_BestMakes___init__):=⟨rfl,rfl,rfl,by decide +kernel,rfl,by decide +kernel,by decide +kernel⟩
theorem sc_count_best:FnScope ["size", "cuts", "takes", "best"] ["size", "cuts", "takes"] (defScope s_count_best):=⟨rfl,rfl,rfl,by decide +kernel,rfl,by decide +kernel,by decide +kernel⟩
theorem sc_far:FnScope ["_law_border", "_law_text", "_law_end", "_law_at"] ["_law_border", "_law_text", "_law_end"] (defScope s_far):=⟨rfl,rfl,rfl,by decide +kernel,rfl,by decide +kernel,by decide +kernel⟩
theorem sc_own:FnScope ["_law_border", "_law_takes", "_law_age", "_law_row", "_law_end"] ["_law_border", "_law_takes", "_law_age"] (defScope s_own):=⟨rfl,rfl,rfl,by decide +kernel,rfl,by decide +kernel,by decide +kernel⟩
theorem sc_rows:FnScope ["_law_border", "_law_takes", "_law_many", "_law_rows_here", "_law_age", "_law_row", "_law_last"] ["_law_border", "_law_takes", "_law_many"] (defScope s_rows):=⟨rfl,rfl,rfl,by decide +kernel,rfl,by decide +kernel,by decide +kernel⟩
theorem sc_barred:FnScope ["_law_border", "_law_takes", "_law_k", "_law_part"] ["_law_border", "_law_takes"] (defScope s_barred):=⟨rfl,rfl,rfl,by decide +kernel,rfl,by decide +kernel,by decide +kernel⟩
theorem sc_least:FnScope ["_law_border", "_law_takes", "_law_rows_here"] ["_law_border", "_law_takes"] (defScope s_least):=⟨rfl,rfl,rfl,by decide +kernel,rfl,by decide +kernel,by decide +kernel⟩
theorem sc_near:FnScope ["_law_takes"] ["_law_takes"] (defScope s_near):=⟨rfl,rfl,rfl,by decide +kernel,rfl,by decide +kernel,by decide +kernel⟩
theorem sc_few_next:FnScope ["_law_border", "_law_own_here", "_law_last", "_law_table", "_law_i", "_law_j", "_law_some"] ["_law_border", "_law_own_here", "_law_last"] (defScope s_few_next):=⟨rfl,rfl,rfl,by decide +kernel,rfl,by decide +kernel,by decide +kernel⟩
theorem sc_ways_next:FnScope ["_law_border", "_law_takes", "_law_age", "_law_fews", "_law_last", "_law_table", "_law_i", "_law_fars", "_law_j", "_law_k", "_law_one", "_law_other"] ["_law_border", "_law_takes", "_law_age", "_law_fews", "_law_last"] (defScope s_ways_next):=⟨rfl,rfl,rfl,by decide +kernel,rfl,by decide +kernel,by decide +kernel⟩
theorem sc_ways:FnScope ["_law_border", "_law_takes", "_law_age", "_law_fews", "_law_ways_here", "_law_old", "_law_before"] ["_law_border", "_law_takes", "_law_age"] (defScope s_ways):=⟨rfl,rfl,rfl,by decide +kernel,rfl,by decide +kernel,by decide +kernel⟩
theorem sc_law:FnScope ["_law_script", "_law_box_here", "_law_size", "_law_cuts_here", "_law_takes", "_law_border", "_law_given", "_law_age", "_law_due"] ["_law_script"] (defScope s_law):=⟨rfl,rfl,rfl,by decide +kernel,rfl,by decide +kernel,by decide +kernel⟩
section
variable {P:Program}{w:World}{K:PySem.W.Frag}{mg:Str->Option Value}{base:Heap}{cBestMakes:Addr}
theorem ok_box {f:Addr}{fd:FuncData}(F:Fun K "_law_box" "_law_box" s_box f fd)(T:Bi2 mg)  : FnOk P w K mg base CX0 1 f fd ["_law_script"] (spBoxQ K):=by
 refine F.ok sc_box (fun vs H Q E h=>?_) (fun cdv A outer s H vs Q E hr h=>?_)
 ·unfold spBoxQ at h;split at h
  ·rfl
  ·exact h.elim
 ·unfold spBoxQ at h;split at h
  ·rename_i a
   obtain⟨ns,hs,k⟩:=h
   refine⟨_,(pss_one (ps_ret (pe_lst (pa_cons (pe_callTy listC (by rfl) T.list PyProof.Rows.boot_list (pa_cons (pvC 0) pa_nil)) (pa_cons pe_int (pa_cons pe_int (pa_cons pe_int pa_nil))))))),?_⟩
   refine⟨_,hs,fun l hl=>?_⟩
   refine⟨(by show 4<=sizeLine;decide),fun b hb=>?_⟩
   have hlb:l≠b:=ne_of_none (o:=.lst (ns.map V.int)) upd_same hb
   have hb0:H b=none:=by rw[upd_ne hlb.symm]at hb;exact hb
   refine k b l _ ⟨ns,0,0,1,upd_same,by rw[upd_ne hlb];exact upd_same,hlb,by decide,by decide,by decide⟩ hb0 hl fun c o e=>?_
   rw[upd_ne (ne_of_none e hb0),upd_ne (ne_of_none e hl)]
   exact e
  ·exact h.elim
theorem ok_take {f:Addr}{fd:FuncData}(F:Fun K "_law_take" "_law_take" s_take f fd)(T:Bi2 mg)  : FnOk P w K mg base CX0 1 f fd ["_law_box_here", "_law_many"] (spD fTake):=by
 refine FnOk.imp (sp:=spTakeQ) ?_ fun vs H Q E h=>take_imp h
 refine F.ok sc_take (fun vs H Q E h=>?_) (fun cdv A outer s H vs Q E hr h=>?_)
 ·obtain⟨b,n,q,rfl,_⟩:=spTakeQ_inv h;rfl
 ·obtain⟨b,n,q,rfl,⟨ns,i,r,z,hb,hq,nqb,hi,hz,hz2⟩,hn,hn2,k⟩:=spTakeQ_inv h
  refine⟨_,(pss_cons (ps_if (pt_cmpC gtC (pe_ix ixC (pvC 0) pe_int (fun _ _=>rfl)) pe_int (nomark _))
   (pss_cons (ps_set (i:=2) sc_take.nd rfl (by first | exact Or.inl rfl | exact Or.inr rfl) (pe_ix ixC (pvC 0) pe_int (fun _ _=>rfl)))
   (pss_cons (ps_asg (pe_op divC (pvC 2) (pvC 1)) (pg_sub (pvC 0) pe_int setC))
   (pss_one (ps_ret (pe_op modC (pvC 2) (pvC 1))))))
   pss_nil)
   (pss_cons (ps_asg (pe_op modC (pe_op addC (pe_op mulC (pe_ix ixC (pvC 0) pe_int (fun _ _=>rfl)) pe_int) pe_int) pe_int) (pg_sub (pvC 0) pe_int setC))
   (pss_cut (ps_if (pt_cmpC ltC (pe_ix ixC (pvC 0) pe_int (fun _ _=>rfl)) (pe_callB lenC (by rfl) T.len PySem.boot_len (pa_cons (pe_ix ixC (pvC 0) pe_int (fun _ _=>rfl)) pa_nil)) (nomark _))
   (pss_cons (ps_set (i:=3) sc_take.nd rfl (by first | exact Or.inl rfl | exact Or.inr rfl) (pe_ix ixC (pe_ix ixC (pvC 0) pe_int (fun _ _=>rfl)) (pe_ix ixC (pvC 0) pe_int (fun _ _=>rfl)) (fun _ _=>rfl)))
   (pss_cons (ps_augS (pvC 0) pe_int getC pe_int ip_addC setC)
   (pss_cons (ps_if (pt_cmpC geC (pvC 3) (pe_op powC pe_int pe_int) (nomark _))
   (pss_cons (ps_asg (pe_op divC (pvC 3) (pvC 1)) (pg_sub (pvC 0) pe_int setC))
   (pss_one (ps_ret (pe_op modC (pvC 3) (pvC 1)))))
   pss_nil)
   (pss_one (ps_asg (pe_op modC (pe_op addC (pe_ix ixC (pvC 0) pe_int (fun _ _=>rfl)) (pe_op mulC (pvC 3) pe_int)) pe_int) (pg_sub (pvC 0) pe_int setC))))))
   pss_nil)
   (pss_cons (ps_set (i:=4) sc_take.nd rfl (by first | exact Or.inl rfl | exact Or.inr rfl) (pe_ix ixC (pvC 0) pe_int (fun _ _=>rfl)))
   (pss_cons (ps_set (i:=5) sc_take.nd rfl (by first | exact Or.inl rfl | exact Or.inr rfl) (pe_op modC (pe_op addC (pe_op mulC (pvC 4) (pvC 4)) (pe_op divC (pvC 4) pe_int)) pe_int))
   (pss_one (ps_ret (pe_op modC (pe_op modC (pe_op addC (pe_op mulC (pvC 5) pe_int) (pvC 4)) pe_int) (pvC 1))))))))),?_⟩
  have fin:∀(v:Int) (H':Hp) (i' r' z':Int),OB b H H'->H' b=some (.lst [.ref q,.int i',.int r',.int z'])->0<=i'->0<=z'->z'<2147483647->Q (.int (v%n)) H':=fun v H' i' r' z' ob hb' h1 h2 h3 =>
   k _ _ (Int.emod_nonneg _ (by omega)) (Int.emod_lt_of_pos _ hn) ⟨ns,i',r',z',hb',(ob q nqb).trans hq,nqb,h1,h2,h3⟩ ob
  have md:∀ x:Int,0<=x%2147483647/\x%2147483647<2147483647:=fun x=>⟨Int.emod_nonneg _ (by decide),Int.emod_lt_of_pos _ (by decide)⟩
  refine⟨_,.inl hb,?_⟩
  refine iteD (fun h1=>?_) (fun h1=>?_)
  ·refine⟨_,.inl hb,⟨hn,hn2⟩,_,hb,hn,?_⟩
   exact fin _ _ _ _ _ OB.refl.upd upd_same hi hz hz2
  ·refine⟨_,.inl hb,.inr ⟨by decide,by decide⟩,pM,_,hb,?_⟩
   have ob1:∀ o,OB b H (upd H b o):=fun o=>OB.refl.upd
   refine⟨fun σ' H'=>∃(c:Option V) (i' r' z':Int),σ'=[some (.ref b),some (.int n),none,c,none,none]/\OB b H H'/\H' b=some (.lst [.ref q,.int i',.int r',.int z'])/\0<=i'/\0<=z'/\z'<2147483647,?_,?_⟩
   ·refine⟨_,.inl upd_same,_,.inl upd_same,_,.inl ((ob1 _ q nqb).trans hq),?_⟩
    refine iteD (fun h2=>?_) (fun h2=>?_)
    ·have h2':i<(ns.length:Int):=by simpa using h2
     obtain⟨c,hc⟩:∃ c,ns[i.toNat]?=some c:=⟨ns[i.toNat]'(by omega),gxA _⟩
     have e:atI (ns.map V.int) i=some (.int c):=by
      have q:=atI_nat (xs:=ns.map V.int) (j:=i.toNat) (v:=.int c) (by rw[gxH,hc];rfl)
      rwa [Int.toNat_of_nonneg hi]at q
     refine⟨_,.inl upd_same,_,.inl upd_same,_,.inl ((ob1 _ q nqb).trans hq),opt_of e ?_⟩
     refine⟨_,upd_same,by decide,_,upd_same,?_⟩
     refine⟨⟨by decide,by decide,by decide⟩,?_⟩
     refine iteD (fun h3=>?_) (fun h3=>?_)
     ·refine⟨⟨hn,hn2⟩,_,upd_same,hn,?_⟩
      exact fin _ _ (i+1) _ _ OB.refl.upd.upd.upd upd_same (by omega) (md _).1 (md _).2
     ·refine⟨_,.inl upd_same,.inr ⟨by decide,by decide⟩,pM,_,upd_same,?_⟩
      exact⟨_,i+1,_,_,rfl,OB.refl.upd.upd.upd,upd_same,by omega,(md _).1,(md _).2⟩
    ·exact⟨_,i,_,_,rfl,OB.refl.upd,upd_same,hi,(md _).1,(md _).2⟩
   ·rintro σ' H' ⟨c,i',r',z',rfl,ob,hb',h1,h2,h3⟩
    refine⟨_,.inl hb',.inl ⟨by omega,by omega⟩,⟨by decide,by decide⟩,pN,.inr ⟨by decide,by decide⟩,pM,hn,?_⟩
    exact fin _ _ i' _ _ ob hb' h1 h2 h3
theorem inv_cuts {ds:List D}{μ:MS}{Kd:DK}(h:fCuts ds μ Kd):∃ v0 v1,ds=[.mr v0,.int v1]:=by
 unfold fCuts at h
 rcases ds with _ | ⟨z0,ds⟩
 ·exact False.elim h
 cases z0 <;> first | exact False.elim h | skip
 rcases ds with _ | ⟨z1,ds⟩
 ·exact False.elim h
 cases z1 <;> first | exact False.elim h | skip
 rcases ds with _ | ⟨zz,zs⟩
 ·exact⟨_,_,rfl⟩
 ·exact False.elim h
theorem ok_cuts {f:Addr}{fd:FuncData}(F:Fun K "_law_cuts" "_law_cuts" s_cuts f fd)(T:Bi2 mg)(C_take:Cal P w K mg base "_law_take" 1 ["_law_box_here", "_law_many"] (spD fTake)):FnOk P w K mg base CX0 2 f fd ["_law_box_here", "_law_size"] (spD fCuts):=by
 refine F.okD sc_cuts (fun ds μ Kd h=>by obtain⟨_,_,rfl⟩:=inv_cuts h;rfl) (fun cdv A outer s H E hr=>⟨_,(b_cons (s_set (i:=2) sc_cuts.nd rfl lo (d_call C_take hr.le rfl (da_cons (dv 0) (da_cons d_int da_nil))))
  (b_cons (s_if (d_testC eqC so_eqS (dv 2) d_int (nomark _))
  (b_one (s_ret (d_lst false da_nil)))
  b_nil)
  (b_cons (s_if (d_testC eqC so_eqS (dv 2) d_int (nomark _))
  (b_one (s_ret (d_comp false (compOk (XN:=["_law_box_here", "_law_size", "_law_kind"]) (xsc:=(defScope s_cuts)) (N:=["_law_place"]) (js:=[none]) (by decide +kernel)) rfl (so_name 0) (mo_name 0) rfl (i_range2 rfl T.range (da_cons d_int (da_cons (dv 1) da_nil))) (fun _ _ _=>(pg_name (i:=0) (show List.Nodup (["_law_place"]:List Str) by decide +kernel) rfl lo)) (fun _ _ _=>ts_nil) (fun _ _ _=>(dv 0)))))
  b_nil)
  (b_one (s_ret (d_comp false (compOk (XN:=["_law_box_here", "_law_size", "_law_kind"]) (xsc:=(defScope s_cuts)) (N:=["_law_place", "_law_box_here"]) (js:=[none,some 0]) (by decide +kernel)) rfl (so_name 0) (mo_name 0) rfl (i_range2 rfl T.range (da_cons d_int (da_cons (dv 1) da_nil))) (fun _ _ _=>(pg_name (i:=0) (show List.Nodup (["_law_place", "_law_box_here"]:List Str) by decide +kernel) rfl lo)) (fun _ _ _=>(ts_one (d_testC gtC so_b2' (d_call C_take hr.le rfl (da_cons (dv 1) (da_cons d_int da_nil))) d_int (nomark _)))) (fun _ _ _=>(dv 0)))))))),fun ds μ Kd hm hl h=>?_⟩)
 obtain⟨k,n,rfl⟩:=inv_cuts h
 unfold fCuts at h
 ·skip
  obtain⟨hb,h1,h2,kk⟩:=h
  refine⟨hb,by decide,by decide,fun v v0 v1=>?_⟩
  refine iteDf (fun hv=>?_) (fun hv=>?_)
  ·exact⟨Nat.zero_le _,.keep (kk [] (Nat.zero_le _) ⟨(fun _ q=>nomatch q),.nil⟩)⟩
  refine iteDf (fun hv1=>?_) (fun hv1=>?_)
  ·refine⟨⟨by decide,by decide,by omega,by omega⟩,sz (by rw[rngD_len];omega),?_⟩
   refine compW_map trivial (fun d=>some d) (fun d hd K' k'=>k') ?_
   rw[List.filterMap_some,rngD_eq]
   obtain⟨c1,c2⟩:=rng_cuts h1 (List.Sublist.refl _)
   exact .keep (kk _ c1 c2)
  ·refine⟨⟨by decide,by decide,by omega,by omega⟩,sz (by rw[rngD_len];omega),?_⟩
   refine compW_sub trivial (fun d hd K' k1 k2=>?_) fun zs hz=>?_
   ·refine⟨hb,by decide,by decide,fun v v0 v1=>?_⟩
    exact iteD (fun _=>k1) (fun _=>k2)
   ·rw[rngD_eq]at hz
    obtain⟨bs,hs,rfl⟩:=sub_map hz
    obtain⟨c1,c2⟩:=rng_cuts h1 hs
    exact .keep (kk _ c1 c2)
theorem bars_join {μ:MS}{n:Nat}{it:D->MS->(Option D->MS->Prop)->Prop}{K:DK}(hn:n<=1000)(hit:∀(d:D) (K':Option D->MS->Prop),(∀ c:Nat,(c=111\/c=120)->K' (some (.str ⟨#[c]⟩)) μ)->it d μ K')(k:∀ l:List Nat,l.length=n->OX l->K (.str (txt l)) μ) :
 compW it (fun _=>True) (rngD 0 n) μ fun ys μ2=>nL false ys μ2 fun x μ3=>fJoin (.str (Str.ofString "")) [x] μ3 K:=by
 refine compW_any (fun c:Nat=>D.str ⟨#[c]⟩) (fun c=>c=111\/c=120) trivial (fun d hd K' k'=>hit d K' k') fun l hl ho=>?_
 rw[rngD_len]at hl
 refine⟨rfl,l.map (fun c=>⟨#[c]⟩),by unfold lv;rw[List.map_map];rfl,by rw[sum_signs];omega,?_⟩
 rw[flat_signs]
 exact k l hl fun c hc=>ho c hc
theorem inv_bars {ds:List D}{μ:MS}{Kd:DK}(h:fBars ds μ Kd):∃ v0 v1,ds=[.mr v0,.int v1]:=by
 unfold fBars at h
 rcases ds with _ | ⟨z0,ds⟩
 ·exact False.elim h
 cases z0 <;> first | exact False.elim h | skip
 rcases ds with _ | ⟨z1,ds⟩
 ·exact False.elim h
 cases z1 <;> first | exact False.elim h | skip
 rcases ds with _ | ⟨zz,zs⟩
 ·exact⟨_,_,rfl⟩
 ·exact False.elim h
theorem ok_bars {f:Addr}{fd:FuncData}(F:Fun K "_law_bars" "_law_bars" s_bars f fd)(T:Bi2 mg)(C_take:Cal P w K mg base "_law_take" 1 ["_law_box_here", "_law_many"] (spD fTake)):FnOk P w K mg base CX0 2 f fd ["_law_box_here", "_law_size"] (spD fBars):=by
 refine F.okD sc_bars (fun ds μ Kd h=>by obtain⟨_,_,rfl⟩:=inv_bars h;rfl) (fun cdv A outer s H E hr=>⟨_,(b_cons (s_set (i:=2) sc_bars.nd rfl lo (d_call C_take hr.le rfl (da_cons (dv 0) (da_cons d_int da_nil))))
  (b_cons (s_if (d_testC eqC so_eqS (dv 2) d_int (nomark _))
  (b_one (s_ret (d_mt PySem.F.plainAttrs_str PySem.F.slot_str_join PySem.F.type_str_join joinC so_join d_str (da_cons (d_comp false (compOk (XN:=["_law_box_here", "_law_size", "_law_kind", "_law_first", "_law_behind"]) (xsc:=(defScope s_bars)) (N:=["_law_k", "_law_box_here"]) (js:=[none,some 0]) (by decide +kernel)) rfl (so_name 0) (mo_name 0) rfl (i_range1 rfl T.range (da_cons (dv 1) da_nil)) (fun _ _ _=>(pg_name (i:=0) (show List.Nodup (["_law_k", "_law_box_here"]:List Str) by decide +kernel) rfl lo)) (fun _ _ _=>ts_nil) (fun _ _ _=>(d_ix ixC so_ix d_str (d_call C_take hr.le rfl (da_cons (dv 1) (da_cons d_int da_nil))) (fun _ _=>rfl)))) da_nil))))
  b_nil)
  (b_cons (s_if (d_testC eqC so_eqS (dv 2) d_int (nomark _))
  (b_one (s_ret (d_mt PySem.F.plainAttrs_str PySem.F.slot_str_join PySem.F.type_str_join joinC so_join d_str (da_cons (d_comp false (compOk (XN:=["_law_box_here", "_law_size", "_law_kind", "_law_first", "_law_behind"]) (xsc:=(defScope s_bars)) (N:=["_law_k", "_law_box_here"]) (js:=[none,some 0]) (by decide +kernel)) rfl (so_name 0) (mo_name 0) rfl (i_range1 rfl T.range (da_cons (dv 1) da_nil)) (fun _ _ _=>(pg_name (i:=0) (show List.Nodup (["_law_k", "_law_box_here"]:List Str) by decide +kernel) rfl lo)) (fun _ _ _=>ts_nil) (fun _ _ _=>(d_ix ixC so_ix d_str (d_call C_take hr.le rfl (da_cons (dv 1) (da_cons d_int da_nil))) (fun _ _=>rfl)))) da_nil))))
  b_nil)
  (b_cons (s_if (d_testC eqC so_eqS (dv 2) d_int (nomark _))
  (b_cons (s_set (i:=3) sc_bars.nd rfl lo (d_call C_take hr.le rfl (da_cons (dv 0) (da_cons (dv 1) da_nil))))
  (b_cons (s_set (i:=4) sc_bars.nd rfl lo (d_op addC (so_add (m:=false)) (d_op addC (so_add (m:=false)) (dv 3) d_int) (d_call C_take hr.le rfl (da_cons (dv 0) (da_cons (d_op subC so_i2' (dv 1) (dv 3)) da_nil)))))
  (b_one (s_ret (d_op addC (so_add (m:=false)) (d_op addC (so_add (m:=false)) (d_op mulC so_mul d_str (dv 3)) (d_op mulC so_mul d_str (d_op subC so_i2' (dv 4) (dv 3)))) (d_op mulC so_mul d_str (d_op subC so_i2' (dv 1) (dv 4))))))))
  b_nil)
  (b_cons (s_if (d_testC eqC so_eqS (dv 2) d_int (nomark _))
  (b_one (s_ret (d_mt PySem.F.plainAttrs_str PySem.F.slot_str_join PySem.F.type_str_join joinC so_join d_str (da_cons (d_comp false (compOk (XN:=["_law_box_here", "_law_size", "_law_kind", "_law_first", "_law_behind"]) (xsc:=(defScope s_bars)) (N:=["_law_k", "_law_box_here"]) (js:=[none,some 0]) (by decide +kernel)) rfl (so_name 0) (mo_name 0) rfl (i_range1 rfl T.range (da_cons (dv 1) da_nil)) (fun _ _ _=>(pg_name (i:=0) (show List.Nodup (["_law_k", "_law_box_here"]:List Str) by decide +kernel) rfl lo)) (fun _ _ _=>ts_nil) (fun _ _ _=>(d_ix ixC so_ix d_str (d_call C_take hr.le rfl (da_cons (dv 1) (da_cons d_int da_nil))) (fun _ _=>rfl)))) da_nil))))
  b_nil)
  (b_one (s_ret (d_op mulC so_mul (d_ix ixC so_ix d_str (d_call C_take hr.le rfl (da_cons (dv 0) (da_cons d_int da_nil))) (fun _ _=>rfl)) (dv 1))))))))),fun ds μ Kd hm hl h=>?_⟩)
 obtain⟨k,n,rfl⟩:=inv_bars h
 unfold fBars at h
 ·skip
  obtain⟨hb,h1,h2,kk⟩:=h
  refine⟨hb,by decide,by decide,fun v v0 v1=>?_⟩
  refine iteDf (fun hv=>?_) (fun hv=>?_)
  ·refine⟨rfl,by omega,by omega,sz (by rw[rngD_len];omega),?_⟩
   refine bars_join (n:=n.toNat) (by omega) (fun d K' k'=>?_) fun l hl ho=>.keep (kk l hl ho)
   refine⟨hb,by decide,by decide,fun v v0 v1=>⟨by decide,?_⟩⟩
   obtain⟨c,e,hc⟩:=atI_in (l:=(Str.ofString "ox").cps.toList) v0 v1
   exact opt_of e (k' c ((OX.of (l:=(Str.ofString "ox").cps.toList) (by decide +kernel)) c hc))
  refine iteDf (fun hv=>?_) (fun hv=>?_)
  ·refine⟨rfl,by omega,by omega,sz (by rw[rngD_len];omega),?_⟩
   refine bars_join (n:=n.toNat) (by omega) (fun d K' k'=>?_) fun l hl ho=>.keep (kk l hl ho)
   refine⟨hb,by decide,by decide,fun v v0 v1=>⟨by decide,?_⟩⟩
   obtain⟨c,e,hc⟩:=atI_in (l:=(Str.ofString "ooooox").cps.toList) v0 v1
   exact opt_of e (k' c ((OX.of (l:=(Str.ofString "ooooox").cps.toList) (by decide +kernel)) c hc))
  refine iteDf (fun hv=>?_) (fun hv=>?_)
  ·refine⟨hb,by omega,by omega,fun p p0 p1=>⟨hb,by omega,by omega,fun g g0 g1=>?_⟩⟩
   refine⟨120,rfl,by omega,by omega,111,rfl,by omega,by omega,?_,120,rfl,by omega,by omega,?_,?_⟩
   ·rw[lenS,lenS,List.length_replicate,List.length_replicate];exact sz (by omega)
   ·rw[app_str,lenS,lenS,gxE,List.length_replicate,List.length_replicate,List.length_replicate];exact sz (by omega)
   rw[app_str,app_str]
   refine .keep (kk _ ?_ (((OX.rep (.inr rfl)).app (OX.rep (.inl rfl))).app (OX.rep (.inr rfl))))
   rw[gxE,gxE,List.length_replicate,List.length_replicate,List.length_replicate];omega
  refine iteDf (fun hv=>?_) (fun hv=>?_)
  ·refine⟨rfl,by omega,by omega,sz (by rw[rngD_len];omega),?_⟩
   refine bars_join (n:=n.toNat) (by omega) (fun d K' k'=>?_) fun l hl ho=>.keep (kk l hl ho)
   refine⟨hb,by decide,by decide,fun v v0 v1=>⟨by decide,?_⟩⟩
   obtain⟨c,e,hc⟩:=atI_in (l:=(Str.ofString "xxxo").cps.toList) v0 v1
   exact opt_of e (k' c ((OX.of (l:=(Str.ofString "xxxo").cps.toList) (by decide +kernel)) c hc))
  refine⟨hb,by decide,by decide,fun p p0 p1=>⟨by decide,?_⟩⟩
  obtain⟨c,e,hc⟩:=atI_in (l:=(Str.ofString "ox").cps.toList) p0 p1
  exact opt_of e ⟨c,rfl,by omega,by omega,.keep (kk _ (List.length_replicate ..) (OX.rep ((OX.of (l:=(Str.ofString "ox").cps.toList) (by decide +kernel)) c hc)))⟩
theorem inv_patched {ds:List D}{μ:MS}{Kd:DK}(h:fPatched ds μ Kd):∃ v0 v1 v2 v3,ds=[.mr v0,.int v1,.lst v2,.mr v3]:=by
 unfold fPatched at h
 rcases ds with _ | ⟨z0,ds⟩
 ·exact False.elim h
 cases z0 <;> first | exact False.elim h | skip
 rcases ds with _ | ⟨z1,ds⟩
 ·exact False.elim h
 cases z1 <;> first | exact False.elim h | skip
 rcases ds with _ | ⟨z2,ds⟩
 ·exact False.elim h
 cases z2 <;> first | exact False.elim h | skip
 rcases ds with _ | ⟨z3,ds⟩
 ·exact False.elim h
 cases z3 <;> first | exact False.elim h | skip
 rcases ds with _ | ⟨zz,zs⟩
 ·exact⟨_,_,_,_,rfl⟩
 ·exact False.elim h
theorem ok_patched {f:Addr}{fd:FuncData}(F:Fun K "_law_patched" "_law_patched" s_patched f fd)(T:Bi2 mg)(C_take:Cal P w K mg base "_law_take" 1 ["_law_box_here", "_law_many"] (spD fTake)):FnOk P w K mg base CX0 2 f fd ["_law_box_here", "_law_size", "_law_cuts_here", "_law_texts"] (spD fPatched):=by
 refine F.okD sc_patched (fun ds μ Kd h=>by obtain⟨_,_,_,_,rfl⟩:=inv_patched h;rfl) (fun cdv A outer s H E hr=>⟨_,(b_cons (s_set (i:=4) sc_patched.nd rfl lo (d_op addC (so_add (m:=false)) (d_op addC (so_add (m:=false)) (d_lst false (da_cons d_int da_nil)) (dv 2)) (d_lst false (da_cons (dv 1) da_nil))))
  (b_cons (s_for PassesOwn.never rfl (i_range1 rfl T.range (da_cons (d_op subC so_i2' (d_blt lenC so_len (by rfl) T.len PySem.boot_len (da_cons (dv 4) da_nil)) d_int) da_nil)) ⟨(pg_name (i:=5) sc_patched.nd rfl lo),(so_name 5),(mo_name 5)⟩
  (b_cons (s_set (i:=6) sc_patched.nd rfl lo (d_call C_take hr.le rfl (da_cons (dv 0) (da_cons (d_blt lenC so_len (by rfl) T.len PySem.boot_len (da_cons (dv 3) da_nil)) da_nil))))
  (b_cons (s_set (i:=7) sc_patched.nd rfl lo (d_ix ixC so_ix (dv 3) (dv 6) (fun _ _=>rfl)))
  (b_cons (s_set (i:=8) sc_patched.nd rfl lo (d_op mulC so_mul d_str (d_op subC so_i2' (d_ix ixC so_ix (dv 4) (d_op addC (so_add (m:=false)) (dv 5) d_int) (fun _ _=>rfl)) (d_ix ixC so_ix (dv 4) (dv 5) (fun _ _=>rfl)))))
  (b_one (s_asgS (d_op addC (so_add (m:=false)) (d_op addC (so_add (m:=false)) (d_slice false (dv 7) o_no (o_some (d_ix ixC so_ix (dv 4) (dv 5) (fun _ _=>rfl)))) (dv 8)) (d_slice false (dv 7) (o_some (d_ix ixC so_ix (dv 4) (d_op addC (so_add (m:=false)) (dv 5) d_int) (fun _ _=>rfl))) o_no)) (dv 3) (dv 6)))))))
  (b_one (s_ret (dv 3))))),fun ds μ Kd hm hl h=>?_⟩)
 obtain⟨k,n,cs0,t,rfl⟩:=inv_patched h
 unfold fPatched at h
 ·skip
  obtain⟨hb,hkt,h1,h2,cs,ls,rfl,hcl,hc,ht,hne,hll,hg,kk⟩:=h
  have lt:t<μ.length:=(gxB ht).1
  refine⟨by show 1<=sizeLine;decide,?_⟩
  refine⟨by rw[gxC];exact sz (by show 1+cs.length<=_;omega),?_⟩
  refine⟨by show 1<=sizeLine;decide,?_⟩
  refine⟨by rw[gxE,gxC];exact sz (by show 1+cs.length+1<=_;omega),?_⟩
  rw[ends_map n cs]
  obtain⟨es,he⟩:∃ es,es=endsOf n cs:=⟨_,rfl⟩
  rw[<- he]
  have hup:es.Pairwise (·<·):=by rw[he];exact ends_up h1 hc
  have hin:∀ x∈es,0<=x/\x<=n:=fun x hx=>ends_in h1 hc (by rw[<- he];exact hx)
  have hel:es.length=cs.length+2:=by rw[he,endsOf_len]
  have len1:((es.map D.int).length:Int)=(es.length:Nat):=by rw[gxC]
  refine⟨by rw[len1];omega,by rw[len1];omega,?_⟩
  refine forW_inv (fun ds ρ μ'=>(∀ d∈ds,∃ j:Nat,j+1<es.length/\d=.int j)/\∃ ls' a b c d,ρ=[some (.mr k),some (.int n),some (.lst (cs.map D.int)),some (.mr t),some (.lst (es.map D.int)),a,b,c,d]/\μ'=μ.set t (.lst (ls'.map txD))/\ls'.length=ls.length/\Good n ls') ⟨fun d hd=>?_,ls,none,none,none,none,rfl,?_,rfl,hg⟩ ?_ ?_
  ·obtain⟨j,hj,rfl⟩:=rngD_mem hd
   rw[len1]at hj
   exact⟨j,by omega,by rw[Int.zero_add]⟩
  ·exact(set_self ht).symm
  ·rintro d ds' ρ μ' ⟨hd,ls',a,b,c,e,rfl,rfl,hl',hg'⟩
   refine⟨trivial,fun nx hnx=>?_⟩
   obtain⟨j,hj,rfl⟩:=hd d List.mem_cons_self
   have hbx:(μ.set t (.lst (ls'.map txD)))[k]?=some .box:=by rw[List.getElem?_set_ne (Ne.symm hkt)];exact hb
   have lls:0<ls'.length:=by rw[hl'];exact List.length_pos_iff.mpr hne
   refine opt_of (lvM_set lt) ⟨hbx,by rw[gxC];omega,by rw[gxC];omega,fun v v0 v1=>?_⟩
   rw[gxC]at v1
   obtain⟨l,hl2⟩:∃ l,ls'[v.toNat]?=some l:=⟨ls'[v.toNat]'(by omega),gxA _⟩
   obtain⟨hll2,hox⟩:=hg' l (gxD hl2)
   have ev:atI (ls'.map txD) v=some (txD l):=by have:=atI_map (g:=txD) hl2;rwa [Int.toNat_of_nonneg v0]at this
   refine opt_of (lvM_set lt) (opt_of ev ?_)
   obtain⟨x,hx⟩:∃ x,es[j]?=some x:=⟨es[j]'(by omega),gxA _⟩
   obtain⟨y,hy⟩:∃ y,es[j+1]?=some y:=⟨es[j+1]'(by omega),gxA _⟩
   have hxy:=up_get hup hx hy (Nat.lt_succ_self _)
   have hx2:=hin x (gxD hx)
   have hy2:=hin y (gxD hy)
   have e1:atI (es.map D.int) (j:Int)=some (.int x):=atI_map hx
   have e2:atI (es.map D.int) ((j:Int)+1)=some (.int y):=atI_map (i:=j+1) hy
   refine opt_of e2 (opt_of e1 ⟨111,rfl,by omega,by omega,?_⟩)
   have lz:(txt l).length<=sizeLine:=by rw[txt_len];exact sz (by omega)
   refine opt_of e1 ⟨lz,?_⟩
   have c1:=cutL_le l none (some x)
   have c2:=cutL_le l (some y) none
   refine⟨?_,?_⟩
   ·show(txt (cutL l none (some x))).length+(txt (List.replicate (y - x).toNat 111)).length<=sizeLine
    rw[txt_len,txt_len,List.length_replicate];exact sz (by omega)
   refine opt_of e2 ⟨lz,?_,?_⟩
   ·show(txt (cutL l none (some x))++txt (List.replicate (y - x).toNat 111)).length+(txt (cutL l (some y) none)).length<=sizeLine
    rw[app_str,lenS,txt_len,gxE,List.length_replicate];exact sz (by omega)
   have ei:ixN (ls'.map txD).length v=some v.toNat:=by
    unfold ixN;rw[if_pos v0,if_pos (by rw[gxC];omega)]
   refine opt_of (lvM_set lt) (opt_of ei (hnx _ _ ⟨fun d hd'=>hd d (gxI _ hd'),ls'.set v.toNat (l.take x.toNat++List.replicate (y - x).toNat 111++l.drop y.toNat),_,_,_,_,rfl,?_,by rw[List.length_set];exact hl',fun l' hl3=>?_⟩))
   ·rw[List.set_set,List.map_set]
    congr 3
    show D.str (txt (cutL l none (some x))++txt (List.replicate (y - x).toNat 111)++txt (cutL l (some y) none))=_
    rw[app_str,app_str,cutL_to hx2.1,cutL_from hy2.1]
    rfl
   ·rcases List.mem_or_eq_of_mem_set hl3 with q | q
    ·exact hg' l' q
    ·rw[q]
     refine⟨?_,((show OX (l.take x.toNat)from fun c hc=>hox c (List.mem_of_mem_take hc)).app (OX.rep (.inl rfl))).app (show OX (l.drop y.toNat)from fun c hc=>hox c (List.mem_of_mem_drop hc))⟩
     rw[gxE,gxE,List.length_take,List.length_replicate,List.length_drop]
     omega
  ·rintro ρ μ' ⟨_,ls',a,b,c,e,rfl,rfl,hl',hg'⟩
   exact⟨trivial,.keep (kk ls' hl' hg')⟩
theorem inv_shelf {ds:List D}{μ:MS}{Kd:DK}(h:fShelf ds μ Kd):∃ v0 v1,ds=[.mr v0,.int v1]:=by
 unfold fShelf at h
 rcases ds with _ | ⟨z0,ds⟩
 ·exact False.elim h
 cases z0 <;> first | exact False.elim h | skip
 rcases ds with _ | ⟨z1,ds⟩
 ·exact False.elim h
 cases z1 <;> first | exact False.elim h | skip
 rcases ds with _ | ⟨zz,zs⟩
 ·exact⟨_,_,rfl⟩
 ·exact False.elim h
theorem ok_shelf {f:Addr}{fd:FuncData}(F:Fun K "_law_shelf" "_law_shelf" s_shelf f fd)(T:Bi2 mg)(C_take:Cal P w K mg base "_law_take" 1 ["_law_box_here", "_law_many"] (spD fTake))(C_bars:Cal P w K mg base "_law_bars" 2 ["_law_box_here", "_law_size"] (spD fBars))(C_cuts:Cal P w K mg base "_law_cuts" 2 ["_law_box_here", "_law_size"] (spD fCuts))(C_patched:Cal P w K mg base "_law_patched" 2 ["_law_box_here", "_law_size", "_law_cuts_here", "_law_texts"] (spD fPatched)):FnOk P w K mg base CX0 3 f fd ["_law_box_here", "_law_most"] (spD fShelf):=by
 refine F.okD sc_shelf (fun ds μ Kd h=>by obtain⟨_,_,rfl⟩:=inv_shelf h;rfl) (fun cdv A outer s H E hr=>⟨_,(b_cons (s_set (i:=2) sc_shelf.nd rfl lo (d_op addC (so_add (m:=false)) d_int (d_call C_take hr.le rfl (da_cons (dv 0) (da_cons (dv 1) da_nil)))))
  (b_cons (s_set (i:=3) sc_shelf.nd rfl lo (d_call C_cuts hr.le rfl (da_cons (dv 0) (da_cons (dv 2) da_nil))))
  (b_cons (s_set (i:=4) sc_shelf.nd rfl lo (d_call C_take hr.le rfl (da_cons (dv 0) (da_cons d_int da_nil))))
  (b_cut (s_if (d_testC eqC so_eqS (d_call C_take hr.le rfl (da_cons (dv 0) (da_cons d_int da_nil))) d_int (nomark _))
  (b_one (s_set (i:=4) sc_shelf.nd rfl lo d_int))
  b_nil)
  (b_cons (s_setComp (i:=5) true (compOk (XN:=["_law_box_here", "_law_most", "_law_size", "_law_cuts_here", "_law_many", "_law_texts", "_law_kind", "_law_low", "_law_ages"]) (xsc:=(defScope s_shelf)) (N:=["_law_k", "_law_box_here", "_law_size"]) (js:=[none,some 0,some 2]) (by decide +kernel)) rfl (so_name 0) (mo_name 0) rfl sc_shelf.nd rfl lo (i_range1 rfl T.range (da_cons (dv 4) da_nil)) (fun _ _ _=>(pg_name (i:=0) (show List.Nodup (["_law_k", "_law_box_here", "_law_size"]:List Str) by decide +kernel) rfl lo)) (fun _ _ _=>ts_nil) (fun _ _ _=>(d_call C_bars hr.le rfl (da_cons (dv 1) (da_cons (dv 2) da_nil)))))
  (b_cut (s_if (PW.pt (t_and (d_testC gtC so_b2' (dv 4) d_int (nomark _)) (t_and1 (d_testC gtC so_b2' (d_call C_take hr.le rfl (da_cons (dv 0) (da_cons d_int da_nil))) d_int (nomark _)))))
  (b_one (s_set (i:=5) sc_shelf.nd rfl lo (d_call C_patched hr.le rfl (da_cons (dv 0) (da_cons (dv 2) (da_cons (dv 3) (da_cons (dv 5) da_nil)))))))
  b_nil)
  (b_cons (s_set (i:=6) sc_shelf.nd rfl lo (d_call C_take hr.le rfl (da_cons (dv 0) (da_cons d_int da_nil))))
  (b_cons (s_set (i:=7) sc_shelf.nd rfl lo (d_call C_take hr.le rfl (da_cons (dv 0) (da_cons d_int da_nil))))
  (b_cons (s_setComp (i:=8) false (compOk (XN:=["_law_box_here", "_law_most", "_law_size", "_law_cuts_here", "_law_many", "_law_texts", "_law_kind", "_law_low", "_law_ages"]) (xsc:=(defScope s_shelf)) (N:=["_law_k", "_law_low", "_law_box_here", "_law_kind"]) (js:=[none,some 7,some 0,some 6]) (by decide +kernel)) rfl (so_name 0) (mo_name 0) rfl sc_shelf.nd rfl lo (i_range1 rfl T.range (da_cons (dv 4) da_nil)) (fun _ _ _=>(pg_name (i:=0) (show List.Nodup (["_law_k", "_law_low", "_law_box_here", "_law_kind"]:List Str) by decide +kernel) rfl lo)) (fun _ _ _=>ts_nil) (fun _ _ _=>(d_op addC (so_add (m:=false)) (dv 1) (d_call C_take hr.le rfl (da_cons (dv 2) (da_cons (d_ix ixC so_ix (d_lst false (da_cons d_int (da_cons d_int (da_cons d_int (da_cons d_int da_nil))))) (dv 3) (fun _ _=>rfl)) da_nil))))))
  (b_one (s_ret (d_tup (da_cons (dv 2) (da_cons (dv 3) (da_cons (d_listZip false rfl (by rfl) T.list (by rfl) T.zip (da_cons (dv 5) (da_cons (dv 8) da_nil))) da_nil))))))))))))))),fun ds μ Kd hm hl h=>?_⟩)
 obtain⟨k,m,rfl⟩:=inv_shelf h
 unfold fShelf at h
 ·skip
  obtain⟨hb,h1,h2,kk⟩:=h
  refine⟨hb,by omega,by omega,fun v v0 v1=>?_⟩
  refine⟨hb,by omega,by omega,fun cs hcl hc=>?_⟩
  refine⟨hb,by decide,by decide,fun w w0 w1=>?_⟩
  refine⟨fun ρ' μ'=>∃ many:Int,0<=many/\many<=20/\ρ'=[some (.mr k),some (.int m),some (.int (1+v)),some (.lst (cs.map D.int)),some (.int many),none,none,none,none]/\μ'=μ,?_,?_⟩
  ·refine⟨hb,by decide,by decide,fun u u0 u1=>?_⟩
   exact iteDf (fun _=>⟨20,by decide,by decide,rfl,rfl⟩) (fun _=>⟨w,w0,by omega,rfl,rfl⟩)
  rintro ρ' μ' ⟨many,m0,m1,rfl,rfl⟩
  refine⟨by omega,by omega,sz (by rw[rngD_len];omega),?_⟩
  refine compW_any txD (fun l=>(l.length:Int)=1+v/\OX l) trivial (fun d hd K' k'=>⟨hb,by omega,by omega,fun l hl ho=>k' l ⟨by omega,ho⟩⟩) fun ls hls hg=>?_
  rw[rngD_len]at hls
  have kl:k<μ'.length:=(gxB hb).1
  have hb2:∀ x:MO,(μ'++[x])[k]?=some .box:=fun x=>by rw[gxF kl];exact hb
  refine⟨fun ρ'' μ''=>∃ ls':List (List Nat),ls'.length=many.toNat/\Good (1+v) ls'/\ρ''=[some (.mr k),some (.int m),some (.int (1+v)),some (.lst (cs.map D.int)),some (.int many),some (.mr μ'.length),none,none,none]/\μ''=μ'++[.lst (ls'.map txD)],?_,?_⟩
  ·refine iteD (fun hp=>?_) (fun hp=>⟨ls,hls,hg,rfl,rfl⟩)
   refine⟨hb2 _,by decide,by decide,fun u u0 u1=>?_⟩
   refine iteD (fun _=>?_) (fun _=>⟨ls,hls,hg,rfl,rfl⟩)
   refine⟨hb2 _,Nat.ne_of_lt kl,by omega,by omega,cs,ls,rfl,by omega,hc,lvM_eq lvM_new,?_,by omega,hg,fun ls' hl' hg'=>⟨ls',hl'.trans hls,hg',rfl,set_end⟩⟩
   intro e
   rw[e]at hls
   simp at hls
   omega
  rintro ρ'' μ'' ⟨ls',hl',hg',rfl,rfl⟩
  refine⟨hb2 _,by decide,by decide,fun kd k0 k1=>⟨hb2 _,by decide,by decide,fun lw l0 l1=>?_⟩⟩
  refine⟨by omega,by omega,sz (by rw[rngD_len];omega),?_⟩
  obtain⟨mm,em,mm1,mm2⟩:=ages4 k0 k1
  refine compW_any D.int (fun a=>0<=a/\a<=60) trivial (fun d hd K' k'=>⟨by show 4<=sizeLine;decide,opt_of em ⟨hb2 _,by omega,by omega,fun a a0 a1=>k' (lw+a) ⟨by omega,by omega⟩⟩⟩) fun as has hag=>?_
  rw[rngD_len]at has
  refine opt_of lvM_new ⟨by show 3<=sizeLine;decide,?_⟩
  rw[zip_tk]
  refine .drop ⟨True.intro,mrL_ints cs,mrL_tk _,True.intro⟩ (old_at (n:=0) hm) ?_
  rw[take_end]
  refine kk (1+v) cs (ls'.zip as) (by omega) (by omega) hcl hc ⟨by rw[List.length_zip];omega,fun t ht=>?_⟩
  have z1:=hg' t.1 (List.of_mem_zip ht).1
  have z2:=hag t.2 (List.of_mem_zip ht).2
  exact⟨z1.1,z1.2,z2.1,z2.2⟩
theorem inv_ends {ds:List D}{μ:MS}{Kd:DK}(h:fEnds ds μ Kd):∃ v0 v1,ds=[.int v0,v1]:=by
 unfold fEnds at h
 rcases ds with _ | ⟨z0,ds⟩
 ·exact False.elim h
 cases z0 <;> first | exact False.elim h | skip
 rcases ds with _ | ⟨z1,ds⟩
 ·exact False.elim h
 rcases ds with _ | ⟨zz,zs⟩
 ·exact⟨_,_,rfl⟩
 ·exact False.elim h
theorem ok_ends {f:Addr}{fd:FuncData}(F:Fun K "ends" "ends" s_ends f fd)(T:Bi2 mg)  : FnOk P w K mg base CX0 1 f fd ["size", "cuts"] (spD fEnds):=by
 refine F.okD sc_ends (fun ds μ Kd h=>by obtain⟨_,_,rfl⟩:=inv_ends h;rfl) (fun cdv A outer s H E hr=>⟨_,(b_one (s_ret (d_op addC (so_add (m:=false)) (d_op addC (so_add (m:=false)) (d_lst false (da_cons d_int da_nil)) (d_ty listC (so_list (m:=false)) (by rfl) T.list PyProof.Rows.boot_list (da_cons (dv 1) da_nil))) (d_lst false (da_cons (dv 0) da_nil))))),fun ds μ Kd hm hl h=>?_⟩)
 obtain⟨n,x,rfl⟩:=inv_ends h
 unfold fEnds at h
 ·skip
  obtain⟨cs,ex,hc,kk⟩:=h
  refine⟨by show 1<=sizeLine;decide,opt_of ex ⟨by rw[gxC];exact sz (by show 1+cs.length<=_;omega),by show 1<=sizeLine;decide,by rw[gxE,gxC];exact sz (by show 1+cs.length+1<=_;omega),?_⟩⟩
  rw[ends_map]
  exact .keep kk
theorem prs_zip (es:List Int):List.zipWith (fun a b=>D.tup [a,b]) (es.map D.int) (L2.cutD (es.map D.int) (some 1) none)=(prs es).map prD:=by
 have e:L2.cutD (es.map D.int) (some 1) none=es.tail.map D.int:=by
  unfold L2.cutD
  rw[show(1:Int)=((1:Nat):Int)from rfl,HT.sIx_nat,HT.sIx_none,gxC]
  cases es with
  | nil=>rfl
  | cons a es=>rw[List.length_cons,Nat.min_eq_left (by omega)];simp[List.take_of_length_le]
 rw[e]
 unfold prs
 have key:∀(xs ys:List Int),List.zipWith (fun a b=>D.tup [a,b]) (xs.map D.int) (ys.map D.int)=(xs.zip ys).map prD:=by
  intro xs
  induction xs with
  | nil=>intro ys;simp
  | cons x xs ih =>
   intro ys
   cases ys with
   | nil=>simp
   | cons y ys=>rw[List.map_cons,List.map_cons,List.zipWith_cons_cons,ih,List.zip_cons_cons,List.map_cons];rfl
 exact key es es.tail
theorem inv_pieces {ds:List D}{μ:MS}{Kd:DK}(h:fPieces ds μ Kd):∃ v0 v1,ds=[.int v0,v1]:=by
 unfold fPieces at h
 rcases ds with _ | ⟨z0,ds⟩
 ·exact False.elim h
 cases z0 <;> first | exact False.elim h | skip
 rcases ds with _ | ⟨z1,ds⟩
 ·exact False.elim h
 rcases ds with _ | ⟨zz,zs⟩
 ·exact⟨_,_,rfl⟩
 ·exact False.elim h
theorem ok_pieces {f:Addr}{fd:FuncData}(F:Fun K "pieces" "pieces" s_pieces f fd)(T:Bi2 mg)(C_ends:Cal P w K mg base "ends" 1 ["size", "cuts"] (spD fEnds)):FnOk P w K mg base CX0 2 f fd ["size", "cuts"] (spD fPieces):=by
 refine F.okD sc_pieces (fun ds μ Kd h=>by obtain⟨_,_,rfl⟩:=inv_pieces h;rfl) (fun cdv A outer s H E hr=>⟨_,(b_cons (s_set (i:=2) sc_pieces.nd rfl lo (d_call C_ends hr.le rfl (da_cons (dv 0) (da_cons (dv 1) da_nil))))
  (b_one (s_ret (d_listZip false rfl (by rfl) T.list (by rfl) T.zip (da_cons (dv 2) (da_cons (d_slice false (dv 2) (o_some d_int) o_no) da_nil)))))),fun ds μ Kd hm hl h=>?_⟩)
 obtain⟨n,x,rfl⟩:=inv_pieces h
 unfold fPieces at h
 ·skip
  obtain⟨cs,ex,hc,kk⟩:=h
  refine⟨cs,ex,hc,?_⟩
  show Fz _ _ (.lst (List.zipWith (fun a b=>D.tup [a,b]) ((endsOf n cs).map D.int) (L2.cutD ((endsOf n cs).map D.int) (some 1) none))) μ
  rw[prs_zip]
  exact .keep kk
theorem inv_bar_of {ds:List D}{μ:MS}{Kd:DK}(h:fBarOf ds μ Kd):∃ v0 v1 v2,ds=[.int v0,v1,v2]:=by
 unfold fBarOf at h
 rcases ds with _ | ⟨z0,ds⟩
 ·exact False.elim h
 cases z0 <;> first | exact False.elim h | skip
 rcases ds with _ | ⟨z1,ds⟩
 ·exact False.elim h
 rcases ds with _ | ⟨z2,ds⟩
 ·exact False.elim h
 rcases ds with _ | ⟨zz,zs⟩
 ·exact⟨_,_,_,rfl⟩
 ·exact False.elim h
theorem ok_bar_of {f:Addr}{fd:FuncData}(F:Fun K "bar_of" "bar_of" s_bar_of f fd)(T:Bi2 mg)(C_pieces:Cal P w K mg base "pieces" 2 ["size", "cuts"] (spD fPieces)):FnOk P w K mg base CX0 3 f fd ["size", "cuts", "takes"] (spD fBarOf):=by
 refine F.okD sc_bar_of (fun ds μ Kd h=>by obtain⟨_,_,_,rfl⟩:=inv_bar_of h;rfl) (fun cdv A outer s H E hr=>⟨_,(b_cons (s_for PassesOwn.never rfl (i_list (d_call C_pieces hr.le rfl (da_cons (dv 0) (da_cons (dv 1) da_nil)))) ⟨(pg_tupC (n:=2) rfl (pgs_consC (pg_name (i:=3) sc_bar_of.nd rfl lo) (pgs_consC (pg_name (i:=4) sc_bar_of.nd rfl lo) pgs_nilC))),(so_tup (so_cons (so_name 3) (mo_name 3) (so_cons (so_name 4) (mo_name 4) so_nil mo_nil) (mo_cons (mo_name 4) mo_nil))),(mo_tup (mo_cons (mo_name 3) (mo_cons (mo_name 4) mo_nil)))⟩
  (b_one (s_if (d_testV (d_blt (allC rfl) so_all (by rfl) T.all PyProof.Rows.boot_all (da_cons (d_comp false (compOk (XN:=["size", "cuts", "takes", "first", "behind"]) (xsc:=(defScope s_bar_of)) (N:=["text", "age", "first", "behind"]) (js:=[none,none,some 3,some 4]) (by decide +kernel)) rfl (so_tup (so_cons (so_name 0) (mo_name 0) (so_cons (so_name 1) (mo_name 1) so_nil mo_nil) (mo_cons (mo_name 1) mo_nil))) (mo_tup (mo_cons (mo_name 0) (mo_cons (mo_name 1) mo_nil))) rfl (i_list (dv 2)) (fun _ _ _=>(pg_tupC (n:=2) rfl (pgs_consC (pg_name (i:=0) (show List.Nodup (["text", "age", "first", "behind"]:List Str) by decide +kernel) rfl lo) (pgs_consC (pg_name (i:=1) (show List.Nodup (["text", "age", "first", "behind"]:List Str) by decide +kernel) rfl lo) pgs_nilC)))) (fun _ _ _=>ts_nil) (fun _ _ _=>(d_cmp inC so_in d_str (d_slice false (dv 0) (o_some (dv 2)) (o_some (dv 3))) (by with_unfolding_all rfl)))) da_nil)))
  (b_one (s_ret (d_tup (da_cons (dv 3) (da_cons (dv 4) da_nil)))))
  b_nil)))
  (b_one (s_ret d_non))),fun ds μ Kd hm hl h=>?_⟩)
 obtain⟨n,x,y,rfl⟩:=inv_bar_of h
 unfold fBarOf at h
 ·skip
  obtain⟨cs,ts,ex,ey,hc,ht,hn,kk⟩:=h
  refine⟨cs,ex,hc,?_⟩
  refine forW_inv (fun ds ρ μ'=>∃(ps:List (Int×Int)) (a b:Option D),ds=ps.map prD/\barOf (endsOf n cs) ts=ps.find? (bad ts)/\ρ=[some (.int n),some x,some y,a,b]/\μ'=μ) ⟨_,none,none,rfl,rfl,rfl,rfl⟩ ?_ ?_
  ·rintro d ds' ρ μ' ⟨ps,a,b,e,hf,rfl,rfl⟩
   refine⟨trivial,fun nx hnx=>?_⟩
   cases ps with
   | nil=>cases e
   | cons p ps =>
    cases e
    refine⟨rfl,?_⟩
    refine opt_of ey ⟨by rw[gxC];exact sz (by have:=ht.few;omega),?_⟩
    refine compW_map (lc_of ey) (fun d=>match d with | .tup [.str z,_]=>some (.bl (decide (120∈cutL z.cps.toList (some p.1) (some p.2)))) | _=>none) (fun d hd K' k'=>?_) ?_
    ·obtain⟨t,ht',rfl⟩:=List.mem_map.mp hd
     have hz:=ht.ok t ht'
     refine⟨rfl,?_⟩
     refine⟨by rw[txt_len];exact sz (by omega),120,rfl,?_⟩
     rw[fne]
     exact k'
    ·refine⟨ts.map fun t=>decide (120∈cutN t.1 p.1 p.2),?_,?_⟩
     ·show some _=_
      rw[List.filterMap_map,List.map_map]
      congr 1
      rw[<- List.filterMap_eq_map]
      rfl
     ·have eb:(ts.map fun t=>decide (120∈cutN t.1 p.1 p.2)).all id=bad ts p:=by unfold bad;rw[List.all_map];rfl
      rw[List.find?_cons,<- eb]at hf
      refine iteB (b:=(ts.map fun t=>decide (120∈cutN t.1 p.1 p.2)).all id) (fun hb=>?_) (fun hb=>?_)
      ·refine⟨by show 2<=sizeLine;decide,.keep ?_⟩
       rw[hb]at hf
       rw[hf]at kk
       exact kk
      ·rw[hb]at hf
       exact hnx _ _ ⟨ps,_,_,rfl,hf,rfl,rfl⟩
  ·rintro ρ μ' ⟨ps,a,b,e,hf,rfl,rfl⟩
   cases ps with
   | nil =>
    rw[hf]at kk
    exact⟨trivial,.keep kk⟩
   | cons p ps=>cases e
theorem ok_same1 (n:Nat){f:Addr}{fd:FuncData}(F:Fun K "_law_same" "_law_same" s_same f fd)(T:Bi2 mg)(C_same:Cal P w K mg base "_law_same" n ["_law_found", "_law_due"] (spS n)):FnOk P w K mg base CX0 (n+1) f fd ["_law_found", "_law_due"] (spSame n):=by
 refine F.ok sc_same (fun vs H Q E h=>?_) (fun cdv A outer s H vs Q E hr h=>?_)
 ·unfold spSame at h;split at h
  ·rfl
  ·exact h.elim
 ·unfold spSame at h;split at h
  ·rename_i x y
   obtain⟨d,hd,hw,hx,hy,k⟩:=h
   refine⟨_,(pss_cons (ps_if (PW.pt (pw_or (pt_valC (pe_callB isiC (by rfl) T.isinstance PyProof.Rows.boot_isinstance (pa_cons (pvC 1) (pa_cons (pe_bltn (v:=.ty "bool") rfl T.bool PyProof.Rows.boot_bool rfl) pa_nil)))) (pw_or1 (pt_valC (pe_callB isiC (by rfl) T.isinstance PyProof.Rows.boot_isinstance (pa_cons (pvC 0) (pa_cons (pe_bltn (v:=.ty "bool") rfl T.bool PyProof.Rows.boot_bool rfl) pa_nil)))))))
   (pss_one (ps_ret (pe_andC (pe_callB isiC (by rfl) T.isinstance PyProof.Rows.boot_isinstance (pa_cons (pvC 1) (pa_cons (pe_bltn (v:=.ty "bool") rfl T.bool PyProof.Rows.boot_bool rfl) pa_nil))) (pe_andC (pe_callB isiC (by rfl) T.isinstance PyProof.Rows.boot_isinstance (pa_cons (pvC 0) (pa_cons (pe_bltn (v:=.ty "bool") rfl T.bool PyProof.Rows.boot_bool rfl) pa_nil))) (pe_one (pe_cmpR eqN (pvC 0) (pvC 1) (nomark _)))))))
   pss_nil)
   (pss_cons (ps_if (PW.pt (pw_or (pt_valC (pe_callB isiC (by rfl) T.isinstance PyProof.Rows.boot_isinstance (pa_cons (pvC 1) (pa_cons (pe_bltn (v:=.ty "list") rfl T.list PyProof.Rows.boot_list rfl) pa_nil)))) (pw_or1 (pt_valC (pe_callB isiC (by rfl) T.isinstance PyProof.Rows.boot_isinstance (pa_cons (pvC 1) (pa_cons (pe_bltn (v:=.ty "tuple") rfl T.tuple PyProof.Rows.boot_tuple rfl) pa_nil)))))))
   (pss_cons (ps_if (PW.pt (pw_or (pt_cmpC neC (pe_callB isiC (by rfl) T.isinstance PyProof.Rows.boot_isinstance (pa_cons (pvC 1) (pa_cons (pe_bltn (v:=.ty "list") rfl T.list PyProof.Rows.boot_list rfl) pa_nil))) (pe_callB isiC (by rfl) T.isinstance PyProof.Rows.boot_isinstance (pa_cons (pvC 0) (pa_cons (pe_bltn (v:=.ty "list") rfl T.list PyProof.Rows.boot_list rfl) pa_nil))) (nomark _)) (pw_or1 (pt_cmpC neC (pe_callB isiC (by rfl) T.isinstance PyProof.Rows.boot_isinstance (pa_cons (pvC 1) (pa_cons (pe_bltn (v:=.ty "tuple") rfl T.tuple PyProof.Rows.boot_tuple rfl) pa_nil))) (pe_callB isiC (by rfl) T.isinstance PyProof.Rows.boot_isinstance (pa_cons (pvC 0) (pa_cons (pe_bltn (v:=.ty "tuple") rfl T.tuple PyProof.Rows.boot_tuple rfl) pa_nil))) (nomark _)))))
   (pss_one (ps_ret pe_bl))
   pss_nil)
   (pss_one (ps_ret (pe_andC (pe_cmpR eqC (pe_callB lenC (by rfl) T.len PySem.boot_len (pa_cons (pvC 0) pa_nil)) (pe_callB lenC (by rfl) T.len PySem.boot_len (pa_cons (pvC 1) pa_nil)) (nomark _)) (pe_one (pe_callB (allC rfl) (by rfl) T.all PyProof.Rows.boot_all (pa_cons (pe_comp (compOk (XN:=["_law_found", "_law_due"]) (xsc:=(defScope s_same)) (N:=["_law_one", "_law_other"]) (js:=[none,none]) (by decide +kernel)) rfl (pi_zip rfl T.zip (pa_cons (pvC 0) (pa_cons (pvC 1) pa_nil))) (fun _ _ _=>(pg_tupC (n:=2) rfl (pgs_consC (pg_name (i:=0) (show List.Nodup (["_law_one", "_law_other"]:List Str) by decide +kernel) rfl (by first | exact Or.inl rfl | exact Or.inr rfl)) (pgs_consC (pg_name (i:=1) (show List.Nodup (["_law_one", "_law_other"]:List Str) by decide +kernel) rfl (by first | exact Or.inl rfl | exact Or.inr rfl)) pgs_nilC)))) (fun _ _ _=>pts_nil) (fun _ _ _=>(pe_callC C_same (hr.mono (by first | decide | exact Nat.le_refl _ | omega)) rfl (pa_cons (pvC 0) (pa_cons (pvC 1) pa_nil))))) pa_nil)))))))
   pss_nil)
   (pss_cons (ps_if (PW.pt (pw_or (pt_cmpC neC (pe_callB isiC (by rfl) T.isinstance PyProof.Rows.boot_isinstance (pa_cons (pvC 1) (pa_cons (pe_bltn (v:=.ty "str") rfl T.str PyProof.Rows.boot_str rfl) pa_nil))) (pe_callB isiC (by rfl) T.isinstance PyProof.Rows.boot_isinstance (pa_cons (pvC 0) (pa_cons (pe_bltn (v:=.ty "str") rfl T.str PyProof.Rows.boot_str rfl) pa_nil))) (nomark _)) (pw_or1 (pt_cmpC neC (pe_callB isiC (by rfl) T.isinstance PyProof.Rows.boot_isinstance (pa_cons (pvC 1) (pa_cons (pe_bltn (v:=.ty "int") rfl T.int PyProof.Rows.boot_int rfl) pa_nil))) (pe_callB isiC (by rfl) T.isinstance PyProof.Rows.boot_isinstance (pa_cons (pvC 0) (pa_cons (pe_bltn (v:=.ty "int") rfl T.int PyProof.Rows.boot_int rfl) pa_nil))) (nomark _)))))
   (pss_one (ps_ret pe_bl))
   pss_nil)
   (pss_one (ps_ret (pe_cmpR eqN (pvC 0) (pvC 1) (nomark _))))))),?_⟩
   cases d with
   | bl b =>
    obtain rfl:x=.bl b:=hx
    obtain rfl:y=.bl b:=hy
    refine⟨_,true,TyOf.bl b,kit_same K _,_,true,TyOf.bl b,kit_same K _,_,true,TyOf.bl b,kit_same K _,?_⟩
    show Q (.bl (decide (b=b))) H
    rw[decide_eq_true rfl]
    exact k H (Same.refl H)
   | int i =>
    obtain rfl:x=.int i:=hx
    obtain rfl:y=.int i:=hy
    refine⟨_,false,.int i,rfl,_,false,.int i,rfl,_,false,.int i,rfl,_,false,.int i,rfl,_,false,.int i,rfl,_,false,.int i,rfl,_,true,.int i,kit_same K _,_,true,.int i,kit_same K _,?_⟩
    show Q (.bl (decide (i=i))) H
    rw[decide_eq_true rfl]
    exact k H (Same.refl H)
   | str z =>
    obtain rfl:x=.str z:=hx
    obtain rfl:y=.str z:=hy
    refine⟨_,false,.str z,rfl,_,false,.str z,rfl,_,false,.str z,rfl,_,false,.str z,rfl,_,true,.str z,kit_same K _,_,true,.str z,kit_same K _,_,false,.str z,rfl,_,false,.str z,rfl,?_⟩
    show Q (.bl (decide (z=z))) H
    rw[decide_eq_true rfl]
    exact k H (Same.refl H)
   | non =>
    obtain rfl:x=.non:=hx
    obtain rfl:y=.non:=hy
    refine⟨_,false,.non,rfl,_,false,.non,rfl,_,false,.non,rfl,_,false,.non,rfl,_,false,.non,rfl,_,false,.non,rfl,_,false,.non,rfl,_,false,.non,rfl,?_⟩
    exact k H (Same.refl H)
   | lst ds =>
    obtain⟨p,vs,rfl,hp,qp⟩:=hx
    obtain⟨q,ws,rfl,hq,qq⟩:=hy
    obtain⟨m,rfl⟩:∃ m,n=m+1:=⟨n - 1,by unfold dep at hd;omega⟩
    have hd':depL ds<=m:=by unfold dep at hd;omega
    have hw1:ds.length<sizeLine:=by unfold wid at hw;omega
    have hw2:widL ds<sizeLine:=by unfold wid at hw;omega
    have len:vs.length=ws.length:=by rw[qp.len,qq.len]
    refine⟨_,false,TyOf.lst hq,rfl,_,false,TyOf.lst hp,rfl,_,true,TyOf.lst hq,kit_same K _,_,true,TyOf.lst hq,kit_same K _,_,true,TyOf.lst hp,kit_same K _,_,false,TyOf.lst hq,rfl,_,false,TyOf.lst hp,rfl,?_⟩
    refine⟨_,.inl hp,_,.inl hq,?_⟩
    refine iteDf (fun _=>?_) (fun h=>(h (by rw[len])).elim)
    refine⟨false,_,_,hp,hq,?_⟩
    refine compZip len (fun i ys H'=>ys=List.replicate i (V.bl true)/\Same H H') ⟨rfl,Same.refl H⟩ (fun i ys H' h=>⟨h.2 _ _ hp,h.2 _ _ hq⟩) ?_ ?_
    ·rintro i x' y' ys H' T' hi ex ey ⟨rfl,S⟩ hT
     refine⟨_,upd_same,rfl,Ext.own2,?_⟩
     obtain⟨d1,e1,i1⟩:=qp.get ex
     obtain⟨d2,e2,i2⟩:=qq.get ey
     rw[e1]at e2;cases e2
     have S2:Same H (upd H' T' (.tup [x',y'])):=S.trans (Same.upd hT)
     refine⟨d1,Nat.le_trans (depL_get e1) hd',Nat.lt_of_le_of_lt (widL_get e1) hw2,i1.mono S2 _ _,i2.mono S2 _ _,fun H3 S3=>?_⟩
     exact cnx hi (by rw[List.length_replicate];have:=qp.len;omega) ⟨by rw[List.replicate_succ'],S2.trans S3⟩
    ·rintro ys H' ⟨rfl,S⟩ D hD
     refine⟨List.replicate vs.length true,by rw[upd_same,List.map_replicate],?_⟩
     have e:(List.replicate vs.length true).all id=true:=by rw[List.all_eq_true];intro b hb;rw[(List.mem_replicate.mp hb).2];rfl
     show Q (.bl ((List.replicate vs.length true).all id)) (upd H' D (.lst (List.replicate vs.length (V.bl true))))
     rw[e]
     exact k _ (S.trans (Same.upd hD))
   | tup ds =>
    obtain⟨p,vs,rfl,hp,qp⟩:=hx
    obtain⟨q,ws,rfl,hq,qq⟩:=hy
    obtain⟨m,rfl⟩:∃ m,n=m+1:=⟨n - 1,by unfold dep at hd;omega⟩
    have hd':depL ds<=m:=by unfold dep at hd;omega
    have hw1:ds.length<sizeLine:=by unfold wid at hw;omega
    have hw2:widL ds<sizeLine:=by unfold wid at hw;omega
    have len:vs.length=ws.length:=by rw[qp.len,qq.len]
    refine⟨_,false,TyOf.tup hq,rfl,_,false,TyOf.tup hp,rfl,_,false,TyOf.tup hq,rfl,_,true,TyOf.tup hq,kit_same K _,_,false,TyOf.tup hq,rfl,_,false,TyOf.tup hp,rfl,_,true,TyOf.tup hq,kit_same K _,_,true,TyOf.tup hp,kit_same K _,?_⟩
    refine⟨_,.inr hp,_,.inr hq,?_⟩
    refine iteDf (fun _=>?_) (fun h=>(h (by rw[len])).elim)
    refine⟨true,_,_,hp,hq,?_⟩
    refine compZip len (fun i ys H'=>ys=List.replicate i (V.bl true)/\Same H H') ⟨rfl,Same.refl H⟩ (fun i ys H' h=>⟨h.2 _ _ hp,h.2 _ _ hq⟩) ?_ ?_
    ·rintro i x' y' ys H' T' hi ex ey ⟨rfl,S⟩ hT
     refine⟨_,upd_same,rfl,Ext.own2,?_⟩
     obtain⟨d1,e1,i1⟩:=qp.get ex
     obtain⟨d2,e2,i2⟩:=qq.get ey
     rw[e1]at e2;cases e2
     have S2:Same H (upd H' T' (.tup [x',y'])):=S.trans (Same.upd hT)
     refine⟨d1,Nat.le_trans (depL_get e1) hd',Nat.lt_of_le_of_lt (widL_get e1) hw2,i1.mono S2 _ _,i2.mono S2 _ _,fun H3 S3=>?_⟩
     exact cnx hi (by rw[List.length_replicate];have:=qp.len;omega) ⟨by rw[List.replicate_succ'],S2.trans S3⟩
    ·rintro ys H' ⟨rfl,S⟩ D hD
     refine⟨List.replicate vs.length true,by rw[upd_same,List.map_replicate],?_⟩
     have e:(List.replicate vs.length true).all id=true:=by rw[List.all_eq_true];intro b hb;rw[(List.mem_replicate.mp hb).2];rfl
     show Q (.bl ((List.replicate vs.length true).all id)) (upd H' D (.lst (List.replicate vs.length (V.bl true))))
     rw[e]
     exact k _ (S.trans (Same.upd hD))
  ·exact h.elim
theorem ok_same {f:Addr}{fd:FuncData}(F:Fun K "_law_same" "_law_same" s_same f fd)(T:Bi2 mg)(hm:mg "_law_same"=some (.ref f))(hk:PySem.W.keepIn K (.ref f)=true)(hb:Binds K fd ["_law_found", "_law_due"] []):∀ n,FnOk P w K mg base CX0 (n+1) f fd ["_law_found", "_law_due"] (spSame n)
 | 0=>ok_same1 0 F T ⟨f,fd,⟨fun _ _ _ _ h=>h.elim,fun _ _ _ _ _ _ _ _ _ _ _ _ _ h=>h.elim⟩,hm,hk,hb⟩
 | n+1=>ok_same1 (n+1) F T ⟨f,fd,ok_same F T hm hk hb n,hm,hk,hb⟩
theorem inv_barred {ds:List D}{μ:MS}{Kd:DK}(h:fBarred ds μ Kd):∃ v0 v1,ds=[.lst v0,v1]:=by
 unfold fBarred at h
 rcases ds with _ | ⟨z0,ds⟩
 ·exact False.elim h
 cases z0 <;> first | exact False.elim h | skip
 rcases ds with _ | ⟨z1,ds⟩
 ·exact False.elim h
 rcases ds with _ | ⟨zz,zs⟩
 ·exact⟨_,_,rfl⟩
 ·exact False.elim h
theorem ok_barred {f:Addr}{fd:FuncData}(F:Fun K "_law_barred" "_law_barred" s_barred f fd)(T:Bi2 mg)  : FnOk P w K mg base CX0 1 f fd ["_law_border", "_law_takes"] (spD fBarred):=by
 refine F.okD sc_barred (fun ds μ Kd h=>by obtain⟨_,_,rfl⟩:=inv_barred h;rfl) (fun cdv A outer s H E hr=>⟨_,(b_cons (s_for PassesOwn.never rfl (i_range1 rfl T.range (da_cons (d_op subC so_i2' (d_blt lenC so_len (by rfl) T.len PySem.boot_len (da_cons (dv 0) da_nil)) d_int) da_nil)) ⟨(pg_name (i:=2) sc_barred.nd rfl lo),(so_name 2),(mo_name 2)⟩
  (b_cons (s_set (i:=3) sc_barred.nd rfl lo (d_op mulC so_mul d_str (d_op subC so_i2' (d_ix ixC so_ix (dv 0) (d_op addC (so_add (m:=false)) (dv 2) d_int) (fun _ _=>rfl)) (d_ix ixC so_ix (dv 0) (dv 2) (fun _ _=>rfl)))))
  (b_one (s_if (t_not (d_testV (d_blt (anyC rfl) so_all (by rfl) T.any PyProof.Rows.boot_any (da_cons (d_comp false (compOk (XN:=["_law_border", "_law_takes", "_law_k", "_law_part"]) (xsc:=(defScope s_barred)) (N:=["_law_text", "_law_old", "_law_border", "_law_k", "_law_part"]) (js:=[none,none,some 0,some 2,some 3]) (by decide +kernel)) rfl (so_tup (so_cons (so_name 0) (mo_name 0) (so_cons (so_name 1) (mo_name 1) so_nil mo_nil) (mo_cons (mo_name 1) mo_nil))) (mo_tup (mo_cons (mo_name 0) (mo_cons (mo_name 1) mo_nil))) rfl (i_list (dv 1)) (fun _ _ _=>(pg_tupC (n:=2) rfl (pgs_consC (pg_name (i:=0) (show List.Nodup (["_law_text", "_law_old", "_law_border", "_law_k", "_law_part"]:List Str) by decide +kernel) rfl lo) (pgs_consC (pg_name (i:=1) (show List.Nodup (["_law_text", "_law_old", "_law_border", "_law_k", "_law_part"]:List Str) by decide +kernel) rfl lo) pgs_nilC)))) (fun _ _ _=>ts_nil) (fun _ _ _=>(d_cmp eqC so_eqS (d_slice false (dv 0) (o_some (d_ix ixC so_ix (dv 2) (dv 3) (fun _ _=>rfl))) (o_some (d_ix ixC so_ix (dv 2) (d_op addC (so_add (m:=false)) (dv 3) d_int) (fun _ _=>rfl)))) (dv 4) (nomark _)))) da_nil))))
  (b_one (s_ret (d_tup (da_cons (d_ix ixC so_ix (dv 0) (dv 2) (fun _ _=>rfl)) (da_cons (d_ix ixC so_ix (dv 0) (d_op addC (so_add (m:=false)) (dv 2) d_int) (fun _ _=>rfl)) da_nil)))))
  b_nil))))
  (b_one (s_ret d_non))),fun ds μ Kd hm hl h=>?_⟩)
 obtain⟨bd,y,rfl⟩:=inv_barred h
 unfold fBarred at h
 ·skip
  obtain⟨n,cs,ts,rfl,ey,hc,h1,h2,hcu,ht,kk⟩:=h
  obtain⟨es,he⟩:∃ es,es=endsOf n cs:=⟨_,rfl⟩
  rw[<- he]at kk ⊢
  have hup:es.Pairwise (·<·):=by rw[he];exact ends_up h1 hcu
  have hin:∀ x∈es,0<=x/\x<=n:=fun x hx=>ends_in h1 hcu (by rw[<- he];exact hx)
  have hel:es.length=cs.length+2:=by rw[he,endsOf_len]
  have len1:((es.map D.int).length:Int)=(es.length:Nat):=by rw[gxC]
  refine⟨by rw[len1];omega,by rw[len1];omega,?_⟩
  have hm1:(((es.map D.int).length:Int) - 1).toNat=(prs es).length:=by unfold prs;rw[len1,List.length_zip,List.length_tail];omega
  rw[hm1]
  refine forW_inv (fun ds ρ μ'=>∃(i:Nat) (a b:Option D),ds=(rngD 0 (prs es).length).drop i/\barOf es ts=((prs es).drop i).find? (bad ts)/\ρ=[some (.lst (es.map D.int)),some y,a,b]/\μ'=μ) ⟨0,none,none,rfl,rfl,rfl,rfl⟩ ?_ ?_
  ·rintro d ds' ρ μ' ⟨i,a,b,e,hf,rfl,rfl⟩
   refine⟨trivial,fun nx hnx=>?_⟩
   have hi:i<(prs es).length:=by
    by_cases q:i<(prs es).length
    ·exact q
    ·rw[List.drop_of_length_le (by rw[rngD_len];omega)]at e;cases e
   rw[List.drop_eq_getElem_cons (by rw[rngD_len];exact hi)]at e
   cases e
   have ed:(rngD 0 (prs es).length)[i]'(by rw[rngD_len];exact hi)=.int i:=by unfold rngD;simp
   rw[ed]
   have hlz:(prs es).length=es.length - 1:=by unfold prs;rw[List.length_zip,List.length_tail];omega
   obtain⟨u,hu⟩:∃ u,es[i]?=some u:=⟨es[i]'(by omega),gxA _⟩
   obtain⟨v,hv⟩:∃ v,es[i+1]?=some v:=⟨es[i+1]'(by omega),gxA _⟩
   have hp:(prs es)[i]=(u,v):=by
    have q:=prs_get (es:=es) (i:=i)
    rw[hu,hv,gxA hi]at q
    exact Option.some.inj q
   have huv:=up_get hup hu hv (Nat.lt_succ_self _)
   have hu2:=hin u (gxD hu)
   have hv2:=hin v (gxD hv)
   have e1:atI (es.map D.int) (i:Int)=some (.int u):=atI_map hu
   have e2:atI (es.map D.int) ((i:Int)+1)=some (.int v):=atI_map (i:=i+1) hv
   refine opt_of e2 (opt_of e1 ⟨111,rfl,by omega,by omega,?_⟩)
   refine opt_of ey ⟨by rw[gxC];exact sz (by have:=ht.few;omega),?_⟩
   refine compW_all (lc_of ey) tkD (fun t=>.bl (!decide (120∈cutN t.1 u v))) (fun t ht' K' k'=>?_) ?_
   ·have hz:=ht.ok t ht'
    refine⟨rfl,?_⟩
    refine opt_of e1 (opt_of e2 ⟨by rw[txt_len];exact sz (by omega),?_⟩)
    show K' (some (.bl (false != decide (txt (cutN t.1 u v)=txt (List.replicate (v - u).toNat 111))))) μ'
    rw[fne,cut_clean hz.2.1 hu2.1 (by omega) (by omega)]
    exact k'
   ·refine⟨ts.map fun t=>!decide (120∈cutN t.1 u v),by show some _=_;rw[List.map_map];rfl,?_⟩
    ·have eb:(!(ts.map fun t=>!decide (120∈cutN t.1 u v)).any id)=bad ts (u,v):=by
      unfold bad
      rw[List.any_map,List.not_any_eq_all_not]
      congr 1
      funext t
      simp
     rw[List.drop_eq_getElem_cons hi,List.find?_cons,hp,<- eb]at hf
     refine iteB (b:=!(ts.map fun t=>!decide (120∈cutN t.1 u v)).any id) (fun hb=>?_) (fun hb=>?_)
     ·refine opt_of e1 (opt_of e2 ⟨by show 2<=sizeLine;decide,.keep ?_⟩)
      rw[hb]at hf
      rw[hf]at kk
      exact kk
     ·rw[hb]at hf
      exact hnx _ _ ⟨i+1,_,_,rfl,hf,rfl,rfl⟩
  ·rintro ρ μ' ⟨i,a,b,e,hf,rfl,rfl⟩
   refine⟨trivial,.keep ?_⟩
   have hi:(prs es).length<=i:=by
    have:=congrArg List.length e
    rw[List.length_drop,rngD_len]at this
    simp at this
    omega
   rw[List.drop_of_length_le hi]at hf
   rw[hf]at kk
   exact kk
theorem inv_farthest {ds:List D}{μ:MS}{Kd:DK}(h:fFarthest ds μ Kd):∃ v0 v1 v2 v3,ds=[.int v0,v1,.str v2,.int v3]:=by
 unfold fFarthest at h
 rcases ds with _ | ⟨z0,ds⟩
 ·exact False.elim h
 cases z0 <;> first | exact False.elim h | skip
 rcases ds with _ | ⟨z1,ds⟩
 ·exact False.elim h
 rcases ds with _ | ⟨z2,ds⟩
 ·exact False.elim h
 cases z2 <;> first | exact False.elim h | skip
 rcases ds with _ | ⟨z3,ds⟩
 ·exact False.elim h
 cases z3 <;> first | exact False.elim h | skip
 rcases ds with _ | ⟨zz,zs⟩
 ·exact⟨_,_,_,_,rfl⟩
 ·exact False.elim h
theorem ok_farthest {f:Addr}{fd:FuncData}(F:Fun K "farthest" "farthest" s_farthest f fd)(T:Bi2 mg)(C_ends:Cal P w K mg base "ends" 1 ["size", "cuts"] (spD fEnds)):FnOk P w K mg base CX0 2 f fd ["size", "cuts", "text", "end"] (spD fFarthest):=by
 refine F.okD sc_farthest (fun ds μ Kd h=>by obtain⟨_,_,_,_,rfl⟩:=inv_farthest h;rfl) (fun cdv A outer s H E hr=>⟨_,(b_cons (s_set (i:=4) sc_farthest.nd rfl lo (d_mt PySem.F.plainAttrs_str PySem.F.slot_str_find PySem.F.type_str_find findC so_find (dv 2) (da_cons d_str (da_cons (dv 3) da_nil))))
  (b_cons (s_set (i:=5) sc_farthest.nd rfl lo (d_if (d_testC ltC so_b2' (dv 4) d_int (nomark _)) (dv 0) (dv 4)))
  (b_one (s_ret (d_blt (maxL rfl) so_maxL (by rfl) T.max PyProof.Rows.boot_max (da_cons (d_op addC (so_add (m:=false)) (d_lst false (da_cons (dv 3) da_nil)) (d_comp false (compOk (XN:=["size", "cuts", "text", "end", "spoilt", "clean_to"]) (xsc:=(defScope s_farthest)) (N:=["place", "clean_to"]) (js:=[none,some 5]) (by decide +kernel)) rfl (so_name 0) (mo_name 0) rfl (i_list (d_call C_ends hr.le rfl (da_cons (dv 0) (da_cons (dv 1) da_nil)))) (fun _ _ _=>(pg_name (i:=0) (show List.Nodup (["place", "clean_to"]:List Str) by decide +kernel) rfl lo)) (fun _ _ _=>(ts_one (d_testC leC so_b2' (dv 0) (dv 1) (nomark _)))) (fun _ _ _=>(dv 0)))) da_nil)))))),fun ds μ Kd hm hl h=>?_⟩)
 obtain⟨n,x,z,e,rfl⟩:=inv_farthest h
 unfold fFarthest at h
 ·skip
  obtain⟨cs,ex,hc,hn,hn2,ho,h0,h1,hm',kk⟩:=h
  have len:(z.cps.toList.length:Int)=n:=by rw[<- hn];simp[Str.length]
  refine⟨rfl,120,rfl,h0,by omega,fun r hr=>?_⟩
  obtain⟨q1,q2⟩:=hr.cl ho (by omega)
  have hel:(endsOf n cs).length=cs.length+2:=endsOf_len n cs
  refine iteD (fun hr'=>?_) (fun hr'=>?_)
  all_goals
   refine⟨by show 1<=sizeLine;decide,cs,ex,hc,by rw[gxC];exact sz (by omega),?_⟩
  ·have ct:=q1 hr'
   refine compW_map trivial (keepI fun i=>decide (i<=n)) (fun d hd K' k'=>?_) ?_
   ·obtain⟨i,hi,rfl⟩:=List.mem_map.mp hd
    refine iteD (fun g=>?_) (fun g=>?_)
    ·exact keepI_y (decide_eq_true g) k'
    ·exact keepI_n (by simp[g]) k'
   ·rw[fm_keepI]
    have fl:=List.length_filter_le (fun i=>decide (i<=n)) (endsOf n cs)
    refine⟨by rw[gxC];exact sz (by show 1+_<=_;omega),?_⟩
    refine⟨e::(endsOf n cs).filter fun i=>decide (i<=n),rfl,by simp,fun m a b=>.keep ?_⟩
    rw[far_eq ho h0 (by omega) hm' (m:=m) ⟨_,ct,?_,?_,?_⟩]
    ·exact kk
    ·rcases List.mem_cons.mp a with q | q
     ·rw[q];exact hm'
     ·exact(List.mem_filter.mp q).1
    ·rcases List.mem_cons.mp a with q | q
     ·omega
     ·have:=of_decide_eq_true (List.mem_filter.mp q).2;omega
    ·exact fun y hy hy2=>b y (gxI _ (List.mem_filter.mpr ⟨hy,decide_eq_true (by omega)⟩))
  ·obtain⟨ct,hrt⟩:=q2 hr'
   refine compW_map trivial (keepI fun i=>decide (i<=r)) (fun d hd K' k'=>?_) ?_
   ·obtain⟨i,hi,rfl⟩:=List.mem_map.mp hd
    refine iteD (fun g=>?_) (fun g=>?_)
    ·exact keepI_y (decide_eq_true g) k'
    ·exact keepI_n (by simp[g]) k'
   ·rw[fm_keepI]
    have fl:=List.length_filter_le (fun i=>decide (i<=r)) (endsOf n cs)
    refine⟨by rw[gxC];exact sz (by show 1+_<=_;omega),?_⟩
    refine⟨e::(endsOf n cs).filter fun i=>decide (i<=r),rfl,by simp,fun m a b=>.keep ?_⟩
    rw[far_eq ho h0 (by omega) hm' (m:=m) ⟨_,ct,?_,?_,?_⟩]
    ·exact kk
    ·rcases List.mem_cons.mp a with q | q
     ·rw[q];exact hm'
     ·exact(List.mem_filter.mp q).1
    ·rcases List.mem_cons.mp a with q | q
     ·have:=ct.1;omega
     ·have:=of_decide_eq_true (List.mem_filter.mp q).2;omega
    ·exact fun y hy hy2=>b y (gxI _ (List.mem_filter.mpr ⟨hy,decide_eq_true (by omega)⟩))
theorem inv_take_rows {ds:List D}{μ:MS}{Kd:DK}(h:fTakeRows ds μ Kd):∃ v0 v1 v2,ds=[.int v0,v1,v2]:=by
 unfold fTakeRows at h
 rcases ds with _ | ⟨z0,ds⟩
 ·exact False.elim h
 cases z0 <;> first | exact False.elim h | skip
 rcases ds with _ | ⟨z1,ds⟩
 ·exact False.elim h
 rcases ds with _ | ⟨z2,ds⟩
 ·exact False.elim h
 rcases ds with _ | ⟨zz,zs⟩
 ·exact⟨_,_,_,rfl⟩
 ·exact False.elim h
theorem ok_take_rows {f:Addr}{fd:FuncData}(F:Fun K "take_rows" "take_rows" s_take_rows f fd)(T:Bi2 mg)(C_ends:Cal P w K mg base "ends" 1 ["size", "cuts"] (spD fEnds))(C_farthest:Cal P w K mg base "farthest" 2 ["size", "cuts", "text", "end"] (spD fFarthest)):FnOk P w K mg base CX0 3 f fd ["size", "cuts", "takes"] (spD fTakeRows):=by
 refine F.okD sc_take_rows (fun ds μ Kd h=>by obtain⟨_,_,_,rfl⟩:=inv_take_rows h;rfl) (fun cdv A outer s H E hr=>⟨_,(b_cons (s_set (i:=3) sc_take_rows.nd rfl lo (d_call C_ends hr.le rfl (da_cons (dv 0) (da_cons (dv 1) da_nil))))
  (b_one (s_ret (d_comp false (compOk (XN:=["size", "cuts", "takes", "places"]) (xsc:=(defScope s_take_rows)) (N:=["text", "age", "places", "size", "cuts"]) (js:=[none,none,some 3,some 0,some 1]) (by decide +kernel)) rfl (so_tup (so_cons (so_name 0) (mo_name 0) (so_cons (so_name 1) (mo_name 1) so_nil mo_nil) (mo_cons (mo_name 1) mo_nil))) (mo_tup (mo_cons (mo_name 0) (mo_cons (mo_name 1) mo_nil))) rfl (i_list (dv 2)) (fun _ _ _=>(pg_tupC (n:=2) rfl (pgs_consC (pg_name (i:=0) (show List.Nodup (["text", "age", "places", "size", "cuts"]:List Str) by decide +kernel) rfl lo) (pgs_consC (pg_name (i:=1) (show List.Nodup (["text", "age", "places", "size", "cuts"]:List Str) by decide +kernel) rfl lo) pgs_nilC)))) (fun _ _ _=>ts_nil) (fun _ _ _=>(d_tup (da_cons (dv 1) (da_cons (d_comp false (compOkN (xsc:=(defScope s_take_rows)) (N:=["end", "size", "cuts", "text"]) (js:=[none,some 3,some 4,some 0]) rfl (by decide +kernel)) rfl (so_name 0) (mo_name 0) rfl (i_list (dv 2)) (fun _ _ _=>(pg_name (i:=0) (show List.Nodup (["end", "size", "cuts", "text"]:List Str) by decide +kernel) rfl lo)) (fun _ _ _=>ts_nil) (fun _ _ _=>(d_call C_farthest hr.le rfl (da_cons (dv 1) (da_cons (dv 2) (da_cons (dv 3) (da_cons (dv 0) da_nil))))))) da_nil)))))))),fun ds μ Kd hm hl h=>?_⟩)
 obtain⟨n,x,y,rfl⟩:=inv_take_rows h
 unfold fTakeRows at h
 ·skip
  obtain⟨cs,ts,ex,ey,S,kk⟩:=h
  have hel:(endsOf n cs).length=cs.length+2:=endsOf_len n cs
  have few:=S.few
  have ft:=S.takes.few
  refine⟨cs,ex,S.few,?_⟩
  refine opt_of ey ⟨by rw[gxC];exact sz (by omega),?_⟩
  refine compW_map (lc_of ey) (mapT (rowTD (endsOf n cs))) (fun d hd K' k'=>?_) ?_
  ·obtain⟨t,ht,rfl⟩:=List.mem_map.mp hd
   have hz:=S.takes.ok t ht
   refine⟨rfl,by rw[gxC];exact sz (by omega),?_⟩
   refine compW_map trivial (mapI fun e=>.int (farF (endsOf n cs) t.1 e)) (fun d hd K'' k''=>?_) ?_
   ·obtain⟨e,he,rfl⟩:=List.mem_map.mp hd
    have hin:=ends_in S.n1 S.cuts he
    exact⟨cs,ex,S.few,by rw[txt_len];exact hz.1,S.n2,by rw[txt_list];exact hz.2.1,hin.1,hin.2,he,by rw[txt_list];exact k''⟩
   ·refine⟨by show 2<=sizeLine;decide,?_⟩
    rw[fm_mapI,show(endsOf n cs).map (fun e=>D.int (farF (endsOf n cs) t.1 e))=(rowT (endsOf n cs) t).map D.int by unfold rowT;rw[List.map_map];rfl]
    exact k'
  ·refine .keep ?_
   rw[fm_mapT]
   exact kk
theorem inv_clean_row {ds:List D}{μ:MS}{Kd:DK}(h:fCleanRow ds μ Kd):∃ v0 v1 v2,ds=[v0,.lst v1,.int v2]:=by
 unfold fCleanRow at h
 rcases ds with _ | ⟨z0,ds⟩
 ·exact False.elim h
 rcases ds with _ | ⟨z1,ds⟩
 ·exact False.elim h
 cases z1 <;> first | exact False.elim h | skip
 rcases ds with _ | ⟨z2,ds⟩
 ·exact False.elim h
 cases z2 <;> first | exact False.elim h | skip
 rcases ds with _ | ⟨zz,zs⟩
 ·exact⟨_,_,_,rfl⟩
 ·exact False.elim h
theorem ok_clean_row {f:Addr}{fd:FuncData}(F:Fun K "clean_row" "clean_row" s_clean_row f fd)(T:Bi2 mg)  : FnOk P w K mg base CX0 1 f fd ["places", "rows", "age"] (spD fCleanRow):=by
 refine F.okD sc_clean_row (fun ds μ Kd h=>by obtain⟨_,_,_,rfl⟩:=inv_clean_row h;rfl) (fun cdv A outer s H E hr=>⟨_,(b_cons (s_set (i:=3) sc_clean_row.nd rfl lo (d_ty listC (so_list (m:=false)) (by rfl) T.list PyProof.Rows.boot_list (da_cons (dv 0) da_nil)))
  (b_cons (s_for PassesOwn.never rfl (i_list (dv 1)) ⟨(pg_tupC (n:=2) rfl (pgs_consC (pg_name (i:=4) sc_clean_row.nd rfl lo) (pgs_consC (pg_name (i:=5) sc_clean_row.nd rfl lo) pgs_nilC))),(so_tup (so_cons (so_name 4) (mo_name 4) (so_cons (so_name 5) (mo_name 5) so_nil mo_nil) (mo_cons (mo_name 5) mo_nil))),(mo_tup (mo_cons (mo_name 4) (mo_cons (mo_name 5) mo_nil)))⟩
  (b_one (s_if (d_testC leC so_b2' (dv 4) (dv 2) (nomark _))
  (b_one (s_setComp (i:=3) false (compOk (XN:=["places", "rows", "age", "told", "take_age", "row"]) (xsc:=(defScope s_clean_row)) (N:=["far", "other"]) (js:=[none,none]) (by decide +kernel)) rfl (so_tup (so_cons (so_name 0) (mo_name 0) (so_cons (so_name 1) (mo_name 1) so_nil mo_nil) (mo_cons (mo_name 1) mo_nil))) (mo_tup (mo_cons (mo_name 0) (mo_cons (mo_name 1) mo_nil))) rfl sc_clean_row.nd rfl lo (i_zip rfl T.zip (da_cons (dv 3) (da_cons (dv 5) da_nil))) (fun _ _ _=>(pg_tupC (n:=2) rfl (pgs_consC (pg_name (i:=0) (show List.Nodup (["far", "other"]:List Str) by decide +kernel) rfl lo) (pgs_consC (pg_name (i:=1) (show List.Nodup (["far", "other"]:List Str) by decide +kernel) rfl lo) pgs_nilC)))) (fun _ _ _=>ts_nil) (fun _ _ _=>(d_blt (maxC rfl) so_max (by rfl) T.max PyProof.Rows.boot_max (da_cons (dv 0) (da_cons (dv 1) da_nil))))))
  b_nil)))
  (b_one (s_ret (dv 3))))),fun ds μ Kd hm hl h=>?_⟩)
 obtain⟨x,r,a,rfl⟩:=inv_clean_row h
 unfold fCleanRow at h
 ·skip
  obtain⟨es,ts,ex,rfl,hel,htl,kk⟩:=h
  refine opt_of ex ?_
  refine forW_inv (fun ds ρ μ'=>∃(us:List Tk) (tl:List Int) (u v:Option D),ds=us.map (rowTD es)/\us.foldl (cleanF es a) tl=ownR es ts a/\tl.length<=2000/\ρ=[some x,some (.lst (ts.map (rowTD es))),some (.int a),some (.lst (tl.map D.int)),u,v]/\μ'=μ) ⟨ts,es,none,none,rfl,clean_eq es ts a,hel,rfl,rfl⟩ ?_ ?_
  ·rintro d ds' ρ μ' ⟨us,tl,u,v,e,hf,hl',rfl,rfl⟩
   refine⟨trivial,fun nx hnx=>?_⟩
   cases us with
   | nil=>cases e
   | cons t us =>
    cases e
    refine⟨rfl,?_⟩
    rw[List.foldl_cons]at hf
    refine iteD (fun g=>?_) (fun g=>?_)
    ·unfold cleanF at hf
     rw[if_pos g]at hf
     have lr:(rowT es t).length=es.length:=by unfold rowT;rw[gxC]
     refine⟨by rw[List.length_zipWith,gxC,gxC];exact sz (by omega),?_⟩
     refine compW_map ⟨trivial,trivial⟩ (mapP fun a b=>.int (max a b)) (fun d hd K' k'=>?_) ?_
     ·obtain⟨p,hp,q,hq,rfl⟩:=zip_mem hd
      exact⟨rfl,k'⟩
     ·rw[fm_mapP,<- zw_map D.int max]
      exact hnx _ _ ⟨us,List.zipWith max tl (rowT es t),_,_,rfl,hf,by rw[List.length_zipWith];omega,rfl,rfl⟩
    ·unfold cleanF at hf
     rw[if_neg g]at hf
     exact hnx _ _ ⟨us,tl,_,_,rfl,hf,hl',rfl,rfl⟩
  ·rintro ρ μ' ⟨us,tl,u,v,e,hf,hl',rfl,rfl⟩
   cases us with
   | nil =>
    refine⟨trivial,.keep ?_⟩
    rw[show ownR es ts a=tl from hf.symm]at kk
    exact kk
   | cons t us=>cases e
theorem inv_next_reach {ds:List D}{μ:MS}{Kd:DK}(h:fNextM ds μ Kd):∃ v0 v1 v2 v3,ds=[v0,.lst v1,v2,.int v3]:=by
 unfold fNextM at h
 rcases ds with _ | ⟨z0,ds⟩
 ·exact False.elim h
 rcases ds with _ | ⟨z1,ds⟩
 ·exact False.elim h
 cases z1 <;> first | exact False.elim h | skip
 rcases ds with _ | ⟨z2,ds⟩
 ·exact False.elim h
 rcases ds with _ | ⟨z3,ds⟩
 ·exact False.elim h
 cases z3 <;> first | exact False.elim h | skip
 rcases ds with _ | ⟨zz,zs⟩
 ·exact⟨_,_,_,_,rfl⟩
 ·exact False.elim h
theorem ok_next_reach {f:Addr}{fd:FuncData}(F:Fun K "next_reach" "next_reach" s_next_reach f fd)(T:Bi2 mg)(C_clean_row:Cal P w K mg base "clean_row" 1 ["places", "rows", "age"] (spD fCleanRow)):FnOk P w K mg base CX0 2 f fd ["places", "rows", "before", "age"] (spD fNextM):=by
 refine F.okD sc_next_reach (fun ds μ Kd h=>by obtain⟨_,_,_,_,rfl⟩:=inv_next_reach h;rfl) (fun cdv A outer s H E hr=>⟨_,(b_cons (s_set (i:=4) sc_next_reach.nd rfl lo (d_compD (compOk (XN:=["places", "rows", "before", "age", "where", "clean"]) (xsc:=(defScope s_next_reach)) (N:=["at", "end"]) (js:=[none,none]) (by decide +kernel)) rfl (so_tup (so_cons (so_name 0) (mo_name 0) (so_cons (so_name 1) (mo_name 1) so_nil mo_nil) (mo_cons (mo_name 1) mo_nil))) (mo_tup (mo_cons (mo_name 0) (mo_cons (mo_name 1) mo_nil))) rfl (i_enumL rfl T.enumerate (da_cons (dv 0) da_nil)) (fun _ _ _=>(pg_tupC (n:=2) rfl (pgs_consC (pg_name (i:=0) (show List.Nodup (["at", "end"]:List Str) by decide +kernel) rfl lo) (pgs_consC (pg_name (i:=1) (show List.Nodup (["at", "end"]:List Str) by decide +kernel) rfl lo) pgs_nilC)))) (fun _ _ _=>ts_nil) (fun _ _ _=>(dv 1)) (fun _ _ _=>(dv 0))))
  (b_cons (s_set (i:=5) sc_next_reach.nd rfl lo (d_call C_clean_row hr.le rfl (da_cons (dv 0) (da_cons (dv 1) (da_cons (dv 3) da_nil)))))
  (b_one (s_ret (d_comp true (compOk (XN:=["places", "rows", "before", "age", "where", "clean"]) (xsc:=(defScope s_next_reach)) (N:=["far", "middle", "before", "where"]) (js:=[none,none,some 2,some 4]) (by decide +kernel)) rfl (so_tup (so_cons (so_name 0) (mo_name 0) (so_cons (so_name 1) (mo_name 1) so_nil mo_nil) (mo_cons (mo_name 1) mo_nil))) (mo_tup (mo_cons (mo_name 0) (mo_cons (mo_name 1) mo_nil))) rfl (i_zip rfl T.zip (da_cons (dv 5) (da_cons (dv 2) da_nil))) (fun _ _ _=>(pg_tupC (n:=2) rfl (pgs_consC (pg_name (i:=0) (show List.Nodup (["far", "middle", "before", "where"]:List Str) by decide +kernel) rfl lo) (pgs_consC (pg_name (i:=1) (show List.Nodup (["far", "middle", "before", "where"]:List Str) by decide +kernel) rfl lo) pgs_nilC)))) (fun _ _ _=>ts_nil) (fun _ _ _=>(d_blt (maxC rfl) so_max (by rfl) T.max PyProof.Rows.boot_max (da_cons (dv 0) (da_cons (d_ix ixC so_ix (dv 2) (d_ixK (hu_of hr) (dv 3) (dv 1) (fun _ _=>rfl)) (fun _ _=>rfl)) da_nil))))))))),fun ds μ Kd hm hl h=>?_⟩)
 obtain⟨x,r,y,a,rfl⟩:=inv_next_reach h
 unfold fNextM at h
 ·skip
  obtain⟨es,ts,bf,ex,rfl,hel,htl,nd,ey,ok,kk⟩:=h
  have lb:=ok.len
  refine opt_of ex ⟨by rw[enumD_len,gxC];exact sz (by omega),?_⟩
  rw[enumF_eq]
  refine where_go (fun m=>lc_of (lv_old ex)) (fun i e μ' K' k'=>⟨rfl,k'⟩) es 0 [] nd (fun _ h=>nomatch h) ?_
  refine⟨es,ts,ex,rfl,hel,htl,?_⟩
  refine opt_of ey ⟨by rw[List.length_zipWith,gxC,gxC];exact sz (by omega),?_⟩
  refine compW_map ⟨trivial,lc_of ey⟩ (mapP fun f m=>.int (max f (rowAt es bf m))) (fun d hd K' k'=>?_) ?_
  ·obtain⟨f,hf,m,hmm,rfl⟩:=zip_mem hd
   refine⟨rfl,?_⟩
   have hme:=ok.mem m hmm
   have e1:dval (((whereF 0 es).map (·.1)).zip ((whereF 0 es).map (·.2))) (kI m)=some (.int (es.idxOf m:Nat)):=by
    rw[zip_parts,where_val hme,Nat.zero_add]
   have e2:atI (bf.map D.int) ((es.idxOf m:Nat):Int)=some (.int (rowAt es bf m)):=atI_map (rowAt_some ok hme)
   exact opt_of e1 (dIx_lv ey e2 k')
  ·rw[fm_mapP,show List.zipWith (fun f m=>D.int (max f (rowAt es bf m))) (ownR es ts a) bf=(nextR es ts bf a).map D.int from(zw_map D.int (fun f m=>max f (rowAt es bf m)) _ _).symm]
   exact .keep kk
theorem inv_youngest {ds:List D}{μ:MS}{Kd:DK}(h:fYoungest ds μ Kd):∃ v0,ds=[v0]:=by
 unfold fYoungest at h
 rcases ds with _ | ⟨z0,ds⟩
 ·exact False.elim h
 rcases ds with _ | ⟨zz,zs⟩
 ·exact⟨_,rfl⟩
 ·exact False.elim h
theorem ok_youngest {f:Addr}{fd:FuncData}(F:Fun K "youngest" "youngest" s_youngest f fd)(T:Bi2 mg)  : FnOk P w K mg base CX0 1 f fd ["takes"] (spD fYoungest):=by
 refine F.okD sc_youngest (fun ds μ Kd h=>by obtain⟨_,rfl⟩:=inv_youngest h;rfl) (fun cdv A outer s H E hr=>⟨_,(b_one (s_ret (d_minD rfl (by rfl) T.min (d_comp false (compOk (XN:=["takes"]) (xsc:=(defScope s_youngest)) (N:=["text", "age"]) (js:=[none,none]) (by decide +kernel)) rfl (so_tup (so_cons (so_name 0) (mo_name 0) (so_cons (so_name 1) (mo_name 1) so_nil mo_nil) (mo_cons (mo_name 1) mo_nil))) (mo_tup (mo_cons (mo_name 0) (mo_cons (mo_name 1) mo_nil))) rfl (i_list (dv 0)) (fun _ _ _=>(pg_tupC (n:=2) rfl (pgs_consC (pg_name (i:=0) (show List.Nodup (["text", "age"]:List Str) by decide +kernel) rfl lo) (pgs_consC (pg_name (i:=1) (show List.Nodup (["text", "age"]:List Str) by decide +kernel) rfl lo) pgs_nilC)))) (fun _ _ _=>ts_nil) (fun _ _ _=>(dv 1))) d_int))),fun ds μ Kd hm hl h=>?_⟩)
 obtain⟨y,rfl⟩:=inv_youngest h
 unfold fYoungest at h
 ·skip
  obtain⟨ts,ey,htl,kk⟩:=h
  refine opt_of ey ⟨by rw[gxC];exact sz (by omega),?_⟩
  refine compW_map (lc_of ey) (mapT fun t=>.int t.2) (fun d hd K' k'=>?_) ?_
  ·obtain⟨t,ht,rfl⟩:=List.mem_map.mp hd
   exact⟨rfl,k'⟩
  ·rw[fm_mapT]
   refine⟨ts.map (·.2),by unfold lv;rw[List.map_map];rfl,?_⟩
   split
   ·rename_i e
    refine .keep ?_
    have:youngF ts=0:=by unfold youngF;rw[e]
    rw[this]at kk
    exact kk
   ·exact fun m a b=>.keep (by rw[young_is a b];exact kk)
theorem inv_far {ds:List D}{μ:MS}{Kd:DK}(h:fFar ds μ Kd):∃ v0 v1 v2,ds=[.lst v0,.str v1,.int v2]:=by
 unfold fFar at h
 rcases ds with _ | ⟨z0,ds⟩
 ·exact False.elim h
 cases z0 <;> first | exact False.elim h | skip
 rcases ds with _ | ⟨z1,ds⟩
 ·exact False.elim h
 cases z1 <;> first | exact False.elim h | skip
 rcases ds with _ | ⟨z2,ds⟩
 ·exact False.elim h
 cases z2 <;> first | exact False.elim h | skip
 rcases ds with _ | ⟨zz,zs⟩
 ·exact⟨_,_,_,rfl⟩
 ·exact False.elim h
theorem ok_far {f:Addr}{fd:FuncData}(F:Fun K "_law_far" "_law_far" s_far f fd)(T:Bi2 mg)  : FnOk P w K mg base CX0 1 f fd ["_law_border", "_law_text", "_law_end"] (spD fFar):=by
 refine F.okD sc_far (fun ds μ Kd h=>by obtain⟨_,_,_,rfl⟩:=inv_far h;rfl) (fun cdv A outer s H E hr=>⟨_,(b_cons (s_set (i:=3) sc_far.nd rfl lo (dv 2))
  (b_cons (s_while PassesOwn.never (PW.pt (t_and (d_testC ltC so_b2' (dv 3) (d_blt lenC so_len (by rfl) T.len PySem.boot_len (da_cons (dv 1) da_nil)) (nomark _)) (t_and1 (d_testC eqC so_eqS (d_ix ixC so_ix (dv 1) (dv 3) (fun _ _=>rfl)) d_str (nomark _)))))
  (b_one (s_aug (i:=3) sc_far.nd rfl lo d_int ip_addC so_ipI)))
  (b_one (s_ret (d_blt (maxL rfl) so_maxL (by rfl) T.max PyProof.Rows.boot_max (da_cons (d_comp false (compOk (XN:=["_law_border", "_law_text", "_law_end", "_law_at"]) (xsc:=(defScope s_far)) (N:=["_law_one", "_law_end", "_law_at"]) (js:=[none,some 2,some 3]) (by decide +kernel)) rfl (so_name 0) (mo_name 0) rfl (i_list (dv 0)) (fun _ _ _=>(pg_name (i:=0) (show List.Nodup (["_law_one", "_law_end", "_law_at"]:List Str) by decide +kernel) rfl lo)) (fun _ _ _=>(ts_one (PW.pt (t_and (d_testC leC so_b2' (dv 1) (dv 0) (nomark _)) (t_and1 (d_testC leC so_b2' (dv 0) (dv 2) (nomark _))))))) (fun _ _ _=>(dv 0))) da_nil)))))),fun ds μ Kd hm hl h=>?_⟩)
 obtain⟨b,z,e,rfl⟩:=inv_far h
 unfold fFar at h
 ·skip
  obtain⟨es,rfl,hel,hz,ho,h0,h1,he,kk⟩:=h
  have len:z.cps.toList.length=z.length:=by simp[Str.length]
  have ct:=clN_is ho (e:=e.toNat) (by omega)
  refine⟨fun m ρ μ'=>∃ at_:Nat,m=clN z.cps.toList e.toNat - at_/\e.toNat<=at_/\at_<=clN z.cps.toList e.toNat/\ρ=[some (.lst (es.map D.int)),some (.str z),some (.int e),some (.int (at_:Int))]/\μ'=μ,⟨_,e.toNat,rfl,Nat.le_refl _,ct.1,by rw[Int.toNat_of_nonneg h0];rfl,rfl⟩,?_⟩
  rintro m ρ μ' ⟨at_,rfl,g1,g2,rfl,rfl⟩
  have test:∀ K:Bool->MS->Prop,K (decide (at_<clN z.cps.toList e.toNat)) μ'->dtAnd (dTst (dOp (dI2' fun i j=>D.bl (decide (i<j))) (dVar 3) (dCall fLen (dCons (dVar 1) dNil))))
   (dTst (dOp (dEqS false) (dOp dIx (dVar 1) (dVar 3)) (dC (D.str (Str.ofString "o")))))
   [some (D.lst (List.map D.int es)),some (D.str z),some (D.int e),some (D.int ↑at_)] μ' K:=by
   intro K k
   refine⟨sz (by omega),iteD (c:=(at_:Int)<(z.length:Nat)) (fun hlt=>?_) (fun hlt=>?_)⟩
   ·have hat:at_<z.cps.toList.length:=by omega
    have ga:z.cps.toList[at_]?=some (z.cps.toList[at_]):=gxA hat
    have ea:atI z.cps.toList (at_:Int)=some (z.cps.toList[at_]):=atI_nat ga
    refine⟨sz (by omega),opt_of ea ?_⟩
    by_cases q:at_<clN z.cps.toList e.toNat
    ·have:=ct.2.2.1 at_ g1 q
     rw[ga]at this
     rw[Option.some.inj this]
     rw[decide_eq_true q]at k
     exact k
    ·have eat:clN z.cps.toList e.toNat=at_:=by omega
     have:=ct.2.2.2
     rw[eat,ga]at this
     rcases this with z' | z'
     ·omega
     ·rw[Option.some.inj z']
      rw[decide_eq_false q]at k
      exact k
   ·rw[decide_eq_false (by have:=ct.2.1;omega)]at k
    exact k
  refine test _ ?_
  refine iteD (fun hlt=>?_) (fun hlt=>?_)
  ·exact⟨_,by omega,at_+1,rfl,by omega,by omega,rfl,rfl⟩
  ·refine⟨by rw[gxC];exact sz (by omega),?_⟩
   refine compW_map trivial (keepI fun i=>decide (e<=i)&&decide (i<=(at_:Int))) (fun d hd K' k'=>?_) ?_
   ·obtain⟨i,hi,rfl⟩:=List.mem_map.mp hd
    refine iteD (c:=e<=i) (fun p1=>?_) (fun p1=>?_)
    ·refine iteD (c:=i<=(at_:Int)) (fun p2=>?_) (fun p2=>?_)
     ·exact keepI_y (by simp[p1,p2]) k'
     ·exact keepI_n (by simp[p2]) k'
    ·exact keepI_n (by simp[p1]) k'
   ·rw[fm_keepI]
    have ein:e∈es.filter fun i=>decide (e<=i)&&decide (i<=(at_:Int)):=List.mem_filter.mpr ⟨he,by simp;omega⟩
    refine⟨_,rfl,(fun q=>by rw[q]at ein;cases ein),fun m a b=>.keep ?_⟩
    have eat:clN z.cps.toList e.toNat=at_:=by omega
    rw[eat]at ct
    obtain⟨a1,a2⟩:=List.mem_filter.mp a
    simp only[Bool.and_eq_true,decide_eq_true_eq]at a2
    rw[far_eq ho h0 (by omega) he (m:=m) ⟨_,ct,a1,a2.2,fun y hy hy2=>?_⟩]
    ·exact kk
    ·by_cases q:e<=y
     ·exact b y (List.mem_filter.mpr ⟨hy,by simp;omega⟩)
     ·omega
theorem inv_own {ds:List D}{μ:MS}{Kd:DK}(h:fOwn ds μ Kd):∃ v0 v1 v2,ds=[.lst v0,v1,.int v2]:=by
 unfold fOwn at h
 rcases ds with _ | ⟨z0,ds⟩
 ·exact False.elim h
 cases z0 <;> first | exact False.elim h | skip
 rcases ds with _ | ⟨z1,ds⟩
 ·exact False.elim h
 rcases ds with _ | ⟨z2,ds⟩
 ·exact False.elim h
 cases z2 <;> first | exact False.elim h | skip
 rcases ds with _ | ⟨zz,zs⟩
 ·exact⟨_,_,_,rfl⟩
 ·exact False.elim h
theorem ok_own {f:Addr}{fd:FuncData}(F:Fun K "_law_own" "_law_own" s_own f fd)(T:Bi2 mg)(C_far:Cal P w K mg base "_law_far" 1 ["_law_border", "_law_text", "_law_end"] (spD fFar)):FnOk P w K mg base CX0 2 f fd ["_law_border", "_law_takes", "_law_age"] (spD fOwn):=by
 refine F.okD sc_own (fun ds μ Kd h=>by obtain⟨_,_,_,rfl⟩:=inv_own h;rfl) (fun cdv A outer s H E hr=>⟨_,(b_cons (s_set (i:=3) sc_own.nd rfl lo (d_lst true da_nil))
  (b_cons (s_for PassesOwn.never rfl (i_list (dv 0)) ⟨(pg_name (i:=4) sc_own.nd rfl lo),(so_name 4),(mo_name 4)⟩
  (b_one (s_expr (d_mt PySem.F.plainAttrs_list PySem.F.slot_list_append PySem.F.type_list_append appendC so_append (dv 3) (da_cons (d_blt (maxL rfl) so_maxL (by rfl) T.max PyProof.Rows.boot_max (da_cons (d_op addC (so_add (m:=false)) (d_lst false (da_cons (dv 4) da_nil)) (d_comp false (compOk (XN:=["_law_border", "_law_takes", "_law_age", "_law_row", "_law_end"]) (xsc:=(defScope s_own)) (N:=["_law_text", "_law_old", "_law_border", "_law_end", "_law_age"]) (js:=[none,none,some 0,some 4,some 2]) (by decide +kernel)) rfl (so_tup (so_cons (so_name 0) (mo_name 0) (so_cons (so_name 1) (mo_name 1) so_nil mo_nil) (mo_cons (mo_name 1) mo_nil))) (mo_tup (mo_cons (mo_name 0) (mo_cons (mo_name 1) mo_nil))) rfl (i_list (dv 1)) (fun _ _ _=>(pg_tupC (n:=2) rfl (pgs_consC (pg_name (i:=0) (show List.Nodup (["_law_text", "_law_old", "_law_border", "_law_end", "_law_age"]:List Str) by decide +kernel) rfl lo) (pgs_consC (pg_name (i:=1) (show List.Nodup (["_law_text", "_law_old", "_law_border", "_law_end", "_law_age"]:List Str) by decide +kernel) rfl lo) pgs_nilC)))) (fun _ _ _=>(ts_one (d_testC leC so_b2' (dv 1) (dv 4) (nomark _)))) (fun _ _ _=>(d_call C_far hr.le rfl (da_cons (dv 2) (da_cons (dv 0) (da_cons (dv 3) da_nil))))))) da_nil)) da_nil)))))
  (b_one (s_ret (dv 3))))),fun ds μ Kd hm hl h=>?_⟩)
 obtain⟨b,y,a,rfl⟩:=inv_own h
 unfold fOwn at h
 ·skip
  obtain⟨n,cs,ts,rfl,ey,S,kk⟩:=h
  have few:=S.few
  have ft:=S.takes.few
  have hel:(endsOf n cs).length=cs.length+2:=endsOf_len n cs
  have hin:∀ x∈endsOf n cs,0<=x/\x<=n:=fun x hx=>ends_in S.n1 S.cuts hx
  obtain⟨es,he⟩:∃ es,es=endsOf n cs:=⟨_,rfl⟩
  rw[<- he]at kk hel hin ⊢
  refine⟨by show 0<=sizeLine;decide,?_⟩
  refine forW_inv (fun ds ρ μ'=>∃(i:Nat) (v:Option D),ds=(es.drop i).map D.int/\ρ=[some (.lst (es.map D.int)),some y,some (.int a),some (.mr μ.length),v]/\μ'=μ++[.lst (((es.take i).map (ownE es ts a)).map D.int)]) ⟨0,none,rfl,rfl,rfl⟩ ?_ ?_
  ·rintro d ds' ρ μ' ⟨i,v,e,rfl,rfl⟩
   refine⟨trivial,fun nx hnx=>?_⟩
   have hi:i<es.length:=by
    by_cases q:i<es.length
    ·exact q
    ·rw[List.drop_of_length_le (by omega)]at e;cases e
   rw[List.drop_eq_getElem_cons hi]at e
   cases e
   have hmem:es[i]∈es:=List.getElem_mem hi
   have h2:=hin _ hmem
   refine⟨lvM_ty lvM_new,by show 1<=sizeLine;decide,?_⟩
   refine opt_of (lv_old ey) ⟨by rw[gxC];exact sz (by omega),?_⟩
   refine compW_map (lc_of (lv_old ey)) (keepT (fun t=>decide (t.2<=a)) fun t=>.int (farF es t.1 es[i])) (fun d hd K' k'=>?_) ?_
   ·obtain⟨t,ht,rfl⟩:=List.mem_map.mp hd
    have hz:=S.takes.ok t ht
    refine⟨rfl,iteD (fun q=>?_) (fun q=>keepT_n (by simp[q]) k')⟩
    have n2:=S.n2
    exact⟨es,rfl,by omega,by rw[txt_len];omega,by rw[txt_list];exact hz.2.1,h2.1,by rw[txt_len];omega,hmem,by rw[txt_list];exact keepT_y (by simp[q]) k'⟩
   ·rw[fm_keepT]
    have fl:=List.length_filter_le (fun t:Tk=>decide (t.2<=a)) ts
    refine⟨by rw[gxC];exact sz (by show 1+_<=_;omega),?_⟩
    refine⟨es[i]::(ts.filter fun t=>decide (t.2<=a)).map fun t=>farF es t.1 es[i],(by show some (D.int es[i]::_)=_;rw[List.map_cons,List.map_map];rfl),by simp,fun m p1 p2=>?_⟩
    have em:m=ownE es ts a es[i]:=by rw[ownE_eq];exact fmax_eq p1 p2
    refine opt_of lvM_new ⟨szS (by rw[gxC,gxC,List.length_take];omega),?_⟩
    refine hnx _ _ ⟨i+1,_,rfl,rfl,?_⟩
    have et:es.take (i+1)=es.take i++[es[i]]:=by rw[List.take_succ,gxA hi];rfl
    rw[set_end,et,em,List.map_append,List.map_append];rfl
  ·rintro ρ μ' ⟨i,v,e,rfl,rfl⟩
   refine⟨trivial,?_⟩
   have hi:es.length<=i:=by
    have:=congrArg List.length e
    rw[gxC,List.length_drop]at this
    simp at this
    omega
   rw[List.take_of_length_le hi]
   refine Fz.lst (Nat.le_refl _) (lvM_eq lvM_new) (mrL_ints _) (old_app hm) ?_
   rw[List.take_left]
   exact kk
theorem inv_rows {ds:List D}{μ:MS}{Kd:DK}(h:fRows ds μ Kd):∃ v0 v1 v2,ds=[.lst v0,v1,.int v2]:=by
 unfold fRows at h
 rcases ds with _ | ⟨z0,ds⟩
 ·exact False.elim h
 cases z0 <;> first | exact False.elim h | skip
 rcases ds with _ | ⟨z1,ds⟩
 ·exact False.elim h
 rcases ds with _ | ⟨z2,ds⟩
 ·exact False.elim h
 cases z2 <;> first | exact False.elim h | skip
 rcases ds with _ | ⟨zz,zs⟩
 ·exact⟨_,_,_,rfl⟩
 ·exact False.elim h
theorem ok_rows {f:Addr}{fd:FuncData}(F:Fun K "_law_rows" "_law_rows" s_rows f fd)(T:Bi2 mg)(C_own:Cal P w K mg base "_law_own" 2 ["_law_border", "_law_takes", "_law_age"] (spD fOwn)):FnOk P w K mg base CX0 3 f fd ["_law_border", "_law_takes", "_law_many"] (spD fRows):=by
 refine F.okD sc_rows (fun ds μ Kd h=>by obtain⟨_,_,_,rfl⟩:=inv_rows h;rfl) (fun cdv A outer s H E hr=>⟨_,(b_cons (s_set (i:=3) sc_rows.nd rfl lo (d_lst true da_nil))
  (b_cons (s_for PassesOwn.never rfl (i_range1 rfl T.range (da_cons (dv 2) da_nil)) ⟨(pg_name (i:=4) sc_rows.nd rfl lo),(so_name 4),(mo_name 4)⟩
  (b_cons (s_set (i:=5) sc_rows.nd rfl lo (d_call C_own hr.le rfl (da_cons (dv 0) (da_cons (dv 1) (da_cons (dv 4) da_nil)))))
  (b_cut (s_if (d_testC gtC so_b2' (dv 4) d_int (nomark _))
  (b_cons (s_set (i:=6) sc_rows.nd rfl lo (d_ix ixC so_ix (dv 3) (d_neg d_int) (fun _ _=>rfl)))
  (b_one (s_set (i:=5) sc_rows.nd rfl lo (d_comp false (compOk (XN:=["_law_border", "_law_takes", "_law_many", "_law_rows_here", "_law_age", "_law_row", "_law_last"]) (xsc:=(defScope s_rows)) (N:=["_law_k", "_law_row", "_law_last", "_law_border"]) (js:=[none,some 5,some 6,some 0]) (by decide +kernel)) rfl (so_name 0) (mo_name 0) rfl (i_range1 rfl T.range (da_cons (d_blt lenC so_len (by rfl) T.len PySem.boot_len (da_cons (dv 0) da_nil)) da_nil)) (fun _ _ _=>(pg_name (i:=0) (show List.Nodup (["_law_k", "_law_row", "_law_last", "_law_border"]:List Str) by decide +kernel) rfl lo)) (fun _ _ _=>ts_nil) (fun _ _ _=>(d_blt (maxC rfl) so_max (by rfl) T.max PyProof.Rows.boot_max (da_cons (d_ix ixC so_ix (dv 1) (dv 0) (fun _ _=>rfl)) (da_cons (d_ix ixC so_ix (dv 2) (d_mt PySem.F.plainAttrs_list PySem.F.slot_list_index PySem.F.type_list_index indexC so_index (dv 3) (da_cons (d_ix ixC so_ix (dv 2) (dv 0) (fun _ _=>rfl)) da_nil)) (fun _ _=>rfl)) da_nil))))))))
  b_nil)
  (b_one (s_expr (d_mt PySem.F.plainAttrs_list PySem.F.slot_list_append PySem.F.type_list_append appendC so_append (dv 3) (da_cons (dv 5) da_nil)))))))
  (b_one (s_ret (dv 3))))),fun ds μ Kd hm hl h=>?_⟩)
 obtain⟨b,y,m,rfl⟩:=inv_rows h
 unfold fRows at h
 ·skip
  obtain⟨n,cs,ts,rfl,ey,S,hm0,hm1,kk⟩:=h
  have few:=S.few
  have ft:=S.takes.few
  have hel:(endsOf n cs).length=cs.length+2:=endsOf_len n cs
  have nd:=ends_nd S.n1 S.cuts
  obtain⟨es,he⟩:∃ es,es=endsOf n cs:=⟨_,rfl⟩
  refine⟨by show 0<=sizeLine;decide,?_⟩
  refine⟨by omega,by omega,?_⟩
  rw[<- he]at kk hel nd ⊢
  refine forW_inv (fun ds ρ μ'=>∃(i k:Nat) (u v w:Option D),ds=rngD i k/\i+k=m.toNat/\ρ=[some (.lst (es.map D.int)),some y,some (.int m),some (.mr μ.length),u,v,w]/\μ'=μ++[.lst ((List.range i).map fun a=>.lst ((rowsR es ts a).map D.int))]) ⟨0,m.toNat,none,none,none,rfl,by omega,rfl,rfl⟩ ?_ ?_
  ·rintro d ds' ρ μ' ⟨i,k,u,v,w',e,hik,rfl,rfl⟩
   refine⟨trivial,fun nx hnx=>?_⟩
   cases k with
   | zero=>cases e
   | succ k =>
    rw[rngD_cons]at e
    cases e
    refine⟨n,cs,ts,by rw[he],lv_old ey,S,?_⟩
    rw[<- he]
    refine⟨fun ρ' μ'=>∃ w':Option D,ρ'=[some (.lst (es.map D.int)),some y,some (.int m),some (.mr μ.length),some (.int i),some (.lst ((rowsR es ts i).map D.int)),w']/\μ'=μ++[.lst ((List.range i).map fun a=>.lst ((rowsR es ts a).map D.int))],?_,?_⟩
    ·refine iteD (c:=(0:Int)<i) (fun q=>?_) (fun q=>?_)
     ·obtain⟨j,rfl⟩:∃ j,i=j+1:=⟨i - 1,by omega⟩
      have el:atI ((List.range (j+1)).map fun a=>D.lst ((rowsR es ts a).map D.int)) (-1)=some (.lst ((rowsR es ts j).map D.int)):=by
       rw[List.range_succ,List.map_append]
       exact atI_lastOf _ _
      refine dIx_lv (show lv _ (.mr μ.length)=_ from lvM_new) el ?_
      have rok:=rows_ok es ts j
      have ook:=own_ok es ts ((j+1:Nat):Int)
      have nok:=next_ok (ts:=ts) (a:=((j+1:Nat):Int)) rok
      have len1:((es.map D.int).length:Int)=(es.length:Nat):=by rw[gxC]
      refine⟨by rw[len1];omega,by rw[len1];omega,sz (by rw[rngD_len,len1];omega),?_⟩
      rw[len1,gxK,show es.length=(nextR es ts (rowsR es ts j) ((j+1:Nat):Int)).length from nok.len.symm]
      refine compW_map trivial (mapI fun k=>.int (((nextR es ts (rowsR es ts j) ((j+1:Nat):Int))[k.toNat]?).getD 0)) (fun d hd K' k'=>?_) ?_
      ·obtain⟨c,hc,rfl⟩:=rngD_mem hd
       rw[Int.zero_add]at k' ⊢
       have lc':=nok.len
       have lo:=ook.len
       have lr:=rok.len
       obtain⟨f,hf⟩:∃ f,(ownR es ts ((j+1:Nat):Int))[c]?=some f:=⟨_,gxA (by omega)⟩
       obtain⟨p,hp⟩:∃ p,(rowsR es ts j)[c]?=some p:=⟨_,gxA (by omega)⟩
       have hpe:=rok.mem p (gxD hp)
       refine opt_of (atI_map hf) ⟨rfl,opt_of (atI_map hp) ⟨es,es.idxOf p,rfl,idx_get hpe,idx_first nd hpe,opt_of (atI_map (rowAt_some rok hpe)) ?_⟩⟩
       have k2:K' (some (.int (((nextR es ts (rowsR es ts j) ((j+1:Nat):Int))[((c:Nat):Int).toNat]?).getD 0))) _:=k'
       rw[gxK,next_at hf hp]at k2
       exact k2
      ·rw[fm_byIx D.int _ _ fun i x e=>by show D.int (((nextR es ts (rowsR es ts j) ((j+1:Nat):Int))[((i:Nat):Int).toNat]?).getD 0)=_;rw[gxK,e];rfl]
       exact⟨_,rfl,rfl⟩
     ·obtain rfl:i=0:=by omega
      exact⟨_,rfl,rfl⟩
    ·rintro ρ' μ' ⟨w',rfl,rfl⟩
     refine⟨lvM_ty lvM_new,opt_of lvM_new ⟨szS (by rw[gxC,gxJ];omega),?_⟩⟩
     refine hnx _ _ ⟨i+1,k,_,_,_,rfl,by omega,rfl,?_⟩
     rw[set_end,List.range_succ,List.map_append];rfl
  ·rintro ρ μ' ⟨i,k,u,v,w',e,hik,rfl,rfl⟩
   cases k with
   | succ k=>rw[rngD_cons]at e;cases e
   | zero =>
    refine⟨trivial,?_⟩
    rw[show i=m.toNat by omega]
    refine Fz.lst (Nat.le_refl _) (lvM_eq lvM_new) (mrL_all fun d hd=>?_) (old_app hm) ?_
    ·obtain⟨a,_,rfl⟩:=List.mem_map.mp hd
     exact mrL_ints _
    ·rw[List.take_left]
     exact kk
theorem inv_least_age {ds:List D}{μ:MS}{Kd:DK}(h:fLeast ds μ Kd):∃ v0 v1 v2,ds=[.int v0,v1,v2]:=by
 unfold fLeast at h
 rcases ds with _ | ⟨z0,ds⟩
 ·exact False.elim h
 cases z0 <;> first | exact False.elim h | skip
 rcases ds with _ | ⟨z1,ds⟩
 ·exact False.elim h
 rcases ds with _ | ⟨z2,ds⟩
 ·exact False.elim h
 rcases ds with _ | ⟨zz,zs⟩
 ·exact⟨_,_,_,rfl⟩
 ·exact False.elim h
theorem ok_least_age {f:Addr}{fd:FuncData}(F:Fun K "least_age" "least_age" s_least_age f fd)(T:Bi2 mg)(C_bar_of:Cal P w K mg base "bar_of" 3 ["size", "cuts", "takes"] (spD fBarOf))(C_ends:Cal P w K mg base "ends" 1 ["size", "cuts"] (spD fEnds))(C_take_rows:Cal P w K mg base "take_rows" 3 ["size", "cuts", "takes"] (spD fTakeRows))(C_youngest:Cal P w K mg base "youngest" 1 ["takes"] (spD fYoungest))(C_next_reach:Cal P w K mg base "next_reach" 2 ["places", "rows", "before", "age"] (spD fNextM)):FnOk P w K mg base CX0 4 f fd ["size", "cuts", "takes"] (spD fLeast):=by
 refine F.okD sc_least_age (fun ds μ Kd h=>by obtain⟨_,_,_,rfl⟩:=inv_least_age h;rfl) (fun cdv A outer s H E hr=>⟨_,(b_cons (s_if (t_notN (d_call C_bar_of hr.le rfl (da_cons (dv 0) (da_cons (dv 1) (da_cons (dv 2) da_nil)))))
  (b_one (s_ret d_non))
  b_nil)
  (b_cons (s_set (i:=3) sc_least_age.nd rfl lo (d_call C_ends hr.le rfl (da_cons (dv 0) (da_cons (dv 1) da_nil))))
  (b_cons (s_set (i:=4) sc_least_age.nd rfl lo (d_call C_take_rows hr.le rfl (da_cons (dv 0) (da_cons (dv 1) (da_cons (dv 2) da_nil)))))
  (b_cons (s_set (i:=5) sc_least_age.nd rfl lo (d_call C_youngest hr.le rfl (da_cons (dv 2) da_nil)))
  (b_cons (s_set (i:=6) sc_least_age.nd rfl lo (d_call C_next_reach hr.le rfl (da_cons (dv 3) (da_cons (dv 4) (da_cons (dv 3) (da_cons (dv 5) da_nil))))))
  (b_cons (s_while PassesOwn.never (d_testC neC so_eqS (d_ix ixC so_ix (dv 6) d_int (fun _ _=>rfl)) (dv 0) (nomark _))
  (b_cons (s_aug (i:=5) sc_least_age.nd rfl lo d_int ip_addC so_ipI)
  (b_one (s_set (i:=6) sc_least_age.nd rfl lo (d_call C_next_reach hr.le rfl (da_cons (dv 3) (da_cons (dv 4) (da_cons (dv 6) (da_cons (dv 5) da_nil)))))))))
  (b_one (s_ret (dv 5))))))))),fun ds μ Kd hm hl h=>?_⟩)
 obtain⟨n,x,y,rfl⟩:=inv_least_age h
 unfold fLeast at h
 ·skip
  obtain⟨cs,ts,ex,ey,S,hcl,kk⟩:=h
  have few:=S.few
  have ft:=S.takes.few
  have n2:=S.n2
  have nd:=ends_nd S.n1 S.cuts
  have hel:(endsOf n cs).length=cs.length+2:=endsOf_len n cs
  refine⟨cs,ts,ex,ey,by omega,S.takes,by omega,?_⟩
  unfold leastK at kk
  cases hb:barOf (endsOf n cs) ts with
  | some p =>
   rw[hb]at kk
   exact .keep kk
  | none =>
   rw[hb]at kk
   obtain⟨a,ha,la⟩:=least_ex60 S hcl hb
   have ly:=least_young S la
   have kk:=kk a ha la
   refine⟨cs,ex,S.few,?_⟩
   refine⟨cs,ts,ex,ey,S,?_⟩
   refine⟨ts,ey,by omega,?_⟩
   have yn:=young_nn S.takes
   have yl:=young_le (ts:=ts)
   obtain⟨y0,hy0⟩:∃ y0:Nat,youngF ts=(y0:Int):=⟨(youngF ts).toNat,by omega⟩
   rw[hy0]at yn yl ly ⊢
   obtain⟨es,he⟩:∃ es,es=endsOf n cs:=⟨_,rfl⟩
   rw[<- he]at nd hel la ⊢
   refine⟨es,ts,es,rfl,rfl,by omega,by omega,nd,rfl,ends_ok es,?_⟩
   have e0:nextR es ts es (y0:Int)=rowsR es ts y0:=by
    have:=bef_next es ts y0
    rwa [bef_young (b:=y0) yl]at this
   rw[e0]
   refine⟨fun m ρ μ'=>∃(b j:Nat) (g:MS),m=a - b/\b<=a/\ρ=[some (.int n),some x,some y,some (.lst (es.map D.int)),some (.lst (ts.map (rowTD es))),some (.int b),some (.mr j)]/\μ'=μ++g/\lvM μ' j=some ((rowsR es ts b).map D.int),⟨_,y0,_,[.lst ((rowsR es ts y0).map D.int)],rfl,by omega,rfl,rfl,lvM_new⟩,?_⟩
   rintro m ρ μ' ⟨b,j,g,rfl,hba,rfl,rfl,el⟩
   have rok:=rows_ok es ts b
   obtain⟨z,hz⟩:∃ z,(rowsR es ts b)[0]?=some z:=⟨_,gxA (by rw[rok.len];omega)⟩
   refine opt_of (show lv _ (.mr j)=_ from el) (opt_of (show atI _ (0:Int)=_ from atI_map (i:=0) hz) ?_)
   refine iteDn (fun q=>?_) (fun q=>?_)
   ·have hlt:b<a:=by
     rcases Nat.lt_or_ge b a with z' | z'
     ·exact z'
     ·have e:b=a:=by omega
      rw[e,la.at_]at hz
      exact absurd (Option.some.inj hz).symm q
    refine⟨es,ts,rowsR es ts b,rfl,rfl,by omega,by omega,nd,el,rok,?_⟩
    exact⟨_,by omega,b+1,_,g++[.lst ((rowsR es ts (b+1)).map D.int)],rfl,by omega,rfl,by rw[List.append_assoc];rfl,lvM_new⟩
   ·have e:b=a:=by
     rcases Nat.lt_or_ge b a with z' | z'
     ·rw[q]at hz
      exact absurd hz (la.low b z')
     ·omega
    refine Fz.drop True.intro (old_app hm) ?_
    rw[List.take_left,e]
    exact kk
theorem first_least {es:List Int}{ts:List Tk}{n:Int}{a N:Nat}(la:LeastIs es ts n a)(h:a<N):((List.range N).filter fun b=>decide ((rowsR es ts b)[0]?=some n))[0]?=some a:=by
 have key:∀ N,a<N->∃ r,(List.range N).filter (fun b=>decide ((rowsR es ts b)[0]?=some n))=a::r:=by
  intro N
  induction N with
  | zero=>intro h;omega
  | succ N ih =>
   intro h
   rw[List.range_succ,List.filter_append]
   by_cases q:a<N
   ·obtain⟨r,e⟩:=ih q
    exact⟨_,by rw[e];rfl⟩
   ·have e:N=a:=by omega
    subst e
    refine⟨[],?_⟩
    rw[List.filter_eq_nil_iff.mpr fun b hb=>by have:=la.low b (List.mem_range.mp hb);simp[this]]
    simp[la.at_]
 obtain⟨r,e⟩:=key N h
 rw[e];rfl
theorem inv_least {ds:List D}{μ:MS}{Kd:DK}(h:fLeastL ds μ Kd):∃ v0 v1,ds=[.lst v0,v1]:=by
 unfold fLeastL at h
 rcases ds with _ | ⟨z0,ds⟩
 ·exact False.elim h
 cases z0 <;> first | exact False.elim h | skip
 rcases ds with _ | ⟨z1,ds⟩
 ·exact False.elim h
 rcases ds with _ | ⟨zz,zs⟩
 ·exact⟨_,_,rfl⟩
 ·exact False.elim h
theorem ok_least {f:Addr}{fd:FuncData}(F:Fun K "_law_least" "_law_least" s_least f fd)(T:Bi2 mg)(C_barred:Cal P w K mg base "_law_barred" 1 ["_law_border", "_law_takes"] (spD fBarred))(C_rows:Cal P w K mg base "_law_rows" 3 ["_law_border", "_law_takes", "_law_many"] (spD fRows)):FnOk P w K mg base CX0 4 f fd ["_law_border", "_law_takes"] (spD fLeastL):=by
 refine F.okD sc_least (fun ds μ Kd h=>by obtain⟨_,_,rfl⟩:=inv_least h;rfl) (fun cdv A outer s H E hr=>⟨_,(b_cons (s_if (t_notN (d_call C_barred hr.le rfl (da_cons (dv 0) (da_cons (dv 1) da_nil))))
  (b_one (s_ret d_non))
  b_nil)
  (b_cons (s_set (i:=2) sc_least.nd rfl lo (d_call C_rows hr.le rfl (da_cons (dv 0) (da_cons (dv 1) (da_cons (d_op addC (so_add (m:=false)) (d_blt (maxL rfl) so_maxL (by rfl) T.max PyProof.Rows.boot_max (da_cons (d_comp false (compOk (XN:=["_law_border", "_law_takes", "_law_rows_here"]) (xsc:=(defScope s_least)) (N:=["_law_text", "_law_old"]) (js:=[none,none]) (by decide +kernel)) rfl (so_tup (so_cons (so_name 0) (mo_name 0) (so_cons (so_name 1) (mo_name 1) so_nil mo_nil) (mo_cons (mo_name 1) mo_nil))) (mo_tup (mo_cons (mo_name 0) (mo_cons (mo_name 1) mo_nil))) rfl (i_list (dv 1)) (fun _ _ _=>(pg_tupC (n:=2) rfl (pgs_consC (pg_name (i:=0) (show List.Nodup (["_law_text", "_law_old"]:List Str) by decide +kernel) rfl lo) (pgs_consC (pg_name (i:=1) (show List.Nodup (["_law_text", "_law_old"]:List Str) by decide +kernel) rfl lo) pgs_nilC)))) (fun _ _ _=>ts_nil) (fun _ _ _=>(dv 1))) da_nil)) d_int) da_nil)))))
  (b_one (s_ret (d_ix ixC so_ix (d_comp false (compOk (XN:=["_law_border", "_law_takes", "_law_rows_here"]) (xsc:=(defScope s_least)) (N:=["_law_age", "_law_rows_here", "_law_border"]) (js:=[none,some 2,some 0]) (by decide +kernel)) rfl (so_name 0) (mo_name 0) rfl (i_range1 rfl T.range (da_cons (d_blt lenC so_len (by rfl) T.len PySem.boot_len (da_cons (dv 2) da_nil)) da_nil)) (fun _ _ _=>(pg_name (i:=0) (show List.Nodup (["_law_age", "_law_rows_here", "_law_border"]:List Str) by decide +kernel) rfl lo)) (fun _ _ _=>(ts_one (d_testC eqC so_eqS (d_ix ixC so_ix (d_ix ixC so_ix (dv 1) (dv 0) (fun _ _=>rfl)) d_int (fun _ _=>rfl)) (d_ix ixC so_ix (dv 2) (d_neg d_int) (fun _ _=>rfl)) (nomark _)))) (fun _ _ _=>(dv 0))) d_int (fun _ _=>rfl)))))),fun ds μ Kd hm hl h=>?_⟩)
 obtain⟨b,y,rfl⟩:=inv_least h
 unfold fLeastL at h
 ·skip
  obtain⟨n,cs,ts,rfl,ey,S,hcl,kk⟩:=h
  have few:=S.few
  have ft:=S.takes.few
  have n2:=S.n2
  have hel:(endsOf n cs).length=cs.length+2:=endsOf_len n cs
  refine⟨n,cs,ts,rfl,ey,by omega,S.n1,by omega,S.cuts,S.takes,?_⟩
  unfold leastK at kk
  cases hb:barOf (endsOf n cs) ts with
  | some p =>
   rw[hb]at kk
   exact .keep kk
  | none =>
   rw[hb]at kk
   have tne:=bar_takes S hb
   refine opt_of ey ⟨by rw[gxC];exact sz (by omega),?_⟩
   refine compW_map (lc_of ey) (mapT fun t=>.int t.2) (fun d hd K' k'=>?_) ?_
   ·obtain⟨t,ht,rfl⟩:=List.mem_map.mp hd
    exact⟨rfl,k'⟩
   ·rw[fm_mapT]
    refine⟨ts.map (·.2),by unfold lv;rw[List.map_map];rfl,by simpa using tne,fun m h1 h2=>?_⟩
    obtain⟨t,ht,rfl⟩:=List.mem_map.mp h1
    have tok:=S.takes.ok t ht
    obtain⟨a,ha,la⟩:=least_some S hcl hb (a:=t.2.toNat) fun u hu=>by have:=h2 u.2 (List.mem_map.mpr ⟨u,hu,rfl⟩);omega
    have kk:=kk a (by omega) la
    refine⟨n,cs,ts,rfl,ey,S,by omega,by omega,?_⟩
    obtain⟨es,he⟩:∃ es,es=endsOf n cs:=⟨_,rfl⟩
    have el:atI ((endsOf n cs).map D.int) (-1)=some (.int n):=by
     rw[<- ends_map]
     exact atI_last _ _
    rw[<- he]at la hel el ⊢
    have e8:(t.2+8).toNat=((t.2+8).toNat:Nat):=rfl
    obtain⟨N,hN⟩:∃ N:Nat,(t.2+8).toNat=N:=⟨_,rfl⟩
    rw[hN]
    have lenr:(((List.range N).map fun a=>D.lst ((rowsR es ts a).map D.int)).length:Int)=(N:Int):=by rw[gxC,gxJ]
    refine⟨by rw[lenr];omega,by rw[lenr];omega,sz (by rw[rngD_len,lenr];omega),?_⟩
    rw[lenr,gxK]
    refine compW_map trivial (keepI fun b=>decide ((rowsR es ts b.toNat)[0]?=some n)) (fun d hd K' k'=>?_) ?_
    ·obtain⟨b,hbN,rfl⟩:=rngD_mem hd
     rw[Int.zero_add]at k' ⊢
     have rok:=rows_ok es ts b
     obtain⟨z,hz⟩:∃ z,(rowsR es ts b)[0]?=some z:=⟨_,gxA (by rw[rok.len];omega)⟩
     have er:atI ((List.range N).map fun a=>D.lst ((rowsR es ts a).map D.int)) (b:Int)=some (.lst ((rowsR es ts b).map D.int)):=atI_map (List.getElem?_range hbN)
     refine opt_of er (opt_of (show atI _ (0:Int)=_ from atI_map (i:=0) hz) (opt_of el ?_))
     refine iteDf (fun q=>keepI_y ?_ k') (fun q=>keepI_n ?_ k')
     ·rw[gxK,hz,q];simp
     ·rw[gxK,hz];simp[q]
    ·rw[rngD_eq,fm_keepI]
     have ef:(List.filter (fun b:Int=>decide ((rowsR es ts b.toNat)[0]?=some n)) ((List.range N).map fun i=>(0:Int)+(i:Nat)))=((List.range N).filter fun b=>decide ((rowsR es ts b)[0]?=some n)).map fun i=>((i:Nat):Int):=by
      rw[List.filter_map]
      have:(fun b:Int=>decide ((rowsR es ts b.toNat)[0]?=some n)) ∘ (fun i:Nat=>(0:Int)+(i:Int))=fun b=>decide ((rowsR es ts b)[0]?=some n):=by
       funext i
       show decide ((rowsR es ts ((0:Int)+(i:Int)).toNat)[0]?=some n)=_
       rw[Int.zero_add,gxK]
      rw[this]
      exact List.map_congr_left fun i _=>Int.zero_add _
     rw[ef,List.map_map]
     have fl:=first_least la (N:=N) (by omega)
     refine opt_of (show atI _ (0:Int)=_ from atI_map (i:=0) fl) (.keep kk)
theorem inv_near {ds:List D}{μ:MS}{Kd:DK}(h:fNear ds μ Kd):∃ v0,ds=[v0]:=by
 unfold fNear at h
 rcases ds with _ | ⟨z0,ds⟩
 ·exact False.elim h
 rcases ds with _ | ⟨zz,zs⟩
 ·exact⟨_,rfl⟩
 ·exact False.elim h
theorem ok_near {f:Addr}{fd:FuncData}(F:Fun K "_law_near" "_law_near" s_near f fd)(T:Bi2 mg)  : FnOk P w K mg base CX0 1 f fd ["_law_takes"] (spD fNear):=by
 refine F.okD sc_near (fun ds μ Kd h=>by obtain⟨_,rfl⟩:=inv_near h;rfl) (fun cdv A outer s H E hr=>⟨_,(b_one (s_ret (d_comp false (compOk (XN:=["_law_takes"]) (xsc:=(defScope s_near)) (N:=["_law_text", "_law_old"]) (js:=[none,none]) (by decide +kernel)) rfl (so_tup (so_cons (so_name 0) (mo_name 0) (so_cons (so_name 1) (mo_name 1) so_nil mo_nil) (mo_cons (mo_name 1) mo_nil))) (mo_tup (mo_cons (mo_name 0) (mo_cons (mo_name 1) mo_nil))) rfl (i_list (dv 0)) (fun _ _ _=>(pg_tupC (n:=2) rfl (pgs_consC (pg_name (i:=0) (show List.Nodup (["_law_text", "_law_old"]:List Str) by decide +kernel) rfl lo) (pgs_consC (pg_name (i:=1) (show List.Nodup (["_law_text", "_law_old"]:List Str) by decide +kernel) rfl lo) pgs_nilC)))) (fun _ _ _=>ts_nil) (fun _ _ _=>(d_tup (da_cons (dv 0) (da_cons (d_op modC so_i2 (dv 1) d_int) da_nil))))))),fun ds μ Kd hm hl h=>?_⟩)
 obtain⟨y,rfl⟩:=inv_near h
 unfold fNear at h
 ·skip
  obtain⟨ts,ey,htl,kk⟩:=h
  refine opt_of ey ⟨by rw[gxC];exact sz (by omega),?_⟩
  refine compW_map (lc_of ey) (mapT fun t=>tkD (nearT t)) (fun d hd K' k'=>?_) ?_
  ·obtain⟨t,ht,rfl⟩:=List.mem_map.mp hd
   exact⟨rfl,(by show(0:Int)<9;decide),by show 2<=sizeLine;decide,k'⟩
  ·rw[fm_mapT]
   rw[List.map_map]at kk
   exact .keep kk
theorem inv_few_next {ds:List D}{μ:MS}{Kd:DK}(h:fFewNext ds μ Kd):∃ v0 v1 v2,ds=[.lst v0,.lst v1,.lst v2]:=by
 unfold fFewNext at h
 rcases ds with _ | ⟨z0,ds⟩
 ·exact False.elim h
 cases z0 <;> first | exact False.elim h | skip
 rcases ds with _ | ⟨z1,ds⟩
 ·exact False.elim h
 cases z1 <;> first | exact False.elim h | skip
 rcases ds with _ | ⟨z2,ds⟩
 ·exact False.elim h
 cases z2 <;> first | exact False.elim h | skip
 rcases ds with _ | ⟨zz,zs⟩
 ·exact⟨_,_,_,rfl⟩
 ·exact False.elim h
theorem ok_few_next {f:Addr}{fd:FuncData}(F:Fun K "_law_few_next" "_law_few_next" s_few_next f fd)(T:Bi2 mg)  : FnOk P w K mg base CX0 1 f fd ["_law_border", "_law_own_here", "_law_last"] (spD fFewNext):=by
 refine F.okD sc_few_next (fun ds μ Kd h=>by obtain⟨_,_,_,rfl⟩:=inv_few_next h;rfl) (fun cdv A outer s H E hr=>⟨_,(b_cons (s_setComp (i:=3) false (compOk (XN:=["_law_border", "_law_own_here", "_law_last", "_law_table", "_law_i", "_law_j", "_law_some"]) (xsc:=(defScope s_few_next)) (N:=["_law_end", "_law_border"]) (js:=[none,some 0]) (by decide +kernel)) rfl (so_name 0) (mo_name 0) rfl sc_few_next.nd rfl lo (i_list (dv 0)) (fun _ _ _=>(pg_name (i:=0) (show List.Nodup (["_law_end", "_law_border"]:List Str) by decide +kernel) rfl lo)) (fun _ _ _=>ts_nil) (fun _ _ _=>(d_comp true (compOkN (xsc:=(defScope s_few_next)) (N:=["_law_end"]) (js:=[none]) rfl (by decide +kernel)) rfl (so_name 0) (mo_name 0) rfl (i_list (dv 1)) (fun _ _ _=>(pg_name (i:=0) (show List.Nodup (["_law_end"]:List Str) by decide +kernel) rfl lo)) (fun _ _ _=>ts_nil) (fun _ _ _=>d_int))))
  (b_cons (s_for PassesOwn.never rfl (i_range1 rfl T.range (da_cons (d_blt lenC so_len (by rfl) T.len PySem.boot_len (da_cons (dv 0) da_nil)) da_nil)) ⟨(pg_name (i:=4) sc_few_next.nd rfl lo),(so_name 4),(mo_name 4)⟩
  (b_one (s_for PassesOwn.never rfl (i_range2 rfl T.range (da_cons (d_op addC (so_add (m:=false)) (dv 4) d_int) (da_cons (d_blt lenC so_len (by rfl) T.len PySem.boot_len (da_cons (dv 0) da_nil)) da_nil))) ⟨(pg_name (i:=5) sc_few_next.nd rfl lo),(so_name 5),(mo_name 5)⟩
  (b_cons (s_set (i:=6) sc_few_next.nd rfl lo (d_lst false da_nil))
  (b_cut (s_if (d_testC (neNil (hu_of hr)) so_neNil (dv 2) (d_lst false da_nil) (nomark _))
  (b_one (s_setComp (i:=6) false (compOk (XN:=["_law_border", "_law_own_here", "_law_last", "_law_table", "_law_i", "_law_j", "_law_some"]) (xsc:=(defScope s_few_next)) (N:=["_law_k", "_law_last", "_law_i", "_law_j"]) (js:=[none,some 2,some 4,some 5]) (by decide +kernel)) rfl (so_name 0) (mo_name 0) rfl sc_few_next.nd rfl lo (i_range2 rfl T.range (da_cons (d_op addC (so_add (m:=false)) (dv 4) d_int) (da_cons (dv 5) da_nil))) (fun _ _ _=>(pg_name (i:=0) (show List.Nodup (["_law_k", "_law_last", "_law_i", "_law_j"]:List Str) by decide +kernel) rfl lo)) (fun _ _ _=>(ts_one (d_testC gtC so_b2' (d_op mulC so_mul (d_ix ixC so_ix (d_ix ixC so_ix (dv 1) (dv 2) (fun _ _=>rfl)) (dv 0) (fun _ _=>rfl)) (d_ix ixC so_ix (d_ix ixC so_ix (dv 1) (dv 0) (fun _ _=>rfl)) (dv 3) (fun _ _=>rfl))) d_int (nomark _)))) (fun _ _ _=>(d_op addC (so_add (m:=false)) (d_ix ixC so_ix (d_ix ixC so_ix (dv 1) (dv 2) (fun _ _=>rfl)) (dv 0) (fun _ _=>rfl)) (d_ix ixC so_ix (d_ix ixC so_ix (dv 1) (dv 0) (fun _ _=>rfl)) (dv 3) (fun _ _=>rfl))))))
  b_nil)
  (b_one (s_if (d_testC leC so_b2' (d_ix ixC so_ix (dv 0) (dv 5) (fun _ _=>rfl)) (d_ix ixC so_ix (dv 1) (dv 4) (fun _ _=>rfl)) (nomark _))
  (b_one (s_asgS d_int (d_ix ixC so_ix (dv 3) (dv 4) (fun _ _=>rfl)) (dv 5)))
  (b_one (s_if (d_testC gtC so_b2' (d_blt lenC so_len (by rfl) T.len PySem.boot_len (da_cons (dv 6) da_nil)) d_int (nomark _))
  (b_one (s_asgS (d_blt (minL rfl) so_minL (by rfl) T.min PyProof.Rows.boot_min (da_cons (dv 6) da_nil)) (d_ix ixC so_ix (dv 3) (dv 4) (fun _ _=>rfl)) (dv 5)))
  b_nil)))))))))
  (b_one (s_ret (dv 3))))),fun ds μ Kd hm hl h=>?_⟩)
 obtain⟨b,o,l,rfl⟩:=inv_few_next h
 unfold fFewNext at h
 ·skip
  obtain⟨es,own,T,rfl,rfl,hol,hne,hel,hlast,hT,kk⟩:=h
  obtain⟨L,hL⟩:∃ L,L=es.length:=⟨_,rfl⟩
  rw[<- hL]at hol hel hlast kk
  obtain⟨S,hS⟩:∃ S,S=stepL es own T:=⟨_,rfl⟩
  rw[<- hS]at kk
  have S0:∀ a b,b<=a->S a b=0:=fun a b hab=>by rw[hS];unfold stepL;rw[if_pos hab]
  refine⟨sz (by rw[gxC];omega),?_⟩
  refine compW_inv (fun ds ys μ'=>∃ k:Nat,k<=L/\ds=(es.drop k).map D.int/\ys=(List.range k).map (fun i=>D.mr (μ.length+i))/\∃ g:MS,μ'=μ++g/\g.length=k/\∀ a,a<k->g[a]?=some (.lst (rowI L fun _=>0))) (ys:=[]) ⟨0,by omega,rfl,rfl,[],by simp,rfl,fun a ha=>by omega⟩ ?_ (fun ys μ' _=>trivial) ?_
  ·rintro d ds' ys μ' ⟨k,hk,e,rfl,g,rfl,hg,hga⟩
   refine⟨trivial,fun K' hK'=>?_⟩
   have hk2:k<es.length:=by
    by_cases q:k<es.length
    ·exact q
    ·rw[List.drop_of_length_le (by omega)]at e;cases e
   rw[List.drop_eq_getElem_cons hk2]at e
   cases e
   refine⟨sz (by rw[gxC];omega),?_⟩
   refine compW_all trivial D.int (fun _:Int=>D.int 0) (fun x hx K'' k''=>k'') ?_
   refine hK' _ _ ⟨k+1,by omega,rfl,?_,g++[.lst (rowI L fun _=>0)],?_,by rw[gxE,hg];rfl,fun a ha=>?_⟩
   ·rw[List.range_succ,List.map_append]
    show _++[D.mr (μ++g).length]=_
    rw[gxE,hg];rfl
   ·rw[zero_row,<- hL,List.append_assoc]
   ·rcases Nat.lt_or_ge a k with z | z
    ·rw[gxF (by omega)];exact hga a z
    ·have:a=k:=by omega
     subst this
     rw[gxG (by omega),hg,Nat.sub_self];rfl
  rintro zs μ' ⟨k,hk,e,rfl,g,rfl,hg,hga⟩
  have hkL:k=L:=by
   have:=congrArg List.length e
   rw[gxC,List.length_drop]at this
   simp at this
   omega
  subst hkL
  have R0:RowsM k (partT S 0 0) g:=part_start hg hga
  refine⟨by rw[gxC];omega,by rw[gxC];omega,?_⟩
  rw[gxC,gxK,<- hL]
  have esj:∀ j,j<k->atI (es.map D.int) (j:Int)=some (.int (es.getD j 0)):=fun j hj=>by
   have:es[j]?=some (es.getD j 0):=by rw[List.getD_eq_getElem?_getD,gxA (by omega)];rfl
   exact atI_maps this
  have owj:∀ j,j<k->atI (own.map D.int) (j:Int)=some (.int (own.getD j 0)):=fun j hj=>by
   have:own[j]?=some (own.getD j 0):=by rw[List.getD_eq_getElem?_getD,gxA (by omega)];rfl
   exact atI_maps this
  refine forW_inv (fun ds ρ μ'=>∃(i c:Nat) (g:MS) (u v w:Option D),ds=rngD (i:Int) c/\i+c=k/\μ'=μ++g/\RowsM k (partT S i 0) g/\ρ=[some (.lst (es.map D.int)),some (.lst (own.map D.int)),some (.lst l),some (.lst ((List.range k).map fun i=>D.mr (μ.length+i))),u,v,w]) ⟨0,k,g,none,none,none,rfl,by omega,rfl,R0,rfl⟩ ?_ ?_
  ·clear R0 hg hga hk e
   clear g
   rintro d ds' ρ μ' ⟨i,c,g,u,v,w,e,hic,rfl,RM,rfl⟩
   refine⟨trivial,fun nx hnx=>?_⟩
   cases c with
   | zero=>cases e
   | succ c =>
    rw[rngD_cons]at e
    cases e
    refine⟨⟨by omega,by omega,by rw[gxC];omega,by rw[gxC];omega⟩,?_⟩
    rw[gxC,<- hL]
    have ek:((k:Int) - ((i:Int)+1)).toNat=k - (i+1):=by omega
    rw[ek]
    refine forW_inv (fun ds ρ μ'=>∃(j c:Nat) (g:MS) (v w:Option D),ds=rngD (j:Int) c/\i<j/\j+c=k/\μ'=μ++g/\RowsM k (partT S i j) g/\ρ=[some (.lst (es.map D.int)),some (.lst (own.map D.int)),some (.lst l),some (.lst ((List.range k).map fun i=>D.mr (μ.length+i))),some (.int (i:Int)),v,w]) ⟨i+1,k - (i+1),g,v,w,rfl,by omega,by omega,rfl,part_from S0 RM,rfl⟩ ?_ ?_
    ·clear RM hnx
     clear g
     rintro d ds'' ρ μ' ⟨j,c',g,v',w',e,hij,hjc,rfl,RM,rfl⟩
     refine⟨trivial,fun nx hnx=>?_⟩
     cases c' with
     | zero=>cases e
     | succ c' =>
      rw[rngD_cons]at e
      cases e
      have hi:i<k:=by omega
      have hj:j<k:=by omega
      have ami:atI ((List.range k).map fun i=>D.mr (μ.length+i)) (i:Int)=some (D.mr (μ.length+i)):=atI_maps (g:=fun i=>D.mr (μ.length+i)) (List.getElem?_range hi)
      have lvi:lvM (μ++g) (μ.length+i)=some (rowI k (partT S i j i)):=lvM_at (RM.2 i hi)
      have ixj:ixN (rowI k (partT S i j i)).length (j:Int)=some j:=by
       unfold ixN;rw[rowI_len,if_pos (by omega),if_pos (by omega),gxK]
      have fin:∀ v:Int,S i j=v->RowsM k (partT S i (j+1)) (g.set i (.lst ((rowI k (partT S i j i)).set j (.int v)))):=fun v hv=>part_put RM hi hj hv
      have Sij:S i j=if es.getD j 0<=own.getD i 0 then 1 else minD0 (candL T i j):=by rw[hS];unfold stepL;rw[if_neg (by omega)]
      refine⟨by show 0<=sizeLine;decide,?_⟩
      refine⟨fun ρ' μ''=>ρ'=[some (.lst (es.map D.int)),some (.lst (own.map D.int)),some (.lst l),some (.lst ((List.range k).map fun i=>D.mr (μ.length+i))),some (.int (i:Int)),some (.int (j:Int)),some (.lst ((candL T i j).map D.int))]/\μ''=μ++g,?_,?_⟩
      ·refine⟨by show 0<=sizeLine;decide,?_⟩
       rcases hlast with⟨rfl,rfl⟩ | rfl
       ·exact⟨by rw[cand_zero];rfl,rfl⟩
       ·refine iteB (b:=!(tabR k T).isEmpty) (fun _=>?_) (fun z=>by rw[tabR_ne (by omega)]at z;cases z)
        refine⟨⟨by omega,by omega,by omega,by omega⟩,?_⟩
        have ej:((j:Int) - ((i:Int)+1)).toNat=j - (i+1):=by omega
        rw[ej]
        refine⟨sz (by unfold rngD;rw[gxC,gxJ];omega),?_⟩
        refine compW_gen trivial (fun x:Nat=>D.int ((i:Int)+1+(x:Nat))) (fun x=>(if 0<T i (i+1+x)*T (i+1+x) j then some (T i (i+1+x)+T (i+1+x) j)else none).map D.int) (fun x hx K' k'=>?_) ?_
        ·rw[List.mem_range]at hx
         have a1:atI (tabR k T) (i:Int)=some (.lst (rowI k (T i))):=atI_nat (tabR_get hi)
         have ex:(i:Int)+1+(x:Nat)=((i+1+x:Nat):Int):=by omega
         have a2:atI (rowI k (T i)) ((i:Int)+1+(x:Nat))=some (.int (T i (i+1+x))):=by rw[ex];exact atI_nat (rowI_get (by omega))
         have a3:atI (tabR k T) ((i:Int)+1+(x:Nat))=some (.lst (rowI k (T (i+1+x)))):=by rw[ex];exact atI_nat (tabR_get (by omega))
         have a4:atI (rowI k (T (i+1+x))) (j:Int)=some (.int (T (i+1+x) j)):=atI_nat (rowI_get hj)
         have cm:CMul (T i (i+1+x)) (T (i+1+x) j):=.inl (by have:=hT i (i+1+x);omega)
         refine opt_of a1 (opt_of a2 (opt_of a3 (opt_of a4 ⟨cm,?_⟩)))
         refine iteD (c:=0<T i (i+1+x)*T (i+1+x) j) (fun q=>?_) (fun q=>?_)
         ·rw[if_pos q]at k'
          exact opt_of a1 (opt_of a2 (opt_of a3 (opt_of a4 k')))
         ·rw[if_neg q]at k';exact k'
        ·refine⟨?_,rfl⟩
         rw[cand_D];rfl
      rintro ρ' μ'' ⟨rfl,rfl⟩
      refine opt_of (esj j hj) (opt_of (owj i hi) ?_)
      refine iteD (c:=es.getD j 0<=own.getD i 0) (fun q=>?_) (fun q=>?_)
      ·refine opt_of ami (opt_of lvi (opt_of ixj ?_))
       rw[set_app]
       exact hnx _ _ ⟨j+1,c',_,_,_,rfl,by omega,by omega,rfl,fin 1 (by rw[Sij,if_pos q]),rfl⟩
      ·refine iteD (c:=(0:Int)<((candL T i j).map D.int).length) (fun z=>?_) (fun z=>?_)
       ·have hcn:candL T i j≠[]:=fun e=>by rw[e]at z;simp at z
        refine⟨candL T i j,rfl,hcn,fun m h1 h2=>?_⟩
        refine opt_of ami (opt_of lvi (opt_of ixj ?_))
        rw[set_app]
        exact hnx _ _ ⟨j+1,c',_,_,_,rfl,by omega,by omega,rfl,fin m (by rw[Sij,if_neg q,minD0_is h1 h2]),rfl⟩
       ·have hcn:candL T i j=[]:=by
         cases e:candL T i j with
         | nil=>rfl
         | cons a b=>rw[e]at z;exact absurd (by simp) z
        refine hnx _ _ ⟨j+1,c',g,_,_,rfl,by omega,by omega,rfl,part_skip RM (by rw[Sij,if_neg q,hcn];rfl),rfl⟩
    ·clear RM
     clear g
     rintro ρ μ' ⟨j,c',g,v',w',e,hij,hjc,rfl,RM,rfl⟩
     cases c' with
     | succ c'=>rw[rngD_cons]at e;cases e
     | zero =>
      refine⟨trivial,hnx _ _ ⟨i+1,c,g,_,_,_,rfl,by omega,rfl,part_next (by omega) RM,rfl⟩⟩
  ·clear R0 hg hga hk e
   clear g
   rintro ρ μ' ⟨i,c,g,u,v,w,e,hic,rfl,RM,rfl⟩
   cases c with
   | succ c=>rw[rngD_cons]at e;cases e
   | zero =>
    refine⟨trivial,.deep (frz_tab rfl RM) (old_app hm) ?_⟩
    rw[List.take_left]
    rw[part_all (by omega)]
    exact kk
theorem inv_no_make {ds:List D}{μ:MS}{Kd:DK}(h:fNoMake ds μ Kd):∃ v0,ds=[.lst v0]:=by
 unfold fNoMake at h
 rcases ds with _ | ⟨z0,ds⟩
 ·exact False.elim h
 cases z0 <;> first | exact False.elim h | skip
 rcases ds with _ | ⟨zz,zs⟩
 ·exact⟨_,rfl⟩
 ·exact False.elim h
theorem ok_no_make {f:Addr}{fd:FuncData}(F:Fun K "no_make" "no_make" s_no_make f fd)(T:Bi2 mg)  : FnOk P w K mg base CX0 1 f fd ["places"] (spD fNoMake):=by
 refine F.okD sc_no_make (fun ds μ Kd h=>by obtain⟨_,rfl⟩:=inv_no_make h;rfl) (fun cdv A outer s H E hr=>⟨_,(b_one (s_ret (d_op subC so_i2' (d_blt lenC so_len (by rfl) T.len PySem.boot_len (da_cons (dv 0) da_nil)) d_int))),fun ds μ Kd hm hl h=>?_⟩)
 obtain⟨b,rfl⟩:=inv_no_make h
 unfold fNoMake at h
 ·skip
  obtain⟨hl,kk⟩:=h
  exact .keep kk
theorem inv_bare_table {ds:List D}{μ:MS}{Kd:DK}(h:fBareT ds μ Kd):∃ v0,ds=[.lst v0]:=by
 unfold fBareT at h
 rcases ds with _ | ⟨z0,ds⟩
 ·exact False.elim h
 cases z0 <;> first | exact False.elim h | skip
 rcases ds with _ | ⟨zz,zs⟩
 ·exact⟨_,rfl⟩
 ·exact False.elim h
theorem ok_bare_table {f:Addr}{fd:FuncData}(F:Fun K "bare_table" "bare_table" s_bare_table f fd)(T:Bi2 mg)(C_no_make:Cal P w K mg base "no_make" 1 ["places"] (spD fNoMake)):FnOk P w K mg base CX0 2 f fd ["places"] (spD fBareT):=by
 refine F.okD sc_bare_table (fun ds μ Kd h=>by obtain⟨_,rfl⟩:=inv_bare_table h;rfl) (fun cdv A outer s H E hr=>⟨_,(b_cons (s_set (i:=1) sc_bare_table.nd rfl lo (d_call C_no_make hr.le rfl (da_cons (dv 0) da_nil)))
  (b_one (s_ret (d_comp false (compOk (XN:=["places", "none"]) (xsc:=(defScope s_bare_table)) (N:=["first", "places", "none"]) (js:=[none,some 0,some 1]) (by decide +kernel)) rfl (so_name 0) (mo_name 0) rfl (i_range1 rfl T.range (da_cons (d_blt lenC so_len (by rfl) T.len PySem.boot_len (da_cons (dv 0) da_nil)) da_nil)) (fun _ _ _=>(pg_name (i:=0) (show List.Nodup (["first", "places", "none"]:List Str) by decide +kernel) rfl lo)) (fun _ _ _=>ts_nil) (fun _ _ _=>(d_comp false (compOkN (xsc:=(defScope s_bare_table)) (N:=["behind", "first", "none"]) (js:=[none,some 0,some 2]) rfl (by decide +kernel)) rfl (so_name 0) (mo_name 0) rfl (i_range1 rfl T.range (da_cons (d_blt lenC so_len (by rfl) T.len PySem.boot_len (da_cons (dv 1) da_nil)) da_nil)) (fun _ _ _=>(pg_name (i:=0) (show List.Nodup (["behind", "first", "none"]:List Str) by decide +kernel) rfl lo)) (fun _ _ _=>ts_nil) (fun _ _ _=>(d_if (d_testC leC so_b2' (dv 0) (dv 1) (nomark _)) d_int (dv 2))))))))),fun ds μ Kd hm hl h=>?_⟩)
 obtain⟨b,rfl⟩:=inv_bare_table h
 unfold fBareT at h
 ·skip
  obtain⟨hl,kk⟩:=h
  refine⟨hl,?_⟩
  refine⟨by omega,by omega,?_⟩
  rw[gxK]
  refine⟨sz (by rw[rngD_len];omega),?_⟩
  refine compW_all trivial (fun i:Nat=>D.int (0+(i:Nat))) (fun i=>D.lst (rowI b.length (bareP b.length i))) (fun i hi K' k'=>?_) (.keep kk)
  refine⟨by omega,by omega,?_⟩
  rw[gxK]
  refine⟨sz (by rw[rngD_len];omega),?_⟩
  refine compW_all trivial (fun j:Nat=>D.int (0+(j:Nat))) (fun j=>D.int (bareP b.length i j)) (fun j hj K' k'=>?_) k'
  unfold bareP at k'
  refine iteD (c:=(0+(j:Nat):Int)<=0+(i:Nat)) (fun q=>?_) (fun q=>?_)
  ·rw[if_pos (by omega)]at k';exact k'
  ·rw[if_neg (by omega)]at k';exact k'
theorem inv_fewest_joined {ds:List D}{μ:MS}{Kd:DK}(h:fFewestJ ds μ Kd):∃ v0 v1 v2,ds=[.lst v0,.lst v1,.int v2]:=by
 unfold fFewestJ at h
 rcases ds with _ | ⟨z0,ds⟩
 ·exact False.elim h
 cases z0 <;> first | exact False.elim h | skip
 rcases ds with _ | ⟨z1,ds⟩
 ·exact False.elim h
 cases z1 <;> first | exact False.elim h | skip
 rcases ds with _ | ⟨z2,ds⟩
 ·exact False.elim h
 cases z2 <;> first | exact False.elim h | skip
 rcases ds with _ | ⟨zz,zs⟩
 ·exact⟨_,_,_,rfl⟩
 ·exact False.elim h
theorem ok_fewest_joined {f:Addr}{fd:FuncData}(F:Fun K "fewest_joined" "fewest_joined" s_fewest_joined f fd)(T:Bi2 mg)  : FnOk P w K mg base CX0 1 f fd ["lefts", "rights", "none"] (spD fFewestJ):=by
 refine F.okD sc_fewest_joined (fun ds μ Kd h=>by obtain⟨_,_,_,rfl⟩:=inv_fewest_joined h;rfl) (fun cdv A outer s H E hr=>⟨_,(b_one (s_ret (d_blt (minL rfl) so_minL (by rfl) T.min PyProof.Rows.boot_min (da_cons (d_op addC (so_add (m:=false)) (d_lst false (da_cons (dv 2) da_nil)) (d_comp false (compOk (XN:=["lefts", "rights", "none"]) (xsc:=(defScope s_fewest_joined)) (N:=["left", "right"]) (js:=[none,none]) (by decide +kernel)) rfl (so_tup (so_cons (so_name 0) (mo_name 0) (so_cons (so_name 1) (mo_name 1) so_nil mo_nil) (mo_cons (mo_name 1) mo_nil))) (mo_tup (mo_cons (mo_name 0) (mo_cons (mo_name 1) mo_nil))) rfl (i_zip rfl T.zip (da_cons (dv 0) (da_cons (dv 1) da_nil))) (fun _ _ _=>(pg_tupC (n:=2) rfl (pgs_consC (pg_name (i:=0) (show List.Nodup (["left", "right"]:List Str) by decide +kernel) rfl lo) (pgs_consC (pg_name (i:=1) (show List.Nodup (["left", "right"]:List Str) by decide +kernel) rfl lo) pgs_nilC)))) (fun _ _ _=>ts_nil) (fun _ _ _=>(d_op addC (so_add (m:=false)) (d_op addC (so_add (m:=false)) (dv 0) (dv 1)) d_int)))) da_nil)))),fun ds μ Kd hm hl h=>?_⟩)
 obtain⟨l,r,m,rfl⟩:=inv_fewest_joined h
 unfold fFewestJ at h
 ·skip
  obtain⟨ls,rs,rfl,rfl,h1,h2,kk⟩:=h
  refine⟨by show 1<=sizeLine;decide,?_⟩
  refine⟨by rw[List.length_zipWith,gxC,gxC];exact sz (by omega),?_⟩
  rw[zip_ints]
  refine compW_all ⟨trivial,trivial⟩ (fun p:Int×Int=>D.tup [.int p.1,.int p.2]) (fun p=>D.int (p.1+p.2+1)) (fun p hp K' k'=>⟨rfl,k'⟩) ?_
  rw[zip_plus]
  refine⟨by rw[gxC,List.length_zipWith];exact sz (by show 1+_<=_;omega),?_⟩
  obtain⟨b1,b2,b3⟩:=fmin_is (List.zipWith (fun a b=>a+b+1) ls rs) m
  refine⟨m::List.zipWith (fun a b=>a+b+1) ls rs,rfl,by simp,fun v hv hv2=>.keep ?_⟩
  have e:v=(List.zipWith (fun a b=>a+b+1) ls rs).foldl min m:=by
   have g1:=hv2 m List.mem_cons_self
   rcases b1 with q | q
   ·rcases List.mem_cons.mp hv with z | z
    ·omega
    ·have:=b3 v z;omega
   ·have:=hv2 _ (gxI _ q)
    rcases List.mem_cons.mp hv with z | z
    ·omega
    ·have:=b3 v z;omega
  rw[e];exact kk
theorem inv_next_table {ds:List D}{μ:MS}{Kd:DK}(h:fNextTab ds μ Kd):∃ v0 v1 v2,ds=[.lst v0,.lst v1,.lst v2]:=by
 unfold fNextTab at h
 rcases ds with _ | ⟨z0,ds⟩
 ·exact False.elim h
 cases z0 <;> first | exact False.elim h | skip
 rcases ds with _ | ⟨z1,ds⟩
 ·exact False.elim h
 cases z1 <;> first | exact False.elim h | skip
 rcases ds with _ | ⟨z2,ds⟩
 ·exact False.elim h
 cases z2 <;> first | exact False.elim h | skip
 rcases ds with _ | ⟨zz,zs⟩
 ·exact⟨_,_,_,rfl⟩
 ·exact False.elim h
theorem ok_next_table {f:Addr}{fd:FuncData}(F:Fun K "next_table" "next_table" s_next_table f fd)(T:Bi2 mg)(C_no_make:Cal P w K mg base "no_make" 1 ["places"] (spD fNoMake))(C_fewest_joined:Cal P w K mg base "fewest_joined" 1 ["lefts", "rights", "none"] (spD fFewestJ)):FnOk P w K mg base CX0 2 f fd ["places", "clean", "before"] (spD fNextTab):=by
 refine F.okD sc_next_table (fun ds μ Kd h=>by obtain⟨_,_,_,rfl⟩:=inv_next_table h;rfl) (fun cdv A outer s H E hr=>⟨_,(b_cons (s_set (i:=3) sc_next_table.nd rfl lo (d_comp false (compOk (XN:=["places", "clean", "before", "columns", "none", "told", "first", "row", "far"]) (xsc:=(defScope s_next_table)) (N:=["at", "before"]) (js:=[none,some 2]) (by decide +kernel)) rfl (so_name 0) (mo_name 0) rfl (i_range1 rfl T.range (da_cons (d_blt lenC so_len (by rfl) T.len PySem.boot_len (da_cons (dv 2) da_nil)) da_nil)) (fun _ _ _=>(pg_name (i:=0) (show List.Nodup (["at", "before"]:List Str) by decide +kernel) rfl lo)) (fun _ _ _=>ts_nil) (fun _ _ _=>(d_comp false (compOkN (xsc:=(defScope s_next_table)) (N:=["row", "at"]) (js:=[none,some 0]) rfl (by decide +kernel)) rfl (so_name 0) (mo_name 0) rfl (i_list (dv 1)) (fun _ _ _=>(pg_name (i:=0) (show List.Nodup (["row", "at"]:List Str) by decide +kernel) rfl lo)) (fun _ _ _=>ts_nil) (fun _ _ _=>(d_ix ixC so_ix (dv 0) (dv 1) (fun _ _=>rfl)))))))
  (b_cons (s_set (i:=4) sc_next_table.nd rfl lo (d_call C_no_make hr.le rfl (da_cons (dv 0) da_nil)))
  (b_cons (s_set (i:=5) sc_next_table.nd rfl lo (d_lst true da_nil))
  (b_cons (s_for PassesOwn.never rfl (i_enumZ rfl T.enumerate rfl T.zip (da_cons (dv 2) (da_cons (dv 1) da_nil))) ⟨(pg_tupC (n:=2) rfl (pgs_consC (pg_name (i:=6) sc_next_table.nd rfl lo) (pgs_consC (pg_tupC (n:=2) rfl (pgs_consC (pg_name (i:=7) sc_next_table.nd rfl lo) (pgs_consC (pg_name (i:=8) sc_next_table.nd rfl lo) pgs_nilC))) pgs_nilC))),(so_tup (so_cons (so_name 6) (mo_name 6) (so_cons (so_tup (so_cons (so_name 7) (mo_name 7) (so_cons (so_name 8) (mo_name 8) so_nil mo_nil) (mo_cons (mo_name 8) mo_nil))) (mo_tup (mo_cons (mo_name 7) (mo_cons (mo_name 8) mo_nil))) so_nil mo_nil) (mo_cons (mo_tup (mo_cons (mo_name 7) (mo_cons (mo_name 8) mo_nil))) mo_nil))),(mo_tup (mo_cons (mo_name 6) (mo_cons (mo_tup (mo_cons (mo_name 7) (mo_cons (mo_name 8) mo_nil))) mo_nil)))⟩
  (b_one (s_expr (d_mt PySem.F.plainAttrs_list PySem.F.slot_list_append PySem.F.type_list_append appendC so_append (dv 5) (da_cons (d_comp false (compOk (XN:=["places", "clean", "before", "columns", "none", "told", "first", "row", "far"]) (xsc:=(defScope s_next_table)) (N:=["behind", "end", "far", "row", "first", "columns", "none"]) (js:=[none,none,some 8,some 7,some 6,some 3,some 4]) (by decide +kernel)) rfl (so_tup (so_cons (so_name 0) (mo_name 0) (so_cons (so_name 1) (mo_name 1) so_nil mo_nil) (mo_cons (mo_name 1) mo_nil))) (mo_tup (mo_cons (mo_name 0) (mo_cons (mo_name 1) mo_nil))) rfl (i_enumL rfl T.enumerate (da_cons (dv 0) da_nil)) (fun _ _ _=>(pg_tupC (n:=2) rfl (pgs_consC (pg_name (i:=0) (show List.Nodup (["behind", "end", "far", "row", "first", "columns", "none"]:List Str) by decide +kernel) rfl lo) (pgs_consC (pg_name (i:=1) (show List.Nodup (["behind", "end", "far", "row", "first", "columns", "none"]:List Str) by decide +kernel) rfl lo) pgs_nilC)))) (fun _ _ _=>ts_nil) (fun _ _ _=>(d_if (d_testC leC so_b2' (dv 1) (dv 2) (nomark _)) d_int (d_call C_fewest_joined hr.le rfl (da_cons (d_slice false (dv 3) (o_some (d_op addC (so_add (m:=false)) (dv 4) d_int)) (o_some (dv 0))) (da_cons (d_slice false (d_ix ixC so_ix (dv 5) (dv 0) (fun _ _=>rfl)) (o_some (d_op addC (so_add (m:=false)) (dv 4) d_int)) (o_some (dv 0))) (da_cons (dv 6) da_nil))))))) da_nil)))))
  (b_one (s_ret (dv 5))))))),fun ds μ Kd hm hl h=>?_⟩)
 obtain⟨b,c,l,rfl⟩:=inv_next_table h
 unfold fNextTab at h
 ·skip
  obtain⟨es,own,P,rfl,rfl,hol,hel,rfl,kk⟩:=h
  obtain⟨L,hL⟩:∃ L,L=es.length:=⟨_,rfl⟩
  rw[<- hL]at hol hel kk ⊢
  refine⟨by rw[tabR_len];omega,by rw[tabR_len];omega,?_⟩
  rw[tabR_len,gxK]
  refine⟨sz (by rw[rngD_len];omega),?_⟩
  refine compW_all trivial (fun j:Nat=>D.int (0+(j:Nat))) (fun j=>D.lst (rowI L fun i=>P i j)) (fun j hj K' k'=>?_) ?_
  ·rw[List.mem_range]at hj
   refine⟨sz (by rw[tabR_len];omega),?_⟩
   refine compW_all trivial (fun i:Nat=>D.lst (rowI L (P i))) (fun i=>D.int (P i j)) (fun i hi K' k'=>?_) k'
   have a1:atI (rowI L (P i)) (0+(j:Nat):Int)=some (.int (P i j)):=by rw[Int.zero_add];exact atI_nat (rowI_get hj)
   exact opt_of a1 k'
  refine⟨by rw[gxC];omega,?_⟩
  rw[gxC,<- hL]
  refine⟨by show 0<=sizeLine;decide,?_⟩
  obtain⟨Q,hQ⟩:∃ Q,Q=stepP L es own P:=⟨_,rfl⟩
  rw[<- hQ]at kk
  refine forW_inv (fun ds ρ μ'=>∃(k:Nat) (u v w:Option D),k<=L/\ds=((List.range L).drop k).map (fun i=>D.tup [.int (i:Nat),.tup [.lst (rowI L (P i)),.int (own.getD i 0)]])/\ρ=[some (.lst (es.map D.int)),some (.lst (own.map D.int)),some (.lst (tabR L P)),some (.lst ((List.range L).map fun j=>D.lst (rowI L fun i=>P i j))),some (.int ((L:Int) - 1)),some (.mr μ.length),u,v,w]/\μ'=μ++[.lst ((List.range k).map fun i=>D.lst (rowI L (Q i)))]) ⟨0,none,none,none,by omega,enum_tab hol,rfl,rfl⟩ ?_ ?_
  ·rintro d ds' ρ μ' ⟨k,u,v,w,hk,e,rfl,rfl⟩
   refine⟨⟨trivial,trivial⟩,fun nx hnx=>?_⟩
   have hi:k<(List.range L).length:=by
    by_cases q:k<(List.range L).length
    ·exact q
    ·rw[List.drop_of_length_le (by omega)]at e;cases e
   have hkL:k<L:=by rwa [gxJ]at hi
   rw[List.drop_eq_getElem_cons hi,List.getElem_range]at e
   cases e
   refine⟨rfl,rfl,?_⟩
   refine⟨lvM_ty lvM_new,?_⟩
   refine⟨by rw[enumD_len,gxC];exact sz (by omega),?_⟩
   rw[enum_es,<- hL]
   refine compW_all trivial (fun j:Nat=>D.tup [.int (j:Nat),.int (es.getD j 0)]) (fun j=>D.int (Q k j)) (fun j hj K' k'=>?_) ?_
   ·rw[List.mem_range]at hj
    refine⟨rfl,?_⟩
    have eQ:Q k j=if es.getD j 0<=own.getD k 0 then 0 else(joinP P k j).foldl min ((L:Int) - 1):=by rw[hQ];rfl
    refine iteD (c:=es.getD j 0<=own.getD k 0) (fun q=>?_) (fun q=>?_)
    ·rw[if_pos q]at eQ;rw[eQ]at k';exact k'
    ·rw[if_neg q]at eQ;rw[eQ]at k'
     have ac:atI ((List.range L).map fun j=>D.lst (rowI L fun i=>P i j)) (j:Int)=some (.lst (rowI L fun i=>P i j)):=atI_maps (g:=fun j=>D.lst (rowI L fun i=>P i j)) (List.getElem?_range hj)
     refine opt_of ac ?_
     refine⟨(List.range (j - (k+1))).map fun x=>P k (k+1+x),(List.range (j - (k+1))).map fun x=>P (k+1+x) j,?_,?_,?_,?_,?_⟩
     ·rw[cut_rowI (by omega),List.map_map];rfl
     ·rw[cut_rowI (by omega),List.map_map];rfl
     ·rw[gxC,gxJ];omega
     ·rw[gxC,gxJ];omega
     ·rw[zip_join (L:=L)];exact k'
   ·refine opt_of lvM_new ⟨szS (by rw[gxC,gxJ];omega),?_⟩
    refine hnx _ _ ⟨k+1,_,_,_,by omega,rfl,rfl,?_⟩
    rw[set_end,tabR_succ];rfl
  ·rintro ρ μ' ⟨k,u,v,w,hk,e,rfl,rfl⟩
   refine⟨⟨trivial,trivial⟩,?_⟩
   have hkL:k=L:=by
    have:=congrArg List.length e
    rw[gxC,List.length_drop,gxJ]at this
    simp at this
    omega
   subst hkL
   refine Fz.lst (Nat.le_refl _) (lvM_eq lvM_new) (mr_tabk _ _ _) (old_app hm) ?_
   rw[List.take_left]
   exact kk
theorem inv_few_tables {ds:List D}{μ:MS}{Kd:DK}(h:fFewTabs ds μ Kd):∃ v0 v1 v2 v3,ds=[.int v0,.lst v1,.lst v2,.int v3]:=by
 unfold fFewTabs at h
 rcases ds with _ | ⟨z0,ds⟩
 ·exact False.elim h
 cases z0 <;> first | exact False.elim h | skip
 rcases ds with _ | ⟨z1,ds⟩
 ·exact False.elim h
 cases z1 <;> first | exact False.elim h | skip
 rcases ds with _ | ⟨z2,ds⟩
 ·exact False.elim h
 cases z2 <;> first | exact False.elim h | skip
 rcases ds with _ | ⟨z3,ds⟩
 ·exact False.elim h
 cases z3 <;> first | exact False.elim h | skip
 rcases ds with _ | ⟨zz,zs⟩
 ·exact⟨_,_,_,_,rfl⟩
 ·exact False.elim h
theorem ok_few_tables {f:Addr}{fd:FuncData}(F:Fun K "few_tables" "few_tables" s_few_tables f fd)(T:Bi2 mg)(C_ends:Cal P w K mg base "ends" 1 ["size", "cuts"] (spD fEnds))(C_take_rows:Cal P w K mg base "take_rows" 3 ["size", "cuts", "takes"] (spD fTakeRows))(C_bare_table:Cal P w K mg base "bare_table" 2 ["places"] (spD fBareT))(C_youngest:Cal P w K mg base "youngest" 1 ["takes"] (spD fYoungest))(C_next_table:Cal P w K mg base "next_table" 2 ["places", "clean", "before"] (spD fNextTab))(C_clean_row:Cal P w K mg base "clean_row" 1 ["places", "rows", "age"] (spD fCleanRow)):FnOk P w K mg base CX0 4 f fd ["size", "cuts", "takes", "age"] (spD fFewTabs):=by
 refine F.okD sc_few_tables (fun ds μ Kd h=>by obtain⟨_,_,_,_,rfl⟩:=inv_few_tables h;rfl) (fun cdv A outer s H E hr=>⟨_,(b_cons (s_set (i:=4) sc_few_tables.nd rfl lo (d_call C_ends hr.le rfl (da_cons (dv 0) (da_cons (dv 1) da_nil))))
  (b_cons (s_set (i:=5) sc_few_tables.nd rfl lo (d_call C_take_rows hr.le rfl (da_cons (dv 0) (da_cons (dv 1) (da_cons (dv 2) da_nil)))))
  (b_cons (s_setComp (i:=6) false (compOk (XN:=["size", "cuts", "takes", "age", "places", "rows", "ages", "table", "changing", "told", "now", "before"]) (xsc:=(defScope s_few_tables)) (N:=["text", "old"]) (js:=[none,none]) (by decide +kernel)) rfl (so_tup (so_cons (so_name 0) (mo_name 0) (so_cons (so_name 1) (mo_name 1) so_nil mo_nil) (mo_cons (mo_name 1) mo_nil))) (mo_tup (mo_cons (mo_name 0) (mo_cons (mo_name 1) mo_nil))) rfl sc_few_tables.nd rfl lo (i_list (dv 2)) (fun _ _ _=>(pg_tupC (n:=2) rfl (pgs_consC (pg_name (i:=0) (show List.Nodup (["text", "old"]:List Str) by decide +kernel) rfl lo) (pgs_consC (pg_name (i:=1) (show List.Nodup (["text", "old"]:List Str) by decide +kernel) rfl lo) pgs_nilC)))) (fun _ _ _=>ts_nil) (fun _ _ _=>(dv 1)))
  (b_cons (s_set (i:=7) sc_few_tables.nd rfl lo (d_call C_bare_table hr.le rfl (da_cons (dv 4) da_nil)))
  (b_cons (s_set (i:=8) sc_few_tables.nd rfl lo d_bl)
  (b_cons (s_set (i:=9) sc_few_tables.nd rfl lo d_dnew)
  (b_cons (s_for PassesOwn.never rfl (i_range2 rfl T.range (da_cons (d_blt (min3C rfl) so_min3 (by rfl) T.min PyProof.Rows.boot_min (da_cons (d_call C_youngest hr.le rfl (da_cons (dv 2) da_nil)) (da_cons d_int (da_cons (dv 3) da_nil)))) (da_cons (d_op addC (so_add (m:=false)) (dv 3) d_int) da_nil))) ⟨(pg_name (i:=10) sc_few_tables.nd rfl lo),(so_name 10),(mo_name 10)⟩
  (b_cut (s_if (PW.pt (t_or (d_testV (dv 8)) (t_or1 (d_testC inC so_in (dv 10) (dv 6) (by with_unfolding_all rfl)))))
  (b_cons (s_set (i:=11) sc_few_tables.nd rfl lo (dv 7))
  (b_cons (s_set (i:=7) sc_few_tables.nd rfl lo (d_call C_next_table hr.le rfl (da_cons (dv 4) (da_cons (d_call C_clean_row hr.le rfl (da_cons (dv 4) (da_cons (dv 5) (da_cons (dv 10) da_nil)))) (da_cons (dv 11) da_nil)))))
  (b_one (s_set (i:=8) sc_few_tables.nd rfl lo (d_cmp (neDeep (n:=4) (un_of hr (by decide))) so_eqD (dv 7) (dv 11) (nomark _))))))
  b_nil)
  (b_one (s_asgK (hu_of hr) (dv 7) (dv 9) (dv 10)))))
  (b_one (s_ret (dv 9)))))))))),fun ds μ Kd hm hl h=>?_⟩)
 obtain⟨n,x,y,a,rfl⟩:=inv_few_tables h
 unfold fFewTabs at h
 ·skip
  obtain⟨cs,ts,rfl,rfl,S,a0,a1,kk⟩:=h
  have few:=S.few
  have ft:=S.takes.few
  have hel:(endsOf n cs).length=cs.length+2:=endsOf_len n cs
  refine⟨cs,rfl,few,cs,ts,rfl,rfl,S,?_⟩
  refine⟨sz (by rw[gxC];omega),?_⟩
  refine compW_all trivial tkD (fun t=>D.int t.2) (fun t ht K' k'=>⟨rfl,k'⟩) ?_
  have eages:ts.map (fun t=>D.int t.2)=(ts.map (·.2)).map D.int:=by rw[List.map_map];rfl
  rw[eages]
  refine⟨by rw[gxC];omega,?_⟩
  rw[gxC]
  have fs:=fix_start S
  obtain⟨es,he⟩:∃ es,es=endsOf n cs:=⟨_,rfl⟩
  rw[<- he]at kk hel fs ⊢
  refine⟨ts,rfl,by omega,?_⟩
  have yn:=young_nn S.takes
  have ym:min (youngF ts) (min 0 a)=0:=by omega
  refine⟨⟨by omega,by omega,by omega,by omega⟩,?_⟩
  rw[ym]
  refine forW_inv (fun ds ρ μ'=>∃(k c:Nat) (ch:Bool) (u v:Option D),ds=rngD (k:Int) c/\(k:Int)+c=a+1/\(ch=false->∀ i j,i<es.length->j<es.length->stepP es.length es (ownR es ts ((k:Int) - 1)) (tabP es ts k) i j=tabP es ts k i j)/\ρ=[some (.int n),some (.lst (cs.map D.int)),some (.lst (ts.map tkD)),some (.int a),some (.lst (es.map D.int)),some (.lst (ts.map (rowTD es))),some (.lst ((ts.map (·.2)).map D.int)),some (.lst (tabR es.length (tabP es ts k))),some (.bl ch),some (.mr μ.length),u,v]/\μ'=μ++[.dic (keysD k) (tabsD es ts k)]) ⟨0,(a+1).toNat,false,none,none,by rw[Int.sub_zero];rfl,by omega,fun _=>fs,rfl,rfl⟩ ?_ ?_
  ·rintro d ds' ρ μ' ⟨k,c,ch,u,v,e,hkc,hch,rfl,rfl⟩
   refine⟨trivial,fun nx hnx=>?_⟩
   cases c with
   | zero=>cases e
   | succ c =>
    rw[rngD_cons]at e
    cases e
    refine⟨fun ρ' μ'=>∃(ch':Bool) (v':Option D),(ch'=false->∀ i j,i<es.length->j<es.length->stepP es.length es (ownR es ts (((k+1:Nat):Int) - 1)) (tabP es ts (k+1)) i j=tabP es ts (k+1) i j)/\ρ'=[some (.int n),some (.lst (cs.map D.int)),some (.lst (ts.map tkD)),some (.int a),some (.lst (es.map D.int)),some (.lst (ts.map (rowTD es))),some (.lst ((ts.map (·.2)).map D.int)),some (.lst (tabR es.length (tabP es ts (k+1)))),some (.bl ch'),some (.mr μ.length),some (.int (k:Int)),v']/\μ'=μ++[.dic (keysD k) (tabsD es ts k)],?_,?_⟩
    ·refine or_in (i:=8) (j:=10) (k:=6) ch (k:Int) (ts.map (·.2)) rfl rfl rfl fun b hb=>?_
     refine iteB (b:=b) (fun hbT=>?_) (fun hbF=>?_)
     ·refine⟨es,ts,rfl,rfl,by omega,by omega,?_⟩
      refine⟨es,ownR es ts k,tabP es ts k,rfl,rfl,(own_ok _ _ _).len,by omega,rfl,?_⟩
      refine⟨sm_pu (sm_tabR _ _ (by omega)),sm_pu (sm_tabR _ _ (by omega)),rfl,?_⟩
      refine⟨_,_,fun hf=>fix_kept (deq_tab ?_),rfl,rfl⟩
      exact(show ∀ b:Bool,(true != b)=false->b=true by decide) _ hf
     ·obtain⟨h1,h2⟩:=hb hbF
      have fx:=fix_next (hch h1) fun t ht et=>h2 (by rw[<- et];exact List.mem_map_of_mem ht)
      rw[tabR_ext fx]
      refine⟨ch,_,fun _=>fix_kept fx,rfl,rfl⟩
    ·rintro ρ' μ' ⟨ch',v',hch',rfl,rfl⟩
     refine⟨_,_,(by rw[gxG (Nat.le_refl _),Nat.sub_self];rfl),szS (by unfold keysD;rw[gxC,gxJ];omega),keys_new k,?_⟩
     refine hnx _ _ ⟨k+1,c,ch',_,_,rfl,by omega,hch',rfl,?_⟩
     rw[set_end,keysD_succ,tabsD_succ]
  ·rintro ρ μ' ⟨k,c,ch,u,v,e,hkc,hch,rfl,rfl⟩
   refine⟨trivial,?_⟩
   cases c with
   | succ c=>rw[rngD_cons]at e;cases e
   | zero =>
    have hk:k=a.toNat+1:=by omega
    subst hk
    refine Fz.dic (Nat.le_refl _) (by rw[gxG (Nat.le_refl _),Nat.sub_self];rfl) (mr_all fun d hd=>by obtain⟨i,_,rfl⟩:=List.mem_map.mp hd;exact mr_tabR _ _) (old_app hm) ?_
    rw[List.take_left]
    exact kk
theorem ok_BestMakes_is_take {f:Addr}{fd:FuncData}(F:Fun K "is_take" "BestMakes.is_take" s_BestMakes_is_take f fd)(T:Bi2 mg)(Z_BestMakes:ZBestMakes K cBestMakes):FnOk P w K mg base CX0 1 f fd ["self", "stretch"] (spD (fIsTake cBestMakes)):=by
 refine F.okD sc_BestMakes_is_take (fun ds μ Kd h=>by unfold fIsTake at h;split at h <;> first | rfl | exact h.elim) (fun cdv A outer s H E hr=>⟨_,(b_cons (s_asg (dv 1) ⟨(pg_tupC (n:=3) rfl (pgs_consC (pg_name (i:=2) sc_BestMakes_is_take.nd rfl lo) (pgs_consC (pg_name (i:=3) sc_BestMakes_is_take.nd rfl lo) (pgs_consC (pg_name (i:=4) sc_BestMakes_is_take.nd rfl lo) pgs_nilC)))),(so_tup (so_cons (so_name 2) (mo_name 2) (so_cons (so_name 3) (mo_name 3) (so_cons (so_name 4) (mo_name 4) so_nil mo_nil) (mo_cons (mo_name 4) mo_nil)) (mo_cons (mo_name 3) (mo_cons (mo_name 4) mo_nil)))),(mo_tup (mo_cons (mo_name 2) (mo_cons (mo_name 3) (mo_cons (mo_name 4) mo_nil))))⟩)
  (b_one (s_ret (d_cmp eqC so_eqS (d_ix ixC so_ix (d_ix ixC so_ix (d_ixK (hu_of hr) (d_fld Z_BestMakes.cl Z_BestMakes.n_tables (dv 0)) (dv 2) (fun _ _=>rfl)) (dv 3) (fun _ _=>rfl)) (dv 4) (fun _ _=>rfl)) d_int (nomark _))))),fun ds μ Kd hm hl h=>?_⟩)
 unfold fIsTake at h
 split at h
 ·rename_i k s
  obtain⟨es,ts,A,j,a,i,b,B,rfl,kk⟩:=h
  have hib:=B.hib
  have hb:=B.hb
  refine⟨rfl,_,fldE B.at_ bm_tables,?_⟩
  refine opt_of (tabs_at B.ha) ?_
  refine opt_of (tab_at (by omega)) ?_
  refine opt_of (row_at hb) (.keep ?_)
  generalize decide (tabP es ts (a+1) i b=0)=c at kk ⊢
  cases c <;> exact kk
 ·exact h.elim
theorem ok_BestMakes_clean_takes {f:Addr}{fd:FuncData}(F:Fun K "clean_takes" "BestMakes.clean_takes" s_BestMakes_clean_takes f fd)(T:Bi2 mg)(Z_BestMakes:ZBestMakes K cBestMakes):FnOk P w K mg base CX0 1 f fd ["self", "stretch"] (spD (fCleanT cBestMakes)):=by
 refine F.okD sc_BestMakes_clean_takes (fun ds μ Kd h=>by unfold fCleanT at h;split at h <;> first | rfl | exact h.elim) (fun cdv A outer s H E hr=>⟨_,(b_cons (s_asg (dv 1) ⟨(pg_tupC (n:=3) rfl (pgs_consC (pg_name (i:=2) sc_BestMakes_clean_takes.nd rfl lo) (pgs_consC (pg_name (i:=3) sc_BestMakes_clean_takes.nd rfl lo) (pgs_consC (pg_name (i:=4) sc_BestMakes_clean_takes.nd rfl lo) pgs_nilC)))),(so_tup (so_cons (so_name 2) (mo_name 2) (so_cons (so_name 3) (mo_name 3) (so_cons (so_name 4) (mo_name 4) so_nil mo_nil) (mo_cons (mo_name 4) mo_nil)) (mo_cons (mo_name 3) (mo_cons (mo_name 4) mo_nil)))),(mo_tup (mo_cons (mo_name 2) (mo_cons (mo_name 3) (mo_cons (mo_name 4) mo_nil))))⟩)
  (b_cons (s_set (i:=5) sc_BestMakes_clean_takes.nd rfl lo (d_ix ixC so_ix (d_fld Z_BestMakes.cl Z_BestMakes.n_places (dv 0)) (dv 4) (fun _ _=>rfl)))
  (b_one (s_ret (d_comp false (compOk (XN:=["self", "stretch", "age", "first", "behind", "end"]) (xsc:=(defScope s_BestMakes_clean_takes)) (N:=["number", "old", "row", "age", "first", "end"]) (js:=[none,none,none,some 2,some 3,some 5]) (by decide +kernel)) rfl (so_tup (so_cons (so_name 0) (mo_name 0) (so_cons (so_tup (so_cons (so_name 1) (mo_name 1) (so_cons (so_name 2) (mo_name 2) so_nil mo_nil) (mo_cons (mo_name 2) mo_nil))) (mo_tup (mo_cons (mo_name 1) (mo_cons (mo_name 2) mo_nil))) so_nil mo_nil) (mo_cons (mo_tup (mo_cons (mo_name 1) (mo_cons (mo_name 2) mo_nil))) mo_nil))) (mo_tup (mo_cons (mo_name 0) (mo_cons (mo_tup (mo_cons (mo_name 1) (mo_cons (mo_name 2) mo_nil))) mo_nil))) rfl (i_enumL rfl T.enumerate (da_cons (d_fld Z_BestMakes.cl Z_BestMakes.n_rows (dv 0)) da_nil)) (fun _ _ _=>(pg_tupC (n:=2) rfl (pgs_consC (pg_name (i:=0) (show List.Nodup (["number", "old", "row", "age", "first", "end"]:List Str) by decide +kernel) rfl lo) (pgs_consC (pg_tupC (n:=2) rfl (pgs_consC (pg_name (i:=1) (show List.Nodup (["number", "old", "row", "age", "first", "end"]:List Str) by decide +kernel) rfl lo) (pgs_consC (pg_name (i:=2) (show List.Nodup (["number", "old", "row", "age", "first", "end"]:List Str) by decide +kernel) rfl lo) pgs_nilC))) pgs_nilC)))) (fun _ _ _=>(ts_one (PW.pt (t_and (d_testC leC so_b2' (dv 1) (dv 3) (nomark _)) (t_and1 (d_testC geC so_b2' (d_ix ixC so_ix (dv 2) (dv 4) (fun _ _=>rfl)) (dv 5) (nomark _))))))) (fun _ _ _=>(dv 0))))))),fun ds μ Kd hm hl h=>?_⟩)
 unfold fCleanT at h
 split at h
 ·rename_i k s
  obtain⟨es,ts,A,j,a,i,b,B,rfl,kk⟩:=h
  have hib:=B.hib
  have hb:=B.hb
  have hl':=B.hl
  have ht':=B.ht
  have eb:(es.map D.int)[b]?=some (.int (es.getD b 0)):=by rw[gxH,getD_some hb];rfl
  refine⟨rfl,_,fldE B.at_ bm_places,opt_of (atI_nat eb) ?_⟩
  refine⟨_,fldE B.at_ bm_rows,?_⟩
  refine⟨by rw[enumD_len,gxC];exact sz (by omega),?_⟩
  rw[enum_range,gxC]
  refine compW_gen trivial _ (fun x=>if(match ts[x]? with | some t=>decide (t.2<=(a:Int))&&decide (es.getD b 0<=farF es t.1 (es.getD i 0)) | none=>false)=true then some (D.int (x:Nat))else none) (fun x hx K' k'=>?_) ?_
  ·rw[List.mem_range]at hx
   obtain⟨t,et⟩:∃ t,ts[x]?=some t:=⟨_,gxA hx⟩
   rw[rowTD_at et]
   rw[et]at k'
   dsimp only at k'
   refine⟨rfl,rfl,?_⟩
   refine iteD (c:=t.2<=(a:Int)) (fun q=>?_) (fun q=>?_)
   ·have er:((rowT es t).map D.int)[i]?=some (.int (farF es t.1 (es.getD i 0))):=by
     unfold rowT
     rw[gxH,gxH,getD_some (by omega)];rfl
    refine opt_of (atI_nat er) ?_
    refine iteD (c:=es.getD b 0<=farF es t.1 (es.getD i 0)) (fun q2=>?_) (fun q2=>?_)
    ·rw[if_pos (by rw[decide_eq_true q,decide_eq_true q2];rfl)]at k';exact k'
    ·rw[if_neg (by rw[decide_eq_false q2,Bool.and_false];exact Bool.false_ne_true)]at k';exact k'
   ·rw[if_neg (by rw[decide_eq_false q];exact Bool.false_ne_true)]at k';exact k'
  ·rw[fm_if]
   exact .keep kk
 ·exact h.elim
theorem ok_BestMakes_halves {f:Addr}{fd:FuncData}(F:Fun K "halves" "BestMakes.halves" s_BestMakes_halves f fd)(T:Bi2 mg)(Z_BestMakes:ZBestMakes K cBestMakes):FnOk P w K mg base CX0 1 f fd ["self", "stretch"] (spD (fHalves cBestMakes)):=by
 refine F.okD sc_BestMakes_halves (fun ds μ Kd h=>by unfold fHalves at h;split at h <;> first | rfl | exact h.elim) (fun cdv A outer s H E hr=>⟨_,(b_cons (s_asg (dv 1) ⟨(pg_tupC (n:=3) rfl (pgs_consC (pg_name (i:=2) sc_BestMakes_halves.nd rfl lo) (pgs_consC (pg_name (i:=3) sc_BestMakes_halves.nd rfl lo) (pgs_consC (pg_name (i:=4) sc_BestMakes_halves.nd rfl lo) pgs_nilC)))),(so_tup (so_cons (so_name 2) (mo_name 2) (so_cons (so_name 3) (mo_name 3) (so_cons (so_name 4) (mo_name 4) so_nil mo_nil) (mo_cons (mo_name 4) mo_nil)) (mo_cons (mo_name 3) (mo_cons (mo_name 4) mo_nil)))),(mo_tup (mo_cons (mo_name 2) (mo_cons (mo_name 3) (mo_cons (mo_name 4) mo_nil))))⟩)
  (b_cons (s_set (i:=5) sc_BestMakes_halves.nd rfl lo (d_ix ixC so_ix (d_ix ixC so_ix (d_ixK (hu_of hr) (d_fld Z_BestMakes.cl Z_BestMakes.n_tables (dv 0)) (dv 2) (fun _ _=>rfl)) (dv 3) (fun _ _=>rfl)) (dv 4) (fun _ _=>rfl)))
  (b_cons (s_set (i:=6) sc_BestMakes_halves.nd rfl lo (d_ixK (hu_of hr) (d_fld Z_BestMakes.cl Z_BestMakes.n_tables (dv 0)) (d_op subC so_i2' (dv 2) d_int) (fun _ _=>rfl)))
  (b_one (s_ret (d_comp false (compOk (XN:=["self", "stretch", "age", "first", "behind", "many", "before"]) (xsc:=(defScope s_BestMakes_halves)) (N:=["middle", "self", "age", "first", "behind", "before", "many"]) (js:=[none,some 0,some 2,some 3,some 4,some 6,some 5]) (by decide +kernel)) rfl (so_name 0) (mo_name 0) rfl (i_range2 rfl T.range (da_cons (d_op addC (so_add (m:=false)) (dv 3) d_int) (da_cons (dv 4) da_nil))) (fun _ _ _=>(pg_name (i:=0) (show List.Nodup (["middle", "self", "age", "first", "behind", "before", "many"]:List Str) by decide +kernel) rfl lo)) (fun _ _ _=>(ts_one (d_testC eqC so_eqS (d_op addC (so_add (m:=false)) (d_op addC (so_add (m:=false)) (d_ix ixC so_ix (d_ix ixC so_ix (dv 5) (dv 3) (fun _ _=>rfl)) (dv 0) (fun _ _=>rfl)) (d_ix ixC so_ix (d_ix ixC so_ix (dv 5) (dv 0) (fun _ _=>rfl)) (dv 4) (fun _ _=>rfl))) d_int) (dv 6) (nomark _)))) (fun _ _ _=>(d_tup (da_cons (d_ix ixC so_ix (d_fld Z_BestMakes.cl Z_BestMakes.n_places (dv 1)) (dv 0) (fun _ _=>rfl)) (da_cons (d_tup (da_cons (d_op subC so_i2' (dv 2) d_int) (da_cons (dv 3) (da_cons (dv 0) da_nil)))) (da_cons (d_tup (da_cons (d_op subC so_i2' (dv 2) d_int) (da_cons (dv 0) (da_cons (dv 4) da_nil)))) da_nil))))))))))),fun ds μ Kd hm hl h=>?_⟩)
 unfold fHalves at h
 split at h
 ·rename_i k s
  obtain⟨es,ts,A,j,a,i,b,B,rfl,h1,kk⟩:=h
  have hib:=B.hib
  have hb:=B.hb
  have ha:=B.ha
  have hl':=B.hl
  obtain⟨a',rfl⟩:∃ a',a=a'+1:=⟨a - 1,by omega⟩
  refine⟨rfl,_,fldE B.at_ bm_tables,opt_of (tabs_at ha) (opt_of (tab_at (by omega)) (opt_of (row_at hb) ?_))⟩
  have ek:dval ((keysD (A+1)).zip (tabsD es ts (A+1))) (.inl (((a'+1:Nat):Int) - 1))=some (.lst (tabR es.length (tabP es ts (a'+1)))):=by
   rw[show((a'+1:Nat):Int) - 1=(a':Int) by omega];exact tabs_at (by omega)
  refine⟨_,fldE B.at_ bm_tables,opt_of ek ?_⟩
  refine⟨⟨by omega,by omega,by omega,by omega⟩,?_⟩
  refine⟨by unfold rngD;rw[gxC,gxJ];exact sz (by omega),?_⟩
  rw[rng_map]
  refine compW_gen trivial _ (fun x=>if decide (tabP es ts (a'+1) i (i+1+x)+tabP es ts (a'+1) (i+1+x) b+1=tabP es ts (a'+1+1) i b)=true then some (halfD es (a'+1) i b (i+1+x))else none) (fun x hx K' k'=>?_) ?_
  ·rw[List.mem_range]at hx
   have hx1:i+1+x<b:=by omega
   rw[show(i:Int)+1+(x:Nat)=((i+1+x:Nat):Int) by omega]
   generalize i+1+x=m at hx1 k' ⊢
   refine opt_of (tab_at (by omega)) (opt_of (row_at (by omega)) (opt_of (tab_at (by omega)) (opt_of (row_at hb) ?_)))
   refine iteDf (fun q=>?_) (fun q=>?_)
   ·rw[if_pos (decide_eq_true q)]at k'
    have ep:(es.map D.int)[m]?=some (.int (es.getD m 0)):=by rw[gxH,getD_some (by omega)];rfl
    refine⟨_,fldE B.at_ bm_places,opt_of (atI_nat ep) ⟨by show 3<=sizeLine;decide,by show 3<=sizeLine;decide,by show 3<=sizeLine;decide,?_⟩⟩
    exact k'
   ·rw[if_neg (by rw[decide_eq_false q];exact Bool.false_ne_true)]at k';exact k'
  ·rw[fm_if]
   rw[mid_filter,List.map_map]at kk
   rw[show((b:Int) - ((i:Int)+1)).toNat=b - (i+1) by omega]
   exact .keep kk
 ·exact h.elim
theorem ok_BestMakes___init__ {f:Addr}{fd:FuncData}(F:Fun K "__init__" "BestMakes.__init__" s_BestMakes___init__ f fd)(T:Bi2 mg)(Z_BestMakes:ZBestMakes K cBestMakes)(C_ends:Cal P w K mg base "ends" 1 ["size", "cuts"] (spD fEnds))(C_take_rows:Cal P w K mg base "take_rows" 3 ["size", "cuts", "takes"] (spD fTakeRows))(C_least_age:Cal P w K mg base "least_age" 4 ["size", "cuts", "takes"] (spD fLeast))(C_few_tables:Cal P w K mg base "few_tables" 4 ["size", "cuts", "takes", "age"] (spD fFewTabs)):FnOk P w K mg base CX0 5 f fd ["self", "size", "cuts", "takes"] (spD (fInit cBestMakes)):=by
 refine F.okD sc_BestMakes___init__ (fun ds μ Kd h=>by unfold fInit at h;split at h <;> first | rfl | exact h.elim) (fun cdv A outer s H E hr=>⟨_,(b_cons (s_fld Z_BestMakes.cl Z_BestMakes.n_places (d_call C_ends hr.le rfl (da_cons (dv 1) (da_cons (dv 2) da_nil))) (dv 0))
  (b_cons (s_fld Z_BestMakes.cl Z_BestMakes.n_rows (d_call C_take_rows hr.le rfl (da_cons (dv 1) (da_cons (dv 2) (da_cons (dv 3) da_nil)))) (dv 0))
  (b_cons (s_set (i:=4) sc_BestMakes___init__.nd rfl lo (d_call C_least_age hr.le rfl (da_cons (dv 1) (da_cons (dv 2) (da_cons (dv 3) da_nil)))))
  (b_cons (s_fld Z_BestMakes.cl Z_BestMakes.n_tables (d_call C_few_tables hr.le rfl (da_cons (dv 1) (da_cons (dv 2) (da_cons (dv 3) (da_cons (dv 4) da_nil))))) (dv 0))
  (b_cons (s_fld Z_BestMakes.cl Z_BestMakes.n_whole (d_tup (da_cons (dv 4) (da_cons d_int (da_cons (d_op subC so_i2' (d_blt lenC so_len (by rfl) T.len PySem.boot_len (da_cons (d_fld Z_BestMakes.cl Z_BestMakes.n_places (dv 0)) da_nil)) d_int) da_nil)))) (dv 0))
  (b_one (s_fld Z_BestMakes.cl Z_BestMakes.n_counts d_dnewT (dv 0)))))))),fun ds μ Kd hm hl h=>?_⟩)
 unfold fInit at h
 split at h
 ·rename_i k n x y
  obtain⟨cs,ts,rfl,rfl,S,hcl,hb,hk,kk⟩:=h
  have few:=S.few
  have hkl:k<μ.length:=(gxB hk).1
  have at_:∀ {m:MO},(μ.set k m)[k]?=some m:=List.getElem?_set_self hkl
  have hel:(endsOf n cs).length=cs.length+2:=endsOf_len n cs
  obtain⟨es,he⟩:∃ es,es=endsOf n cs:=⟨_,rfl⟩
  refine⟨cs,rfl,few,_,(["places"],[.lst (es.map D.int)]),insM_of hk,by rw[<- he];kernel_rfl,by decide,?_⟩
  refine⟨cs,ts,rfl,rfl,S,_,(["places", "rows"],[.lst (es.map D.int),.lst (ts.map (rowTD es))]),insM_of at_,by rw[<- he];kernel_rfl,by show 1<1000;decide,?_⟩
  rw[List.set_set]
  refine⟨cs,ts,rfl,rfl,S,hcl,?_⟩
  unfold leastK
  rw[hb]
  intro a ha la
  refine⟨cs,ts,rfl,rfl,S,by omega,by omega,_,(["places", "rows", "tables"],[.lst (es.map D.int),.lst (ts.map (rowTD es)),.dic (keysD (a+1)) (tabsD es ts (a+1))]),insM_of at_,by rw[<- he];kernel_rfl,by show 2<1000;decide,?_⟩
  rw[List.set_set]
  refine⟨_,fldE at_ (d:=.lst (es.map D.int)) (by kernel_rfl),opt_of rfl ⟨by show 3<=sizeLine;decide,?_⟩⟩
  have el:((es.map D.int).length:Int) - 1=((es.length - 1:Nat):Int):=by rw[gxC,he];omega
  refine⟨_,(["places", "rows", "tables", "whole"],[.lst (es.map D.int),.lst (ts.map (rowTD es)),.dic (keysD (a+1)) (tabsD es ts (a+1)),stD a 0 (es.length - 1)]),insM_of at_,by show putN "whole" (.tup [.int a,.int 0,.int (((es.map D.int).length:Int) - 1)]) _ _=_;rw[el];kernel_rfl,by show 3<1000;decide,?_⟩
  rw[List.set_set]
  have at2:∀ {m m':MO},(μ.set k m++[m'])[k]?=some m:=fun {m m'}=>by rw[gxF (by rw[List.length_set];exact hkl)];exact at_
  refine⟨_,(bmN,bmV es ts a μ.length),insM_of at2,by rw[List.length_set];kernel_rfl,by show 4<1000;decide,.keep ?_⟩
  have kk:=kk a ha (he▸la)
  rw[List.set_append_left _ _ (by rw[List.length_set];exact hkl),List.set_set,he]
  exact kk
 ·exact h.elim
theorem ok_BestMakes_count_anew {f:Addr}{fd:FuncData}(F:Fun K "count_anew" "BestMakes.count_anew" s_BestMakes_count_anew f fd)(T:Bi2 mg)(Z_BestMakes:ZBestMakes K cBestMakes){l n:Nat}(hl:1<=l)(C_BestMakes_is_take:CalM P w K mg base cBestMakes "is_take" 1 ["self", "stretch"] (spD (fIsTake cBestMakes)))(C_BestMakes_clean_takes:CalM P w K mg base cBestMakes "clean_takes" 1 ["self", "stretch"] (spD (fCleanT cBestMakes)))(C_BestMakes_halves:CalM P w K mg base cBestMakes "halves" 1 ["self", "stretch"] (spD (fHalves cBestMakes)))(C_BestMakes_counted:CalM P w K mg base cBestMakes "counted" l ["self", "stretch"] (spD (fCnt cBestMakes n))):FnOk P w K mg base CX0 (l+1) f fd ["self", "stretch"] (spD (fCnt cBestMakes (n+1))):=by
 refine F.okD sc_BestMakes_count_anew (fun ds μ Kd h=>by unfold fCnt at h;split at h <;> first | rfl | exact h.elim) (fun cdv A outer s H E hr=>⟨_,(b_cons (s_if (d_testV (d_meth C_BestMakes_is_take Z_BestMakes.cl hr.le (dv 0) (da_cons (dv 1) da_nil)))
  (b_one (s_ret (d_blt lenC so_len (by rfl) T.len PySem.boot_len (da_cons (d_meth C_BestMakes_clean_takes Z_BestMakes.cl hr.le (dv 0) (da_cons (dv 1) da_nil)) da_nil))))
  b_nil)
  (b_cons (s_set (i:=2) sc_BestMakes_count_anew.nd rfl lo d_int)
  (b_cons (s_for PassesOwn.never rfl (i_list (d_meth C_BestMakes_halves Z_BestMakes.cl hr.le (dv 0) (da_cons (dv 1) da_nil))) ⟨(pg_tupC (n:=3) rfl (pgs_consC (pg_name (i:=3) sc_BestMakes_count_anew.nd rfl lo) (pgs_consC (pg_name (i:=4) sc_BestMakes_count_anew.nd rfl lo) (pgs_consC (pg_name (i:=5) sc_BestMakes_count_anew.nd rfl lo) pgs_nilC)))),(so_tup (so_cons (so_name 3) (mo_name 3) (so_cons (so_name 4) (mo_name 4) (so_cons (so_name 5) (mo_name 5) so_nil mo_nil) (mo_cons (mo_name 5) mo_nil)) (mo_cons (mo_name 4) (mo_cons (mo_name 5) mo_nil)))),(mo_tup (mo_cons (mo_name 3) (mo_cons (mo_name 4) (mo_cons (mo_name 5) mo_nil))))⟩
  (b_one (s_aug (i:=2) sc_BestMakes_count_anew.nd rfl lo (d_op mulB so_mulB (d_meth C_BestMakes_counted Z_BestMakes.cl hr.le (dv 0) (da_cons (dv 4) da_nil)) (d_meth C_BestMakes_counted Z_BestMakes.cl hr.le (dv 0) (da_cons (dv 5) da_nil))) ip_addC so_ipI)))
  (b_one (s_ret (dv 2)))))),fun ds μ Kd hm hl h=>?_⟩)
 unfold fCnt at h
 split at h
 ·rename_i k s
  obtain⟨es,ts,A,j,a,i,b,ks,dd,B,rfl,han,h1,hkj,hj,mm,kk⟩:=h
  have hib:=B.hib
  have hb:=B.hb
  have ha:=B.ha
  have hl':=B.hl
  have ht':=B.ht
  have hA:=B.hA
  have hok:=B.ok
  refine⟨metE B.at_ (bm_m (by simp)),es,ts,A,j,a,i,b,B,rfl,?_⟩
  refine iteD (c:=tabP es ts (a+1) i b=0) (fun q=>?_) (fun q=>?_)
  ·refine⟨metE B.at_ (bm_m (by simp)),es,ts,A,j,a,i,b,B,rfl,opt_of rfl (.keep ?_)⟩
   have kk:=kk ks dd mm
   rw[set_self hj]at kk
   unfold ctP at kk
   rw[if_pos q]at kk
   rw[gxC]
   exact kk
  ·have ha1:a≠0:=fun z=>by subst z;exact q (h1.z i b (by omega) hb hok)
   obtain⟨a',rfl⟩:∃ a',a=a'+1:=⟨a - 1,by omega⟩
   refine⟨metE B.at_ (bm_m (by simp)),es,ts,A,j,a'+1,i,b,B,rfl,by omega,?_⟩
   rw[half_eq]
   obtain⟨M,hM⟩:∃ M,M=midP (tabP es ts (a'+1+1)) (tabP es ts (a'+1)) i b:=⟨_,rfl⟩
   rw[<- hM]
   obtain⟨g,hg⟩:∃ g:Nat->Int,g=fun x=>ctP es ts (a'+1) i x*ctP es ts (a'+1) x b:=⟨_,rfl⟩
   have hxm:∀ x∈M,i<x/\x<b/\tabP es ts (a'+1) i x+tabP es ts (a'+1) x b+1=tabP es ts (a'+1+1) i b:=fun x hx=>mid_mem.mp (hM▸hx)
   refine opt_of rfl ?_
   refine forW_inv (fun ds ρ μ'=>∃(z:Nat) (ks':List (List Key)) (dd':List D) (u v w:Option D),ds=(M.drop z).map (fun k=>D.tup [.int (es.getD k 0),stD a' i k,stD a' k b])/\Memo es ts A ks' dd'/\ρ=[some (.mr k),some (stD ((a'+1:Nat):Int) i b),some (.int ((M.take z).map g).sum),u,v,w]/\μ'=μ.set j (.dtu ks' dd')) ⟨0,ks,dd,none,none,none,rfl,mm,rfl,(set_self hj).symm⟩ ?_ ?_
   ·rintro d ds' ρ μ' ⟨z,ks',dd',u,v,w,e,mm',rfl,rfl⟩
    refine⟨trivial,fun nx hnx=>?_⟩
    have hz:z<M.length:=by
     by_cases y:z<M.length
     ·exact y
     ·rw[List.drop_of_length_le (by omega)]at e;cases e
    rw[List.drop_eq_getElem_cons hz,List.map_cons,List.cons.injEq]at e
    obtain⟨rfl,rfl⟩:=e
    obtain⟨x1,x2,x3⟩:=hxm _ (List.getElem_mem hz)
    have es1:=sum_snoc (f:=g) hz
    generalize M[z]=x at x1 x2 x3 es1 ⊢
    have n1:=h1.nn (a'+1) i x (by omega) (by omega)
    have n2:=h1.nn (a'+1) x b (by omega) hb
    have hj':j<μ.length:=(gxB hj).1
    have B':=B.put (m:=.dtu ks' dd') hkj
    have Bl:Bm cBestMakes (μ.set j (.dtu ks' dd')) k es ts A j a' i x:=⟨B'.at_,by omega,x1,by omega,hl',ht',hA,by omega⟩
    refine⟨rfl,metE B'.at_ (bm_m (by simp)),es,ts,A,j,a',i,x,ks',dd',Bl,rfl,by omega,h1,hkj,List.getElem?_set_self hj',mm',fun ks2 dd2 mm2=>?_⟩
    rw[List.set_set]
    have B2:=B.put (m:=.dtu ks2 dd2) hkj
    have Br:Bm cBestMakes (μ.set j (.dtu ks2 dd2)) k es ts A j a' x b:=⟨B2.at_,by omega,x2,hb,hl',ht',hA,by omega⟩
    refine⟨metE B2.at_ (bm_m (by simp)),es,ts,A,j,a',x,b,ks2,dd2,Br,rfl,by omega,h1,hkj,List.getElem?_set_self hj',mm2,fun ks3 dd3 mm3=>?_⟩
    rw[List.set_set]
    refine⟨ct_mul hl' ht' (a'+1) i x b x1 x2 hb,?_⟩
    refine hnx _ _ ⟨z+1,ks3,dd3,some (.int (es.getD x 0)),some (stD a' i x),some (stD a' x b),rfl,mm3,?_,rfl⟩
    rw[es1,hg]
    rfl
   ·rintro ρ μ' ⟨z,ks',dd',u,v,w,e,mm',rfl,rfl⟩
    refine⟨trivial,?_⟩
    have hz:M.length<=z:=by
     have:=congrArg List.length e
     rw[gxC,List.length_drop]at this
     simp at this
     omega
    rw[List.take_of_length_le hz]
    have kk:=kk ks' dd' mm'
    unfold ctP at kk
    rw[if_neg q,<- hM]at kk
    rw[hg]
    exact .keep kk
 ·exact h.elim
theorem ok_BestMakes_counted {f:Addr}{fd:FuncData}(F:Fun K "counted" "BestMakes.counted" s_BestMakes_counted f fd)(T:Bi2 mg)(Z_BestMakes:ZBestMakes K cBestMakes){l n:Nat}(C_BestMakes_count_anew:CalM P w K mg base cBestMakes "count_anew" l ["self", "stretch"] (spD (fCnt cBestMakes n))):FnOk P w K mg base CX0 (l+1) f fd ["self", "stretch"] (spD (fCnt cBestMakes n)):=by
 refine F.okD sc_BestMakes_counted (fun ds μ Kd h=>by unfold fCnt at h;split at h <;> first | rfl | exact h.elim) (fun cdv A outer s H E hr=>⟨_,(b_cut (s_if (t_notinT (hu_of hr) (dv 1) (d_fld Z_BestMakes.cl Z_BestMakes.n_counts (dv 0)) (by with_unfolding_all rfl))
  (b_one (s_asgT (hu_of hr) (d_meth C_BestMakes_count_anew Z_BestMakes.cl hr.le (dv 0) (da_cons (dv 1) da_nil)) (d_fld Z_BestMakes.cl Z_BestMakes.n_counts (dv 0)) (dv 1)))
  b_nil)
  (b_one (s_ret (d_ixT (hu_of hr) (d_fld Z_BestMakes.cl Z_BestMakes.n_counts (dv 0)) (dv 1) (fun _ _=>rfl))))),fun ds μ Kd hm hl h=>?_⟩)
 unfold fCnt at h
 split at h
 ·rename_i k s
  obtain⟨es,ts,A,j,a,i,b,ks,dd,B,rfl,han,h1,hkj,hj,mm,kk⟩:=h
  have ha:=B.ha
  have hib:=B.hib
  have hb:=B.hb
  have hl':=B.hl
  have hA:=B.hA
  have hj':j<μ.length:=(gxB hj).1
  have bd:∀ {ks':List (List Key)} {dd':List D},Memo es ts A ks' dd'->ks'.length<sizeLine:=fun m=>by
   have h2:=m.bd
   have h3:(A+1)*es.length*es.length<=101*100*100:=Nat.mul_le_mul (Nat.mul_le_mul (by omega) hl') hl'
   exact Nat.lt_of_le_of_lt (Nat.le_trans h2 h3) (by decide)
  have fin:∀ {ks':List (List Key)} {dd':List D},Memo es ts A ks' dd'->stK a i b∈ks'->dRet (dOp dIxT (dFld cBestMakes "counts" (dVar 0)) (dVar 1)) (retN μ.length Kd) [some (.mr k),some (stD a i b)] (μ.set j (.dtu ks' dd')):=fun {ks' dd'} m hin=>by
   have B':=B.put (m:=.dtu ks' dd') hkj
   rcases m.get a i b with⟨z,_⟩ | ⟨_,z⟩
   ·exact absurd hin z
   ·refine⟨_,fldE B'.at_ bm_counts,_,?_,.keep (kk ks' dd' m)⟩
    unfold ixT dtuM
    rw[List.getElem?_set_self hj']
    exact congrArg some z
  refine⟨fun ρ' μ'=>∃ ks' dd',Memo es ts A ks' dd'/\stK a i b∈ks'/\ρ'=[some (.mr k),some (stD a i b)]/\μ'=μ.set j (.dtu ks' dd'),?_,?_⟩
  ·have ei:ixT μ j (stD a i b)=some (tval ks dd (stK a i b)):=by
    unfold ixT dtuM
    rw[hj];rfl
   refine⟨_,fldE B.at_ bm_counts,_,ei,?_⟩
   rcases mm.get a i b with⟨z1,z2⟩ | ⟨z1,z2⟩
   ·rw[z2]
    refine iteT ?_
    refine⟨metE B.at_ (bm_m (by simp)),es,ts,A,j,a,i,b,ks,dd,B,rfl,han,h1,hkj,hj,mm,fun ks2 dd2 mm2=>?_⟩
    have B2:=B.put (m:=.dtu ks2 dd2) hkj
    refine⟨_,fldE B2.at_ bm_counts,ks2,dd2,stK a i b,List.getElem?_set_self hj',bd mm2,rfl,?_⟩
    rw[List.set_set]
    obtain⟨m1,m2⟩:=mm2.put (i:=i) ha (by omega) hb
    exact⟨_,_,m1,m2,rfl,rfl⟩
   ·rw[z2]
    refine iteF ?_
    exact⟨ks,dd,mm,z1,rfl,(set_self hj).symm⟩
  ·rintro ρ' μ' ⟨ks',dd',m,hin,rfl,rfl⟩
   exact fin m hin
 ·exact h.elim
theorem ok_counts {f1 f2:Addr}{fd1 fd2:FuncData}(F1:Fun K "counted" "BestMakes.counted" s_BestMakes_counted f1 fd1)(F2:Fun K "count_anew" "BestMakes.count_anew" s_BestMakes_count_anew f2 fd2)(T:Bi2 mg)(Z_BestMakes:ZBestMakes K cBestMakes)(m1:Meth K cBestMakes "counted" f1)(m2:Meth K cBestMakes "count_anew" f2)(b1:Binds K fd1 ["self", "stretch"] [])(b2:Binds K fd2 ["self", "stretch"] [])(C_BestMakes_is_take:CalM P w K mg base cBestMakes "is_take" 1 ["self", "stretch"] (spD (fIsTake cBestMakes)))(C_BestMakes_clean_takes:CalM P w K mg base cBestMakes "clean_takes" 1 ["self", "stretch"] (spD (fCleanT cBestMakes)))(C_BestMakes_halves:CalM P w K mg base cBestMakes "halves" 1 ["self", "stretch"] (spD (fHalves cBestMakes))):∀ n,FnOk P w K mg base CX0 (2*n+2) f1 fd1 ["self", "stretch"] (spD (fCnt cBestMakes n))
 | 0=>ok_BestMakes_counted F1 T Z_BestMakes (l:=1) ⟨f2,fd2,.never fCnt_zero,m2,b2⟩
 | n+1=>ok_BestMakes_counted F1 T Z_BestMakes (l:=2*n+3) ⟨f2,fd2,ok_BestMakes_count_anew F2 T Z_BestMakes (by omega) C_BestMakes_is_take C_BestMakes_clean_takes C_BestMakes_halves ⟨f1,fd1,ok_counts F1 F2 T Z_BestMakes m1 m2 b1 b2 C_BestMakes_is_take C_BestMakes_clean_takes C_BestMakes_halves n,m1,b1⟩,m2,b2⟩
theorem inv_count_best {ds:List D}{μ:MS}{Kd:DK}(h:fCountBest ds μ Kd):∃ v0 v1 v2,ds=[.int v0,.lst v1,.lst v2]:=by
 unfold fCountBest at h
 rcases ds with _ | ⟨z0,ds⟩
 ·exact False.elim h
 cases z0 <;> first | exact False.elim h | skip
 rcases ds with _ | ⟨z1,ds⟩
 ·exact False.elim h
 cases z1 <;> first | exact False.elim h | skip
 rcases ds with _ | ⟨z2,ds⟩
 ·exact False.elim h
 cases z2 <;> first | exact False.elim h | skip
 rcases ds with _ | ⟨zz,zs⟩
 ·exact⟨_,_,_,rfl⟩
 ·exact False.elim h
theorem ok_count_best {f:Addr}{fd:FuncData}(F:Fun K "count_best" "count_best" s_count_best f fd)(T:Bi2 mg)(Z_BestMakes:ZBestMakes K cBestMakes)(C_bar_of:Cal P w K mg base "bar_of" 3 ["size", "cuts", "takes"] (spD fBarOf))(C_BestMakes___init__:CalI P w K mg base "BestMakes" cBestMakes 5 ["self", "size", "cuts", "takes"] (spD (fInit cBestMakes)))(C_BestMakes_counted:CalM P w K mg base cBestMakes "counted" 144 ["self", "stretch"] (spD (fCnt cBestMakes 71))):FnOk P w K mg base CX0 145 f fd ["size", "cuts", "takes"] (spD fCountBest):=by
 refine F.okD sc_count_best (fun ds μ Kd h=>by obtain⟨_,_,_,rfl⟩:=inv_count_best h;rfl) (fun cdv A outer s H E hr=>⟨_,(b_cons (s_if (t_notN (d_call C_bar_of hr.le rfl (da_cons (dv 0) (da_cons (dv 1) (da_cons (dv 2) da_nil)))))
  (b_one (s_ret d_int))
  b_nil)
  (b_cons (s_set (i:=3) sc_count_best.nd rfl lo (d_make C_BestMakes___init__ hr.le rfl (da_cons (dv 0) (da_cons (dv 1) (da_cons (dv 2) da_nil)))))
  (b_one (s_ret (d_meth C_BestMakes_counted Z_BestMakes.cl hr.le (dv 3) (da_cons (d_fld Z_BestMakes.cl Z_BestMakes.n_whole (dv 3)) da_nil)))))),fun ds μ Kd hm hl h=>?_⟩)
 obtain⟨n,x,y,rfl⟩:=inv_count_best h
 unfold fCountBest at h
 ·skip
  obtain⟨cs,ts,rfl,rfl,S,hcl,kk⟩:=h
  have few:=S.few
  have hel:(endsOf n cs).length=cs.length+2:=endsOf_len n cs
  have ft:=S.takes.few
  refine⟨cs,ts,rfl,rfl,few,S.takes,S.n2,?_⟩
  unfold cntK at kk
  cases hb:barOf (endsOf n cs) ts with
  | some p =>
   rw[hb]at kk
   exact .keep kk
  | none =>
   rw[hb]at kk
   dsimp only at kk
   refine⟨cs,ts,rfl,rfl,S,hcl,hb,by rw[gxG (Nat.le_refl _),Nat.sub_self];rfl,fun a ha la=>⟨rfl,?_⟩⟩
   have kk:=kk a ha la
   obtain⟨es,he⟩:∃ es,es=endsOf n cs:=⟨_,rfl⟩
   have tl:=tab_least S la
   have sd:=(sideT S (a+1) 0 (cs.length+1) (by omega) (by omega)).2 (by omega)
   have tb:=tb_ok S
   rw[<- he]at tl sd tb kk hel ⊢
   obtain⟨g,hg⟩:∃ g,g=(μ++[MO.ins cBestMakes [] []]).set μ.length (.ins cBestMakes bmN (bmV es ts a (μ++[MO.ins cBestMakes [] []]).length))++[.dtu [] []]:=⟨_,rfl⟩
   rw[<- hg]
   have eg:g=μ++[.ins cBestMakes bmN (bmV es ts a (μ.length+1)),.dtu [] []]:=by
    rw[hg,List.set_append_right _ _ (Nat.le_refl _),Nat.sub_self,List.append_assoc,gxE];rfl
   have e0:g[μ.length]?=some (.ins cBestMakes bmN (bmV es ts a (μ.length+1))):=by rw[eg,gxG (Nat.le_refl _),Nat.sub_self];rfl
   have e1:g[μ.length+1]?=some (.dtu [] []):=by rw[eg,gxG (by omega),show μ.length+1 - μ.length=1 by omega];rfl
   have B:Bm cBestMakes g μ.length es ts a (μ.length+1) a 0 (es.length - 1):=⟨e0,Nat.le_refl _,by omega,by omega,by omega,by omega,by omega,by rw[show es.length - 1=cs.length+1 by omega];omega⟩
   refine⟨metE e0 (bm_m (by simp)),_,fldE e0 bm_whole,es,ts,a,μ.length+1,a,0,es.length - 1,[],[],B,rfl,by omega,tb,by omega,e1,.nil,fun ks' dd' m=>?_⟩
   refine .drop True.intro ?_ ?_
   ·intro j m' hj e
    rw[List.getElem?_set_ne (by omega),eg,gxF hj]at e
    exact hm j m' e
   ·rw[List.take_set_of_le (by omega),eg,List.take_left]
    exact kk
theorem inv_ways_next {ds:List D}{μ:MS}{Kd:DK}(h:fWaysNext ds μ Kd):∃ v0 v1 v2 v3 v4,ds=[.lst v0,v1,.int v2,.mr v3,.lst v4]:=by
 unfold fWaysNext at h
 rcases ds with _ | ⟨z0,ds⟩
 ·exact False.elim h
 cases z0 <;> first | exact False.elim h | skip
 rcases ds with _ | ⟨z1,ds⟩
 ·exact False.elim h
 rcases ds with _ | ⟨z2,ds⟩
 ·exact False.elim h
 cases z2 <;> first | exact False.elim h | skip
 rcases ds with _ | ⟨z3,ds⟩
 ·exact False.elim h
 cases z3 <;> first | exact False.elim h | skip
 rcases ds with _ | ⟨z4,ds⟩
 ·exact False.elim h
 cases z4 <;> first | exact False.elim h | skip
 rcases ds with _ | ⟨zz,zs⟩
 ·exact⟨_,_,_,_,_,rfl⟩
 ·exact False.elim h
theorem ok_ways_next {f:Addr}{fd:FuncData}(F:Fun K "_law_ways_next" "_law_ways_next" s_ways_next f fd)(T:Bi2 mg)(C_far:Cal P w K mg base "_law_far" 1 ["_law_border", "_law_text", "_law_end"] (spD fFar)):FnOk P w K mg base CX0 3 f fd ["_law_border", "_law_takes", "_law_age", "_law_fews", "_law_last"] (spD fWaysNext):=by
 refine F.okD sc_ways_next (fun ds μ Kd h=>by obtain⟨_,_,_,_,_,rfl⟩:=inv_ways_next h;rfl) (fun cdv A outer s H E hr=>⟨_,(b_cons (s_setComp (i:=5) false (compOk (XN:=["_law_border", "_law_takes", "_law_age", "_law_fews", "_law_last", "_law_table", "_law_i", "_law_fars", "_law_j", "_law_k", "_law_one", "_law_other"]) (xsc:=(defScope s_ways_next)) (N:=["_law_end", "_law_border"]) (js:=[none,some 0]) (by decide +kernel)) rfl (so_name 0) (mo_name 0) rfl sc_ways_next.nd rfl lo (i_list (dv 0)) (fun _ _ _=>(pg_name (i:=0) (show List.Nodup (["_law_end", "_law_border"]:List Str) by decide +kernel) rfl lo)) (fun _ _ _=>ts_nil) (fun _ _ _=>(d_comp true (compOkN (xsc:=(defScope s_ways_next)) (N:=["_law_end"]) (js:=[none]) rfl (by decide +kernel)) rfl (so_name 0) (mo_name 0) rfl (i_list (dv 1)) (fun _ _ _=>(pg_name (i:=0) (show List.Nodup (["_law_end"]:List Str) by decide +kernel) rfl lo)) (fun _ _ _=>ts_nil) (fun _ _ _=>d_int))))
  (b_cons (s_for PassesOwn.never rfl (i_range1 rfl T.range (da_cons (d_blt lenC so_len (by rfl) T.len PySem.boot_len (da_cons (dv 0) da_nil)) da_nil)) ⟨(pg_name (i:=6) sc_ways_next.nd rfl lo),(so_name 6),(mo_name 6)⟩
  (b_cons (s_setComp (i:=7) false (compOk (XN:=["_law_border", "_law_takes", "_law_age", "_law_fews", "_law_last", "_law_table", "_law_i", "_law_fars", "_law_j", "_law_k", "_law_one", "_law_other"]) (xsc:=(defScope s_ways_next)) (N:=["_law_text", "_law_old", "_law_border", "_law_i", "_law_age"]) (js:=[none,none,some 0,some 6,some 2]) (by decide +kernel)) rfl (so_tup (so_cons (so_name 0) (mo_name 0) (so_cons (so_name 1) (mo_name 1) so_nil mo_nil) (mo_cons (mo_name 1) mo_nil))) (mo_tup (mo_cons (mo_name 0) (mo_cons (mo_name 1) mo_nil))) rfl sc_ways_next.nd rfl lo (i_list (dv 1)) (fun _ _ _=>(pg_tupC (n:=2) rfl (pgs_consC (pg_name (i:=0) (show List.Nodup (["_law_text", "_law_old", "_law_border", "_law_i", "_law_age"]:List Str) by decide +kernel) rfl lo) (pgs_consC (pg_name (i:=1) (show List.Nodup (["_law_text", "_law_old", "_law_border", "_law_i", "_law_age"]:List Str) by decide +kernel) rfl lo) pgs_nilC)))) (fun _ _ _=>(ts_one (d_testC leC so_b2' (dv 1) (dv 4) (nomark _)))) (fun _ _ _=>(d_call C_far hr.le rfl (da_cons (dv 2) (da_cons (dv 0) (da_cons (d_ix ixC so_ix (dv 2) (dv 3) (fun _ _=>rfl)) da_nil))))))
  (b_one (s_for PassesOwn.never rfl (i_range2 rfl T.range (da_cons (d_op addC (so_add (m:=false)) (dv 6) d_int) (da_cons (d_blt lenC so_len (by rfl) T.len PySem.boot_len (da_cons (dv 0) da_nil)) da_nil))) ⟨(pg_name (i:=8) sc_ways_next.nd rfl lo),(so_name 8),(mo_name 8)⟩
  (b_cut (s_if (d_testC eqC so_eqS (d_ix ixC so_ix (d_ix ixC so_ix (d_ix ixC so_ix (dv 3) (dv 2) (fun _ _=>rfl)) (dv 6) (fun _ _=>rfl)) (dv 8) (fun _ _=>rfl)) d_int (nomark _))
  (b_one (s_asgS (d_blt lenC so_len (by rfl) T.len PySem.boot_len (da_cons (d_comp false (compOk (XN:=["_law_border", "_law_takes", "_law_age", "_law_fews", "_law_last", "_law_table", "_law_i", "_law_fars", "_law_j", "_law_k", "_law_one", "_law_other"]) (xsc:=(defScope s_ways_next)) (N:=["_law_far_here", "_law_border", "_law_j"]) (js:=[none,some 0,some 8]) (by decide +kernel)) rfl (so_name 0) (mo_name 0) rfl (i_list (dv 7)) (fun _ _ _=>(pg_name (i:=0) (show List.Nodup (["_law_far_here", "_law_border", "_law_j"]:List Str) by decide +kernel) rfl lo)) (fun _ _ _=>(ts_one (d_testC geC so_b2' (dv 0) (d_ix ixC so_ix (dv 1) (dv 2) (fun _ _=>rfl)) (nomark _)))) (fun _ _ _=>(dv 0))) da_nil)) (d_ix ixC so_ix (dv 5) (dv 6) (fun _ _=>rfl)) (dv 8)))
  b_nil)
  (b_one (s_for PassesOwn.never rfl (i_range2 rfl T.range (da_cons (d_op addC (so_add (m:=false)) (dv 6) d_int) (da_cons (dv 8) da_nil))) ⟨(pg_name (i:=9) sc_ways_next.nd rfl lo),(so_name 9),(mo_name 9)⟩
  (b_one (s_if (d_testC gtC so_b2' (d_ix ixC so_ix (d_ix ixC so_ix (d_ix ixC so_ix (dv 3) (dv 2) (fun _ _=>rfl)) (dv 6) (fun _ _=>rfl)) (dv 8) (fun _ _=>rfl)) d_int (nomark _))
  (b_cons (s_set (i:=10) sc_ways_next.nd rfl lo (d_ix ixC so_ix (d_ix ixC so_ix (d_ix ixC so_ix (dv 3) (d_op subC so_i2' (dv 2) d_int) (fun _ _=>rfl)) (dv 6) (fun _ _=>rfl)) (dv 9) (fun _ _=>rfl)))
  (b_cons (s_set (i:=11) sc_ways_next.nd rfl lo (d_ix ixC so_ix (d_ix ixC so_ix (d_ix ixC so_ix (dv 3) (d_op subC so_i2' (dv 2) d_int) (fun _ _=>rfl)) (dv 9) (fun _ _=>rfl)) (dv 8) (fun _ _=>rfl)))
  (b_one (s_if (PW.pt (t_and (d_testC gtC so_b2' (d_op mulC so_mul (dv 10) (dv 11)) d_int (nomark _)) (t_and1 (d_testC eqC so_eqS (d_op addC (so_add (m:=false)) (dv 10) (dv 11)) (d_ix ixC so_ix (d_ix ixC so_ix (d_ix ixC so_ix (dv 3) (dv 2) (fun _ _=>rfl)) (dv 6) (fun _ _=>rfl)) (dv 8) (fun _ _=>rfl)) (nomark _)))))
  (b_one (s_augS (d_ix ixC so_ix (dv 5) (dv 6) (fun _ _=>rfl)) (dv 8) (d_op mulB so_mulB (d_ix ixC so_ix (d_ix ixC so_ix (dv 4) (dv 6) (fun _ _=>rfl)) (dv 9) (fun _ _=>rfl)) (d_ix ixC so_ix (d_ix ixC so_ix (dv 4) (dv 9) (fun _ _=>rfl)) (dv 8) (fun _ _=>rfl))) ip_addC so_ipI))
  b_nil))))
  b_nil)))))))))
  (b_one (s_ret (dv 5))))),fun ds μ Kd hm hl h=>?_⟩)
 obtain⟨b,y,a,f,l,rfl⟩:=inv_ways_next h
 unfold fWaysNext at h
 ·skip
  obtain⟨n,cs,ts,rfl,rfl,Sh,hcl,ha0,ha1,hf,hlast,kk⟩:=h
  have hel0:(endsOf n cs).length=cs.length+2:=endsOf_len n cs
  have hin:∀ x∈endsOf n cs,0<=x/\x<=n:=fun x hx=>ends_in Sh.n1 Sh.cuts hx
  have wm:=@way_mul n cs ts Sh hcl
  have ft:=Sh.takes.few
  have n2:=Sh.n2
  have tbd:∀ a i j,0<=tabL (endsOf n cs) ts a i j/\tabL (endsOf n cs) ts a i j<=((j - i:Nat):Int):=fun a=>tab_bd _ _ a
  obtain⟨es,hes⟩:∃ es,es=endsOf n cs:=⟨_,rfl⟩
  rw[<- hes]at hel0 hin wm tbd hf hlast kk ⊢
  obtain⟨A,rfl⟩:∃ A:Nat,a=(A:Int):=⟨a.toNat,by omega⟩
  rw[gxK]at hf hlast kk
  obtain⟨L,hL⟩:∃ L,L=es.length:=⟨_,rfl⟩
  rw[<- hL]at hel0 hlast kk
  have hel:L<=2000:=by omega
  obtain⟨S,hS⟩:∃ S,S=wayL es ts (A+1):=⟨_,rfl⟩
  rw[<- hS]at kk
  have S0:∀ a b,b<=a->S a b=0:=fun a b hab=>by rw[hS];show wayN _ _ _ _ _ _ a b=0;unfold wayN;rw[if_pos hab]
  refine⟨sz (by rw[gxC];omega),?_⟩
  refine compW_inv (fun ds ys μ'=>∃ k:Nat,k<=L/\ds=(es.drop k).map D.int/\ys=(List.range k).map (fun i=>D.mr (μ.length+i))/\∃ g:MS,μ'=μ++g/\g.length=k/\∀ a,a<k->g[a]?=some (.lst (rowI L fun _=>0))) (ys:=[]) ⟨0,by omega,rfl,rfl,[],by simp,rfl,fun a ha=>by omega⟩ ?_ (fun ys μ' _=>trivial) ?_
  ·rintro d ds' ys μ' ⟨k,hk,e,rfl,g,rfl,hg,hga⟩
   refine⟨trivial,fun K' hK'=>?_⟩
   have hk2:k<es.length:=by
    by_cases q:k<es.length
    ·exact q
    ·rw[List.drop_of_length_le (by omega)]at e;cases e
   rw[List.drop_eq_getElem_cons hk2]at e
   cases e
   refine⟨sz (by rw[gxC];omega),?_⟩
   refine compW_all trivial D.int (fun _:Int=>D.int 0) (fun x hx K'' k''=>k'') ?_
   refine hK' _ _ ⟨k+1,by omega,rfl,?_,g++[.lst (rowI L fun _=>0)],?_,by rw[gxE,hg];rfl,fun a ha=>?_⟩
   ·rw[List.range_succ,List.map_append]
    show _++[D.mr (μ++g).length]=_
    rw[gxE,hg];rfl
   ·rw[zero_row,<- hL,List.append_assoc]
   ·rcases Nat.lt_or_ge a k with z | z
    ·rw[gxF (by omega)];exact hga a z
    ·have:a=k:=by omega
     subst this
     rw[gxG (by omega),hg,Nat.sub_self];rfl
  rintro zs μ' ⟨k,hk,e,rfl,g,rfl,hg,hga⟩
  have hkL:k=L:=by
   have:=congrArg List.length e
   rw[gxC,List.length_drop]at this
   simp at this
   omega
  subst hkL
  have R0:RowsM k (partT S 0 0) g:=part_start hg hga
  refine⟨by rw[gxC];omega,by rw[gxC];omega,?_⟩
  rw[gxC,gxK,<- hL]
  have esj:∀ j,j<k->atI (es.map D.int) (j:Int)=some (.int (es.getD j 0)):=fun j hj=>by
   have:es[j]?=some (es.getD j 0):=by rw[List.getD_eq_getElem?_getD,gxA (by omega)];rfl
   exact atI_maps this
  have esm:∀ j,j<k->es.getD j 0∈es:=fun j hj=>by
   have:es[j]?=some (es.getD j 0):=by rw[List.getD_eq_getElem?_getD,gxA (by omega)];rfl
   exact gxD this
  have fA:∀ x:Nat,x<A+1->atI (fewsD es ts (A+1)) (x:Int)=some (.lst (tabR es.length (tabL es ts (x+1)))):=fun x hx=>by
   refine atI_nat ?_
   unfold fewsD
   rw[gxH,List.getElem?_range hx];rfl
  have tk:∀(x i:Nat),i<k->atI (tabR es.length (tabL es ts x)) (i:Int)=some (.lst (rowI es.length (tabL es ts x i))):=fun x i hi=>atI_nat (tabR_get (by omega))
  have rk:∀(x i j:Nat),j<k->atI (rowI es.length (tabL es ts x i)) (j:Int)=some (.int (tabL es ts x i j)):=fun x i j hj=>atI_nat (rowI_get (by omega))
  refine forW_inv (fun ds ρ μ'=>∃(i c:Nat) (g:MS) (u v w x y z:Option D),ds=rngD (i:Int) c/\i+c=k/\μ'=μ++g/\RowsM k (partT S i 0) g/\ρ=wEnv es ts A f l k μ.length [u,v,w,x,y,z]) ⟨0,k,g,none,none,none,none,none,none,rfl,by omega,rfl,R0,rfl⟩ ?_ ?_
  ·clear R0 hg hga hk e
   clear g
   rintro d ds' ρ μ' ⟨i,c,g,u,v,w,x,y,z,e,hic,rfl,RM,rfl⟩
   refine⟨trivial,fun nx hnx=>?_⟩
   cases c with
   | zero=>cases e
   | succ c =>
    rw[rngD_cons]at e
    cases e
    have hi:i<k:=by omega
    refine⟨by rw[gxC];exact sz (by omega),?_⟩
    refine compW_map trivial (keepT (fun t=>decide (t.2<=A)) fun t=>.int (farF es t.1 (es.getD i 0))) (fun d hd K' k'=>?_) ?_
    ·obtain⟨t,ht,rfl⟩:=List.mem_map.mp hd
     have hz:=Sh.takes.ok t ht
     have h2:=hin _ (esm i hi)
     refine⟨rfl,iteD (fun q=>?_) (fun q=>keepT_n (by simp[q]) k')⟩
     exact opt_of (esj i hi) ⟨es,rfl,by omega,by rw[txt_len];omega,by rw[txt_list];exact hz.2.1,h2.1,by rw[txt_len];omega,esm i hi,by rw[txt_list];exact keepT_y (by simp[q]) k'⟩
    rw[fm_keepT]
    obtain⟨fs,hfs⟩:∃ fs,fs=(ts.filter fun t=>decide (t.2<=(A:Int))).map fun t=>farF es t.1 (es.getD i 0):=⟨_,rfl⟩
    have efs:((ts.filter fun t=>decide (t.2<=(A:Int))).map fun t=>D.int (farF es t.1 (es.getD i 0)))=fs.map D.int:=by rw[hfs,List.map_map];rfl
    have fl:fs.length<=ts.length:=by rw[hfs,gxC];exact List.length_filter_le _ _
    rw[efs]
    refine⟨⟨by omega,by omega,by rw[gxC];omega,by rw[gxC];omega⟩,?_⟩
    rw[gxC,<- hL]
    have ek:((k:Int) - ((i:Int)+1)).toNat=k - (i+1):=by omega
    rw[ek]
    refine forW_inv (fun ds ρ μ'=>∃(j c:Nat) (g:MS) (w x y z:Option D),ds=rngD (j:Int) c/\i<j/\j+c=k/\μ'=μ++g/\RowsM k (partT S i j) g/\ρ=wEnv es ts A f l k μ.length [some (.int (i:Int)),some (.lst (fs.map D.int)),w,x,y,z]) ⟨i+1,k - (i+1),g,w,x,y,z,rfl,by omega,by omega,rfl,part_from S0 RM,rfl⟩ ?_ ?_
    ·clear RM hnx
     clear g
     rintro d ds'' ρ μ' ⟨j,c',g,w',x',y',z',e,hij,hjc,rfl,RM,rfl⟩
     refine⟨trivial,fun nx hnx=>?_⟩
     cases c' with
     | zero=>cases e
     | succ c' =>
      rw[rngD_cons]at e
      cases e
      have hj:j<k:=by omega
      have ami:atI ((List.range k).map fun i=>D.mr (μ.length+i)) (i:Int)=some (D.mr (μ.length+i)):=atI_maps (g:=fun i=>D.mr (μ.length+i)) (List.getElem?_range hi)
      obtain⟨T,hT⟩:∃ T,T=tabL es ts (A+1):=⟨_,rfl⟩
      have Sij:S i j=if T i j=1 then(((nTk es ts A i j).length:Nat):Int)else if 1<T i j then((List.range (j - (i+1))).map fun x=>termL T (tabL es ts A) (wayL es ts A) i j (i+1+x)).sum else 0:=by
       rw[hS,hT];show wayN _ _ _ _ _ _ i j=_;unfold wayN;rw[if_neg (by omega)]
      have lf:∀ g:MS,lvM (μ++g) f=some (fewsD es ts (A+1)):=fun g=>lvM_app hf
      refine⟨fun ρ' μ''=>∃ g':MS,ρ'=wEnv es ts A f l k μ.length [some (.int (i:Int)),some (.lst (fs.map D.int)),some (.int (j:Int)),x',y',z']/\μ''=μ++g'/\RowsM k (cellW es ts A T S i j 0) g',?_,?_⟩
      ·refine opt_of (lf g) (opt_of (fA A (by omega)) (opt_of (tk _ i hi) (opt_of (rk _ i j hj) ?_)))
       rw[<- hT]
       have lvi:lvM (μ++g) (μ.length+i)=some (rowI k (partT S i j i)):=lvM_at (RM.2 i hi)
       refine iteDf (c:=T i j=1) (fun q=>?_) (fun q=>?_)
       ·refine⟨sz (by rw[gxC];omega),?_⟩
        refine compW_gen trivial D.int (fun x=>(if es.getD j 0<=x then some x else none).map D.int) (fun x hx K' k'=>?_) ?_
        ·refine opt_of (esj j hj) (iteD (c:=es.getD j 0<=x) (fun q=>?_) (fun q=>?_))
         ·rw[if_pos q]at k';exact k'
         ·rw[if_neg q]at k';exact k'
        ·refine opt_of ami (opt_of lvi (opt_of (set_ix hj) ?_))
         rw[set_app]
         refine⟨_,rfl,rfl,?_⟩
         have el:((fs.filterMap fun x=>(if es.getD j 0<=x then some x else none).map D.int).length:Int)=(((nTk es ts A i j).length:Nat):Int):=by
          rw[nTk_is,<- hfs,<- List.map_filterMap,gxC,<- List.filterMap_eq_filter]
          congr 3
          funext x
          by_cases c:es.getD j 0<=x
          ·simp[Option.guard,c]
          ·simp[Option.guard,c]
         rw[el]
         refine(RM.put hi hj _).ext fun a b ha hb=>?_
         by_cases q2:a=i/\b=j
         ·unfold cellW;rw[if_pos q2,if_pos q2,if_pos q]
         ·unfold cellW;rw[if_neg q2,if_neg q2]
       ·refine⟨g,rfl,rfl,RM.ext fun a b ha hb=>?_⟩
        by_cases q2:a=i/\b=j
        ·have:partT S i j i j=0:=by unfold partT;exact if_neg (by omega)
         unfold cellW
         rw[if_pos q2,if_neg q,q2.1,q2.2,this]
         split <;> rfl
        ·unfold cellW;rw[if_neg q2]
      rintro ρ' μ'' ⟨g',rfl,rfl,RM'⟩
      clear RM
      refine⟨⟨by omega,by omega,by omega,by omega⟩,?_⟩
      have ej:((j:Int) - ((i:Int)+1)).toNat=j - (i+1):=by omega
      rw[ej]
      refine forW_inv (fun ds ρ μ'=>∃(m c:Nat) (g:MS) (x y z:Option D),ds=rngD ((i+1+m:Nat):Int) c/\i+1+m+c=j/\μ'=μ++g/\RowsM k (cellW es ts A T S i j m) g/\ρ=wEnv es ts A f l k μ.length [some (.int (i:Int)),some (.lst (fs.map D.int)),some (.int (j:Int)),x,y,z]) ⟨0,j - (i+1),g',x',y',z',rfl,by omega,rfl,RM',rfl⟩ ?_ ?_
      ·clear RM' hnx
       clear g'
       rintro d ds3 ρ μ' ⟨m,c3,g',x3,y3,z3,e,hmc,rfl,RM,rfl⟩
       refine⟨trivial,fun nx hnx=>?_⟩
       cases c3 with
       | zero=>cases e
       | succ c3 =>
        rw[rngD_cons]at e
        cases e
        have hk':i+1+m<k:=by omega
        have next:∀(g4:MS) (y4 z4:Option D),RowsM k (cellW es ts A T S i j (m+1)) g4->nx (wEnv es ts A f l k μ.length [some (.int (i:Int)),some (.lst (fs.map D.int)),some (.int (j:Int)),some (.int ((i+1+m:Nat):Int)),y4,z4]) (μ++g4):=fun g4 y4 z4 R4=>hnx _ _ ⟨m+1,c3,g4,_,_,_,by rw[show i+1+(m+1)=i+1+m+1 by omega];rfl,by omega,rfl,R4,rfl⟩
        refine opt_of (lf _) (opt_of (fA A (by omega)) (opt_of (tk _ i hi) (opt_of (rk _ i j hj) ?_)))
        rw[<- hT]
        refine iteD (c:=1<T i j) (fun q=>?_) (fun q=>next _ _ _ (cell_next (.inl q) RM))
        have hA:1<=A:=by
         rcases Nat.eq_zero_or_pos A with z | z
         ·subst z
          have e9:T i j=stepL es (ownR es ts (0:Nat)) (fun _ _=>0) i j:=by rw[hT];rfl
          unfold stepL at e9
          rw[if_neg (by omega),cand_zero]at e9
          have e8:minD0 []=0:=rfl
          rw[e8]at e9
          split at e9 <;> omega
         ·exact z
        rcases hlast with⟨z,_⟩ | ⟨_,rfl⟩
        ·omega
        have eA:(A:Int) - 1=((A - 1:Nat):Int):=by omega
        have fB:atI (fewsD es ts (A+1)) ((A:Int) - 1)=some (.lst (tabR es.length (tabL es ts A))):=by rw[eA,fA (A - 1) (by omega),Nat.sub_add_cancel hA]
        have ex:(i:Int)+1+(m:Nat)=((i+1+m:Nat):Int):=by omega
        refine opt_of (lf _) (opt_of fB (opt_of (tk _ i hi) (opt_of (rk _ i _ hk') ?_)))
        refine opt_of (lf _) (opt_of fB (opt_of (tk _ _ hk') (opt_of (rk _ _ j hj) ?_)))
        have t1:=tbd A i (i+1+m)
        have t2:=tbd A (i+1+m) j
        refine⟨.inl (by omega),?_⟩
        have lvi:lvM (μ++g') (μ.length+i)=some (rowI k (cellW es ts A T S i j m i)):=lvM_at (RM.2 i hi)
        refine iteD (c:=0<tabL es ts A i (i+1+m)*tabL es ts A (i+1+m) j) (fun q1=>?_) (fun q1=>?_)
        ·refine opt_of (lf _) (opt_of (fA A (by omega)) (opt_of (tk _ i hi) (opt_of (rk _ i j hj) ?_)))
         rw[<- hT]
         refine iteDf (c:=tabL es ts A i (i+1+m)+tabL es ts A (i+1+m) j=T i j) (fun q2=>?_) (fun q2=>next _ _ _ (cell_next (.inr (by unfold termL;exact if_neg fun z=>q2 z.2)) RM))
         have wk:∀ x,x<k->atI (tabR k (wayL es ts A)) (x:Int)=some (.lst (rowI k (wayL es ts A x))):=fun x hx=>atI_nat (tabR_get hx)
         have wr:∀ x y,y<k->atI (rowI k (wayL es ts A x)) (y:Int)=some (.int (wayL es ts A x y)):=fun x y hy=>atI_nat (rowI_get hy)
         refine opt_of ami (opt_of lvi ⟨by omega,opt_of (by rw[gxK];exact rowI_get hj) ?_⟩)
         refine opt_of (wk i hi) (opt_of (wr i _ hk') (opt_of (wk _ hk') (opt_of (wr _ j hj) ⟨wm (by omega) (by omega) (by omega) q1,?_⟩)))
         refine opt_of lvi (opt_of (set_ix hj) ?_)
         rw[set_app]
         refine next _ _ _ ((RM.put hi hj _).ext fun a b _ _=>?_)
         by_cases q5:a=i/\b=j
         ·have q4:¬ T i j=1:=by omega
          rw[if_pos q5]
          unfold cellW
          rw[if_pos ⟨rfl,rfl⟩,if_pos q5,if_neg q4,if_neg q4,if_pos q,if_pos q,partS_succ]
          unfold termL
          rw[if_pos ⟨q1,q2⟩]
         ·rw[if_neg q5]
          unfold cellW
          rw[if_neg q5,if_neg q5]
        ·exact next _ _ _ (cell_next (.inr (by unfold termL;exact if_neg fun z=>q1 z.1)) RM)
      ·rintro ρ μ' ⟨m,c3,g3,x3,y3,z3,e,hmc,rfl,RM,rfl⟩
       cases c3 with
       | succ c3=>rw[rngD_cons]at e;cases e
       | zero =>
        refine⟨trivial,hnx _ _ ⟨j+1,c',g3,_,_,_,_,rfl,by omega,by omega,rfl,RM.ext fun a b ha hb=>?_,rfl⟩⟩
        by_cases q2:a=i/\b=j
        ·unfold cellW
         have e5:partT S i (j+1) i j=S i j:=by unfold partT;exact if_pos (by omega)
         rw[if_pos q2,q2.1,q2.2,e5,Sij,show j - (i+1)=m by omega];rfl
        ·unfold cellW;rw[if_neg q2];unfold partT
         by_cases h1:a<i\/(a=i/\b<j)
         ·rw[if_pos h1,if_pos (by omega)]
         ·rw[if_neg h1,if_neg (by omega)]
    ·clear RM
     clear g
     rintro ρ μ' ⟨j,c',g,w',x',y',z',e,hij,hjc,rfl,RM,rfl⟩
     cases c' with
     | succ c'=>rw[rngD_cons]at e;cases e
     | zero =>
      refine⟨trivial,hnx _ _ ⟨i+1,c,g,_,_,_,_,_,_,rfl,by omega,rfl,RM.ext fun a b ha hb=>?_,rfl⟩⟩
      unfold partT
      by_cases h1:a<i\/(a=i/\b<j)
      ·rw[if_pos h1,if_pos (by omega)]
      ·rw[if_neg h1,if_neg (by omega)]
  ·clear R0 hg hga hk e
   clear g
   rintro ρ μ' ⟨i,c,g,u,v,w,x,y,z,e,hic,rfl,RM,rfl⟩
   cases c with
   | succ c=>rw[rngD_cons]at e;cases e
   | zero =>
    refine⟨trivial,.deep (frz_tab rfl RM) (old_app hm) ?_⟩
    rw[List.take_left]
    have:tabR k (partT S i 0)=tabR k S:=by
     unfold tabR
     refine List.map_congr_left fun a ha=>?_
     rw[List.mem_range]at ha
     congr 1
     apply rowI_ext
     intro b hb
     unfold partT
     rw[if_pos (by omega)]
    rw[this]
    exact kk
theorem inv_ways {ds:List D}{μ:MS}{Kd:DK}(h:fWays ds μ Kd):∃ v0 v1 v2,ds=[.lst v0,v1,.int v2]:=by
 unfold fWays at h
 rcases ds with _ | ⟨z0,ds⟩
 ·exact False.elim h
 cases z0 <;> first | exact False.elim h | skip
 rcases ds with _ | ⟨z1,ds⟩
 ·exact False.elim h
 rcases ds with _ | ⟨z2,ds⟩
 ·exact False.elim h
 cases z2 <;> first | exact False.elim h | skip
 rcases ds with _ | ⟨zz,zs⟩
 ·exact⟨_,_,_,rfl⟩
 ·exact False.elim h
theorem ok_ways {f:Addr}{fd:FuncData}(F:Fun K "_law_ways" "_law_ways" s_ways f fd)(T:Bi2 mg)(C_own:Cal P w K mg base "_law_own" 2 ["_law_border", "_law_takes", "_law_age"] (spD fOwn))(C_few_next:Cal P w K mg base "_law_few_next" 1 ["_law_border", "_law_own_here", "_law_last"] (spD fFewNext))(C_ways_next:Cal P w K mg base "_law_ways_next" 3 ["_law_border", "_law_takes", "_law_age", "_law_fews", "_law_last"] (spD fWaysNext)):FnOk P w K mg base CX0 5 f fd ["_law_border", "_law_takes", "_law_age"] (spD fWays):=by
 refine F.okD sc_ways (fun ds μ Kd h=>by obtain⟨_,_,_,rfl⟩:=inv_ways h;rfl) (fun cdv A outer s H E hr=>⟨_,(b_cons (s_set (i:=3) sc_ways.nd rfl lo (d_lst true da_nil))
  (b_cons (s_set (i:=4) sc_ways.nd rfl lo (d_lst false da_nil))
  (b_cons (s_for PassesOwn.never rfl (i_range1 rfl T.range (da_cons (d_op addC (so_add (m:=false)) (dv 2) d_int) da_nil)) ⟨(pg_name (i:=5) sc_ways.nd rfl lo),(so_name 5),(mo_name 5)⟩
  (b_cons (s_set (i:=6) sc_ways.nd rfl lo (d_if (d_testC gtC so_b2' (dv 5) d_int (nomark _)) (d_ix ixC so_ix (dv 3) (d_neg d_int) (fun _ _=>rfl)) (d_lst false da_nil)))
  (b_cons (s_expr (d_mt PySem.F.plainAttrs_list PySem.F.slot_list_append PySem.F.type_list_append appendC so_append (dv 3) (da_cons (d_call C_few_next hr.le rfl (da_cons (dv 0) (da_cons (d_call C_own hr.le rfl (da_cons (dv 0) (da_cons (dv 1) (da_cons (dv 5) da_nil)))) (da_cons (dv 6) da_nil)))) da_nil)))
  (b_one (s_set (i:=4) sc_ways.nd rfl lo (d_call C_ways_next hr.le rfl (da_cons (dv 0) (da_cons (dv 1) (da_cons (dv 5) (da_cons (dv 3) (da_cons (dv 4) da_nil)))))))))))
  (b_one (s_ret (d_ix ixC so_ix (d_ix ixC so_ix (dv 4) d_int (fun _ _=>rfl)) (d_neg d_int) (fun _ _=>rfl))))))),fun ds μ Kd hm hl h=>?_⟩)
 obtain⟨b,y,a,rfl⟩:=inv_ways h
 unfold fWays at h
 ·skip
  obtain⟨n,cs,ts,rfl,rfl,S,hcl,ha0,ha1,kk⟩:=h
  have hel:(endsOf n cs).length=cs.length+2:=endsOf_len n cs
  have hfew:=S.few
  refine⟨by show 0<=sizeLine;decide,by show 0<=sizeLine;decide,by omega,by omega,?_⟩
  refine forW_inv (fun ds ρ μ'=>∃(k c:Nat) (l:List D) (u v:Option D),ds=rngD (k:Int) c/\(k:Int)+c=a+1/\((k=0/\l=[])\/(1<=k/\l=tabR (endsOf n cs).length (wayL (endsOf n cs) ts k)))/\ρ=[some (.lst ((endsOf n cs).map D.int)),some (.lst (ts.map tkD)),some (.int a),some (.mr μ.length),some (.lst l),u,v]/\μ'=μ++[.lst (fewsD (endsOf n cs) ts k)]) ⟨0,(a+1).toNat,[],none,none,rfl,by omega,.inl ⟨rfl,rfl⟩,rfl,rfl⟩ ?_ ?_
  ·rintro d ds' ρ μ' ⟨k,c,l,u,v,e,hkc,hl2,rfl,rfl⟩
   refine⟨trivial,fun nx hnx=>?_⟩
   cases c with
   | zero=>cases e
   | succ c =>
    rw[rngD_cons]at e
    cases e
    have fs1:fewsD (endsOf n cs) ts k++[.lst (tabR (endsOf n cs).length (tabL (endsOf n cs) ts (k+1)))]=fewsD (endsOf n cs) ts (k+1):=by
     unfold fewsD;rw[List.range_succ,List.map_append];rfl
    have fl:(fewsD (endsOf n cs) ts k).length=k:=by unfold fewsD;rw[gxC,gxJ]
    have fin:∀(l2:List D),l2=tabR (endsOf n cs).length (wayL (endsOf n cs) ts (k+1))->∀ v,nx [some (.lst ((endsOf n cs).map D.int)),some (.lst (ts.map tkD)),some (.int a),some (.mr μ.length),some (.lst l2),some (.int k),v] (μ++[.lst (fewsD (endsOf n cs) ts (k+1))]):=fun l2 e2 v=>hnx _ _ ⟨k+1,c,_,_,_,rfl,by omega,.inr ⟨by omega,e2⟩,rfl,rfl⟩
    refine iteD (c:=(0:Int)<k) (fun q=>opt_of lvM_new ?_) (fun q=>⟨by show 0<=sizeLine;decide,?_⟩)
    ·have fE:atI (fewsD (endsOf n cs) ts k) (-1)=some (.lst (tabR (endsOf n cs).length (tabL (endsOf n cs) ts k))):=by
      refine atI_end ?_
      rw[fl]
      unfold fewsD
      rw[gxH,List.getElem?_range (by omega)]
      show some (D.lst (tabR _ (tabL _ _ (k - 1+1))))=_
      rw[Nat.sub_add_cancel (by omega)]
     refine opt_of fE ?_
     refine⟨lvM_ty lvM_new,n,cs,ts,rfl,rfl,S,endsOf n cs,ownR (endsOf n cs) ts k,tabL (endsOf n cs) ts k,rfl,rfl,(own_ok _ _ _).len,fun e=>by rw[e]at hel;simp at hel,by omega,.inr rfl,tab_bd _ _ k,?_⟩
     refine opt_of lvM_new ⟨szS (by rw[fl];omega),?_⟩
     rw[set_end]
     refine⟨n,cs,ts,rfl,rfl,S,hcl,by omega,by omega,?_,?_,?_⟩
     ·rw[gxK,<- fs1];exact lvM_new
     ·rcases hl2 with⟨h0,_⟩ | ⟨_,rfl⟩
      ·omega
      ·exact .inr ⟨by omega,by rw[gxK]⟩
     ·rw[gxK]
      have:=fin _ rfl (some (.lst (tabR (endsOf n cs).length (tabL (endsOf n cs) ts k))))
      rw[<- fs1]at this
      exact this
    ·have k0:k=0:=by omega
     subst k0
     refine⟨lvM_ty lvM_new,n,cs,ts,rfl,rfl,S,endsOf n cs,ownR (endsOf n cs) ts (0:Nat),tabL (endsOf n cs) ts 0,rfl,rfl,(own_ok _ _ _).len,fun e=>by rw[e]at hel;simp at hel,by omega,.inl ⟨rfl,rfl⟩,tab_bd _ _ 0,?_⟩
     refine opt_of lvM_new ⟨szS (by rw[fl];omega),?_⟩
     rw[set_end]
     refine⟨n,cs,ts,rfl,rfl,S,hcl,by omega,by omega,?_,?_,?_⟩
     ·rw[gxK,<- fs1];exact lvM_new
     ·rcases hl2 with⟨_,rfl⟩ | ⟨h0,_⟩
      ·exact .inl ⟨rfl,rfl⟩
      ·omega
     ·rw[gxK]
      have:=fin _ rfl (some (.lst []))
      rw[<- fs1]at this
      exact this
  ·rintro ρ μ' ⟨k,c,l,u,v,e,hkc,hl2,rfl,rfl⟩
   cases c with
   | succ c=>rw[rngD_cons]at e;cases e
   | zero =>
    have hk:k=a.toNat+1:=by omega
    rcases hl2 with⟨h0,rfl⟩ | ⟨_,rfl⟩
    ·omega
    ·have a1:atI (tabR (endsOf n cs).length (wayL (endsOf n cs) ts k)) 0=some (.lst (rowI (endsOf n cs).length (wayL (endsOf n cs) ts k 0))):=atI_nat (j:=0) (tabR_get (by omega))
     have a2:atI (rowI (endsOf n cs).length (wayL (endsOf n cs) ts k 0)) (-1)=some (.int (wayL (endsOf n cs) ts k 0 (cs.length+1))):=atI_end (by rw[rowI_len,hel];exact rowI_get (by omega))
     refine⟨trivial,opt_of a1 (opt_of a2 ?_)⟩
     refine .drop True.intro (old_app hm) ?_
     rw[List.take_left,hk]
     exact kk
theorem ok_law {f:Addr}{fd:FuncData}(F:Fun K "law" "law" s_law f fd)(T:Bi2 mg)(C_box:Cal P w K mg base "_law_box" 1 ["_law_script"] (spBoxQ K))(C_take:Cal P w K mg base "_law_take" 1 ["_law_box_here", "_law_many"] (spD fTake))(C_shelf:Cal P w K mg base "_law_shelf" 3 ["_law_box_here", "_law_most"] (spD fShelf))(C_near:Cal P w K mg base "_law_near" 1 ["_law_takes"] (spD fNear))(C_least:Cal P w K mg base "_law_least" 4 ["_law_border", "_law_takes"] (spD fLeastL))(C_ways:Cal P w K mg base "_law_ways" 5 ["_law_border", "_law_takes", "_law_age"] (spD fWays))(C_same:Cal P w K mg base "_law_same" 6 ["_law_found", "_law_due"] (spD fSame))(C_count_best:Cal P w K mg base "count_best" 145 ["size", "cuts", "takes"] (spD fCountBest)):FnOk P w K mg base CX0 147 f fd ["_law_script"] (spLaw K):=by
 refine F.ok sc_law (fun vs H Q E h=>?_) (fun cdv A outer s H vs Q E hr h=>?_)
 ·obtain⟨a,ns,rfl,_⟩:=h;rfl
 ·obtain⟨a,ns,rfl,hs,hl,k⟩:=h
  refine⟨_,pss_cons (ps_set (i:=1) sc_law.nd rfl (by first | exact Or.inl rfl | exact Or.inr rfl) (pe_callC C_box (hr.mono (by first | decide | exact Nat.le_refl _ | omega)) rfl (pa_cons (pvC 0) pa_nil))) (b_cons (s_asg (d_call C_shelf hr.le rfl (da_cons (dv 1) (da_cons (d_ix ixC so_ix (d_lst false (da_cons d_int (da_cons d_int (da_cons d_int (da_cons d_int (da_cons d_int (da_cons d_int (da_cons d_int (da_cons d_int da_nil))))))))) (d_call C_take hr.le rfl (da_cons (dv 1) (da_cons d_int da_nil))) (fun _ _=>rfl)) da_nil))) ⟨(pg_tupC (n:=3) rfl (pgs_consC (pg_name (i:=2) sc_law.nd rfl lo) (pgs_consC (pg_name (i:=3) sc_law.nd rfl lo) (pgs_consC (pg_name (i:=4) sc_law.nd rfl lo) pgs_nilC)))),(so_tup (so_cons (so_name 2) (mo_name 2) (so_cons (so_name 3) (mo_name 3) (so_cons (so_name 4) (mo_name 4) so_nil mo_nil) (mo_cons (mo_name 4) mo_nil)) (mo_cons (mo_name 3) (mo_cons (mo_name 4) mo_nil)))),(mo_tup (mo_cons (mo_name 2) (mo_cons (mo_name 3) (mo_cons (mo_name 4) mo_nil))))⟩)
   (b_cut (s_if (d_testC gtC so_b2' (dv 2) d_int (nomark _))
   (b_one (s_set (i:=4) sc_law.nd rfl lo (d_call C_near hr.le rfl (da_cons (dv 4) da_nil))))
   b_nil)
   (b_cons (s_set (i:=5) sc_law.nd rfl lo (d_op addC (so_add (m:=false)) (d_op addC (so_add (m:=false)) (d_lst false (da_cons d_int da_nil)) (dv 3)) (d_lst false (da_cons (dv 2) da_nil))))
   (b_cons (s_set (i:=6) sc_law.nd rfl lo (d_lst false (da_cons (d_ty listC (so_list (m:=false)) (by rfl) T.list PyProof.Rows.boot_list (da_cons (dv 3) da_nil)) (da_cons (d_ty listC (so_list (m:=false)) (by rfl) T.list PyProof.Rows.boot_list (da_cons (dv 4) da_nil)) da_nil))))
   (b_cons (s_set (i:=7) sc_law.nd rfl lo (d_call C_least hr.le rfl (da_cons (dv 5) (da_cons (dv 4) da_nil))))
   (b_cons (s_set (i:=8) sc_law.nd rfl lo d_int)
   (b_cut (s_if (t_notN (dv 7))
   (b_one (s_set (i:=8) sc_law.nd rfl lo (d_call C_ways hr.le rfl (da_cons (dv 5) (da_cons (dv 4) (da_cons (dv 7) da_nil))))))
   b_nil)
   (b_one (s_ret (d_and (d_call C_same hr.le rfl (da_cons (d_call C_count_best hr.le rfl (da_cons (dv 2) (da_cons (d_ix ixC so_ix (dv 6) d_int (fun _ _=>rfl)) (da_cons (d_ix ixC so_ix (dv 6) d_int (fun _ _=>rfl)) da_nil)))) (da_cons (dv 8) da_nil))) (d_one (d_cmp (eqDeep (n:=5) (un_of hr (by decide))) so_eqD (dv 6) (d_lst false (da_cons (dv 3) (da_cons (dv 4) da_nil))) (nomark _))))))))))))),?_⟩
  refine⟨ns,hs,fun b q H0 B0 hb0 hq0 S0=>?_⟩
  refine law_go (m:=7) B0 ?_ k
  refine⟨by show 8<=sizeLine;decide,rfl,by decide,by decide,fun v v0 v1=>?_⟩
  obtain⟨mm,em,hmm⟩:∃ mm,atI [D.int 10,D.int 10,D.int 10,D.int 10,D.int 10,D.int 10,D.int 10,D.int 24] v=some (.int mm)/\(mm=10\/mm=24):=by
   obtain rfl | rfl | rfl | rfl | rfl | rfl | rfl | rfl:v=0\/v=1\/v=2\/v=3\/v=4\/v=5\/v=6\/v=7:=by omega
   all_goals first | exact⟨10,rfl,.inl rfl⟩ | exact⟨24,rfl,.inr rfl⟩
  refine opt_of em ⟨rfl,by omega,by omega,fun n cs ts0 h1 h2 hcl hc ht0=>?_⟩
  refine⟨rfl,?_⟩
  have lts:=ht0.few
  refine⟨fun ρ' μ'=>∃ ts:List Tk,Takes n ts/\ρ'=[none,some (.mr 0),some (.int n),some (.lst (cs.map D.int)),some (.lst (ts.map tkD)),none,none,none,none]/\μ'=[.box],?_,?_⟩
  ·refine iteD (c:=10<n) (fun _=>?_) (fun _=>⟨ts0,ht0,rfl,rfl⟩)
   exact⟨ts0,rfl,by omega,ts0.map nearT,near_ok ht0,rfl,rfl⟩
  rintro ρ' μ' ⟨ts,ht,rfl,rfl⟩
  have S:Shelf n cs ts:=⟨h1,by omega,by omega,hc,ht⟩
  have ft:=ht.few
  have hel:(endsOf n cs).length=cs.length+2:=endsOf_len n cs
  refine⟨by show 1<=sizeLine;decide,by rw[gxC];exact sz (by show 1+cs.length<=_;omega),by show 1<=sizeLine;decide,by rw[gxE,gxC];exact sz (by show 1+cs.length+1<=_;omega),?_⟩
  rw[ends_map]
  refine⟨by show 2<=sizeLine;decide,?_⟩
  have sml:smD 5 (.lst [.lst (cs.map D.int),.lst (ts.map tkD)]):=sm_lst (by simp) fun d hd=>by
   simp only[List.mem_cons,List.not_mem_nil,or_false]at hd
   rcases hd with rfl | rfl
   ·exact sm_ints (by omega)
   ·exact sm_tks (by omega)
  refine⟨n,cs,ts,rfl,rfl,S,by omega,leastK_all fun d8 h8=>?_⟩
  refine⟨fun ρ' μ'=>∃ c:Int,CntD (endsOf n cs) ts n c/\ρ'=[none,some (.mr 0),some (.int n),some (.lst (cs.map D.int)),some (.lst (ts.map tkD)),some (.lst ((endsOf n cs).map D.int)),some (.lst [.lst (cs.map D.int),.lst (ts.map tkD)]),some d8,some (.int c)]/\μ'=[.box],?_,?_⟩
  ·cases h8 with
   | no hb=>exact⟨0,.no hb,rfl,rfl⟩
   | yes a ha hb la =>
    refine⟨n,cs,ts,rfl,rfl,S,by omega,by omega,by omega,_,.yes a ha hb la,?_,rfl⟩
    rw[gxK,way_ct S (a+1) 0 (cs.length+1) (by omega) (by omega) (by have:=tab_least S la;omega),hel]
    rfl
  rintro ρ' μ' ⟨c,hc1,rfl,rfl⟩
  refine⟨cs,ts,rfl,rfl,S,by omega,cntK_all fun c' hc2=>?_⟩
  cases hc1.uniq hc2
  refine⟨.int c,rfl,rfl,sm_int,?_⟩
  refine⟨by show 2<=sizeLine;decide,?_⟩
  exact eqD_same rfl sml rfl rfl
end
def kk (P:Params):PySem.W.Frag:=[ko 3 (mainO P "law_hissroom_k17_best_makes_counted" 406 [me "_wall" 193 (.ref 21),me "ends" 203 (.ref 28),me "pieces" 212 (.ref 35),me "farthest" 218 (.ref 40),me "bar_of" 224 (.ref 45),me "least_age" 239 (.ref 52),me "youngest" 245 (.ref 57),me "take_rows" 251 (.ref 62),me "clean_row" 257 (.ref 67),me "next_reach" 263 (.ref 72),me "few_tables" 271 (.ref 77),me "no_make" 278 (.ref 84),me "bare_table" 284 (.ref 89),me "next_table" 290 (.ref 94),me "fewest_joined" 296 (.ref 99),me "count_best" 308 (.ref 106),me "BestMakes" 405 (.ref 168),me "_law_box" 414 (.ref 179),me "_law_take" 426 (.ref 186),me "_law_bars" 432 (.ref 191),me "_law_cuts" 438 (.ref 196),me "_law_patched" 453 (.ref 203),me "_law_shelf" 459 (.ref 208),me "_law_far" 465 (.ref 213),me "_law_own" 471 (.ref 218),me "_law_rows" 477 (.ref 223),me "_law_barred" 483 (.ref 228),me "_law_least" 489 (.ref 233),me "_law_few_next" 495 (.ref 238),me "_law_few" 506 (.ref 245),me "_law_ways_next" 512 (.ref 250),me "_law_ways" 525 (.ref 257),me "_law_same" 531 (.ref 262),me "_law_near" 537 (.ref 267),me "law" 552 (.ref 274)]),ko 168 ⟨.type "type",none,(.cls ⟨"BestMakes",[.type "object"],[.ref 168,.type "object"],167, "BestMakes",true,[],[],false,none,false⟩),#[none,none,(some (.str "BestMakes" 309)),(some (.str "BestMakes" 317)),(some (.builtin "object.__new__")),(some (.bool true))]⟩,ko 167 ⟨.type "dict",none,(.dict #[enP P "__module__" 316 (.str "hissroom.few" 297),enP P "__firstlineno__" 320 (.int 81 319),enP P "__init__" 331 (.ref 120),enP P "is_take" 342 (.ref 127),enP P "clean_takes" 348 (.ref 132),enP P "halves" 354 (.ref 137),enP P "counted" 362 (.ref 144),enP P "count_anew" 374 (.ref 151),enP P "numbered" 383 (.ref 158),enP P "rank" 392 (.ref 165),enP P "__static_attributes__" 398 (.ref 166),enP P "__dict__" 400 (.ref 169),enP P "__weakref__" 402 (.ref 170),enP P "__doc__" 403 (.none)] 4),#[]⟩,ko 179 (fnQ "_law_box" "_law_box" s_box (.str "law_hissroom_k17_best_makes_counted" 406) 178),ko 178 (coQ "_law_box" "_law_box" 408 125 1 173 174 (.ref 175) (.ref 176) 177 412),ko 186 (fnQ "_law_take" "_law_take" s_take (.str "law_hissroom_k17_best_makes_counted" 406) 185),ko 185 (coQ "_law_take" "_law_take" 415 127 2 180 181 (.ref 182) (.ref 183) 184 424),ko 191 (fnQ "_law_bars" "_law_bars" s_bars (.str "law_hissroom_k17_best_makes_counted" 406) 190),ko 190 (coQ "_law_bars" "_law_bars" 427 143 2 187 188 .none .none 189 430),ko 196 (fnQ "_law_cuts" "_law_cuts" s_cuts (.str "law_hissroom_k17_best_makes_counted" 406) 195),ko 195 (coQ "_law_cuts" "_law_cuts" 433 156 2 192 193 .none .none 194 436),ko 203 (fnQ "_law_patched" "_law_patched" s_patched (.str "law_hissroom_k17_best_makes_counted" 406) 202),ko 202 (coQ "_law_patched" "_law_patched" 439 163 4 197 198 (.ref 199) (.ref 200) 201 451),ko 208 (fnQ "_law_shelf" "_law_shelf" s_shelf (.str "law_hissroom_k17_best_makes_counted" 406) 207),ko 207 (coQ "_law_shelf" "_law_shelf" 454 171 2 204 205 .none .none 206 457),ko 262 (fnQ "_law_same" "_law_same" s_same (.str "law_hissroom_k17_best_makes_counted" 406) 261),ko 261 (coQ "_law_same" "_law_same" 526 253 2 258 259 .none .none 260 529),ko 28 (fnQ "ends" "ends" s_ends (.str "hissroom.ends" 194) 27),ko 27 (coQ "ends" "ends" 196 5 2 22 23 (.ref 24) (.ref 25) 26 201),ko 35 (fnQ "pieces" "pieces" s_pieces (.str "hissroom.ends" 194) 34),ko 34 (coQ "pieces" "pieces" 204 7 2 29 30 (.ref 31) (.ref 32) 33 210),ko 45 (fnQ "bar_of" "bar_of" s_bar_of (.str "hissroom.ends" 194) 44),ko 44 (coQ "bar_of" "bar_of" 219 14 3 41 42 .none .none 43 222),ko 40 (fnQ "farthest" "farthest" s_farthest (.str "hissroom.ends" 194) 39),ko 39 (coQ "farthest" "farthest" 213 10 4 36 37 .none .none 38 216),ko 62 (fnQ "take_rows" "take_rows" s_take_rows (.str "hissroom.reach" 225) 61),ko 61 (coQ "take_rows" "take_rows" 246 33 3 58 59 .none .none 60 249),ko 67 (fnQ "clean_row" "clean_row" s_clean_row (.str "hissroom.reach" 225) 66),ko 66 (coQ "clean_row" "clean_row" 252 36 3 63 64 .none .none 65 255),ko 72 (fnQ "next_reach" "next_reach" s_next_reach (.str "hissroom.reach" 225) 71),ko 71 (coQ "next_reach" "next_reach" 258 42 4 68 69 .none .none 70 261),ko 57 (fnQ "youngest" "youngest" s_youngest (.str "hissroom.reach" 225) 56),ko 56 (coQ "youngest" "youngest" 240 31 1 53 54 .none .none 55 243),ko 52 (fnQ "least_age" "least_age" s_least_age (.str "hissroom.reach" 225) 51),ko 51 (coQ "least_age" "least_age" 227 20 3 46 47 (.ref 48) (.ref 49) 50 237),ko 84 (fnQ "no_make" "no_make" s_no_make (.str "hissroom.tables" 264) 83),ko 83 (coQ "no_make" "no_make" 272 61 1 78 79 (.ref 80) (.ref 81) 82 276),ko 89 (fnQ "bare_table" "bare_table" s_bare_table (.str "hissroom.tables" 264) 88),ko 88 (coQ "bare_table" "bare_table" 279 63 1 85 86 .none .none 87 282),ko 99 (fnQ "fewest_joined" "fewest_joined" s_fewest_joined (.str "hissroom.tables" 264) 98),ko 98 (coQ "fewest_joined" "fewest_joined" 291 73 3 95 96 .none .none 97 294),ko 94 (fnQ "next_table" "next_table" s_next_table (.str "hissroom.tables" 264) 93),ko 93 (coQ "next_table" "next_table" 285 66 3 90 91 .none .none 92 288),ko 77 (fnQ "few_tables" "few_tables" s_few_tables (.str "hissroom.tables" 264) 76),ko 76 (coQ "few_tables" "few_tables" 266 47 4 73 74 .none .none 75 269),ko 127 (fnQ "is_take" "BestMakes.is_take" s_BestMakes_is_take (.str "hissroom.few" 297) 126),ko 126 (coQ "is_take" "BestMakes.is_take" 332 91 2 121 122 (.ref 123) (.ref 124) 125 340),ko 132 (fnQ "clean_takes" "BestMakes.clean_takes" s_BestMakes_clean_takes (.str "hissroom.few" 297) 131),ko 131 (coQ "clean_takes" "BestMakes.clean_takes" 343 95 2 128 129 .none .none 130 346),ko 137 (fnQ "halves" "BestMakes.halves" s_BestMakes_halves (.str "hissroom.few" 297) 136),ko 136 (coQ "halves" "BestMakes.halves" 349 100 2 133 134 .none .none 135 352),ko 151 (fnQ "count_anew" "BestMakes.count_anew" s_BestMakes_count_anew (.str "hissroom.few" 297) 150),ko 150 (coQ "count_anew" "BestMakes.count_anew" 363 111 2 145 146 (.ref 147) (.ref 148) 149 372),ko 144 (fnQ "counted" "BestMakes.counted" s_BestMakes_counted (.str "hissroom.few" 297) 143),ko 143 (coQ "counted" "BestMakes.counted" 355 106 2 138 139 (.ref 140) (.ref 141) 142 360),ko 120 (fnQ "__init__" "BestMakes.__init__" s_BestMakes___init__ (.str "hissroom.few" 297) 119),ko 119 (coQ "__init__" "BestMakes.__init__" 321 83 4 114 115 (.ref 116) (.ref 117) 118 329),ko 106 (fnQ "count_best" "count_best" s_count_best (.str "hissroom.few" 297) 105),ko 105 (coQ "count_best" "count_best" 299 76 3 100 101 (.ref 102) (.ref 103) 104 306),ko 213 (fnQ "_law_far" "_law_far" s_far (.str "law_hissroom_k17_best_makes_counted" 406) 212),ko 212 (coQ "_law_far" "_law_far" 460 184 3 209 210 .none .none 211 463),ko 218 (fnQ "_law_own" "_law_own" s_own (.str "law_hissroom_k17_best_makes_counted" 406) 217),ko 217 (coQ "_law_own" "_law_own" 466 189 3 214 215 .none .none 216 469),ko 223 (fnQ "_law_rows" "_law_rows" s_rows (.str "law_hissroom_k17_best_makes_counted" 406) 222),ko 222 (coQ "_law_rows" "_law_rows" 472 194 3 219 220 .none .none 221 475),ko 228 (fnQ "_law_barred" "_law_barred" s_barred (.str "law_hissroom_k17_best_makes_counted" 406) 227),ko 227 (coQ "_law_barred" "_law_barred" 478 203 2 224 225 .none .none 226 481),ko 233 (fnQ "_law_least" "_law_least" s_least (.str "law_hissroom_k17_best_makes_counted" 406) 232),ko 232 (coQ "_law_least" "_law_least" 484 209 2 229 230 .none .none 231 487),ko 267 (fnQ "_law_near" "_law_near" s_near (.str "law_hissroom_k17_best_makes_counted" 406) 266),ko 266 (coQ "_law_near" "_law_near" 532 263 1 263 264 .none .none 265 535),ko 238 (fnQ "_law_few_next" "_law_few_next" s_few_next (.str "law_hissroom_k17_best_makes_counted" 406) 237),ko 237 (coQ "_law_few_next" "_law_few_next" 490 214 3 234 235 .none .none 236 493),ko 250 (fnQ "_law_ways_next" "_law_ways_next" s_ways_next (.str "law_hissroom_k17_best_makes_counted" 406) 249),ko 249 (coQ "_law_ways_next" "_law_ways_next" 507 231 5 246 247 .none .none 248 510),ko 257 (fnQ "_law_ways" "_law_ways" s_ways (.str "law_hissroom_k17_best_makes_counted" 406) 256),ko 256 (coQ "_law_ways" "_law_ways" 513 245 3 251 252 (.ref 253) (.ref 254) 255 523),ko 274 (fnQ "law" "law" s_law (.str "law_hissroom_k17_best_makes_counted" 406) 273),ko 273 (coQ "law" "law" 538 265 1 268 269 (.ref 270) (.ref 271) 272 550)]
def hk:PySem.W.Hook:=PySem.W.kHook kk [3,168,167,179,178,186,185,191,190,196,195,203,202,208,207,262,261,28,27,35,34,45,44,40,39,62,61,67,66,72,71,57,56,52,51,84,83,89,88,99,98,94,93,77,76,127,126,132,131,137,136,151,150,144,143,120,119,106,105,213,212,218,217,223,222,228,227,233,232,267,266,238,237,250,249,257,256,274,273] (fun _=>by kernel_rfl)
def lw:PySem.W.OpenLaw:=PySem.Challenge.rw_hissroom_k17_best_makes_counted
def qq:Program:={ lw.prog with main:={ lw.prog.main with body:=[s_law]}}
def ll:List Str:=[sS "_wall",sS "ends",sS "pieces",sS "farthest",sS "bar_of",sS "least_age",sS "youngest",sS "take_rows",sS "clean_row",sS "next_reach",sS "few_tables",sS "no_make",sS "bare_table",sS "next_table",sS "fewest_joined",sS "count_best",sS "BestMakes",sS "_law_box",sS "_law_take",sS "_law_bars",sS "_law_cuts",sS "_law_patched",sS "_law_shelf",sS "_law_far",sS "_law_own",sS "_law_rows",sS "_law_barred",sS "_law_least",sS "_law_few_next",sS "_law_few",sS "_law_ways_next",sS "_law_ways",sS "_law_same",sS "_law_near"]
def xt (s:Shared):Bool:=PySem.W.xlAt qq [] s&&PySem.W.recOk (PySem.W.RowW.records lw.row.toRowW) s
theorem left:PySem.W.LeftO lw.prog qq ll xt hk.obs hk.val 1477:=left_of (M:=1477) (by kernel_rfl) rfl (fun s=>by kernel_rfl) rfl (fun w os=>by kernel_rfl)
theorem said:lw.wellSaid=true:=(congrFun PySem.W.Fast.te9446332074065402090 lw).trans (by kernel_rfl)
def dd:DefRec:=⟨"law",defArgs s_law,defBody s_law,defScope s_law,defPos s_law⟩
theorem holds (F:PySem.W.WalkO qq ll (PySem.W.XL qq []) hk.says lw.row.toRowW dd [] (fun f vs=>PySem.call f vs)):lw.Holds:=PySem.W.holds_law said fun k1=>PySem.W.holds_open (q:=qq) (loose:=ll) (Xt:=xt) (XP:=PySem.W.XL qq []) (d:=dd) (kwd:=[]) left hk.of hk.keeps (fun s e=>PySem.W.xl_of s (Bool.and_eq_true_iff.mp e).1) PySem.W.XL.keeps (by kernel_rfl) (by kernel_rfl) rfl (fun s e=>PySem.W.recFacts_of (Bool.and_eq_true_iff.mp e).2) rfl k1 (by kernel_rfl) ⟨rfl,rfl,rfl,rfl,rfl,by kernel_rfl⟩ ⟨[.list []],by kernel_rfl,by kernel_rfl⟩ F
set_option maxHeartbeats 40000000 in
theorem fin:PySem.W.WalkO qq ll (PySem.W.XL qq []) hk.says lw.row.toRowW dd [] (fun f vs=>PySem.call f vs):=by
 refine L2.walk_of (l:=lw) (d:=dd) (n:=63) (k:=147) (x := "_law_script") (K:=kk) (CX:=fun _=>CX0) (sp:=fun w=>spLaw (kk w.params)) rfl (by decide) rfl ⟨rfl,by decide,by decide⟩ (fun w h Y=>PySem.W.kIn_of Y) (fun w mg fa h X G hfa=>?_) (fun _ _ a ns hl _ hS=>⟨a,ns,rfl,hS,hl,fun _=>rfl⟩) fun _ _ _ _ _ z=>z
 have e:=hfa.symm.trans (PySem.W.mg_of X G (show PySem.W.nsIn (kk w.params) mainGlobals "law"=sr 274 by kernel_rfl))
 cases e
 have T:Bi2 mg:=⟨PySem.W.mg_none_of X G (by kernel_rfl),PySem.W.mg_none_of X G (by kernel_rfl),PySem.W.mg_none_of X G (by kernel_rfl),PySem.W.mg_none_of X G (by kernel_rfl),PySem.W.mg_none_of X G (by kernel_rfl),PySem.W.mg_none_of X G (by kernel_rfl),PySem.W.mg_none_of X G (by kernel_rfl),PySem.W.mg_none_of X G (by kernel_rfl),PySem.W.mg_none_of X G (by kernel_rfl),PySem.W.mg_none_of X G (by kernel_rfl),PySem.W.mg_none_of X G (by kernel_rfl),PySem.W.mg_none_of X G (by kernel_rfl),PySem.W.mg_none_of X G (by kernel_rfl),PySem.W.mg_none_of X G (by kernel_rfl),PySem.W.mg_none_of X G (by kernel_rfl),PySem.W.mg_none_of X G (by kernel_rfl),PySem.W.mg_none_of X G (by kernel_rfl)⟩
 have Z_BestMakes:ZBestMakes (kk w.params) 168:=⟨⟨by kernel_rfl,by kernel_rfl,by kernel_rfl,by kernel_rfl⟩,by kernel_rfl,by kernel_rfl,by kernel_rfl,by kernel_rfl,by kernel_rfl⟩
 have F0:=fun_of (K:=kk w.params) (x := "_law_box") (q := "_law_box") (s:=s_box) (f:=179) (pm:=(.str "law_hissroom_k17_best_makes_counted" 406)) (c:=178)
 have F1:=fun_of (K:=kk w.params) (x := "_law_take") (q := "_law_take") (s:=s_take) (f:=186) (pm:=(.str "law_hissroom_k17_best_makes_counted" 406)) (c:=185)
 have F2:=fun_of (K:=kk w.params) (x := "_law_bars") (q := "_law_bars") (s:=s_bars) (f:=191) (pm:=(.str "law_hissroom_k17_best_makes_counted" 406)) (c:=190)
 have F3:=fun_of (K:=kk w.params) (x := "_law_cuts") (q := "_law_cuts") (s:=s_cuts) (f:=196) (pm:=(.str "law_hissroom_k17_best_makes_counted" 406)) (c:=195)
 have F4:=fun_of (K:=kk w.params) (x := "_law_patched") (q := "_law_patched") (s:=s_patched) (f:=203) (pm:=(.str "law_hissroom_k17_best_makes_counted" 406)) (c:=202)
 have F5:=fun_of (K:=kk w.params) (x := "_law_shelf") (q := "_law_shelf") (s:=s_shelf) (f:=208) (pm:=(.str "law_hissroom_k17_best_makes_counted" 406)) (c:=207)
 have F6:=fun_of (K:=kk w.params) (x := "_law_same") (q := "_law_same") (s:=s_same) (f:=262) (pm:=(.str "law_hissroom_k17_best_makes_counted" 406)) (c:=261)
 have F7:=fun_of (K:=kk w.params) (x := "ends") (q := "ends") (s:=s_ends) (f:=28) (pm:=(.str "hissroom.ends" 194)) (c:=27)
 have F8:=fun_of (K:=kk w.params) (x := "pieces") (q := "pieces") (s:=s_pieces) (f:=35) (pm:=(.str "hissroom.ends" 194)) (c:=34)
 have F9:=fun_of (K:=kk w.params) (x := "bar_of") (q := "bar_of") (s:=s_bar_of) (f:=45) (pm:=(.str "hissroom.ends" 194)) (c:=44)
 have F10:=fun_of (K:=kk w.params) (x := "farthest") (q := "farthest") (s:=s_farthest) (f:=40) (pm:=(.str "hissroom.ends" 194)) (c:=39)
 have F11:=fun_of (K:=kk w.params) (x := "take_rows") (q := "take_rows") (s:=s_take_rows) (f:=62) (pm:=(.str "hissroom.reach" 225)) (c:=61)
 have F12:=fun_of (K:=kk w.params) (x := "clean_row") (q := "clean_row") (s:=s_clean_row) (f:=67) (pm:=(.str "hissroom.reach" 225)) (c:=66)
 have F13:=fun_of (K:=kk w.params) (x := "next_reach") (q := "next_reach") (s:=s_next_reach) (f:=72) (pm:=(.str "hissroom.reach" 225)) (c:=71)
 have F14:=fun_of (K:=kk w.params) (x := "youngest") (q := "youngest") (s:=s_youngest) (f:=57) (pm:=(.str "hissroom.reach" 225)) (c:=56)
 have F15:=fun_of (K:=kk w.params) (x := "least_age") (q := "least_age") (s:=s_least_age) (f:=52) (pm:=(.str "hissroom.reach" 225)) (c:=51)
 have F16:=fun_of (K:=kk w.params) (x := "no_make") (q := "no_make") (s:=s_no_make) (f:=84) (pm:=(.str "hissroom.tables" 264)) (c:=83)
 have F17:=fun_of (K:=kk w.params) (x := "bare_table") (q := "bare_table") (s:=s_bare_table) (f:=89) (pm:=(.str "hissroom.tables" 264)) (c:=88)
 have F18:=fun_of (K:=kk w.params) (x := "fewest_joined") (q := "fewest_joined") (s:=s_fewest_joined) (f:=99) (pm:=(.str "hissroom.tables" 264)) (c:=98)
 have F19:=fun_of (K:=kk w.params) (x := "next_table") (q := "next_table") (s:=s_next_table) (f:=94) (pm:=(.str "hissroom.tables" 264)) (c:=93)
 have F20:=fun_of (K:=kk w.params) (x := "few_tables") (q := "few_tables") (s:=s_few_tables) (f:=77) (pm:=(.str "hissroom.tables" 264)) (c:=76)
 have F21:=fun_of (K:=kk w.params) (x := "is_take") (q := "BestMakes.is_take") (s:=s_BestMakes_is_take) (f:=127) (pm:=(.str "hissroom.few" 297)) (c:=126)
 have F22:=fun_of (K:=kk w.params) (x := "clean_takes") (q := "BestMakes.clean_takes") (s:=s_BestMakes_clean_takes) (f:=132) (pm:=(.str "hissroom.few" 297)) (c:=131)
 have F23:=fun_of (K:=kk w.params) (x := "halves") (q := "BestMakes.halves") (s:=s_BestMakes_halves) (f:=137) (pm:=(.str "hissroom.few" 297)) (c:=136)
 have F24:=fun_of (K:=kk w.params) (x := "count_anew") (q := "BestMakes.count_anew") (s:=s_BestMakes_count_anew) (f:=151) (pm:=(.str "hissroom.few" 297)) (c:=150)
 have F25:=fun_of (K:=kk w.params) (x := "counted") (q := "BestMakes.counted") (s:=s_BestMakes_counted) (f:=144) (pm:=(.str "hissroom.few" 297)) (c:=143)
 have F26:=fun_of (K:=kk w.params) (x := "__init__") (q := "BestMakes.__init__") (s:=s_BestMakes___init__) (f:=120) (pm:=(.str "hissroom.few" 297)) (c:=119)
 have F27:=fun_of (K:=kk w.params) (x := "count_best") (q := "count_best") (s:=s_count_best) (f:=106) (pm:=(.str "hissroom.few" 297)) (c:=105)
 have F28:=fun_of (K:=kk w.params) (x := "_law_far") (q := "_law_far") (s:=s_far) (f:=213) (pm:=(.str "law_hissroom_k17_best_makes_counted" 406)) (c:=212)
 have F29:=fun_of (K:=kk w.params) (x := "_law_own") (q := "_law_own") (s:=s_own) (f:=218) (pm:=(.str "law_hissroom_k17_best_makes_counted" 406)) (c:=217)
 have F30:=fun_of (K:=kk w.params) (x := "_law_rows") (q := "_law_rows") (s:=s_rows) (f:=223) (pm:=(.str "law_hissroom_k17_best_makes_counted" 406)) (c:=222)
 have F31:=fun_of (K:=kk w.params) (x := "_law_barred") (q := "_law_barred") (s:=s_barred) (f:=228) (pm:=(.str "law_hissroom_k17_best_makes_counted" 406)) (c:=227)
 have F32:=fun_of (K:=kk w.params) (x := "_law_least") (q := "_law_least") (s:=s_least) (f:=233) (pm:=(.str "law_hissroom_k17_best_makes_counted" 406)) (c:=232)
 have F33:=fun_of (K:=kk w.params) (x := "_law_near") (q := "_law_near") (s:=s_near) (f:=267) (pm:=(.str "law_hissroom_k17_best_makes_counted" 406)) (c:=266)
 have F34:=fun_of (K:=kk w.params) (x := "_law_few_next") (q := "_law_few_next") (s:=s_few_next) (f:=238) (pm:=(.str "law_hissroom_k17_best_makes_counted" 406)) (c:=237)
 have F35:=fun_of (K:=kk w.params) (x := "_law_ways_next") (q := "_law_ways_next") (s:=s_ways_next) (f:=250) (pm:=(.str "law_hissroom_k17_best_makes_counted" 406)) (c:=249)
 have F36:=fun_of (K:=kk w.params) (x := "_law_ways") (q := "_law_ways") (s:=s_ways) (f:=257) (pm:=(.str "law_hissroom_k17_best_makes_counted" 406)) (c:=256)
 have F37:=fun_of (K:=kk w.params) (x := "law") (q := "law") (s:=s_law) (f:=274) (pm:=(.str "law_hissroom_k17_best_makes_counted" 406)) (c:=273)
 refine⟨PySem.W.fnOf "law" "law" (defArgs s_law) (defBody s_law) (defScope s_law) .none .none .none (.str "law_hissroom_k17_best_makes_counted" 406) none (.ref 273) .none,fun s v=>.of_eq rfl,fun base _ _=>?_⟩
 have C0:=cal_of (P:=lw.prog) (w:=w) (base:=base) (k:=1) (ps:=["_law_script"]) (sp:=(spBoxQ (kk w.params))) X G F0 (ok_box F0 T ) (F0.binds fun _ _ _ _ _ _=>bn1 fun _=>rfl)
 have C1:=cal_of (P:=lw.prog) (w:=w) (base:=base) (k:=1) (ps:=["_law_box_here", "_law_many"]) (sp:=(spD fTake)) X G F1 (ok_take F1 T ) (F1.binds fun _ _ _ _ _ _=>bnS fun _=>bn1 fun _=>rfl)
 have C2:=cal_of (P:=lw.prog) (w:=w) (base:=base) (k:=2) (ps:=["_law_box_here", "_law_size"]) (sp:=(spD fBars)) X G F2 (ok_bars F2 T  C1) (F2.binds fun _ _ _ _ _ _=>bnS fun _=>bn1 fun _=>rfl)
 have C3:=cal_of (P:=lw.prog) (w:=w) (base:=base) (k:=2) (ps:=["_law_box_here", "_law_size"]) (sp:=(spD fCuts)) X G F3 (ok_cuts F3 T  C1) (F3.binds fun _ _ _ _ _ _=>bnS fun _=>bn1 fun _=>rfl)
 have C4:=cal_of (P:=lw.prog) (w:=w) (base:=base) (k:=2) (ps:=["_law_box_here", "_law_size", "_law_cuts_here", "_law_texts"]) (sp:=(spD fPatched)) X G F4 (ok_patched F4 T  C1) (F4.binds fun _ _ _ _ _ _=>bnS fun _=>bnS fun _=>bnS fun _=>bn1 fun _=>rfl)
 have C5:=cal_of (P:=lw.prog) (w:=w) (base:=base) (k:=3) (ps:=["_law_box_here", "_law_most"]) (sp:=(spD fShelf)) X G F5 (ok_shelf F5 T  C1 C2 C3 C4) (F5.binds fun _ _ _ _ _ _=>bnS fun _=>bn1 fun _=>rfl)
 have C6:=cal_of (P:=lw.prog) (w:=w) (base:=base) (k:=6) (ps:=["_law_found", "_law_due"]) (sp:=(spD fSame)) X G F6 ((ok_same F6 T  (PySem.W.mg_of X G (by kernel_rfl)) F6.kp (F6.binds fun _ _ _ _ _ _=>bnS fun _=>bn1 fun _=>rfl)  5).imp fun vs H Q E h=>same_imp h) (F6.binds fun _ _ _ _ _ _=>bnS fun _=>bn1 fun _=>rfl)
 have C7:=cal_of (P:=lw.prog) (w:=w) (base:=base) (k:=1) (ps:=["size", "cuts"]) (sp:=(spD fEnds)) X G F7 (ok_ends F7 T ) (F7.binds fun _ _ _ _ _ _=>bnS fun _=>bn1 fun _=>rfl)
 have C8:=cal_of (P:=lw.prog) (w:=w) (base:=base) (k:=2) (ps:=["size", "cuts"]) (sp:=(spD fPieces)) X G F8 (ok_pieces F8 T  C7) (F8.binds fun _ _ _ _ _ _=>bnS fun _=>bn1 fun _=>rfl)
 have C9:=cal_of (P:=lw.prog) (w:=w) (base:=base) (k:=3) (ps:=["size", "cuts", "takes"]) (sp:=(spD fBarOf)) X G F9 (ok_bar_of F9 T  C8) (F9.binds fun _ _ _ _ _ _=>bnS fun _=>bnS fun _=>bn1 fun _=>rfl)
 have C10:=cal_of (P:=lw.prog) (w:=w) (base:=base) (k:=2) (ps:=["size", "cuts", "text", "end"]) (sp:=(spD fFarthest)) X G F10 (ok_farthest F10 T  C7) (F10.binds fun _ _ _ _ _ _=>bnS fun _=>bnS fun _=>bnS fun _=>bn1 fun _=>rfl)
 have C11:=cal_of (P:=lw.prog) (w:=w) (base:=base) (k:=3) (ps:=["size", "cuts", "takes"]) (sp:=(spD fTakeRows)) X G F11 (ok_take_rows F11 T  C7 C10) (F11.binds fun _ _ _ _ _ _=>bnS fun _=>bnS fun _=>bn1 fun _=>rfl)
 have C12:=cal_of (P:=lw.prog) (w:=w) (base:=base) (k:=1) (ps:=["places", "rows", "age"]) (sp:=(spD fCleanRow)) X G F12 (ok_clean_row F12 T ) (F12.binds fun _ _ _ _ _ _=>bnS fun _=>bnS fun _=>bn1 fun _=>rfl)
 have C13:=cal_of (P:=lw.prog) (w:=w) (base:=base) (k:=2) (ps:=["places", "rows", "before", "age"]) (sp:=(spD fNextM)) X G F13 (ok_next_reach F13 T  C12) (F13.binds fun _ _ _ _ _ _=>bnS fun _=>bnS fun _=>bnS fun _=>bn1 fun _=>rfl)
 have C14:=cal_of (P:=lw.prog) (w:=w) (base:=base) (k:=1) (ps:=["takes"]) (sp:=(spD fYoungest)) X G F14 (ok_youngest F14 T ) (F14.binds fun _ _ _ _ _ _=>bn1 fun _=>rfl)
 have C15:=cal_of (P:=lw.prog) (w:=w) (base:=base) (k:=4) (ps:=["size", "cuts", "takes"]) (sp:=(spD fLeast)) X G F15 (ok_least_age F15 T  C9 C7 C11 C14 C13) (F15.binds fun _ _ _ _ _ _=>bnS fun _=>bnS fun _=>bn1 fun _=>rfl)
 have C16:=cal_of (P:=lw.prog) (w:=w) (base:=base) (k:=1) (ps:=["places"]) (sp:=(spD fNoMake)) X G F16 (ok_no_make F16 T ) (F16.binds fun _ _ _ _ _ _=>bn1 fun _=>rfl)
 have C17:=cal_of (P:=lw.prog) (w:=w) (base:=base) (k:=2) (ps:=["places"]) (sp:=(spD fBareT)) X G F17 (ok_bare_table F17 T  C16) (F17.binds fun _ _ _ _ _ _=>bn1 fun _=>rfl)
 have C18:=cal_of (P:=lw.prog) (w:=w) (base:=base) (k:=1) (ps:=["lefts", "rights", "none"]) (sp:=(spD fFewestJ)) X G F18 (ok_fewest_joined F18 T ) (F18.binds fun _ _ _ _ _ _=>bnS fun _=>bnS fun _=>bn1 fun _=>rfl)
 have C19:=cal_of (P:=lw.prog) (w:=w) (base:=base) (k:=2) (ps:=["places", "clean", "before"]) (sp:=(spD fNextTab)) X G F19 (ok_next_table F19 T  C16 C18) (F19.binds fun _ _ _ _ _ _=>bnS fun _=>bnS fun _=>bn1 fun _=>rfl)
 have C20:=cal_of (P:=lw.prog) (w:=w) (base:=base) (k:=4) (ps:=["size", "cuts", "takes", "age"]) (sp:=(spD fFewTabs)) X G F20 (ok_few_tables F20 T  C7 C11 C17 C14 C19 C12) (F20.binds fun _ _ _ _ _ _=>bnS fun _=>bnS fun _=>bnS fun _=>bn1 fun _=>rfl)
 have C21:=calm_of (P:=lw.prog) (w:=w) (mg:=mg) (base:=base) (C:=168) (k:=1) (ps:=["self", "stretch"]) (sp:=(spD (fIsTake 168))) F21 (ok_BestMakes_is_take F21 T Z_BestMakes) (F21.binds fun _ _ _ _ _ _=>bnS fun _=>bn1 fun _=>rfl)
 have C22:=calm_of (P:=lw.prog) (w:=w) (mg:=mg) (base:=base) (C:=168) (k:=1) (ps:=["self", "stretch"]) (sp:=(spD (fCleanT 168))) F22 (ok_BestMakes_clean_takes F22 T Z_BestMakes) (F22.binds fun _ _ _ _ _ _=>bnS fun _=>bn1 fun _=>rfl)
 have C23:=calm_of (P:=lw.prog) (w:=w) (mg:=mg) (base:=base) (C:=168) (k:=1) (ps:=["self", "stretch"]) (sp:=(spD (fHalves 168))) F23 (ok_BestMakes_halves F23 T Z_BestMakes) (F23.binds fun _ _ _ _ _ _=>bnS fun _=>bn1 fun _=>rfl)
 have C25:=calm_of (P:=lw.prog) (w:=w) (mg:=mg) (base:=base) (C:=168) (k:=144) (ps:=["self", "stretch"]) (sp:=(spD (fCnt 168 71))) F25 (ok_counts F25 F24 T Z_BestMakes ⟨by kernel_rfl,by kernel_rfl,by kernel_rfl⟩ ⟨by kernel_rfl,by kernel_rfl,by kernel_rfl⟩ (F25.binds fun _ _ _ _ _ _=>bnS fun _=>bn1 fun _=>rfl) (F24.binds fun _ _ _ _ _ _=>bnS fun _=>bn1 fun _=>rfl) C21 C22 C23 71) (F25.binds fun _ _ _ _ _ _=>bnS fun _=>bn1 fun _=>rfl)
 have C26:=cali_of (P:=lw.prog) (w:=w) (base:=base) (C:=168) (y := "BestMakes") (k:=5) (ps:=["self", "size", "cuts", "takes"]) (sp:=(spD (fInit 168))) X G F26 (ok_BestMakes___init__ F26 T Z_BestMakes C7 C11 C15 C20) (F26.binds fun _ _ _ _ _ _=>bnS fun _=>bnS fun _=>bnS fun _=>bn1 fun _=>rfl)
 have C27:=cal_of (P:=lw.prog) (w:=w) (base:=base) (k:=145) (ps:=["size", "cuts", "takes"]) (sp:=(spD fCountBest)) X G F27 (ok_count_best F27 T Z_BestMakes C9 C26 C25) (F27.binds fun _ _ _ _ _ _=>bnS fun _=>bnS fun _=>bn1 fun _=>rfl)
 have C28:=cal_of (P:=lw.prog) (w:=w) (base:=base) (k:=1) (ps:=["_law_border", "_law_text", "_law_end"]) (sp:=(spD fFar)) X G F28 (ok_far F28 T ) (F28.binds fun _ _ _ _ _ _=>bnS fun _=>bnS fun _=>bn1 fun _=>rfl)
 have C29:=cal_of (P:=lw.prog) (w:=w) (base:=base) (k:=2) (ps:=["_law_border", "_law_takes", "_law_age"]) (sp:=(spD fOwn)) X G F29 (ok_own F29 T  C28) (F29.binds fun _ _ _ _ _ _=>bnS fun _=>bnS fun _=>bn1 fun _=>rfl)
 have C30:=cal_of (P:=lw.prog) (w:=w) (base:=base) (k:=3) (ps:=["_law_border", "_law_takes", "_law_many"]) (sp:=(spD fRows)) X G F30 (ok_rows F30 T  C29) (F30.binds fun _ _ _ _ _ _=>bnS fun _=>bnS fun _=>bn1 fun _=>rfl)
 have C31:=cal_of (P:=lw.prog) (w:=w) (base:=base) (k:=1) (ps:=["_law_border", "_law_takes"]) (sp:=(spD fBarred)) X G F31 (ok_barred F31 T ) (F31.binds fun _ _ _ _ _ _=>bnS fun _=>bn1 fun _=>rfl)
 have C32:=cal_of (P:=lw.prog) (w:=w) (base:=base) (k:=4) (ps:=["_law_border", "_law_takes"]) (sp:=(spD fLeastL)) X G F32 (ok_least F32 T  C31 C30) (F32.binds fun _ _ _ _ _ _=>bnS fun _=>bn1 fun _=>rfl)
 have C33:=cal_of (P:=lw.prog) (w:=w) (base:=base) (k:=1) (ps:=["_law_takes"]) (sp:=(spD fNear)) X G F33 (ok_near F33 T ) (F33.binds fun _ _ _ _ _ _=>bn1 fun _=>rfl)
 have C34:=cal_of (P:=lw.prog) (w:=w) (base:=base) (k:=1) (ps:=["_law_border", "_law_own_here", "_law_last"]) (sp:=(spD fFewNext)) X G F34 (ok_few_next F34 T ) (F34.binds fun _ _ _ _ _ _=>bnS fun _=>bnS fun _=>bn1 fun _=>rfl)
 have C35:=cal_of (P:=lw.prog) (w:=w) (base:=base) (k:=3) (ps:=["_law_border", "_law_takes", "_law_age", "_law_fews", "_law_last"]) (sp:=(spD fWaysNext)) X G F35 (ok_ways_next F35 T  C28) (F35.binds fun _ _ _ _ _ _=>bnS fun _=>bnS fun _=>bnS fun _=>bnS fun _=>bn1 fun _=>rfl)
 have C36:=cal_of (P:=lw.prog) (w:=w) (base:=base) (k:=5) (ps:=["_law_border", "_law_takes", "_law_age"]) (sp:=(spD fWays)) X G F36 (ok_ways F36 T  C29 C34 C35) (F36.binds fun _ _ _ _ _ _=>bnS fun _=>bnS fun _=>bn1 fun _=>rfl)
 exact ok_law F37 T  C0 C1 C5 C33 C32 C36 C6 C27
end Pf
theorem PySem.Challenge.cw_hissroom_k17_best_makes_counted_holds : PySem.Challenge.rw_hissroom_k17_best_makes_counted.Holds :=
 Pf.holds Pf.fin