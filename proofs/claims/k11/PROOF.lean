import PyProof.Rows.All
import Wide.All
import OpenK.AllK
import Wide.FinOn
import Lean
import PyProof.EqAt
import PyProof.EqKinds
import PyProof.TupleCall
import PyProof.NeKinds
import PyProof.ListRange
import PyProof.TupleOfGen
import PyProof.DictRoadsH
import PyProof.Rows.FStr
import PyProof.ExcBaseAll.ValueError
import PyProof.ExcClass2
import PyProof.ExcArgsOwn
import PyProof.ExcAttrAll.ValueError
import KE.KIsAll
import PyProof.RulesAs
import PyProof.NsDelKeeps
import PyProof.ConsumeWalk
import PyProof.ZipIter
import PyProof.Rows.ZipGen
import PyProof.Rows.SeqGen
import PyProof.Rows.FactsT2
import PyProof.WalkInts
import PyProof.Rows.MinMaxN
import KE.KSortAsk
import PyProof.Rows.FactsT3
import PyProof.Rows.CallKwBuiltin
import KE.KMinKey
import PyProof.Conv_int_bool
import PySem.Challenge.RW_arrowhall_k11_all_changes
set_option Elab.async false
set_option linter.all false
set_option maxRecDepth 100000
set_option maxHeartbeats 4000000
open PySem.W (instObj Frag plainGet hasDictIn findIn emptyDict kitOne kia_one keepIn fnOf codeIn nsIn callWith_K mg_of mg_none_of)
noncomputable section
namespace L2
open PySem PySem.Spec PyProof.Rows
abbrev Key:=Sum Int Str
def CA:Key->Value->Bool
 | .inl k,v=>Value.isInt k v
 | .inr x,v=>Value.isStrOf x v
def Gy (w:World):Key->Int
 | .inl k=>hashInt k
 | .inr x=>hashStr w x
theorem ck:∀{k:Key} {v:Value},CA k v=true->(∃i t,k=Sum.inl i/\v=Value.int i t)\/(∃x t,k=Sum.inr x/\v=Value.str x t)
 | .inl i,v,h=>by
  obtain⟨t,e⟩:=Value.isInt_shape (k:=i) (v:=v) h;exact .inl ⟨i,t,rfl,e⟩
 | .inr x,v,h=>by
  obtain⟨t,e⟩:=Value.isStrOf_shape (x:=x) (v:=v) h;exact .inr ⟨x,t,rfl,e⟩
theorem D1 (a b:Int):decide ((Sum.inl a:Key)=Sum.inl b)=(a==b):=by
 by_cases e:a=b
 ·subst e;simp
 ·have h:¬ (Sum.inl a:Key)=Sum.inl b:=λq=>e (Sum.inl.inj q);rw[decide_eq_false h];exact(beq_eq_false_iff_ne.mpr e).symm
theorem DY (a b:Str):decide ((Sum.inr a:Key)=Sum.inr b)=decide (a=b):=by
 by_cases e:a=b
 ·subst e;simp
 ·have h:¬ (Sum.inr a:Key)=Sum.inr b:=λq=>e (Sum.inr.inj q);rw[decide_eq_false h,decide_eq_false e]
theorem D0 (a:Int) (b:Str):decide ((Sum.inl a:Key)=Sum.inr b)=false:=decide_eq_false (λq=>nomatch q)
theorem DZ (a:Str) (b:Int):decide ((Sum.inr a:Key)=Sum.inl b)=false:=decide_eq_false (λq=>nomatch q)
def v8 (prog:Program) (w:World):PySem.KeyKind prog w Key where
 is:=CA
 hash:=Gy w
 inj:=λv a b ha hb=>by
  rcases ck ha with⟨i,t,rfl,rfl⟩|⟨x,t,rfl,rfl⟩
  ·rcases ck hb with⟨j,u,rfl,e⟩|⟨y,u,rfl,e⟩
   ·injection e with e1 _;rw[e1]
   ·exact nomatch e
  ·rcases ck hb with⟨j,u,rfl,e⟩|⟨y,u,rfl,e⟩
   ·exact nomatch e
   ·injection e with e1 _;rw[e1]
 byValue:=λk v h=>by
  rcases ck h with⟨i,t,rfl,rfl⟩|⟨x,t,rfl,rfl⟩<;>rfl
 pyHash:=λhv h=>by
  rcases ck hv with⟨i,t,rfl,rfl⟩|⟨x,t,rfl,rfl⟩
  ·exact wpAny_pyHash_int h
  ·exact wpAny_pyHash_str h
 eqBool:=λhu hv h=>by
  rcases ck hu with⟨i,t,rfl,rfl⟩|⟨x,t,rfl,rfl⟩
  ·rcases ck hv with⟨j,u,rfl,rfl⟩|⟨y,u,rfl,rfl⟩
   ·rw[D1]at h;exact wpAny_eqBool_int h
   ·rw[D0]at h;exact SeqAt.EqAt.int_str i t y u _ _ _ _ h
  ·rcases ck hv with⟨j,u,rfl,rfl⟩|⟨y,u,rfl,rfl⟩
   ·rw[DZ]at h;exact SeqAt.EqAt.str_int x t j u _ _ _ _ h
   ·rw[DY]at h;exact wpAny_eqBool_str h
 «strs»:=λk x t v h=>by
  rcases ck h with⟨i,u,rfl,e⟩|⟨y,u,rfl,e⟩
  ·exact nomatch e
  ·injection e with e1 _;subst e1;cases v<;>rfl
end L2
namespace L2
open PySem PySem.Spec PyProof.Rows
inductive V where
 | non|bl (b:Bool)|int (i:Int)|str (x:Str)|byt (b:Array UInt8)|flt (b:UInt64)|ref (a:Addr)|ty (n:String)
 deriving DecidableEq
def RelV:V->Value->Prop
 | .non,u=>u=Value.none
 | .bl b,u=>u=Value.bool b
 | .int i,u=>∃t,u=Value.int i t
 | .str x,u=>∃t,u=Value.str x t
 | .byt b,u=>∃t,u=Value.bytes b t
 | .flt b,u=>∃t,u=Value.float b t
 | .ref a,u=>u=Value.ref a
 | .ty n,u=>u=Value.type n
abbrev Vals:List V->List Value->Prop:=Paired RelV
theorem Vals.length {xs:List V} {us:List Value} (r:Vals xs us):xs.length=us.length:=Paired.length r
theorem Vals.get:∀{xs:List V} {us:List Value} {i:Nat} {x:V},Vals xs us->xs[i]?=some x->∃u,us[i]?=some u/\RelV x u
 | _,_,_,_,.nil,e=>by simp at e
 | _,_,0,_,.cons r _,e=>by simp at e;subst e;exact⟨_,rfl,r⟩
 | _,_,i+1,x,.cons _ t,e=>by
  obtain⟨u,h1,h2⟩:=Vals.get (i:=i) (x:=x) t (by simpa using e);exact⟨u,by simpa using h1,h2⟩
theorem Vals.set {x:V} {u:Value} (r:RelV x u):∀{xs:List V} {us:List Value} (i:Nat),Vals xs us->Vals (xs.set i x) (us.set i u)
 | _,_,_,.nil=>.nil
 | _,_,0,.cons _ t=>.cons r t
 | _,_,i+1,.cons q t=>.cons q (Vals.set r i t)
theorem Vals.append:∀{xs ys:List V} {us ws:List Value},Vals xs us->Vals ys ws->Vals (xs++ys) (us++ws)
 | _,_,_,_,.nil,s=>s
 | _,_,_,_,.cons r t,s=>.cons r (Vals.append t s)
theorem Vals.take:∀{xs:List V} {us:List Value} (n:Nat),Vals xs us->Vals (xs.take n) (us.take n)
 | _,_,0,_=>.nil
 | _,_,_+1,.nil=>.nil
 | _,_,n+1,.cons r t=>.cons r (Vals.take n t)
theorem Vals.drop:∀{xs:List V} {us:List Value} (n:Nat),Vals xs us->Vals (xs.drop n) (us.drop n)
 | _,_,0,r=>r
 | _,_,_+1,.nil=>.nil
 | _,_,n+1,.cons _ t=>Vals.drop n t
def RelO:Option V->Option Value->Prop
 | some v,some u=>RelV v u
 | none,none=>True
 | _,_=>False
def KV {κ:Type}:List (κ×V)->List (κ×Value)->Prop:=Paired λ(p:κ×V) (q:κ×Value)=>p.1=q.1/\RelV p.2 q.2
def kV:Key->V
 | .inl i=>.int i
 | .inr x=>.str x
inductive HO where
  | lst (xs:List V)
  | tup (xs:List V)
  | dK (kvs:List (Key×V))|dT (kvs:List (List Key×V))
  | set (S:Int->Bool) (n:Nat)
  | ins (C dx:Addr) (fs:List (Str×V))
  | own (x:Addr)
  | xd (fs:List (Str×V))
  | met (f x:Addr)
  | rng (lo hi:Int)
  | frz (o:Obj) (u:HO)
  | tbl (ps:Array Value)
  | ext (φ:Heap->Prop)
abbrev Hp:=Addr->Option HO
def upd (H:Hp) (a:Addr) (o:HO):Hp:=λb=>if b=a then some o else H b
variable {H:Hp} {a:Addr}
theorem aF {o:HO}:upd H a o a=some o:=by unfold upd;rw[if_pos rfl]
variable {b:Addr}
theorem aw {o:HO} (h:b≠a):upd H a o b=H b:=by unfold upd;rw[if_neg h]
theorem ba {o:HO} (h:H a=some o) (h':H b=none):a≠b:=by
 intro e;subst e;rw[h]at h';cases h'
section
variable (P:Program) (w:World)
def ObjOk (H:Hp) (h:Heap) (a:Addr):HO->Prop
 | .lst xs=>xs.length<=sizeLine/\∃(its:List Value) (n:Nat),Vals xs its/\h.get? a=some { cls:=.type "list",data:=.seq its.toArray n }
 | .tup xs=>xs.length<=sizeLine/\∃its:List Value,Vals xs its/\IsTup h a its.toArray
 | .dK kvs=>kvs.length<=sizeLine/\(a==sysModules)=false/\∃vs,KV kvs vs/\h.DictOf (v8 P w) a vs
 | .dT kvs=>kvs.length<=sizeLine/\(a==sysModules)=false/\∃xs:List (List Key×Addr×Value),
   Paired (λ(p:List Key×V) (q:List Key×Addr×Value)=>p.1=q.1/\H q.2.1=some (.tup (p.1.map kV))/\RelV p.2 q.2.2) kvs xs /\
   ∃o es ep,h.get? a=some o/\o.ExactDict/\o.data=.dict es ep/\es.toList=xs.map (entryOfKey (tupleKind (v8 P w)))/\(xs.map (·.1)).Nodup
 | .set S n=>h.SetOf (intKind P w) a S n
 | .ins C dx fs=>H dx=some (.own a)/\fs.length<=1000/\dx≠a/\h.get? a=some (instObj C dx) /\
   ∃mA,h.Ns1 dx mA/\(∀f,RelO (fs.lookup f) (mA f))/\PySem.Within mA (fs.map (·.1))
 | .own _=>∃o,h.get? a=some o
 | .xd fs=>∃mA,h.Ns1 a mA/\∀f,RelO (fs.lookup f) (mA f)
 | .rng lo hi=>∃t u v,h.get? a=some { cls:=.type "range",data:=.fields #[.int lo t,.int hi u,.int 1 v] }
 | .frz o u=>h.get? a=some o/\ObjOk H h a u
 | .tbl ps=>h.get? a=some { cls:=.none,data:=.fields ps }
 | .met f x=>h.get? a=some (PySem.W.methodObj (.ref f) (.ref x))
 | .ext φ=>φ h/\(∃o,h.get? a=some o)/\∀h1 h2:Heap,φ h1->(∀o,h1.get? a=some o->h2.get? a=some o)->φ h2
def HOk (H:Hp) (h:Heap):Prop:=∀a o,H a=some o->ObjOk P w H h a o
end
section
variable {P:Program} {w:World} {H H':Hp} {h h':Heap} {a:Addr} {o:HO}
theorem ObjOk.lt (x:ObjOk P w H h a o):a<h.objs.size:=by
 cases o with
 | lst xs=>obtain⟨_,_,_,_,e⟩:=x;exact Heap.lt_size e
 | tup xs=>obtain⟨_,_,_,p⟩:=x;exact p.lt
 | dK kvs=>obtain⟨_,_,_,_,o,_,_,e,_⟩:=x;exact Heap.lt_size e
 | dT kvs=>obtain⟨_,_,_,_,o,_,_,e,_⟩:=x;exact Heap.lt_size e
 | set S n=>obtain⟨o,_,_,_,e,_⟩:=x;exact Heap.lt_size e
 | ins C dx fs=>obtain⟨_,_,_,e,_⟩:=x;exact Heap.lt_size e
 | own y=>obtain⟨_,e⟩:=x;exact Heap.lt_size e
 | xd fs=>obtain⟨_,⟨_,_,_,e,_⟩,_⟩:=x;exact Heap.lt_size e
 | rng lo hi=>obtain⟨_,_,_,e⟩:=x;exact Heap.lt_size e
 | frz ob u=>obtain⟨e,_⟩:=x;exact Heap.lt_size e
 | tbl ps=>exact Heap.lt_size (show h.get? a=some _ from x)
 | met f y=>exact Heap.lt_size (show h.get? a=some _ from x)
 | ext φ=>obtain⟨_,⟨_,e⟩,_⟩:=x;exact Heap.lt_size e
theorem Paired.mapP {Y β:Type} {F G:Y->β->Prop}:∀{l₁:List Y} {l₂:List β},Paired F l₁ l₂->(∀a b,F a b->G a b)->Paired G l₁ l₂
 | _,_,.nil,_=>.nil
 | _,_,.cons r t,f=>.cons (f _ _ r) (Paired.mapP t f)
theorem ObjOk.stay (x:ObjOk P w H h a o) (k:∀b u,(b=a\/H b=some (.own a))->h.get? b=some u->h'.get? b=some u)
  (ho:∀b,H b=some (.own a)->H' b=some (.own a)) (ht:∀b xs,H b=some (.tup xs)->H' b=some (.tup xs)):ObjOk P w H' h' a o:=by
 induction o with
 | lst xs=>obtain⟨z,its,n,r,e⟩:=x;exact⟨z,its,n,r,k _ _ (.inl rfl) e⟩
 | tup xs=>obtain⟨z,its,r,ob,e,c⟩:=x;exact⟨z,its,r,ob,k _ _ (.inl rfl) e,c⟩
 | dK kvs=>obtain⟨z,y,vs,r,ob,es,ep,e,c⟩:=x;exact⟨z,y,vs,r,ob,es,ep,k _ _ (.inl rfl) e,c⟩
 | dT kvs =>
  obtain⟨z,y,xs,r,ob,es,ep,e,c⟩:=x;exact⟨z,y,xs,Paired.mapP r λp q z=>⟨z.1,ht _ _ z.2.1,z.2.2⟩,ob,es,ep,k _ _ (.inl rfl) e,c⟩
 | set S n=>obtain⟨ob,es,ep,t,e,c⟩:=x;exact⟨ob,es,ep,t,k _ _ (.inl rfl) e,c⟩
 | ins C dx fs =>
  obtain⟨d,z,ne,e,mA,⟨od,es,ep,e2,c⟩,r⟩:=x;exact⟨ho _ d,z,ne,k _ _ (.inl rfl) e,mA,⟨od,es,ep,k _ _ (.inr d) e2,c⟩,r⟩
 | own y=>obtain⟨ob,e⟩:=x;exact⟨ob,k _ _ (.inl rfl) e⟩
 | xd fs=>obtain⟨mA,⟨od,es,ep,e,c⟩,r⟩:=x;exact⟨mA,⟨od,es,ep,k _ _ (.inl rfl) e,c⟩,r⟩
 | rng lo hi=>obtain⟨t,u,v,e⟩:=x;exact⟨t,u,v,k _ _ (.inl rfl) e⟩
 | frz ob u ih=>obtain⟨e,q⟩:=x;exact⟨k _ _ (.inl rfl) e,ih q⟩
 | tbl ps =>
  have e:h.get? a=some { cls:=.none,data:=.fields ps }:=x;show h'.get? a=some { cls:=.none,data:=.fields ps };exact k a _ (.inl rfl) e
 | met f y =>
  have e:h.get? a=some (PySem.W.methodObj (.ref f) (.ref y)):=x;show h'.get? a=some (PySem.W.methodObj (.ref f) (.ref y));exact k a _ (.inl rfl) e
 | ext φ=>obtain⟨p,⟨o,e⟩,st⟩:=x;exact⟨st _ _ p λo q=>k _ _ (.inl rfl) q,⟨o,k _ _ (.inl rfl) e⟩,st⟩
theorem HOk.lt (x:HOk P w H h) (e:H a=some o):a<h.objs.size:=(x a o e).lt
theorem HOk.fresh (x:HOk P w H h) (e:h.objs.size<=a):H a=none:=by
 cases q:H a with
 | none=>rfl
 | some u=>exact absurd (Nat.lt_of_lt_of_le (x.lt q) e) (Nat.lt_irrefl _)
theorem HOk.kept (x:HOk P w H h) (k:∀b u,h.get? b=some u->h'.get? b=some u):HOk P w H h':=λa o e =>
 (x a o e).stay (λb u _ q=>k b u q) (λ_ q=>q) λ_ _ q=>q
theorem HOk.laid (x:HOk P w H h) (k:∀b u,h.get? b=some u->h'.get? b=some u) (hp:h.objs.size<=a) (new:ObjOk P w (upd H a o) h' a o):HOk P w (upd H a o) h':=λb u e=>by
 have hn:=x.fresh hp;by_cases hb:b=a
 ·subst hb;rw[aF]at e;cases e;exact new
 ·rw[aw hb]at e;exact(x b u e).stay (λc v _ q=>k c v q) (λc q=>by rw[aw (ba q hn)];exact q) λc xs q=>by rw[aw (ba q hn)];exact q
end
def Rd (H:Hp) (a:Addr) (u:HO):Prop:=H a=some u\/∃o,H a=some (.frz o u)
variable {h:Heap}
theorem Rd.ok {P:Program} {w:World} {u:HO} (r:Rd H a u) (x:HOk P w H h):ObjOk P w H h a u:=by
 rcases r with r|⟨o,r⟩
 ·exact x a u r
 ·obtain⟨_,q⟩:=x a _ r;exact q
def Mut:Option HO->Prop
 | some (.lst _)=>True
 | some (.dK _)=>True
 | some (.dT _)=>True
 | some (.set _ _)=>True
 | some (.ins _ _ _)=>True
 | some (.ext _)=>True
 | _=>False
section
variable {P:Program} {w:World} {H:Hp} {h h':Heap} {x e:Addr} {o':HO}
theorem HOk.write (ok:HOk P w H h) (mu:Mut (H x)) (he:e=x\/H e=some (.own x)) (k:∀b u,b≠e->h.get? b=some u->h'.get? b=some u) (heo:∃u,h'.get? e=some u)
  (new:ObjOk P w (upd H x o') h' x o'):HOk P w (upd H x o') h':=λb u q=>by
 have nown:∀c y,H c=some (.own y)->c≠x:=λc y r z=>by subst z;rw[r]at mu;exact mu
 have ntup:∀c xs,H c=some (.tup xs)->c≠x:=λc xs r z=>by subst z;rw[r]at mu;exact mu
 by_cases hb:b=x
 ·subst hb;rw[aF]at q;cases q;exact new
 ·rw[aw hb]at q;by_cases hbe:b=e
  ·have q':H b=some (.own x):=by
    rcases he with z|z
    ·exact absurd (hbe.trans z) hb
    ·rw[hbe];exact z
   rw[q]at q';cases q';obtain⟨v,hv⟩:=heo;exact⟨v,by rw[hbe];exact hv⟩
  ·refine(ok b u q).stay (λc v hc r=>k c v ?_ r) (λc r=>by rw[aw (nown c b r)];exact r) λc xs r=>by rw[aw (ntup c xs r)];exact r
   rcases hc with rfl|hc
   ·exact hbe
   ·rintro rfl;rcases he with z|z
    ·exact nown c b hc z
    ·rw[hc]at z;cases z;exact hb rfl
end
structure Un (fs ex:List Addr) (H H':Hp) (h h':Heap):Prop where
 keep:∀b o,h.get? b=some o->H b=none->b∉fs->b∉ex->h'.get? b=some o
 slot:∀b o,h.get? b=some o->H b=none->b∈fs->b∉ex->∃sl,h'.get? b=some { o with slots:=sl }
 free:∀b o,h.get? b=some o->H b=none->b∉ex->H' b=none
 there:∀b o,h.get? b=some o->b∉ex->∃o',h'.get? b=some o'
 tups:∀b xs,H b=some (.tup xs)->H' b=some (.tup xs)
 frzs:∀b o u,H b=some (.frz o u)->H' b=some (.frz o u)
 tbls:∀b ps,H b=some (.tbl ps)->∃more,H' b=some (.tbl (ps++more))
section
variable {fs fs' ex ex':List Addr} {H H1 H2:Hp} {h h1 h2 h':Heap} {a x e:Addr} {o:HO}
theorem Un.any (u:Un fs ex H H1 h h1) {ob:Obj} (q:h.get? b=some ob) (n:H b=none) (hx:b∉ex):∃sl,h1.get? b=some { ob with slots:=sl }:=by
 by_cases hb:b∈fs
 ·exact u.slot b ob q n hb hx
 ·exact⟨ob.slots,u.keep b ob q n hb hx⟩
theorem Un.kept (k:∀b u,h.get? b=some u->h'.get? b=some u):Un fs ex H H h h' :=
 ⟨λb ob q _ _ _=>k b ob q,λb ob q _ _ _=>⟨ob.slots,k b ob q⟩,λ_ _ _ n _=>n,λb ob q _=>⟨ob,k b ob q⟩,λ_ _ q=>q,λ_ _ _ q=>q,λ_ ps q=>⟨#[],by rw[q];simp⟩⟩
theorem Un.refl:Un fs ex H H h h:=Un.kept λ_ _ q=>q
theorem Un.laid (k:∀b u,h.get? b=some u->h'.get? b=some u) (hp:h.objs.size<=a) (hn:H a=none):Un fs ex H (upd H a o) h h' where
 keep:=λb u q _ _ _=>k b u q
 slot:=λb u q _ _ _=>⟨u.slots,k b u q⟩
 free:=λb u q n _=>by rw[aw (Nat.ne_of_lt (Nat.lt_of_lt_of_le (Heap.lt_size q) hp))];exact n
 there:=λb u q _=>⟨u,k b u q⟩
 tups:=λb xs q=>by rw[aw (ba q hn)];exact q
 frzs:=λb u xs q=>by rw[aw (ba q hn)];exact q
 tbls:=λb ps q=>⟨#[],by rw[aw (ba q hn),q];simp⟩
theorem Un.write (mu:Mut (H x)) (he:e=x\/H e=some (.own x)) (k:∀b u,b≠e->h.get? b=some u->h'.get? b=some u) (heo:∃u,h'.get? e=some u):Un fs ex H (upd H x o) h h':=by
 have hx:∀b,H b=none->b≠x:=λb n z=>by subst z;rw[n]at mu;exact mu
 have hb:∀b,H b=none->b≠e:=λb n z=>by
  subst z;rcases he with r|r
  ·exact hx b n r
  ·rw[n]at r;cases r
 have hm:∀b u,H b=some u->¬ Mut (some u)->b≠x:=λb u q nm z=>by subst z;rw[q]at mu;exact nm mu
 refine⟨λb u q n _ _=>k b u (hb b n) q,λb u q n _ _=>⟨u.slots,k b u (hb b n) q⟩,λb u q n _=>by rw[aw (hx b n)];exact n,λb u q _=>?_,
  λb xs q=>by rw[aw (hm b _ q λz=>z)];exact q,λb u xs q=>by rw[aw (hm b _ q λz=>z)];exact q,λb ps q=>⟨#[],by rw[aw (hm b _ q λz=>z),q];simp⟩⟩
 by_cases hbe:b=e
 ·subst hbe;exact heo
 ·exact⟨u,k b u hbe q⟩
end
def trk (h:Heap) (H:Hp):List Addr:=(List.range h.objs.size).filter λa=>(H a).isSome
def rk (h:Heap) (H:Hp):Heap:=PySem.W.hideAll h (trk h H)
theorem xt (h:Heap) (H:Hp):(rk h H).objs.size=h.objs.size:=PySem.W.hideAll_size _ _
theorem zc {o:Obj} (e:h.get? b=some o) (n:H b=none):(rk h H).get? b=some o :=
 PySem.W.hideAll_get _ e λhm=>by
  have q:(H b).isSome=true:=(List.mem_filter.mp hm).2;rw[n]at q;simp at q
theorem Bj {o:Obj} (e:(rk h H).get? b=some o):h.get? b=some o/\H b=none:=by
 have e':h.get? b=some o:=PySem.W.of_hideAll (trk h H) e;refine⟨e',?_⟩;cases q:H b with
 | none=>rfl
 | some x =>
  have hm:b∈trk h H:=List.mem_filter.mpr ⟨List.mem_range.mpr (Heap.lt_size e'),by simp[q]⟩;have z:(rk h H).get? b=none:=PySem.W.hideAll_none (trk h H) hm;rw[z]at e;cases e
end L2
namespace L2
open PySem PySem.Spec PyProof.Rows
structure Mod (K:Frag) (mg:Str->Option Value) (base:Heap):Prop where
 kin:K.In base
 glob:base.Ns mainGlobals mg
 blt:∃mb,base.Ns builtinsNs mb/\∀x:Str,x ≠ "__name__"->mb x=bootBuiltins x
 nolimit:base.NoLimit
structure Cx where
 prog:Program
 w:World
 K:Frag
 mg:Str->Option Value
 base:Heap
 A:Around
 N:List Str
 s₀:Shared
 H₀:Hp
 env:Env
 outer:List Env
 stack:List Env
 ex:List Addr
 fn:Str->Bool
 calm:Bool
 pn:List (Addr×Obj)
 xe:Value->Shared->Prop
def frs (l:List Env):List Addr:=l.filterMap (·.frame)
abbrev Cx.fs (X:Cx):List Addr:=frs X.outer
def Vis (sc:Scope) (x:Str):Prop:=sc.names.lookup x=some .local\/sc.names.lookup x=some .cell\/sc.names.lookup x=some .free
def Loc (sc:Scope) (x:Str):Prop:=sc.names.lookup x=some .local\/sc.names.lookup x=some .cell
def GY (env:Env) (h:Heap) (m:Str->Option Value) (x:Str) (u:Value):Prop :=
 (env.kindOf x=some .local/\m x=some u)\/((env.kindOf x=some .cell\/env.kindOf x=some .free)/\∃c,env.cells.lookup x=some c/\h.IsCell c (some u))
structure Cx.Ok (X:Cx):Prop where
 mod:Mod X.K X.mg X.base
 kind:X.env.scope.kind=.function
 glob:X.env.globals=mainGlobals
 blt:X.env.builtins=builtinsNs
 above:X.s₀.heap.objs.size<=X.env.locals
 inj:∀x y c,X.env.cells.lookup x=some c->X.env.cells.lookup y=some c->x=y
 has:∀x,(X.env.kindOf x=some .cell\/X.env.kindOf x=some .free)->∃c,X.env.cells.lookup x=some c
 cab:∀x c,X.fn x=true->X.env.cells.lookup x=some c->X.s₀.heap.objs.size<=c
 hd:X.calm=true->X.A.handled=none
 frames:X.A.frames=some X.stack
 stk:X.stack=X.outer\/(X.stack=X.env::X.outer/\X.env.frame=some X.env.locals)
 exf:∀b∈X.ex,b≠X.env.locals/\∀x c,X.env.cells.lookup x=some c->c≠b
 bs:∀b o,X.base.get? b=some o->X.s₀.heap.get? b=some o/\X.H₀ b=none
 bsz:X.base.objs.size<=X.s₀.heap.objs.size
 noex:∀b o,X.base.get? b=some o->b∉X.ex
 exfs:∀b∈X.ex,b∉X.fs
 funs:X.s₀.heap.FunFrames X.base X.outer
 frf:∀b∈X.fs,X.H₀ b=none
structure Inv (X:Cx) (pins:List (Addr×Obj)) (O:List (Option V)) (H:Hp) (s:Shared):Prop where
 ok:X.Ok
 os:s.os=X.s₀.os
 bare:AllBare s.gens
 base:Un X.fs X.ex X.H₀ H X.s₀.heap s.heap
 loc:∃m,s.heap.Ns X.env.locals m/\∀(i:Nat) (x:Str) (v:V),X.N[i]?=some x->O[i]?=some (some v)->Vis X.env.scope x->∃u,RelV v u/\GY X.env s.heap m x u
 cell:∀x c,X.env.cells.lookup x=some c->∃v,s.heap.IsCell c v
 free:H X.env.locals=none
 freeC:∀x c,X.env.cells.lookup x=some c->H c=none
 pin:∀p∈X.pn++pins,s.heap.get? p.1=some p.2/\H p.1=none/\p.1≠X.env.locals/\p.1∉X.fs/\∀v,p.2.data ≠ .cell v
 hok:HOk X.prog X.w H s.heap
 len:O.length=X.N.length
variable {t' i:Nat} {ch:List Addr} {x:Str} {M:Model} {A:Around} {E:Value->Shared->Prop}
section
variable {X:Cx} {pins:List (Addr×Obj)} {O:List (Option V)} {H H':Hp} {s:Shared} {h':Heap}
theorem Cx.Ok.nofr (ok:X.Ok) {b:Addr} {o:Obj} (e:X.base.get? b=some o):b∉X.fs:=λhb=>by
 have:=(ok.funs.mem hb).1;rw[e]at this;cases this
theorem Inv.bs (I:Inv X pins O H s):∀b o,X.base.get? b=some o->s.heap.get? b=some o/\H b=none:=λb o e =>
 ⟨I.base.keep b o (I.ok.bs b o e).1 (I.ok.bs b o e).2 (I.ok.nofr e) (I.ok.noex b o e),I.base.free b o (I.ok.bs b o e).1 (I.ok.bs b o e).2 (I.ok.noex b o e)⟩
theorem Inv.bk (I:Inv X pins O H s):∀b o,X.base.get? b=some o->s.heap.get? b=some o:=λb o e=>(I.bs b o e).1
theorem Inv.mod (I:Inv X pins O H s):Mod X.K X.mg X.base:=I.ok.mod
theorem Inv.kIn (I:Inv X pins O H s):X.K.In s.heap:=I.ok.mod.kin.keeps I.bk
theorem Inv.lt (I:Inv X pins O H s):X.env.locals<s.heap.objs.size:=let ⟨_,hn,_⟩:=I.loc;hn.lt
theorem Inv.sz (I:Inv X pins O H s):X.s₀.heap.objs.size<=s.heap.objs.size:=Nat.le_trans I.ok.above (Nat.le_of_lt I.lt)
theorem Inv.nofs (I:Inv X pins O H s) {a:Addr} (h:s.heap.objs.size<=a):a∉X.fs:=λhb=>by
 obtain⟨_,o,ho,_⟩:=I.ok.funs.mem hb;exact absurd (Nat.lt_of_lt_of_le (Heap.lt_size ho) (Nat.le_trans I.sz h)) (Nat.lt_irrefl _)
theorem Inv.cne (I:Inv X pins O H s):∀x c,X.env.cells.lookup x=some c->c≠X.env.locals:=λx c e z=>by
 obtain⟨v,o,ho,hd⟩:=I.cell x c e;obtain⟨m,⟨o',es,ep,ho',hd',_⟩,_⟩:=I.loc;rw[z,ho']at ho;cases ho;rw[hd']at hd;cases hd
theorem Inv.funs (I:Inv X pins O H s):s.heap.FunFrames X.base X.outer:=by
 have all:∀(l:List Env),(∀b∈frs l,b∈X.fs)->X.s₀.heap.FunFrames X.base l->s.heap.FunFrames X.base l:=by
  intro l
  induction l with
  | nil=>intro _ _;trivial
  | cons env r ih =>
   intro hs hl;obtain⟨hk,⟨L,o,hf,hn,ho,hd⟩,hr⟩:=hl;have hL:L∈X.fs:=hs L (by unfold frs;rw[List.filterMap_cons,hf];exact List.mem_cons_self);obtain⟨sl,e⟩:=I.base.slot L o ho (I.ok.frf L hL) hL λz=>I.ok.exfs L z hL;exact⟨hk,⟨L,_,hf,hn,e,hd⟩,ih (λb hb=>hs b (by unfold frs;rw[List.filterMap_cons,hf];exact List.mem_cons_of_mem _ hb)) hr⟩
 exact all X.outer (λ_ hb=>hb) I.ok.funs
theorem Inv.stack (I:Inv X pins O H s):s.heap.FunFrames X.base X.stack:=by
 rcases I.ok.stk with e|⟨e,hf⟩
 ·rw[e];exact I.funs
 ·rw[e];obtain⟨m,hn,_⟩:=I.loc;refine .cons (by rw[I.ok.kind];decide) hf hn ?_ I.funs;exact Heap.get?_none_of_le (Nat.le_trans I.ok.bsz I.ok.above)
theorem Inv.stkSub (I:Inv X pins O H s):∀b∈frs X.stack,b∈X.env.locals::X.fs:=λb hb=>by
 rcases I.ok.stk with e|⟨e,hf⟩
 ·rw[e]at hb;exact List.mem_cons_of_mem _ hb
 ·rw[e]at hb;unfold frs at hb;rw[List.filterMap_cons,hf]at hb;exact hb
theorem Inv.stkFree (I:Inv X pins O H s):∀b∈frs X.stack,H b=none:=λb hb=>by
 rcases List.mem_cons.mp (I.stkSub b hb)with e|hb
 ·rw[e];exact I.free
 ·obtain⟨_,o,ho,_⟩:=I.ok.funs.mem hb;exact I.base.free b o ho (I.ok.frf b hb) λz=>I.ok.exfs b z hb
theorem Inv.step {g':Array GenState} {d':Drawn} (I:Inv X pins O H s)
  (hch:∀b∈ch,(b∈X.ex\/X.s₀.heap.objs.size<=b)/\b≠X.env.locals/\(∀x c,X.env.cells.lookup x=some c->c≠b)/\∀p∈X.pn++pins,p.1≠b)
  (keep:∀b o,b≠X.env.locals->b∉X.fs->b∉ch->s.heap.get? b=some o->H b=none->h'.get? b=some o)
  (slot:∀b o,b≠X.env.locals->b∈X.fs->b∉ch->s.heap.get? b=some o->H b=none->∃sl,h'.get? b=some { o with slots:=sl }) (free:∀b o,b∉ch->s.heap.get? b=some o->H b=none->H' b=none)
  (there:∀b o,b∉ch->s.heap.get? b=some o->∃o',h'.get? b=some o')
  (tups:∀b xs,H b=some (.tup xs)->H' b=some (.tup xs)) (frzs:∀b o u,H b=some (.frz o u)->H' b=some (.frz o u)) (tbls:∀b ps,H b=some (.tbl ps)->∃more,H' b=some (.tbl (ps++more)))
  (ns:∀m,s.heap.Ns X.env.locals m->h'.Ns X.env.locals m) (hok:HOk X.prog X.w H' h') (hg:AllBare g') :
  Inv X pins O H' { s with heap:=h',gens:=g',drawn:=d',toks:=t' }:=by
 have neL:∀b o,X.s₀.heap.get? b=some o->b≠X.env.locals:=λb o e=>Nat.ne_of_lt (Nat.lt_of_lt_of_le (Heap.lt_size e) I.ok.above);have neC:∀b o,X.s₀.heap.get? b=some o->b∉X.ex->b∉ch:=λb o e hx hb=>by
  rcases(hch b hb).1 with z|z
  ·exact hx z
  ·exact absurd (Nat.lt_of_lt_of_le (Heap.lt_size e) z) (Nat.lt_irrefl _)
 have cellK:∀x c,X.env.cells.lookup x=some c->∀v,s.heap.IsCell c v->h'.IsCell c v:=λx c e v ⟨o,ho,hd⟩=>by
  have nch:c∉ch:=λz=>(hch c z).2.2.1 x c e rfl;by_cases hc:c∈X.fs
  ·obtain⟨sl,q⟩:=slot c o (I.cne x c e) hc nch ho (I.freeC x c e);exact⟨_,q,hd⟩
  ·exact⟨o,keep c o (I.cne x c e) hc nch ho (I.freeC x c e),hd⟩
 refine⟨I.ok,I.os,hg,⟨λb o e n hb hx=>?_,λb o e n hb hx=>?_,λb o e n hx=>?_,λb o e hx=>?_,λb xs e=>tups b xs (I.base.tups b xs e),λb o xs e=>frzs b o xs (I.base.frzs b o xs e),λb ps e=>?_⟩,?_,λx c e=>?_,?_,λx c e=>?_,λp hp=>?_,hok,I.len⟩
 ·exact keep b o (neL b o e) hb (neC b o e hx) (I.base.keep b o e n hb hx) (I.base.free b o e n hx)
 ·obtain⟨sl,e1⟩:=I.base.slot b o e n hb hx;obtain⟨sl',e2⟩:=slot b _ (neL b o e) hb (neC b o e hx) e1 (I.base.free b o e n hx);exact⟨sl',e2⟩
 ·obtain⟨o',e1⟩:=I.base.there b o e hx;exact free b o' (neC b o e hx) e1 (I.base.free b o e n hx)
 ·obtain⟨o',e1⟩:=I.base.there b o e hx;exact there b o' (neC b o e hx) e1
 ·obtain⟨m1,e1⟩:=I.base.tbls b ps e;obtain⟨m2,e2⟩:=tbls b _ e1;exact⟨m1++m2,by rw[e2,Array.append_assoc]⟩
 ·obtain⟨m,hn,hl⟩:=I.loc;refine⟨m,ns m hn,λi x v e1 e2 e3=>?_⟩;obtain⟨u,r,l⟩:=hl i x v e1 e2 e3;refine⟨u,r,?_⟩;rcases l with l|⟨k,c,e,z⟩
  ·exact .inl l
  ·exact .inr ⟨k,c,e,cellK x c e _ z⟩
 ·obtain⟨v,z⟩:=I.cell x c e;exact⟨v,cellK x c e v z⟩
 ·obtain⟨m,⟨o,_,_,ho,_⟩,_⟩:=I.loc;exact free _ o (λz=>(hch _ z).2.1 rfl) ho I.free
 ·obtain⟨v,o,ho,hd⟩:=I.cell x c e;exact free c o (λz=>(hch c z).2.2.1 x c e rfl) ho (I.freeC x c e)
 ·obtain⟨e,n,ne,nf,d⟩:=I.pin p hp;have nch:p.1∉ch:=λz=>(hch p.1 z).2.2.2 p hp rfl;exact⟨keep p.1 p.2 ne nf nch e n,free p.1 p.2 nch e n,ne,nf,d⟩
theorem Inv.un (I:Inv X pins O H s) (u:Un X.fs [] H H' s.heap h') (hok:HOk X.prog X.w H' h'):Inv X pins O H' { s with heap:=h',toks:=t' }:=by
 obtain⟨m,⟨o,es,ep,ho,r⟩,_⟩:=id I.loc;obtain⟨sl,hL⟩:=u.any ho I.free (by simp);exact I.step (g':=s.gens) (d':=s.drawn) (ch:=[]) (λ_ z=>nomatch z) (λb o _ hb _ e n=>u.keep b o e n hb (by simp)) (λb o _ hb _ e n=>u.slot b o e n hb (by simp)) (λb o _ e n=>u.free b o e n (by simp)) (λb o _ e=>u.there b o e (by simp)) u.tups u.frzs u.tbls (λm' hm=>by
  obtain⟨o',es',ep',ho',r'⟩:=hm;rw[ho]at ho';cases ho';exact⟨_,es',ep',hL,r'⟩) hok I.bare
theorem Inv.call {g':Array GenState} {d':Drawn} (I:Inv X pins O H s) (u:Un (frs X.stack) ch H H' s.heap h') (hok:HOk X.prog X.w H' h') (hg:AllBare g')
  (hch:∀b∈ch,(b∈X.ex\/X.s₀.heap.objs.size<=b)/\b≠X.env.locals/\(∀x c,X.env.cells.lookup x=some c->c≠b)/\∀p∈X.pn++pins,p.1≠b) :
  Inv X pins O H' { s with heap:=h',gens:=g',drawn:=d',toks:=t' }:=by
 obtain⟨m,⟨o,es,ep,ho,r⟩,_⟩:=id I.loc;obtain⟨sl,hL⟩:=u.any ho I.free λz=>(hch _ z).2.1 rfl;exact I.step (ch:=ch) hch (λb o hL hb hc e n=>u.keep b o e n (λz=>(List.mem_cons.mp (I.stkSub b z)).elim hL hb) hc) (λb o _ _ hc e n=>u.any e n hc) (λb o hc e n=>u.free b o e n hc) (λb o hc e=>u.there b o e hc) u.tups u.frzs u.tbls (λm' hm=>by
  obtain⟨o',es',ep',ho',r'⟩:=hm;rw[ho]at ho';cases ho';exact⟨_,es',ep',hL,r'⟩) hok hg
theorem Inv.turned {it:Addr} (I:Inv X pins O H s) (k:∀b o,b≠it->s.heap.get? b=some o->h'.get? b=some o) (hn:H it=none) (hL:it≠X.env.locals)
  (h1:it∈X.ex\/X.s₀.heap.objs.size<=it) (h2:∀x c,X.env.cells.lookup x=some c->c≠it) (h3:∀p∈X.pn++pins,p.1≠it):Inv X pins O H { s with heap:=h',toks:=t' }:=by
 have nit:∀b u,H b=some u->b≠it:=λb u e z=>by rw[z,hn]at e;cases e
 refine I.step (g':=s.gens) (d':=s.drawn) (ch:=[it]) (λb hb=>?_) (λb o _ _ hc e _=>k b o (λz=>hc (by simp[z])) e) (λb o _ _ hc e _=>⟨o.slots,k b o (λz=>hc (by simp[z])) e⟩) (λ_ _ _ _ n=>n)
  (λb o hc e=>⟨o,k b o (λz=>hc (by simp[z])) e⟩) (λ_ _ e=>e) (λ_ _ _ e=>e) (λb ps e=>⟨#[],by rw[e];simp⟩) (λm hm=>?_) (λb u e=>?_) I.bare
 ·have e:b=it:=by simpa using hb
  subst e;exact⟨h1,hL,h2,h3⟩
 ·obtain⟨o,es,ep,ho,r⟩:=hm;exact⟨o,es,ep,k _ o (Ne.symm hL) ho,r⟩
 ·refine(I.hok b u e).stay (λc v hc q=>k c v ?_ q) (λ_ q=>q) λ_ _ q=>q;rcases hc with z|z
  ·rw[z];exact nit b u e
  ·exact nit c _ z
theorem Inv.tok (I:Inv X pins O H s) (t:Nat):Inv X pins O H { s with toks:=t }:=I.un (h':=s.heap) (t':=t) Un.refl I.hok
theorem Inv.kept (I:Inv X pins O H s) (k:∀b u,s.heap.get? b=some u->h'.get? b=some u):Inv X pins O H { s with heap:=h',toks:=t' }:=I.un (Un.kept k) (I.hok.kept k)
theorem Inv.laid {a:Addr} {o:HO} (I:Inv X pins O H s) (k:∀b u,s.heap.get? b=some u->h'.get? b=some u) (hp:s.heap.objs.size<=a) (new:ObjOk X.prog X.w (upd H a o) h' a o) :
  Inv X pins O (upd H a o) { s with heap:=h',toks:=t' }:=I.un (Un.laid k hp (I.hok.fresh hp)) (I.hok.laid k hp new)
theorem Inv.write {x e:Addr} {o:HO} (I:Inv X pins O H s) (mu:Mut (H x)) (he:e=x\/H e=some (.own x)) (k:∀b u,b≠e->s.heap.get? b=some u->h'.get? b=some u) (heo:∃u,h'.get? e=some u)
  (new:ObjOk X.prog X.w (upd H x o) h' x o):Inv X pins O (upd H x o) { s with heap:=h',toks:=t' }:=I.un (Un.write mu he k heo) (I.hok.write mu he k heo new)
theorem Inv.pins_of {pins':List (Addr×Obj)} (I:Inv X pins O H s) (h:∀p∈pins',s.heap.get? p.1=some p.2/\H p.1=none/\p.1≠X.env.locals/\p.1∉X.fs/\∀v,p.2.data ≠ .cell v):Inv X pins' O H s :=
 ⟨I.ok,I.os,I.bare,I.base,I.loc,I.cell,I.free,I.freeC,λp hp=>(List.mem_append.mp hp).elim (λz=>I.pin p (List.mem_append_left _ z)) (h p),I.hok,I.len⟩
theorem sT {N:List Str} (hN:N.Nodup) {j:Nat} (a:N[i]?=some x) (b:N[j]?=some x):i=j:=by
 obtain⟨h1,e1⟩:=List.getElem?_eq_some_iff.mp a;obtain⟨h2,e2⟩:=List.getElem?_eq_some_iff.mp b;exact(List.getElem_inj hN).mp (e1.trans e2.symm)
theorem wV {v:V} {u:Value} {Q:Unit->Shared->Prop} (I:Inv X pins O H s) (hN:X.N.Nodup) (hi:X.N[i]?=some x) (hx:Loc X.env.scope x) (r:RelV v u)
  (h:∀s',Inv X pins (O.set i (some v)) H s'->(∃a,Heap.SameBut a s.heap s'.heap/\(a=X.env.locals\/X.env.cells.lookup x=some a))->Q () s') (hf:X.fn x=true\/X.env.scope.names.lookup x=some .local:=by first|exact .inl rfl|exact .inr rfl|assumption):wpAny M A (storeName X.env x u) Q E s:=by
 obtain⟨m,hn,hl⟩:=id I.loc;have hcls:(X.env.scope.kind == .class||(X.env.scope.kind == .module&&X.env.locals != X.env.globals))=false:=by rw[I.ok.kind];rfl
 have hiO:i<O.length:=by rw[I.len];exact(List.getElem?_eq_some_iff.mp hi).1
 have cne:=I.cne;have tracked:∀{a:Addr} {h':Heap},(∃o,s.heap.get? a=some o/\H a=none)->Heap.SameBut a s.heap h'->HOk X.prog X.w H h':=λ{a h'} ha hs b ob e=>by
  obtain⟨_,_,hfree⟩:=ha;refine(I.hok b ob e).stay (λc w' hc q=>(hs.2 c ?_).trans q) (λ_ q=>q) λ_ _ q=>q;rintro rfl;rcases hc with rfl|hc
  ·rw[hfree]at e;cases e
  ·rw[hfree]at hc;cases hc
 rcases hx with hk|hk
 ·refine wpAny_storeName_local hk hn (λh' hn' hs=>?_) hcls;obtain⟨oL,_,_,hoL,_⟩:=id hn;refine h _ ⟨I.ok,I.os,I.bare,⟨λb o e n hb hx=>?_,λb o e n hb hx=>?_,I.base.free,λb o e hx=>?_,I.base.tups,I.base.frzs,I.base.tbls⟩,⟨_,hn',λj y v' e1 e2 e3=>?_⟩,λy c e=>?_,I.free,I.freeC,λp hp=>?_,tracked ⟨oL,hoL,I.free⟩ hs,by simpa using I.len⟩ ⟨_,hs,.inl rfl⟩
  ·exact(hs.2 b (Nat.ne_of_lt (Nat.lt_of_lt_of_le (Heap.lt_size e) I.ok.above))).trans (I.base.keep b o e n hb hx)
  ·obtain⟨sl,e1⟩:=I.base.slot b o e n hb hx;exact⟨sl,(hs.2 b (Nat.ne_of_lt (Nat.lt_of_lt_of_le (Heap.lt_size e) I.ok.above))).trans e1⟩
  ·obtain⟨o',e1⟩:=I.base.there b o e hx;exact⟨o',(hs.2 b (Nat.ne_of_lt (Nat.lt_of_lt_of_le (Heap.lt_size e) I.ok.above))).trans e1⟩
  ·by_cases hj:j=i
   ·subst hj;rw[hi]at e1;cases e1;rw[List.getElem?_set_self hiO]at e2;cases e2;exact⟨u,r,.inl ⟨hk,by simp⟩⟩
   ·rw[List.getElem?_set_ne (Ne.symm hj)]at e2;obtain⟨u',r',q⟩:=hl j y v' e1 e2 e3;refine⟨u',r',?_⟩;rcases q with⟨k,e⟩|⟨k,c,e,z⟩
    ·refine .inl ⟨k,?_⟩;have:y≠x:=λe=>hj (sT hN e1 (e▸hi));simp[this,e]
    ·exact .inr ⟨k,c,e,z.sameBut hs (cne y c e)⟩
  ·obtain⟨w',z⟩:=I.cell y c e;exact⟨w',z.sameBut hs (cne y c e)⟩
  ·obtain⟨e,n,ne,nf,d⟩:=I.pin p hp;exact⟨(hs.2 p.1 ne).trans e,n,ne,nf,d⟩
 ·have hfn:X.fn x=true:=by
   rcases hf with z|z
   ·exact z
   ·rw[z]at hk;cases hk
  obtain⟨c,hc⟩:=I.ok.has x (.inl hk);obtain⟨w',z⟩:=I.cell x c hc;refine wpAny_storeName_cell I.ok.kind hk hc z (λh' hc' hs=>?_);obtain⟨oc,hoc,hocd⟩:=id z;refine h { s with heap:=h' } ⟨I.ok,I.os,I.bare,⟨λb o e n hb hx=>?_,λb o e n hb hx=>?_,I.base.free,λb o e hx=>?_,I.base.tups,I.base.frzs,I.base.tbls⟩,⟨m,hn.sameBut hs (Ne.symm (cne x c hc)),λj y v' e1 e2 e3=>?_⟩,λy c' e=>?_,I.free,I.freeC,λp hp=>?_,tracked ⟨oc,hoc,I.freeC x c hc⟩ hs,by simpa using I.len⟩ ⟨c,hs,.inr hc⟩
  ·exact(hs.2 b (Nat.ne_of_lt (Nat.lt_of_lt_of_le (Heap.lt_size e) (I.ok.cab x c hfn hc)))).trans (I.base.keep b o e n hb hx)
  ·obtain⟨sl,e1⟩:=I.base.slot b o e n hb hx;exact⟨sl,(hs.2 b (Nat.ne_of_lt (Nat.lt_of_lt_of_le (Heap.lt_size e) (I.ok.cab x c hfn hc)))).trans e1⟩
  ·obtain⟨o',e1⟩:=I.base.there b o e hx;exact⟨o',(hs.2 b (Nat.ne_of_lt (Nat.lt_of_lt_of_le (Heap.lt_size e) (I.ok.cab x c hfn hc)))).trans e1⟩
  ·by_cases hj:j=i
   ·subst hj;rw[hi]at e1;cases e1;rw[List.getElem?_set_self hiO]at e2;cases e2;exact⟨u,r,.inr ⟨.inl hk,c,hc,hc'⟩⟩
   ·rw[List.getElem?_set_ne (Ne.symm hj)]at e2;obtain⟨u',r',q⟩:=hl j y v' e1 e2 e3;refine⟨u',r',?_⟩;rcases q with q|⟨k,c',e,z'⟩
    ·exact .inl q
    ·refine .inr ⟨k,c',e,z'.sameBut hs ?_⟩;rintro rfl;exact hj (sT hN e1 (I.ok.inj _ _ _ e hc▸hi))
  ·by_cases hcc:c'=c
   ·subst hcc;exact⟨_,hc'⟩
   ·obtain⟨w2,z2⟩:=I.cell y c' e;exact⟨w2,z2.sameBut hs hcc⟩
  ·obtain⟨e,n,ne,nf,d⟩:=I.pin p hp;refine⟨(hs.2 p.1 ?_).trans e,n,ne,nf,d⟩;intro q;rw[q,hoc]at e;have q':oc=p.2:=Option.some.inj e;exact d w' (by rw[<- q'];exact hocd)
theorem ss {v:V} {u:Value} {Q:Unit->Shared->Prop} (I:Inv X pins O H s) (hN:X.N.Nodup) (hi:X.N[i]?=some x) (hx:Loc X.env.scope x) (r:RelV v u)
  (h:∀s',Inv X pins (O.set i (some v)) H s'->Q () s') (hf:X.fn x=true\/X.env.scope.names.lookup x=some .local:=by first|exact .inl rfl|exact .inr rfl|assumption):wpAny M A (storeName X.env x u) Q E s :=
 wV I hN hi hx r (λs' I' _=>h s' I') hf
theorem Inv.call' {s':Shared} (I:Inv X pins O H s) (ho:s'.os=s.os) (u:Un (frs X.stack) ch H H' s.heap s'.heap) (hok:HOk X.prog X.w H' s'.heap) (hg:AllBare s'.gens)
  (hch:∀b∈ch,(b∈X.ex\/X.s₀.heap.objs.size<=b)/\b≠X.env.locals/\(∀x c,X.env.cells.lookup x=some c->c≠b)/\∀p∈X.pn++pins,p.1≠b):Inv X pins O H' s':=by
 obtain⟨h',g',d',t',o'⟩:=s';have e:o'=s.os:=ho;subst e;exact I.call (g':=g') (t':=t') (d':=d') u hok hg hch
end
abbrev XK:=Value->Option Addr->Hp->Prop
abbrev St:=List (Option V)
abbrev VK:=V->Hp->Prop
abbrev TE:=St->Hp->VK->Prop
abbrev TT:=St->Hp->(Bool->Hp->Prop)->Prop
abbrev TA:=St->Hp->(List V->Hp->Prop)->Prop
structure iR where
 nx:St->Hp->Prop
 rt:VK
 bk:St->Hp->Prop:=λ_ _=>False
 ct:St->Hp->Prop:=λ_ _=>False
abbrev TS:=iR->St->Hp->Prop
def EP (X:Cx) (pins:List (Addr×Obj)) (O:St) (Q:VK) (u:Value) (s':Shared):Prop:=∃v H',Inv X pins O H' s'/\RelV v u/\Q v H'
def TP (X:Cx) (pins:List (Addr×Obj)) (O:St) (Q:Bool->Hp->Prop) (b:Bool) (s':Shared):Prop:=∃H',Inv X pins O H' s'/\Q b H'
def AP (X:Cx) (pins:List (Addr×Obj)) (O:St) (Q:List V->Hp->Prop) (us:List Value) (s':Shared):Prop:=∃vs H',Inv X pins O H' s'/\Vals vs us/\Q vs H'
def SP (X:Cx) (pins:List (Addr×Obj)) (D:iR) (f:Flow) (s':Shared):Prop :=
 match f with
 | .next=>∃σ' H',Inv X pins σ' H' s'/\D.nx σ' H'
 | .brk=>∃σ' H',Inv X pins σ' H' s'/\D.bk σ' H'
 | .cont=>∃σ' H',Inv X pins σ' H' s'/\D.ct σ' H'
 | .ret u=>∃v σ' H',Inv X pins σ' H' s'/\RelV v u/\D.rt v H'
def PE (X:Cx) (e:Expr) (t:TE):Prop :=
 ∀(pins:List (Addr×Obj)) (s:Shared) (O:St) (H:Hp) (Q:VK),Inv X pins O H s->t O H Q->wpAny (model X.prog X.w) X.A (eval e X.env) (EP X pins O Q) X.xe s
def PT (X:Cx) (e:Expr) (t:TT):Prop :=
 ∀(pins:List (Addr×Obj)) (s:Shared) (O:St) (H:Hp) (Q:Bool->Hp->Prop),Inv X pins O H s->t O H Q->wpAny (model X.prog X.w) X.A (isTrue e X.env (eval e X.env)) (TP X pins O Q) X.xe s
def PW (X:Cx) (e:Expr) (t:TT):Prop :=
 ∀(whole:Sem Value) (pins:List (Addr×Obj)) (s:Shared) (O:St) (H:Hp) (Q:Bool->Hp->Prop),Inv X pins O H s->t O H Q->wpAny (model X.prog X.w) X.A (isTrue e X.env whole) (TP X pins O Q) X.xe s
theorem PW.pt {X:Cx} {e:Expr} {t:TT} (h:PW X e t):PT X e t:=h _
def PA (X:Cx) (es:List Expr) (t:TA):Prop :=
 ∀(pos:Pos) (pins:List (Addr×Obj)) (s:Shared) (O:St) (H:Hp) (Q:List V->Hp->Prop),Inv X pins O H s->t O H Q->wpAny (model X.prog X.w) X.A (spliced (backTo pos (starEach es X.env))) (AP X pins O Q) X.xe s
def PS (X:Cx) (st:Stmt) (t:TS):Prop :=
 ∀(pins:List (Addr×Obj)) (s:Shared) (O:St) (H:Hp) (D:iR),Inv X pins O H s->t D O H->wpAny (model X.prog X.w) X.A (exec st X.env) (SP X pins D) X.xe s
def PSs (X:Cx) (st:List Stmt) (t:TS):Prop :=
 ∀(pins:List (Addr×Obj)) (s:Shared) (O:St) (H:Hp) (D:iR),Inv X pins O H s->t D O H->wpAny (model X.prog X.w) X.A (execs st X.env) (SP X pins D) X.xe s
theorem thn {Y:Type} {t:Sem Y} {Q Q':Y->Shared->Prop} {s:Shared} (h:wpAny M A t Q E s) (hQ:∀a s,Q a s->Q' a s):wpAny M A t Q' E s:=wpAny_mono h hQ λ_ _ x=>x
end L2
namespace L2
open PySem PySem.Spec PyProof.Rows
variable {x:Str} {pos:Pos} {u:Value}
section
variable {X:Cx}
def df (i:Nat):TE:=λO H Q=>∃v,O[i]?=some (some v)/\Q v H
def tC (v:V):TE:=λ_ H Q=>Q v H
theorem Dw {i:Nat} (hN:X.N[i]?=some x) (hv:Vis X.env.scope x) (hd:(x==("__debug__":Str))=false:=by decide) (hcd:(x==("__classdict__":Str))=false:=by decide):PE X (.Name x pos) (df i):=by
 intro pins s O H Q I h;obtain⟨v,e,h⟩:=h;obtain⟨m,hn,hl⟩:=I.loc;obtain⟨u,r,l⟩:=hl i x v hN e hv;have fin:EP X pins O Q u s:=⟨v,H,I,r,h⟩;rcases l with⟨hk,hm⟩|⟨hk,c,hc,hcell⟩
 ·exact wpAny_Name (wpAny_loadName_local I.ok.kind hk hn hm fin) hd
 ·rcases hk with hk|hk
  ·exact wpAny_Name (wpAny_loadName_cell I.ok.kind hk hc hcell fin) hd
  ·exact wpAny_Name (wpAny_loadName_free I.ok.kind hk hc hcell fin hcd) hd
theorem yH {i j pos}:PE X (.Constant (.int i) j pos) (tC (.int i)):=λ_ _ _ H _ I h=>wpAny_Constant_int ⟨.int i,H,I.tok _,⟨_,rfl⟩,h⟩
theorem Cw {b j pos}:PE X (.Constant (.bool b) j pos) (tC (.bl b)):=λ_ _ _ H _ I h=>Constant_bool ⟨.bl b,H,I,rfl,h⟩
theorem Dz {j pos}:PE X (.Constant .none j pos) (tC .non):=λ_ _ _ H _ I h=>Constant_none ⟨.non,H,I,rfl,h⟩
def Gl (X:Cx) (x:Str):Prop:=X.env.kindOf x=some .globalImplicit
theorem gx {E:Value->Shared->Prop} {pins:List (Addr×Obj)} {s:Shared} {O:St} {H:Hp} {Q:Value->Shared->Prop} (I:Inv X pins O H s) (hg:Gl X x) (hm:X.mg x=some u) (h:Q u s)
  (hd:(x==("__debug__":Str))=false:=by decide):wpAny (model X.prog X.w) X.A (eval (.Name x pos) X.env) Q E s :=
 Calls.Name_function_global I.ok.kind hg (Calls.loadGlobal_global (by rw[I.ok.glob];exact I.mod.glob.keeps I.bk) hm h) hd
theorem i5 {E:Value->Shared->Prop} {pins:List (Addr×Obj)} {s:Shared} {O:St} {H:Hp} {Q:Value->Shared->Prop} (I:Inv X pins O H s) (hg:Gl X x) (hm:X.mg x=none) (hv:bootBuiltins x=some u) (h:Q u s)
  (hn:x ≠ "__name__":=by decide) (hd:(x==("__debug__":Str))=false:=by decide):wpAny (model X.prog X.w) X.A (eval (.Name x pos) X.env) Q E s:=by
 obtain⟨mb,h1,h2⟩:=I.mod.blt;exact Calls.Name_function_global I.ok.kind hg (Calls.loadGlobal_builtin (by rw[I.ok.glob];exact I.mod.glob.keeps I.bk) hm (by rw[I.ok.blt];exact h1.keeps I.bk) ((h2 x hn).trans hv) h) hd
theorem A7 {v:V} (hg:Gl X x) (hm:X.mg x=some u) (r:RelV v u) (hd:(x==("__debug__":Str))=false:=by decide):PE X (.Name x pos) (tC v) :=
 λ_ _ _ H _ I h=>gx I hg hm ⟨v,H,I,r,h⟩ hd
variable {a b:Expr} {ta tb:TE} {pos:Pos}
def PC (X:Cx) (op:CmpOp) (a b:Expr) (t:TE):Prop :=
 ∀(pins:List (Addr×Obj)) (s:Shared) (O:St) (H:Hp) (Q:VK),Inv X pins O H s->t O H Q ->
  wpAny (model X.prog X.w) X.A (eval a X.env) (λv s₁=>wpAny (model X.prog X.w) X.A (eval b X.env) (λu s₂=>wpAny (model X.prog X.w) X.A (compareOp op v u) (EP X pins O Q) X.xe s₂) X.xe s₁) X.xe s
theorem yT (b:Expr) {op:CmpOp} (h:op ≠ .In) (h2:op ≠ .NotIn):behindInMarks op b=false:=by
 have e1:(op==CmpOp.In)=false:=by cases op<;>first|rfl|exact absurd rfl h
 have e2:(op==CmpOp.NotIn)=false:=by cases op<;>first|rfl|exact absurd rfl h2
 cases b<;>simp[behindInMarks,e1,e2]
def Gi (ta:TE):TE:=λO H Q=>ta O H λx H1=>Q (.bl (decide (x=.non))) H1
def EL (ta:TE):TE:=λO H Q=>ta O H λx H1=>Q (.bl (!decide (x=.non))) H1
theorem RelV.none_iff {x:V} {v:Value} (r:RelV x v):(v==Value.none)=decide (x=.non):=by
 cases x with
 | non=>cases r;rfl
 | bl _=>cases r;rfl
 | int _=>obtain⟨t,rfl⟩:=r;rfl
 | str _=>obtain⟨t,rfl⟩:=r;rfl
 | byt _=>obtain⟨t,rfl⟩:=r;rfl
 | flt _=>obtain⟨t,rfl⟩:=r;rfl
 | ref _=>cases r;rfl
 | ty _=>cases r;rfl
theorem DD {j pos'} (ha:PE X a ta):PC X .Is a (.Constant .none j pos') (Gi ta):=by
 intro pins s O H Q I h;refine thn (ha pins s O H _ I h) λv s1 ⟨x,H1,I1,r1,q1⟩=>?_;exact Constant_none (is_none_gen ⟨.bl _,H1,I1,by rw[r1.none_iff];rfl,q1⟩)
theorem A9 {j pos'} (ha:PE X a ta):PC X .IsNot a (.Constant .none j pos') (EL ta):=by
 intro pins s O H Q I h;refine thn (ha pins s O H _ I h) λv s1 ⟨x,H1,I1,r1,q1⟩=>?_;exact Constant_none (isnot_none_gen ⟨.bl _,H1,I1,by rw[r1.none_iff];rfl,q1⟩)
def tB (t:TE):TT:=λO H Q=>t O H λx H1=>∃c,x=.bl c/\Q c H1
theorem yr {op:CmpOp} {t:TE} (h:PC X op a b t) (h1:behindInMarks op b=false:=by first|exact yT _ (by decide) (by decide)|rfl):PT X (.Compare a [op] [b] pos) (tB t):=by
 intro pins s O H Q I hw;refine wpAny_isTrue_Compare1 (thn (h pins s O H _ I hw) λv s1 h1=>thn h1 λu s2 h2=>thn h2 λc s3 ⟨x,H1,I1,r1,q1⟩=>?_) h1;obtain⟨d,rfl,q⟩:=q1;cases r1;exact wpAny_truthy_bool ⟨H1,I1,q⟩
theorem yp {e:Expr} {t:TE} (h:PE X e t) (he:∀whole,isTrue e X.env whole=(do let v <- whole;standAt e.pos;holding [v] (truthy v)):=by intro _;rfl):PT X e (tB t):=by
 intro pins s O H Q I hw;refine isTrue_plain (thn (h pins s O H _ I hw) λv s1 ⟨x,H1,I1,r1,q1⟩=>?_) (he _);obtain⟨d,rfl,q⟩:=q1;cases r1;exact wpAny_truthy_bool ⟨H1,I1,q⟩
variable {tA tB':TT} {rest:List Expr}
def Gm (t u:TT):TT:=λO H Q=>t O H λc H1=>if c=true then u O H1 Q else Q false H1
def tOr (t u:TT):TT:=λO H Q=>t O H λc H1=>if c=true then Q true H1 else u O H1 Q
def Gf (t:TT):TT:=λO H Q=>t O H λc H1=>Q (!c) H1
theorem vQ (ha:PT X a tA):PW X (.BoolOp .And [a] pos) tA:=by
 intro wh pins s O H Q I h;refine isTrue_and (thn (ha pins s O H Q I h) λc s1 e=>?_);cases c with
 | true=>exact isTrue_and_nil e
 | false=>exact e
theorem Dj (ha:PT X a tA):PW X (.BoolOp .Or [a] pos) tA:=by
 intro wh pins s O H Q I h;refine isTrue_or (thn (ha pins s O H Q I h) λc s1 e=>?_);cases c with
 | false=>exact isTrue_or_nil e
 | true=>exact e
theorem yo (ha:PT X a tA) (hb:PW X (.BoolOp .And (b::rest) pos) tB'):PW X (.BoolOp .And (a::b::rest) pos) (Gm tA tB'):=by
 intro wh pins s O H Q I h;refine isTrue_and (thn (ha pins s O H _ I h) λc s1 ⟨H1,I1,q1⟩=>?_);cases c with
 | true=>exact hb wh pins s1 O H1 Q I1 q1
 | false=>exact⟨H1,I1,q1⟩
theorem E7 (ha:PT X a tA) (hb:PW X (.BoolOp .Or (b::rest) pos) tB'):PW X (.BoolOp .Or (a::b::rest) pos) (tOr tA tB'):=by
 intro wh pins s O H Q I h;refine isTrue_or (thn (ha pins s O H _ I h) λc s1 ⟨H1,I1,q1⟩=>?_);cases c with
 | true=>exact⟨H1,I1,q1⟩
 | false=>exact hb wh pins s1 O H1 Q I1 q1
theorem yq (ha:PT X a tA):PT X (.UnaryOp .Not a pos) (Gf tA):=by
 intro pins s O H Q I h;exact isTrue_not (ha pins s O H (λc H1=>Q (!c) H1) I h)
def ES (ta tb:TE):TE:=λO H Q=>ta O H λx H1=>∃c,x=.bl c/\if c=true then tb O H1 Q else Q (.bl false) H1
def Ge (ta tb:TE):TE:=λO H Q=>ta O H λx H1=>∃c,x=.bl c/\if c=true then Q (.bl true) H1 else tb O H1 Q
theorem Dy {op} {t:TE} (h:PE X a t):PE X (.BoolOp op [a] pos) t:=λpins s O H Q I hw=>BoolOp_one (h pins s O H Q I hw)
theorem DC (ha:PE X a ta) (hb:PE X (.BoolOp .And (b::rest) pos) tb):PE X (.BoolOp .And (a::b::rest) pos) (ES ta tb):=by
 intro pins s O H Q I h;refine BoolOp_and (thn (ha pins s O H _ I h) λv s1 ⟨x,H1,I1,r1,q1⟩=>?_);obtain⟨c,rfl,q1⟩:=q1;cases r1;refine wpAny_truthy_bool ?_;cases c with
 | true=>exact hb pins s1 O H1 Q I1 q1
 | false=>exact⟨.bl false,H1,I1,rfl,q1⟩
theorem Fg (ha:PE X a ta) (hb:PE X (.BoolOp .Or (b::rest) pos) tb):PE X (.BoolOp .Or (a::b::rest) pos) (Ge ta tb):=by
 intro pins s O H Q I h;refine BoolOp_or (thn (ha pins s O H _ I h) λv s1 ⟨x,H1,I1,r1,q1⟩=>?_);obtain⟨c,rfl,q1⟩:=q1;cases r1;refine wpAny_truthy_bool ?_;cases c with
 | false=>exact hb pins s1 O H1 Q I1 q1
 | true=>exact⟨.bl true,H1,I1,rfl,q1⟩
end
end L2
namespace L2
open PySem PySem.Spec PyProof.Rows
def SqL (K:Frag) (H:Hp) (a:Addr) (xs:List V):Prop :=
 Rd H a (.lst xs) \/
  ∃(o:Obj) (its:Array Value) (n:Nat),K.lookup a=some o/\o.cls=.type "list"/\o.dict=none/\o.data=.seq its n/\its.size<=sizeLine/\Vals xs its.toList
def SqT (K:Frag) (H:Hp) (a:Addr) (xs:List V):Prop :=
 Rd H a (.tup xs) \/
  ∃(o:Obj) (its:Array Value) (n:Nat),K.lookup a=some o/\o.cls=.type "tuple"/\o.data=.seq its n/\its.size<=sizeLine/\Vals xs its.toList
def GX:Value->Option V
 | .none=>some .non
 | .bool b=>some (.bl b)
 | .int i _=>some (.int i)
 | .str x _=>some (.str x)
 | .bytes b _=>some (.byt b)
 | .float b _=>some (.flt b)
 | .ref a=>some (.ref a)
 | .type n=>some (.ty n)
 | _=>none
variable {u:Value}
theorem RelV.abs {x:V} (r:RelV x u):GX u=some x:=by
 cases x with
 | non=>cases r;rfl
 | bl _=>cases r;rfl
 | int _=>obtain⟨t,rfl⟩:=r;rfl
 | str _=>obtain⟨t,rfl⟩:=r;rfl
 | byt _=>obtain⟨t,rfl⟩:=r;rfl
 | flt _=>obtain⟨t,rfl⟩:=r;rfl
 | ref _=>cases r;rfl
 | ty _=>cases r;rfl
theorem RelV.inj {x y:V} (r:RelV x u) (q:RelV y u):x=y:=Option.some.inj (r.abs.symm.trans q.abs)
theorem Vals.inj:∀{xs ys:List V} {us:List Value},Vals xs us->Vals ys us->xs=ys
 | _,_,_,.nil,.nil=>rfl
 | _,_,_,.cons r t,.cons r' t'=>by rw[r.inj r',Vals.inj t t']
variable {K:Frag}
section
variable {X:Cx} {pins:List (Addr×Obj)} {O:St} {H:Hp} {s:Shared} {a:Addr} {xs ys:List V}
theorem SqL.of (h:H a=some (.lst xs)):SqL K H a xs:=.inl (.inl h)
theorem SqT.of (h:H a=some (.tup xs)):SqT K H a xs:=.inl (.inl h)
theorem Inv.list (I:Inv X pins O H s) (h:SqL X.K H a xs):∃its:List Value,Vals xs its/\PlainL s.heap a its.toArray/\xs.length<=sizeLine:=by
 rcases h with h|⟨o,its,n,hk,hc,hd,hs,hz,r⟩
 ·obtain⟨z,its,n,r,e⟩:=h.ok I.hok;exact⟨its,r,⟨_,n,e,rfl,rfl,rfl⟩,z⟩
 ·refine⟨its.toList,r,⟨o,n,I.kIn a o hk,hc,hd,by simpa using hs⟩,?_⟩;have e:=r.length;simp only[Array.length_toList]at e;omega
theorem Inv.tuple (I:Inv X pins O H s) (h:SqT X.K H a xs):∃its:List Value,Vals xs its/\IsTup s.heap a its.toArray/\xs.length<=sizeLine:=by
 rcases h with h|⟨o,its,n,hk,hc,hs,hz,r⟩
 ·obtain⟨z,its,r,p⟩:=h.ok I.hok;exact⟨its,r,p,z⟩
 ·refine⟨its.toList,r,⟨o,I.kIn a o hk,hc,n,by simpa using hs⟩,?_⟩;have e:=r.length;simp only[Array.length_toList]at e;omega
theorem Inv.list_inj (I:Inv X pins O H s) (h:SqL X.K H a xs) (h':SqL X.K H a ys):xs=ys:=by
 obtain⟨its,r,⟨o,n,e,_,_,d⟩,_⟩:=I.list h;obtain⟨its',r',⟨o',n',e',_,_,d'⟩,_⟩:=I.list h';rw[e]at e';cases e';rw[d]at d';injection d' with d1 _;have:its=its':=by simpa using congrArg Array.toList d1
 subst this;exact r.inj r'
theorem Inv.tuple_inj (I:Inv X pins O H s) (h:SqT X.K H a xs) (h':SqT X.K H a ys):xs=ys:=by
 obtain⟨its,r,⟨o,e,_,n,d⟩,_⟩:=I.tuple h;obtain⟨its',r',⟨o',e',_,n',d'⟩,_⟩:=I.tuple h';rw[e]at e';cases e';rw[d]at d';injection d' with d1 _;have:its=its':=by simpa using congrArg Array.toList d1
 subst this;exact r.inj r'
end
abbrev Cx.wish (X:Cx) (E:Value->Shared->Prop):Cx:={ X with xe:=E }
abbrev Cx.nox (X:Cx):Cx:=X.wish λ_ _=>False
theorem Cx.Ok.wish {X:Cx} (ok:X.Ok) (E:Value->Shared->Prop):(X.wish E).Ok :=
 ⟨ok.mod,ok.kind,ok.glob,ok.blt,ok.above,ok.inj,ok.has,ok.cab,ok.hd,ok.frames,ok.stk,ok.exf,ok.bs,ok.bsz,ok.noex,ok.exfs,ok.funs,ok.frf⟩
theorem Cx.Ok.unwish {X:Cx} {E:Value->Shared->Prop} (ok:(X.wish E).Ok):X.Ok :=
 ⟨ok.mod,ok.kind,ok.glob,ok.blt,ok.above,ok.inj,ok.has,ok.cab,ok.hd,ok.frames,ok.stk,ok.exf,ok.bs,ok.bsz,ok.noex,ok.exfs,ok.funs,ok.frf⟩
section
variable {X:Cx} {pins:List (Addr×Obj)} {O:St} {H:Hp} {s:Shared} {E:Value->Shared->Prop}
theorem Inv.wish (I:Inv X pins O H s) (E:Value->Shared->Prop):Inv (X.wish E) pins O H s:=⟨I.ok.wish E,I.os,I.bare,I.base,I.loc,I.cell,I.free,I.freeC,I.pin,I.hok,I.len⟩
theorem Inv.unwish (I:Inv (X.wish E) pins O H s):Inv X pins O H s:=⟨I.ok.unwish,I.os,I.bare,I.base,I.loc,I.cell,I.free,I.freeC,I.pin,I.hok,I.len⟩
theorem SP.unwish {D:iR} {f:Flow} {s':Shared} (h:SP (X.wish E) pins D f s'):SP X pins D f s':=by
 cases f with
 | next=>obtain⟨σ',H',I,q⟩:=h;exact⟨σ',H',I.unwish,q⟩
 | brk=>obtain⟨σ',H',I,q⟩:=h;exact⟨σ',H',I.unwish,q⟩
 | cont=>obtain⟨σ',H',I,q⟩:=h;exact⟨σ',H',I.unwish,q⟩
 | ret u=>obtain⟨v,σ',H',I,r,q⟩:=h;exact⟨v,σ',H',I.unwish,r,q⟩
theorem PSs.nox {st:List Stmt} {t:TS} (h:PSs X.nox st t):PSs X st t:=λpins s O H D I hw =>
 wpAny_mono (h pins s O H D (I.wish _) hw) (λ_ _ q=>q.unwish) λ_ _ z=>False.elim z
end
variable {s:Shared}
section
variable {X:Cx} {st:Stmt} {rest:List Stmt} {t u:TS} {e:Expr} {te:TE} {pos:Pos}
def EM:TS:=λD O H=>D.nx O H
def Au (t u:TS):TS:=λD O H=>t { D with nx:=u D } O H
theorem mB:PSs X [] EM:=λ_ _ O H _ I h=>wpAny_execs_nil ⟨O,H,I,h⟩
theorem dz (h1:PS X st t) (h2:PSs X rest u):PSs X (st::rest) (Au t u):=by
 intro pins s O H D I h;refine wpAny_execs_cons (thn (h1 pins s O H { D with nx:=u D } I h) λf s1 q=>?_);cases f with
 | next =>
  obtain⟨σ',H',I',q⟩:=q;exact h2 pins s1 σ' H' D I' q
 | ret v=>exact q
 | brk=>exact q
 | cont=>exact q
theorem cz (h1:PS X st t):PSs X [st] t:=by
 intro pins s O H D I h;refine wpAny_execs_cons (thn (h1 pins s O H D I h) λf s1 q=>?_);cases f with
 | next=>exact wpAny_execs_nil q
 | ret v=>exact q
 | brk=>exact q
 | cont=>exact q
theorem Inv.quiet {pins:List (Addr×Obj)} {O:St} {H:Hp} (I:Inv X pins O H s):interactive X.env=false:=by simp[interactive,I.ok.kind]
def jK (te:TE):TS:=λD O H=>te O H λ_ H1=>D.nx O H1
theorem gw (he:PE X e te) (hs:swapsWith e none pos.line X.env=pure false:=by rfl):PS X (.Expr e pos) (jK te):=by
 intro pins s O H D I h;exact wpAny_Expr_any (thn (he pins s O H _ I h) λv s1 ⟨x,H1,I1,r1,q1⟩=>⟨O,H1,I1,q1⟩) I.quiet hs
def Gd (te:TE):TS:=λD O H=>te O H D.rt
theorem j3 (he:PE X e te):PS X (.Return (some e) pos) (Gd te):=by
 intro pins s O H D I h;exact wpAny_Return_some (thn (he pins s O H _ I h) λv s1 ⟨x,H1,I1,r1,q1⟩=>⟨x,O,H1,I1,r1,q1⟩)
def Gj (c:TT) (t u:TS):TS:=λD O H=>c O H λb H1=>if b=true then t D O H1 else u D O H1
theorem sK {c:Expr} {a b:List Stmt} {tc:TT} (hc:PT X c tc) (ha:PSs X a t) (hb:PSs X b u):PS X (.If c a b pos) (Gj tc t u):=by
 intro pins s O H D I h;refine wpAny_If (thn (hc pins s O H _ I h) λd s1 ⟨H1,I1,q1⟩=>?_);cases d with
 | true=>exact ha pins s1 O H1 D I1 q1
 | false=>exact hb pins s1 O H1 D I1 q1
def C2:TS:=λ_ _ _=>False
theorem yx:PS X st C2:=λ_ _ _ _ _ _ h=>h.elim
end
abbrev TG:=V->St->Hp->(St->Hp->Prop)->Prop
abbrev TGs:=List V->St->Hp->(St->Hp->Prop)->Prop
def PG (X:Cx) (target:Expr) (t:TG):Prop :=
 ∀(pins:List (Addr×Obj)) (s:Shared) (O:St) (H:Hp) (v:V) (u:Value) (Q:St->Hp->Prop),Inv X pins O H s->RelV v u->t v O H Q ->
  wpAny (model X.prog X.w) X.A (assign target X.env u) (λ_ s'=>∃σ' H',Inv X pins σ' H' s'/\Q σ' H') X.xe s
def PGs (X:Cx) (ts:List Expr) (t:TGs):Prop :=
 ∀(pins:List (Addr×Obj)) (s:Shared) (O:St) (H:Hp) (vs:List V) (us:List Value) (Q:St->Hp->Prop),Inv X pins O H s->Vals vs us->t vs O H Q ->
  wpAny (model X.prog X.w) X.A (assignInOrder ((assignEach ts X.env).map (·.2)) us) (λ_ s'=>∃σ' H',Inv X pins σ' H' s'/\Q σ' H') X.xe s
abbrev Cm:=V->V->V->Hp->(Hp->Prop)->Prop
def Ex (X:Cx) (t:Cm):Prop :=
 ∀(pins:List (Addr×Obj)) (s:Shared) (O:St) (H:Hp) (o i v:V) (ov iv u:Value) (Q:Hp->Prop),Inv X pins O H s->RelV o ov->RelV i iv->RelV v u->t o i v H Q ->
  wpAny (model X.prog X.w) X.A (setItem ov iv u) (λ_ s'=>∃H',Inv X pins O H' s'/\Q H') X.xe s
variable {tg:Expr}
section
variable {X:Cx} {pos:Pos}
def gy (i:Nat):TG:=λv O H Q=>Q (O.set i (some v)) H
theorem az {i:Nat} {x:Str} (hN:X.N.Nodup) (hi:X.N[i]?=some x) (hx:Loc X.env.scope x) (hf:X.fn x=true\/X.env.scope.names.lookup x=some .local:=by first|exact .inl rfl|exact .inr rfl|assumption):PG X (.Name x pos) (gy i):=by
 intro pins s O H v u Q I r h;exact wpAny_assign_Name (ss I hN hi hx r (λs' I'=>⟨_,H,I',h⟩) hf)
def GC:TGs:=λvs O H Q=>vs=[]/\Q O H
def Fz (t:TG) (u:TGs):TGs:=λvs O H Q=>∃v r,vs=v::r/\t v O H λσ' H'=>u r σ' H' Q
theorem A5:PGs X [] GC:=by
 intro pins s O H vs us Q I r h;obtain⟨e,h⟩:=h;subst e;cases r;exact assignInOrder_nil ⟨O,H,I,h⟩
theorem sL {e:Expr} {es:List Expr} {t:TG} {u:TGs} (h1:PG X e t) (h2:PGs X es u)
  (hs:(assignEach (e::es) X.env).map (·.2)=assign e X.env::(assignEach es X.env).map (·.2):=by rfl):PGs X (e::es) (Fz t u):=by
 intro pins s O H vs us Q I r h;obtain⟨v,vr,e1,h⟩:=h;subst e1;cases r with
 | cons r rr =>
  rw[hs];refine assignInOrder_cons (thn (h1 pins s O H _ _ _ I r h) λ_ s1 ⟨O1,H1,I1,q1⟩=>?_);exact h2 pins s1 O1 H1 _ _ Q I1 rr q1
def GA (K:Frag) (n:Nat) (t:TGs):TG:=λv O H Q=>∃a xs,v=.ref a/\SqT K H a xs/\xs.length=n/\t xs O H Q
theorem Du {es:List Expr} {k:Nat} {t:TGs} {n:Nat} (hc:X.calm=true) (h:PGs X es t)
  (hn:(assignEach es X.env).length=n:=by rfl) (hst:(assignEach es X.env).findIdx? (·.1)=none:=by rfl):PG X (.Tuple es k pos) (GA X.K n t):=by
 intro pins s O H v u Q I r hw;obtain⟨a,xs,e1,hq,hl,hw⟩:=hw;subst e1;cases r;obtain⟨its,rv,ht,hz⟩:=I.tuple hq;refine assign_Tuple_tuple (I.ok.hd hc) ht (by simp[hn,<- hl,rv.length]) hst λh' hx=>?_;have I1:Inv X pins O H { s with heap:=h' }:=I.kept (t':=s.toks) λb o e=>hx b o (Nat.ne_of_lt (Heap.lt_size e)) e;exact h pins _ O H xs _ Q I1 (by simpa using rv) hw
def GB (to ti:TE) (t:Cm):TG:=λv O H Q=>to O H λo H1=>ti O H1 λi H2=>t o i v H2 λH3=>Q O H3
theorem uE {o i:Expr} {to ti:TE} {t:Cm} (ho:PE X o to) (hi:PE X i ti) (hs:Ex X t)
  (ha:∀v,assign (.Subscript o i pos) X.env v=(do
   let ov <- holding [v] (eval o X.env)
   let iv <- holding [v,ov] (eval i X.env)
   standAt pos
   holding [v,ov,iv] (setItem ov iv v)
   release [v,ov,iv] []):=by intro _;rfl):PG X (.Subscript o i pos) (GB to ti t):=by
 intro pins s O H v u Q I r h;rw[ha];refine wpAny_bind (wpAny_holding (thn (ho pins s O H _ I h) λov s1 ⟨x,H1,I1,r1,q1⟩=>?_));refine wpAny_bind (wpAny_holding (thn (hi pins s1 O H1 _ I1 q1) λiv s2 ⟨y,H2,I2,r2,q2⟩=>?_));refine wpAny_bind (wpAny_standAt (wpAny_bind (wpAny_holding (thn (hs pins s2 O H2 x y v ov iv u _ I2 r1 r2 r q2) λ_ s3 ⟨H3,I3,q3⟩=>?_))));exact wpAny_release ⟨O,H3,I3,q3⟩
def uo (te:TE) (g:TG):TS:=λD O H=>te O H λx H1=>g x O H1 D.nx
theorem qN {e:Expr} {te:TE} {g:TG} (he:PE X e te) (hg:PG X tg g) (hs:swapsWithSole [tg] e pos.line X.env=pure false:=by rfl) (hw:swappedStores [tg] e X.env=pure none:=by rfl)
  (h1:(assignEach [tg] X.env).map (·.2)=[assign tg X.env]:=by rfl):PS X (.Assign [tg] e pos) (uo te g):=by
 intro pins s O H D I h;refine wpAny_Assign_stores (thn (he pins s O H _ I h) λv s1 ⟨x,H1,I1,r1,q1⟩=>?_) hs hw;rw[h1];exact thn (hg pins s1 O H1 x v _ I1 r1 q1) λ_ s2 q=>q
theorem j0 {i:Nat} {x:Str} {e:Expr} {te:TE} {pos':Pos} (hN:X.N.Nodup) (hi:X.N[i]?=some x) (hx:Loc X.env.scope x) (he:PE X e te) (hs:swapsWith e (some (.Name x pos')) pos.line X.env=pure false:=by rfl) (hf:X.fn x=true\/X.env.scope.names.lookup x=some .local:=by first|exact .inl rfl|exact .inr rfl|assumption) :
  PS X (.Assign [.Name x pos'] e pos) (uo te (gy i)):=by
 intro pins s O H D I h;refine wpAny_Assign_Name (thn (he pins s O H _ I h) λv s1 ⟨y,H1,I1,r1,q1⟩=>?_) hs;exact ss I1 hN hi hx r1 (λs2 I2=>⟨_,H1,I2,q1⟩) hf
end
section
variable {X:Cx} {pos:Pos}
def C1 (c:TT) (tb:TS):TS:=λD O H=>∃W:Nat->St->Hp->Prop,(∃m,W m O H)/\∀m O H,W m O H ->
 c O H λb H1=>if b=true then ∃N:St->Hp->Prop,(∀σ' H',N σ' H'->∃m',m'<m/\W m' σ' H')/\tb { D with nx:=N,ct:=N,bk:=D.nx } O H1 else D.nx O H1
theorem yu {c:Expr} {body:List Stmt} {tc:TT} {tb:TS} (hp:PassesOwn (model X.prog X.w) X.A X.env X.xe) (hc:PT X c tc) (hb:PSs X body tb):PS X (.While c body [] pos) (C1 tc tb):=by
 intro pins s O H D I h;obtain⟨W,⟨m0,w0⟩,kT⟩:=h;refine wpAny_While (codeAny_whileLoop (λn s'=>∃σ' H',Inv X pins σ' H' s'/\W n σ' H') ?_ m0 ⟨O,H,I,w0⟩);rintro n s1 ⟨O1,H1,I1,w1⟩;refine wpAny_passesOwn hp (thn (hc pins s1 O1 H1 _ I1 (kT n O1 H1 w1)) λb s2 ⟨H2,I2,q2⟩=>?_);cases b with
 | true =>
  obtain⟨N,hN,q2⟩:=q2;rw[if_pos rfl];refine wpAny_passesOwn hp (thn (hb pins s2 O1 H2 _ I2 q2) λf s3 q3=>?_);cases f with
  | next =>
   obtain⟨O3,H3,I3,n3⟩:=q3;obtain⟨m',hm,w3⟩:=hN O3 H3 n3;exact⟨m',hm,O3,H3,I3,w3⟩
  | cont =>
   obtain⟨O3,H3,I3,n3⟩:=q3;obtain⟨m',hm,w3⟩:=hN O3 H3 n3;exact⟨m',hm,O3,H3,I3,w3⟩
  | brk=>exact q3
  | ret v=>exact q3
 | false =>
  rw[if_neg Bool.false_ne_true];exact wpAny_execs_nil ⟨O1,H2,I2,q2⟩
end
structure It where
 go:Nat->Hp->Prop
 yld:Nat->Hp->V->Hp->Prop
 stop:Nat->Hp->Prop
def pO (X:Cx) (pins:List (Addr×Obj)) (H:Hp) (b:Addr):Prop :=
 H b=none/\b≠X.env.locals/\b∉X.fs/\(b∈X.ex\/X.s₀.heap.objs.size<=b)/\(∀x c,X.env.cells.lookup x=some c->c≠b)/\∀p∈X.pn++pins,p.1≠b
theorem Inv.fpOk {X:Cx} {pins:List (Addr×Obj)} {O:St} {H H':Hp} {b:Addr} (I:Inv X pins O H s) (hb:s.heap.objs.size<=b) (hn:H' b=none):pO X pins H' b:=by
 refine⟨hn,Nat.ne_of_gt (Nat.lt_of_lt_of_le I.lt hb),I.nofs hb,.inr (Nat.le_trans I.sz hb),λx c e z=>?_,λp hp z=>?_⟩
 ·obtain⟨v,q⟩:=I.cell x c e;exact absurd (Nat.lt_of_lt_of_le q.lt (by rw[z];exact hb)) (Nat.lt_irrefl _)
 ·exact absurd (Nat.lt_of_lt_of_le (Heap.lt_size (I.pin p hp).1) (by rw[z];exact hb)) (Nat.lt_irrefl _)
structure vo (P:Program) (w:World) (K:Frag) (tg:Expr) (J:It) (fp:List Addr) (it:Addr) (tn:Nat->Heap->Prop):Prop where
 mem:it∈fp
 obj:∀i h,tn i h->∀b∈fp,∃o,h.get? b=some o/\∀v,o.data ≠ .cell v
 keep:∀i h h',tn i h->(∀b∈fp,∀o,h.get? b=some o->h'.get? b=some o)->tn i h'
 item:∀(X:Cx),X.prog=P->X.w=w->X.K=K->X.calm=true->∀(i:Nat) (pins:List (Addr×Obj)) (s:Shared) (O:St) (H:Hp) (E:Value->Shared->Prop),Inv X pins O H s->(∀b∈fp,pO X pins H b)->tn i s.heap->J.go i H ->
  wpAny (model P w) X.A (pyNext (.ref it)) (λr s1=>∃u,r=some u /\
   wpAny (model P w) X.A (letOwnedTupleGo tg (.ref it) u) (λ_ s2=>∃x H',Inv X pins O H' s2/\RelV x u/\J.yld i H x H'/\tn (i+1) s2.heap/\∀b∈fp,H' b=none) E s1) E s
 done:∀(X:Cx),X.prog=P->X.w=w->X.K=K->X.calm=true->∀(i:Nat) (pins:List (Addr×Obj)) (s:Shared) (O:St) (H:Hp) (E:Value->Shared->Prop),Inv X pins O H s->(∀b∈fp,pO X pins H b)->tn i s.heap->J.stop i H ->
  wpAny (model P w) X.A (pyNext (.ref it)) (λr s1=>r=none/\Inv X pins O H s1) E s
 self:∀(A:Around) (i:Nat) (s:Shared) (Q:Value->Shared->Prop) (E:Value->Shared->Prop),tn i s.heap->Q (.ref it) s->wpAny (model P w) A (pyIter (.ref it)) Q E s
abbrev TI:=St->Hp->(It->Hp->Prop)->Prop
def PIE (X:Cx) (pins:List (Addr×Obj)) (O:St) (tg:Expr) (R:It->Hp->Prop) (itv:Value) (s2:Shared):Prop :=
 ∃(it:Addr) (fp:List Addr) (tn:Nat->Heap->Prop) (J:It) (H':Hp),itv=.ref it/\Inv X pins O H' s2/\vo X.prog X.w X.K tg J fp it tn/\tn 0 s2.heap/\(∀b∈fp,pO X pins H' b)/\R J H'
def PI (X:Cx) (tg iter:Expr) (wi:TI):Prop :=
 ∀(pins:List (Addr×Obj)) (s:Shared) (O:St) (H:Hp) (R:It->Hp->Prop),Inv X pins O H s->wi O H R ->
  wpAny (model X.prog X.w) X.A (eval iter X.env) (λv s1=>wpAny (model X.prog X.w) X.A (pyIter v) (PIE X pins O tg R) X.xe s1) X.xe s
theorem zd {M:Model} {A:Around} {E:Value->Shared->Prop} {it:Addr} {o:Obj} {n:String} {vs:Array Value} {Q:Unit->Shared->Prop} (ho:s.heap.get? it=some o) (hc:o.cls=.type n) (hd:o.data=.fields vs)
    (hn:["enumerate","zip","dict_itemiterator","dict_reverseitemiterator","odict_iterator","itertools.zip_longest","itertools.pairwise"].contains n=false) (hQ:Q () s):wpAny M A (letOwnedTupleGo tg (.ref it) u) Q E s:=by
  unfold letOwnedTupleGo;cases tg<;>first
    | exact wpAny_pure hQ
    | (cases u<;>first
        | exact wpAny_pure hQ
        | (refine wpAny_bind (wpAny_load ho ?_)
           rw[hc,hd];show wpAny M A (if(["enumerate","zip","dict_itemiterator","dict_reverseitemiterator","odict_iterator","itertools.zip_longest","itertools.pairwise"].contains n&&vs[0]?==some (rawInt _))=true then _ else _) Q E s;rw[if_neg (by intro h;rw[hn,Bool.false_and]at h;cases h)];exact wpAny_pure hQ))
def Itl (K:Frag) (a:Addr):It :=
 ⟨λi H=>∃xs x,SqL K H a xs/\xs[i]?=some x,λi H x H'=>H'=H/\∀xs,SqL K H a xs->xs[i]?=some x,λi H=>∃xs,SqL K H a xs/\xs.length<=i⟩
def Itt (K:Frag) (a:Addr):It :=
 ⟨λi H=>∃xs x,SqT K H a xs/\xs[i]?=some x,λi H x H'=>H'=H/\∀xs,SqT K H a xs->xs[i]?=some x,λi H=>∃xs,SqT K H a xs/\xs.length<=i⟩
def Itr (lo:Int) (n:Nat):It:=⟨λi _=>i<n,λi H x H'=>H'=H/\x=.int (lo+i),λi _=>n<=i⟩
variable {P:Program} {w:World}
theorem pQ (a it:Addr):vo P w K tg (Itl K a) [it] it (λi h=>h.IsListIter it a i) where
 mem:=by simp
 obj:=λi h st b hb=>by
  have e:b=it:=by simpa using hb
  subst e;obtain⟨o,e,c,d⟩:=st;exact⟨o,e,λv z=>by rw[d]at z;cases z⟩
 keep:=λi h h' st k=>st.at λo e=>k it (by simp) o e
 item:=by
  intro X hP hw hK hc i pins s O H E I hf st hg;subst hP hw hK;obtain⟨xs,x,hq,hx⟩:=hg;obtain⟨its,rv,p,hz⟩:=I.list hq;obtain⟨u,hu,ru⟩:=rv.get hx;obtain⟨f0,f1,f2,f3,f4,f5⟩:=hf it (by simp);refine wpAny_pyNext_list_item st p.isList (x:=u) (by simpa using hu) λh' st' sb=>?_;have I1:Inv X pins O H { s with heap:=h' }:=I.turned (t':=s.toks) (λb o hb e=>(sb.2 b hb).trans e) f0 f1 f3 f4 f5;obtain⟨o,e,c,d⟩:=id st';exact⟨u,rfl,zd (s:={ s with heap:=h' }) e c d (by decide) ⟨x,H,I1,ru,⟨rfl,λys hy=>by rw[I.list_inj hy hq];exact hx⟩,st',λb hb=>(hf b hb).1⟩⟩
 done:=by
  intro X hP hw hK hc i pins s O H E I hf st hg;subst hP hw hK;obtain⟨xs,hq,hx⟩:=hg;obtain⟨its,rv,p,hz⟩:=I.list hq;obtain⟨f0,f1,f2,f3,f4,f5⟩:=hf it (by simp);have hl:=rv.length;exact wpAny_pyNext_list_end (I.ok.hd hc) st p.isList (by simp;omega) λh' eb=>⟨rfl,I.turned (t':=s.toks) (λb o hb e=>eb b o hb e) f0 f1 f3 f4 f5⟩
 self:=λ_ _ _ _ _ st h=>wpAny_pyIter_listiter st h
theorem ud (a it:Addr):vo P w K tg (Itt K a) [it] it (λi h=>h.IsTupleIter it a i) where
 mem:=by simp
 obj:=λi h st b hb=>by
  have e:b=it:=by simpa using hb
  subst e;obtain⟨o,e,c,d⟩:=st;exact⟨o,e,λv z=>by rw[d]at z;cases z⟩
 keep:=λi h h' st k=>st.at λo e=>k it (by simp) o e
 item:=by
  intro X hP hw hK hc i pins s O H E I hf st hg;subst hP hw hK;obtain⟨xs,x,hq,hx⟩:=hg;obtain⟨its,rv,p,hz⟩:=I.tuple hq;obtain⟨u,hu,ru⟩:=rv.get hx;obtain⟨f0,f1,f2,f3,f4,f5⟩:=hf it (by simp);refine wpAny_pyNext_tuple_item st (show s.heap.IsTuple a its.toArray from p) (x:=u) (by simpa using hu) λh' st' sb=>?_;have I1:Inv X pins O H { s with heap:=h' }:=I.turned (t':=s.toks) (λb o hb e=>(sb.2 b hb).trans e) f0 f1 f3 f4 f5;obtain⟨o,e,c,d⟩:=id st';exact⟨u,rfl,zd (s:={ s with heap:=h' }) e c d (by decide) ⟨x,H,I1,ru,⟨rfl,λys hy=>by rw[I.tuple_inj hy hq];exact hx⟩,st',λb hb=>(hf b hb).1⟩⟩
 done:=by
  intro X hP hw hK hc i pins s O H E I hf st hg;subst hP hw hK;obtain⟨xs,hq,hx⟩:=hg;obtain⟨its,rv,p,hz⟩:=I.tuple hq;obtain⟨f0,f1,f2,f3,f4,f5⟩:=hf it (by simp);have hl:=rv.length;exact wpAny_pyNext_tuple_end (I.ok.hd hc) st (show s.heap.IsTuple a its.toArray from p) (by simp;omega) λh' eb=>⟨rfl,I.turned (t':=s.toks) (λb o hb e=>eb b o hb e) f0 f1 f3 f4 f5⟩
 self:=λ_ _ _ _ _ st h=>wpAny_pyIter_tupleiter st h
theorem ue (it:Addr) (lo:Int) (n:Nat):vo P w K tg (Itr lo n) [it] it (λi h=>IsRangeIter h it (lo+(i:Nat)*1) ((n:Int)-(i:Nat)) 1) where
 mem:=by simp
 obj:=λi h st b hb=>by
  have e:b=it:=by simpa using hb
  subst e;exact⟨_,st,λv z=>by
   have z':Data.fields _=Data.cell v:=z;cases z'⟩
 keep:=λi h h' st k=>k it (by simp) _ st
 item:=by
  intro X hP hw hK hc i pins s O H E I hf st hg;subst hP hw hK;obtain⟨f0,f1,f2,f3,f4,f5⟩:=hf it (by simp);have W:=Walks.range (prog:=X.prog) (w:=X.w) (I.ok.hd hc) it lo 1 n;refine W.item i s _ _ hg st λv h' tk hv st' kk=>?_;obtain⟨t,rfl⟩:=hv;have I1:Inv X pins O H { s with heap:=h',toks:=tk }:=I.turned (λb o hb e=>kk b o (by simpa using hb) e) f0 f1 f3 f4 f5;refine⟨_,rfl,zd (s:={ s with heap:=h',toks:=tk }) (n:="range_iterator") st' rfl rfl (by decide) ⟨.int (lo+i),H,I1,⟨t,?_⟩,⟨rfl,rfl⟩,st',λb hb=>(hf b hb).1⟩⟩;rw[Int.mul_one]
 done:=by
  intro X hP hw hK hc i pins s O H E I hf st hg;subst hP hw hK;obtain⟨f0,f1,f2,f3,f4,f5⟩:=hf it (by simp);exact wpAny_pyNext_range_end (I.ok.hd hc) st (by have:n<=i:=hg;omega) λh' eb=>⟨rfl,I.turned (t':=s.toks) (λb o hb e=>eb b o hb e) f0 f1 f3 f4 f5⟩
 self:=λ_ _ _ _ _ st h=>wpAny_pyIter_rangeiter st h
end L2
namespace L2
open PySem PySem.Spec PyProof.Rows
variable {pins:List (Addr×Obj)} {O:St} {H:Hp} {s:Shared} {fp:List Addr}
section
variable {X:Cx} {tg:Expr}
def Fy (K:Frag) (tl:TE):TI:=λO H R=>tl O H λx H1=>∃a,x=.ref a/\(∃xs,SqL K H1 a xs)/\R (Itl K a) H1
theorem AY {l:Expr} {tl:TE} (hl:PE X l tl):PI X tg l (Fy X.K tl):=by
 intro pins s O H R I h;refine thn (hl pins s O H _ I h) λv s1 ⟨x,H1,I1,r1,q1⟩=>?_;obtain⟨a,e,⟨xs,hq⟩,q⟩:=q1;subst e;cases r1;obtain⟨its,rv,p,hz⟩:=I1.list hq;refine wpAny_pyIter_list p.isList ?_;refine⟨s1.heap.objs.size,[s1.heap.objs.size],_,_,H1,rfl,I1.kept (t':=s1.toks) λb o e=>Heap.get?_push_of_some _ e,pQ a _,⟨_,Heap.get?_push_size _ rfl,rfl,rfl⟩,λb hb=>?_,q⟩;have e:b=s1.heap.objs.size:=by simpa using hb
 subst e;exact I1.fpOk (Nat.le_refl _) (I1.hok.fresh (Nat.le_refl _))
theorem ym {R:It->Hp->Prop} {E:Value->Shared->Prop} {lo hi:Int} {t u v:Tok} {tk:Nat} (I:Inv X pins O H s) (h1:-(2 ^ 62)<=lo) (h2:lo<2 ^ 62) (h3:-(2 ^ 62)<=hi) (h4:hi<2 ^ 62)
  (q:R (Itr lo (hi-lo).toNat) H):wpAny (model X.prog X.w) X.A (pyIter (.ref s.heap.objs.size)) (PIE X pins O tg R) E { s with heap:=s.heap.push { cls:=.type "range",data:=.fields #[.int lo t,.int hi u,.int 1 v] },toks:=tk }:=by
 refine wpAny_pyIter_range (IsRange.new ..) (small_one h1 h2 h3 h4) ?_;have I1:Inv X pins O H { s with heap:=s.heap.push { cls:=.type "range",data:=.fields #[.int lo t,.int hi u,.int 1 v] },toks:=tk }:=I.kept λb o e=>Heap.get?_push_of_some _ e;refine⟨(s.heap.push { cls:=.type "range",data:=.fields #[.int lo t,.int hi u,.int 1 v] }).objs.size,[(s.heap.push { cls:=.type "range",data:=.fields #[.int lo t,.int hi u,.int 1 v] }).objs.size],_,_,H,rfl,
  I1.kept (t':=tk) λb o e=>Heap.get?_push_of_some _ e,ue _ lo (hi-lo).toNat,?_,λb hb=>?_,q⟩
 ·have e1:lo+((0:Nat):Int)*1=lo:=by simp
  have e2:(((hi-lo).toNat:Nat):Int)-((0:Nat):Int)=Builtin.Range.rangeSize lo hi 1:=by rw[rangeSize_one];split<;>omega
  show IsRangeIter _ _ (lo+((0:Nat):Int)*1) ((((hi-lo).toNat:Nat):Int)-((0:Nat):Int)) 1;rw[e1,e2];exact Heap.get?_push_size _ rfl
 ·have e:b=(s.heap.push { cls:=.type "range",data:=.fields #[.int lo t,.int hi u,.int 1 v] }).objs.size:=by simpa using hb
  subst e;exact I1.fpOk (Nat.le_refl _) (I1.hok.fresh (Nat.le_refl _))
def Fx (ta:TA):TI:=λO H R=>ta O H λvs H1=>∃j:Int,vs=[.int j]/\-(2 ^ 62)<=j/\j<2 ^ 62/\R (Itr 0 j.toNat) H1
theorem xg {a:Expr} {ta:TA} {p pos:Pos} (hg:Gl X "range") (hm:X.mg "range"=none) (ha:PA X [a] ta) (hs:starEach [a] X.env=[(false,eval a X.env)]:=by rfl):PI X tg (.Call (.Name "range" p) [a] [] pos) (Fx ta):=by
 intro pins s O H R I h;refine Call_ (i5 I hg hm boot_range (PyProof.Rows.callWith_type1 (thn (ha pos pins s O H _ I h) λus s1 ⟨vs,H1,I1,r1,q1⟩=>?_) hs rfl));obtain⟨j,e,q1,q2,q⟩:=q1;subst e;cases r1 with
 | cons r rr =>
  cases rr;obtain⟨t,rfl⟩:=r;exact call_range_1 (ym I1 (by omega) (by omega) q1 q2 (by simpa using q))
def EN (wi:TI) (g:TG) (tb:TS):TS:=λD O H=>wi O H λJ H1=>∃W:Nat->Nat->St->Hp->Prop,(∃m,W 0 m O H1)/\∀i m O H,W i m O H ->
 (J.stop i H/\D.nx O H)\/(J.go i H/\∃N:St->Hp->Prop,(∀σ' H',N σ' H'->∃m',m'<m/\W (i+1) m' σ' H')/\∀x H',J.yld i H x H'->g x O H' λO2 H2=>tb { D with nx:=N,ct:=N,bk:=D.nx } O2 H2)
def du (fp:List Addr) (h:Heap):List (Addr×Obj):=fp.filterMap λb=>(h.get? b).map λo=>(b,o)
theorem fS {h:Heap} {b:Addr} {o:Obj} (hb:b∈fp) (e:h.get? b=some o):(b,o)∈du fp h:=List.mem_filterMap.mpr ⟨b,hb,by rw[e];rfl⟩
theorem jv {h:Heap} {p:Addr×Obj} (hp:p∈du fp h):p.1∈fp/\h.get? p.1=some p.2:=by
 obtain⟨b,hb,e⟩:=List.mem_filterMap.mp hp;cases q:h.get? b with
 | none=>rw[q]at e;cases e
 | some o =>
  rw[q]at e;have e':(b,o)=p:=Option.some.inj e;subst e';exact⟨hb,q⟩
theorem Inv.pinned (I:Inv X pins O H s) (hf:∀b∈fp,pO X pins H b) (ho:∀b∈fp,∃o,s.heap.get? b=some o/\∀v,o.data ≠ .cell v):Inv X (pins++du fp s.heap) O H s :=
 I.pins_of λp hp=>(List.mem_append.mp hp).elim (λz=>I.pin p (List.mem_append_right _ z)) λz=>by
  obtain⟨hb,e⟩:=jv z;obtain⟨f0,f1,f2,_⟩:=hf p.1 hb;obtain⟨o,e',d⟩:=ho p.1 hb;rw[e]at e';cases e';exact⟨e,f0,f1,f2,d⟩
theorem Inv.unpinned {pl:List (Addr×Obj)} (I:Inv X (pins++pl) O H s):Inv X pins O H s:=I.pins_of λp hp=>I.pin p (List.mem_append_right _ (List.mem_append_left _ hp))
theorem lf {iter:Expr} {body:List Stmt} {wi:TI} {g:TG} {tb:TS} {pos:Pos} (hp:PassesOwn (model X.prog X.w) X.A X.env X.xe) (hc:X.calm=true) (hi:PI X tg iter wi) (hg:PG X tg g) (hb:PSs X body tb)
  (hs:∀x,foldedSetIterable iter X.env x=pure x:=by intro _;rfl):PS X (.For tg iter body [] pos) (EN wi g tb):=by
 intro pins s O H D I h;refine wpAny_For (thn (hi pins s O H _ I h) λv s1 h1=>thn h1 λitv s2 h2=>?_) hs;obtain⟨it,fp,tn,J,H2,e,I2,T,st2,f2,W,⟨m0,w0⟩,kT⟩:=h2;subst e;have stat:∀{H':Hp},(∀b∈fp,H' b=none)->∀b∈fp,pO X pins H' b:=λhn b hb=>⟨hn b hb,(f2 b hb).2⟩;refine codeAny_forLoop_any (λn s'=>∃i σ' H',Inv X pins σ' H' s'/\tn i s'.heap/\(∀b∈fp,H' b=none)/\W i n σ' H') ?_ m0 ⟨0,O,H2,I2,st2,λb hb=>(f2 b hb).1,w0⟩;rintro n s3 ⟨i,O3,H3,I3,st3,fr3,w3⟩;rcases kT i n O3 H3 w3 with⟨stop,qn⟩|⟨go,N,hN,step⟩
 ·refine wpAny_passesOwn hp (thn (T.done X rfl rfl rfl hc i pins s3 O3 H3 X.xe I3 (stat fr3) st3 stop) λr s4 ⟨hr,I4⟩=>?_);subst hr;exact wpAny_execs_nil ⟨O3,H3,I4,qn⟩
 ·refine wpAny_passesOwn hp (thn (T.item X rfl rfl rfl hc i pins s3 O3 H3 X.xe I3 (stat fr3) st3 go) λr s4 ⟨u,hr,h4⟩=>?_);subst hr;refine wpAny_passesOwn hp (thn h4 λ_ s5 ⟨x,H5,I5,r5,y5,st5,fr5⟩=>?_);have I5':=I5.pinned (stat fr5) (T.obj _ _ st5);refine wpAny_passesOwn hp (thn (hg _ s5 O3 H5 x u _ I5' r5 (step x H5 y5)) λ_ s6 ⟨O6,H6,I6,q6⟩=>?_);refine wpAny_passesOwn hp (thn (hb _ s6 O6 H6 _ I6 q6) λf s7 q7=>?_);have again:∀{O7:St} {H7:Hp},Inv X (pins++du fp s5.heap) O7 H7 s7->N O7 H7->∃m,m<n/\∃i σ' H',Inv X pins σ' H' s7/\tn i s7.heap/\(∀b∈fp,H' b=none)/\W i m σ' H':=λ{O7 H7} I7 n7=>by
   obtain⟨m',hm,w7⟩:=hN O7 H7 n7;refine⟨m',hm,i+1,O7,H7,I7.unpinned,T.keep _ _ _ st5 λb hb o e=>(I7.pin (b,o) (List.mem_append_right _ (List.mem_append_right _ (fS hb e)))).1,λb hb=>?_,w7⟩;obtain⟨o,e,d⟩:=T.obj _ _ st5 b hb;exact(I7.pin (b,o) (List.mem_append_right _ (List.mem_append_right _ (fS hb e)))).2.1
  cases f with
  | next=>obtain⟨O7,H7,I7,n7⟩:=q7;exact again I7 n7
  | cont=>obtain⟨O7,H7,I7,n7⟩:=q7;exact again I7 n7
  | brk=>obtain⟨O7,H7,I7,q7⟩:=q7;exact⟨O7,H7,I7.unpinned,q7⟩
  | ret v=>obtain⟨x7,O7,H7,I7,r7,q7⟩:=q7;exact⟨x7,O7,H7,I7.unpinned,r7,q7⟩
end
theorem nX {K:Frag} {a:Addr} {xs:List V} {g:TG} {tb:TS} {D:iR} (Pv:Nat->St->Hp->Prop) (h0:Pv 0 O H) (hl:∀i O H,i<=xs.length->Pv i O H->SqL K H a xs)
  (hs:∀i x O H,xs[i]?=some x->Pv i O H->g x O H λO2 H2=>tb { D with nx:=Pv (i+1),ct:=Pv (i+1),bk:=D.nx } O2 H2) (hd:∀O H,Pv xs.length O H->D.nx O H) :
  ∃W:Nat->Nat->St->Hp->Prop,(∃m,W 0 m O H)/\∀i m O H,W i m O H ->
   ((Itl K a).stop i H/\D.nx O H)\/((Itl K a).go i H/\∃N:St->Hp->Prop,(∀σ' H',N σ' H'->∃m',m'<m/\W (i+1) m' σ' H')/\∀x H',(Itl K a).yld i H x H'->g x O H' λO2 H2=>tb { D with nx:=N,ct:=N,bk:=D.nx } O2 H2):=by
 refine⟨λi m O H=>m=xs.length-i/\i<=xs.length/\Pv i O H,⟨xs.length,by simp,Nat.zero_le _,h0⟩,?_⟩;rintro i m O H ⟨rfl,hi,p⟩;have q:=hl i O H hi p;by_cases hlt:i<xs.length
 ·refine .inr ⟨⟨xs,xs[i],q,by simp[hlt]⟩,Pv (i+1),λσ' H' p'=>⟨xs.length-(i+1),by omega,rfl,hlt,p'⟩,λx H' y=>?_⟩;obtain⟨e,y⟩:=y;subst e;exact hs i x O _ (y xs q) p
 ·have e:i=xs.length:=by omega
  subst e;exact .inl ⟨⟨xs,q,Nat.le_refl _⟩,hd O H p⟩
end L2
namespace L2
open PySem PySem.Spec PyProof.Rows
abbrev R2:=V->V->Hp->VK->Prop
def OpR (X:Cx) (f:Value->Value->Sem Value) (r:R2):Prop :=
 ∀(pins:List (Addr×Obj)) (s:Shared) (O:St) (H:Hp) (x y:V) (v u:Value) (Q:VK),Inv X pins O H s->RelV x v->RelV y u->r x y H Q ->
  wpAny (model X.prog X.w) X.A (f v u) (EP X pins O Q) X.xe s
def UnR (X:Cx) (f:Value->Sem Value) (r:V->Hp->VK->Prop):Prop :=
 ∀(pins:List (Addr×Obj)) (s:Shared) (O:St) (H:Hp) (x:V) (v:Value) (Q:VK),Inv X pins O H s->RelV x v->r x H Q ->
  wpAny (model X.prog X.w) X.A (f v) (EP X pins O Q) X.xe s
def jU (X:Cx) (f:Value) (r:List V->Hp->VK->Prop):Prop :=
 ∀(pins:List (Addr×Obj)) (s:Shared) (O:St) (H:Hp) (xs:List V) (us:List Value) (Q:VK),Inv X pins O H s->Vals xs us->r xs H Q ->
  wpAny (model X.prog X.w) X.A (call f us) (EP X pins O Q) X.xe s
def tOp (r:R2) (ta tb:TE):TE:=λO H Q=>ta O H λx H1=>tb O H1 λy H2=>r x y H2 Q
def tUn (r:V->Hp->VK->Prop) (ta:TE):TE:=λO H Q=>ta O H λx H1=>r x H1 Q
def rI (C:Int->Int->Prop) (g:Int->Int->V):R2:=λx y H Q=>∃i j,x=.int i/\y=.int j/\C i j/\Q (g i j) H
def rI0 (g:Int->Int->V):R2:=λx y H Q=>∃i j,x=.int i/\y=.int j/\Q (g i j) H
def rU (g:Int->V):V->Hp->VK->Prop:=λx H Q=>∃i,x=.int i/\Q (g i) H
variable {f:Value->Value->Sem Value} {r:R2}
section
variable {X:Cx} {a b c:Expr} {ta tb tc:TE} {pos:Pos}
theorem Es (ha:PE X a ta) (hb:PE X b tb) {pins:List (Addr×Obj)} {s:Shared} {O:St} {H:Hp} {R:V->V->Hp->Prop} (I:Inv X pins O H s)
  (h:ta O H λx H1=>tb O H1 λy H2=>R x y H2) {Q:Value->Shared->Prop}
  (hf:∀v u s2 x y H2,Inv X pins O H2 s2->RelV x v->RelV y u->R x y H2->wpAny (model X.prog X.w) X.A (f v u) Q X.xe s2) :
  wpAny (model X.prog X.w) X.A (eval a X.env) (λv s₁=>wpAny (model X.prog X.w) X.A (eval b X.env) (λu s₂=>wpAny (model X.prog X.w) X.A (f v u) Q X.xe s₂) X.xe s₁) X.xe s:=by
 refine thn (ha pins s O H _ I h) λv s1 ⟨x,H1,I1,r1,q1⟩=>?_;refine thn (hb pins s1 O H1 _ I1 q1) λu s2 ⟨y,H2,I2,r2,q2⟩=>?_;exact hf v u s2 x y H2 I2 r1 r2 q2
theorem Cv {op:Operator} (ho:OpR X (binaryOp op) r) (ha:PE X a ta) (hb:PE X b tb):PE X (.BinOp a op b pos) (tOp r ta tb):=by
 intro pins s O H Q I h;exact wpAny_BinOp (Es ha hb I h λv u s2 x y H2 I2 rx ry q=>ho pins s2 O H2 x y v u Q I2 rx ry q)
theorem Ff {op:UnaryOp} {r:V->Hp->VK->Prop} (ho:UnR X (unaryOp op) r) (ha:PE X a ta):PE X (.UnaryOp op a pos) (tUn r ta):=by
 intro pins s O H Q I h;exact UnaryOp_ (thn (ha pins s O H _ I h) λv s1 ⟨x,H1,I1,r1,q1⟩=>ho pins s1 O H1 x v Q I1 r1 q1)
theorem opI {C:Int->Int->Prop} {g:Int->Int->Int}
  (rule:∀(i j:Int) (t u:Tok) (s:Shared) (Q:Value->Shared->Prop) (E:Value->Shared->Prop),C i j->Q (.int (g i j) s.toks) { s with toks:=s.toks+1 }->wpAny (model X.prog X.w) X.A (f (.int i t) (.int j u)) Q E s) :
  OpR X f (rI C λi j=>.int (g i j)):=by
 intro pins s O H x y v u Q I rx ry h;obtain⟨i,j,rfl,rfl,hc,q⟩:=h;obtain⟨t,rfl⟩:=rx;obtain⟨t',rfl⟩:=ry;exact rule i j t t' s _ _ hc ⟨.int (g i j),H,I.tok _,⟨_,rfl⟩,q⟩
theorem Gv {g:Int->Int->Int}
  (rule:∀(i j:Int) (t u:Tok) (s:Shared) (Q:Value->Shared->Prop) (E:Value->Shared->Prop),Q (.int (g i j) s.toks) { s with toks:=s.toks+1 }->wpAny (model X.prog X.w) X.A (f (.int i t) (.int j u)) Q E s) :
  OpR X f (rI0 λi j=>.int (g i j)):=by
 intro pins s O H x y v u Q I rx ry h;obtain⟨i,j,rfl,rfl,q⟩:=h;obtain⟨t,rfl⟩:=rx;obtain⟨t',rfl⟩:=ry;exact rule i j t t' s _ _ ⟨.int (g i j),H,I.tok _,⟨_,rfl⟩,q⟩
theorem DP {g:Int->Int->Bool}
  (rule:∀(i j:Int) (t u:Tok) (s:Shared) (Q:Value->Shared->Prop) (E:Value->Shared->Prop),Q (.bool (g i j)) s->wpAny (model X.prog X.w) X.A (f (.int i t) (.int j u)) Q E s) :
  OpR X f (rI0 λi j=>.bl (g i j)):=by
 intro pins s O H x y v u Q I rx ry h;obtain⟨i,j,rfl,rfl,q⟩:=h;obtain⟨t,rfl⟩:=rx;obtain⟨t',rfl⟩:=ry;exact rule i j t t' s _ _ ⟨.bl (g i j),H,I,rfl,q⟩
def FS (i j:Int):Prop:=0<j/\j<1073741824
def CMul (i j:Int):Prop:=(-(2 ^ 64)<i/\i<2 ^ 64)\/(-(2 ^ 64)<j/\j<2 ^ 64)
theorem CMul.ok {i j:Int} (h:CMul i j):IntMulOk i j:=by
 rcases h with⟨h1,h2⟩|⟨h1,h2⟩
 ·exact .of_left (intBits_le_64 h1 h2)
 ·exact .of_right (intBits_le_64 h1 h2)
theorem op_add:OpR X (binaryOp .Add) (rI0 λi j=>.int (i+j)):=Gv λ_ _ _ _ _ _ _ q=>add_int q
theorem DM:OpR X (binaryOp .Mult) (rI CMul λi j=>.int (i*j)):=opI λ_ _ _ _ _ _ _ hc q=>mul_int q hc.ok
theorem Bh:OpR X (binaryOp .FloorDiv) (rI FS λi j=>.int (i/j)):=opI λi j _ _ _ _ _ hc q=>by
 have h1:(0:Int)<j:=hc.1;have h2:j<1073741824:=hc.2;exact floordiv_int (by omega) (by rw[Int.fdiv_eq_ediv_of_nonneg i (by omega)];exact q) (.inl (PyProof.noPylong_small (by omega)))
theorem DN:OpR X (binaryOp .Mod) (rI (λ_ j=>0<j) λi j=>.int (i%j)):=opI λi j _ _ _ _ _ hc q=>by
 have h1:(0:Int)<j:=hc;exact mod_int' (by omega) (by rw[Int.fmod_eq_emod_of_nonneg i (by omega)];exact q)
theorem unI {f:Value->Sem Value} {g:Int->Int}
  (rule:∀(i:Int) (t:Tok) (s:Shared) (Q:Value->Shared->Prop) (E:Value->Shared->Prop),Q (.int (g i) s.toks) { s with toks:=s.toks+1 }->wpAny (model X.prog X.w) X.A (f (.int i t)) Q E s) :
  UnR X f (rU λi=>.int (g i)):=by
 intro pins s O H x v Q I rx h;obtain⟨i,rfl,q⟩:=h;obtain⟨t,rfl⟩:=rx;exact rule i t s _ _ ⟨.int (g i),H,I.tok _,⟨_,rfl⟩,q⟩
theorem CO:UnR X (unaryOp .USub) (rU λi=>.int (-i)):=unI λ_ _ _ _ _ q=>neg_int q
end
variable {op:CmpOp} {r':R2}
section
variable {X:Cx} {a b c:Expr} {ta tb tc:TE} {pos:Pos}
theorem Cy:OpR X (compareOp .Lt) (rI0 λi j=>.bl (decide (i<j))):=DP λ_ _ _ _ _ _ _ q=>lt_int q
theorem nq:OpR X (compareOp .LtE) (rI0 λi j=>.bl (decide (i<=j))):=DP λ_ _ _ _ _ _ _ q=>le_int q
theorem Cz:OpR X (compareOp .Gt) (rI0 λi j=>.bl (decide (j<i))):=DP λ_ _ _ _ _ _ _ q=>gt_int q
theorem OpR.or (h:OpR X f r) (h':OpR X f r'):OpR X f (λx y H Q=>r x y H Q\/r' x y H Q):=by
 intro pins s O H x y v u Q I rx ry q;rcases q with q|q
 ·exact h pins s O H x y v u Q I rx ry q
 ·exact h' pins s O H x y v u Q I rx ry q
theorem iY (b:Expr) (h:op ≠ .In:=by decide) (h2:op ≠ .NotIn:=by decide):behindInMarks op b=false:=by
 have e1:(op==CmpOp.In)=false:=by cases op<;>first|rfl|exact absurd rfl h
 have e2:(op==CmpOp.NotIn)=false:=by cases op<;>first|rfl|exact absurd rfl h2
 cases b<;>simp[behindInMarks,e1,e2]
theorem A8 (ho:OpR X (compareOp op) r) (ha:PE X a ta) (hb:PE X b tb) (hm:behindInMarks op b=false):PE X (.Compare a [op] [b] pos) (tOp r ta tb):=by
 intro pins s O H Q I h;exact wpAny_Compare1 (Es ha hb I h λv u s2 x y H2 I2 rx ry q=>ho pins s2 O H2 x y v u Q I2 rx ry q) hm
def Cq (t:TE):TT:=λO H Q=>t O H λx H'=>∃k,x=.bl k/\Q k H'
theorem vR (ho:OpR X (compareOp op) r) (ha:PE X a ta) (hb:PE X b tb) (hm:behindInMarks op b=false):PT X (.Compare a [op] [b] pos) (Cq (tOp r ta tb)):=by
 intro pins s O H Q I h;refine wpAny_isTrue_Compare1 (thn (ha pins s O H _ I h) λv s1 ⟨x,H1,I1,r1,q1⟩=>thn (hb pins s1 O H1 _ I1 q1) λu s2 ⟨y,H2,I2,r2,q2⟩ =>
  thn (ho pins s2 O H2 x y v u _ I2 r1 r2 q2) λc s3 ⟨z,H3,I3,r3,k,e,q3⟩=>?_) hm
 subst e;cases r3;exact wpAny_truthy_bool ⟨H3,I3,q3⟩
def um (r r':R2) (ta tb tc:TE):TE:=λO H Q=>ta O H λx H1=>tb O H1 λy H2=>r x y H2 λz H3=>∃k,z=.bl k /\
 (if k=true then tc O H3 λw' H4=>r' y w' H4 Q else Q (.bl false) H3)
theorem yJ {op':CmpOp} (ho:OpR X (compareOp op) r) (ho':OpR X (compareOp op') r') (ha:PE X a ta) (hb:PE X b tb) (hc:PE X c tc)
  (hm:lastMarks [op,op'] [b,c]=false:=by with_unfolding_all rfl):PE X (.Compare a [op,op'] [b,c] pos) (um r r' ta tb tc):=by
 intro pins s O H Q I h;refine Compare_chain (thn (ha pins s O H _ I h) λv s1 ⟨x,H1,I1,r1,q1⟩=>chain_link (thn (hb pins s1 O H1 _ I1 q1) λu s2 ⟨y,H2,I2,r2,q2⟩ =>
  thn (ho pins s2 O H2 x y v u _ I2 r1 r2 q2) λd s3 ⟨z,H3,I3,r3,k,e,q3⟩=>?_)) hm
 subst e;cases r3;refine wpAny_truthy_bool ?_;cases k with
 | false=>exact ite_ff ⟨.bl false,H3,I3,rfl,q3⟩
 | true=>exact ite_tt (chain_last (thn (hc pins s3 O H3 _ I3 q3) λw' s4 ⟨z',H4,I4,r4,q4⟩=>ho' pins s4 O H4 y z' u w' Q I4 r2 r4 q4))
theorem yt {op':CmpOp} (ho:OpR X (compareOp op) r) (ho':OpR X (compareOp op') r') (ha:PE X a ta) (hb:PE X b tb) (hc:PE X c tc)
  (hm:lastMarks [op,op'] [b,c]=false:=by with_unfolding_all rfl):PT X (.Compare a [op,op'] [b,c] pos) (Cq (um r r' ta tb tc)):=by
 intro pins s O H Q I h;refine isTrue_chain (thn (ha pins s O H _ I h) λv s1 ⟨x,H1,I1,r1,q1⟩=>test_link (thn (hb pins s1 O H1 _ I1 q1) λu s2 ⟨y,H2,I2,r2,q2⟩ =>
  thn (ho pins s2 O H2 x y v u _ I2 r1 r2 q2) λd s3 ⟨z,H3,I3,r3,k,e,q3⟩=>?_)) hm
 subst e;cases r3;refine wpAny_truthy_bool ?_;cases k with
 | false =>
  obtain⟨k',e',q'⟩:=q3;cases e';exact ite_ff ⟨H3,I3,q'⟩
 | true =>
  refine ite_tt (test_last (thn (hc pins s3 O H3 _ I3 q3) λw' s4 ⟨z',H4,I4,r4,q4⟩=>thn (ho' pins s4 O H4 y z' u w' _ I4 r2 r4 q4) λd' s5 ⟨z2,H5,I5,r5,k2,e2,q5⟩=>?_));subst e2;cases r5;exact wpAny_truthy_bool ⟨H5,I5,q5⟩
theorem nP:(sizeLine:Nat)<2 ^ 63:=by rw[sizeLine_eq];decide
theorem mW {x:V} {us:List Value} (r:Vals [x] us):∃u,us=[u]/\RelV x u:=by
 cases r with
 | cons r1 r2=>cases r2;exact⟨_,rfl,r1⟩
theorem EH {x y:V} {us:List Value} (r:Vals [x,y] us):∃u w',us=[u,w']/\RelV x u/\RelV y w':=by
 cases r with
 | cons r1 r2 =>
  cases r2 with
  | cons r3 r4=>cases r4;exact⟨_,_,rfl,r1,r3⟩
theorem lF (hc:X.calm=true):jU X (.builtin "max") (λxs H Q=>∃i j,xs=[.int i,.int j]/\Q (.int (if j>i then j else i)) H):=by
 intro pins s O H xs us Q I r h;obtain⟨i,j,rfl,q⟩:=h;obtain⟨u,w',rfl,⟨t,rfl⟩,⟨t',rfl⟩⟩:=EH r;refine max_two_ints (I.ok.hd hc) λh' tk k=>⟨_,H,I.kept k,?_,q⟩;by_cases hj:j>i
 ·rw[if_pos hj,if_pos hj];exact⟨_,rfl⟩
 ·rw[if_neg hj,if_neg hj];exact⟨_,rfl⟩
end
end L2
namespace L2
open PySem PySem.Spec PyProof.Rows
structure ObjM (h:Heap) (x dx C:Addr) (mA:Str->Option Value):Prop where
 obj:h.get? x=some (instObj C dx)
 ns:h.Ns1 dx mA
 ne:dx≠x
theorem xo {h:Heap} {dx:Addr} {mA:Str->Option Value} (n:h.Ns1 dx mA):∃od,h.get? dx=some od/\∀name,PySem.W.lookIn name od=some (mA name):=by
 obtain⟨o,es,ep,ho,hd,hk,_,hm⟩:=n;refine⟨o,ho,λname=>?_⟩;have e:=hm name;unfold nsFind findBy at e;rw[<- Array.find?_toList]at e;unfold PySem.W.lookIn;rw[hd];dsimp only;split
 ·rename_i y q;rw[q]at e;exact congrArg some e
 ·rename_i q;rw[q]at e;have a:es.toList.any (·.refKey)=false:=by
   rw[List.any_eq_false];intro y hy;obtain⟨z,t,hkey⟩:=hk y (Array.mem_toList_iff.mp hy);simp[DictEntry.refKey,hkey]
  have a':¬ es.toList.any (·.refKey)=true:=by rw[a];exact Bool.false_ne_true
  rw[if_neg a'];exact congrArg some e
variable {C:Addr}
theorem ObjM.look {h:Heap} {x dx:Addr} {mA:Str->Option Value} (I:ObjM h x dx C mA):∃od,PySem.W.InstAt h x (instObj C dx) C (some od)/\∀name,PySem.W.lookIn name od=some (mA name) :=
 let ⟨od,ho,hl⟩:=xo I.ns
 ⟨od,⟨I.obj,rfl,rfl,ho⟩,hl⟩
variable {Q:Value->Shared->Prop}
section
variable {prog:Program} {w:World} {A:Around} {E:Value->Shared->Prop} {s:Shared} {K:Frag} {x dx C f:Addr} {mA:Str->Option Value} {name:Str} {v:Value}
theorem BB {expr:Bool} (X:K.In s.heap) (I:ObjM s.heap x dx C mA) (hg:plainGet K C name=true) (hh:hasDictIn K C=true)
  (ha:findIn K (.ref C) name=some none) (hv:mA name=some v) (hv':PySem.W.handedIn v=true) (h:Q v { s with toks:=s.toks+1 }) :
  wpAny (model prog w) A (getAttr (.ref x) name expr) Q E s:=by
 obtain⟨od,J,hl⟩:=I.look;exact PySem.W.get_value X J (PySem.W.plainGet_of hg).1 (PySem.W.findObj_own hh ha rfl (by rw[hl,hv])) hv' h
theorem Ay {ns:List Str} {Q:Unit->Shared->Prop} (X:K.In s.heap) (I:ObjM s.heap x dx C mA)
  (hs:findIn K (.ref C) "__setattr__"=some (some (.builtin "object.__setattr__"))) (hp:PySem.W.plainOver K C=true) (ht:PySem.W.takerIn K C name=some none) (hh:hasDictIn K C=true)
  (hw:PySem.Within mA ns) (hsz:ns.length<=sizeLine)
  (h:∀h',ObjM h' x dx C (λy=>if y=name then some v else mA y)->Heap.SameBut dx s.heap h'->Q () { s with heap:=h',toks:=s.toks+2 }) :
  wpAny (model prog w) A (setAttr (.ref x) name v) Q E s:=by
 obtain⟨od,J,hl⟩:=I.look;refine PySem.W.set_plain X J hs (PySem.W.osa_open (s:={ s with toks:=s.toks+1 }) (r:=none) X J hp ht λb=>?_);obtain⟨cd,hc,hd'⟩:=PySem.W.any_some hh;have hx:s.heap.get? x=some ⟨.ref C,some dx,.plain,#[]⟩:=I.obj;refine wpAny_bind (wpAny_pure (wpAny_bind (wpAny_bind (wpAny_loadPart hx (wpAny_bind (PySem.W.Looks.here (s:={ s with toks:=s.toks+1 }) (PySem.W.looks_clsIn X hc) ?_))))));rw[hd'];refine wpAny_pure (a:=some dx) (wpAny_bind (wpAny_pure (wpAny_bind ?_)));refine wpAny_nsSet1 (s:={ s with toks:=s.toks+1 }) I.ns λh' hn2 hs2=>?_;obtain⟨oD,esD,epD,hoD,hdD,hcD⟩:=hn2.count (PySem.Within.cons name v hw);refine wpAny_bind (wpAny_lookBehind hoD (by rw[hdD];exact pastItsLine_dict (Nat.le_trans hcD (by rw[List.length_cons];omega))) ?_);exact wpAny_pure (h _ ⟨(hs2.2 _ (Ne.symm I.ne)).trans I.obj,hn2,I.ne⟩ hs2)
theorem yV {R:Result->Shared->Prop} {vs:List Value} {kw:List (Str×Value)} (X:K.In s.heap) (hm:PySem.W.makesIn K C=true)
  (hi:findIn K (.ref C) "__init__"=some (some (.ref f))) (hf:PySem.W.typeIn K (.ref f)=some (.type "function"))
  (h:codeAny (model prog w) (A.under (.builtin "type.__call__" ⟨.ref C::vs,kw⟩)) (.call (.ref f) ⟨.ref (s.heap.objs.size+1)::vs,kw⟩) (PySem.W.InitBack (s.heap.objs.size+1) R)
   {s with heap:=(s.heap.push emptyDict).push (instObj C s.heap.objs.size) }) :
  codeAny (model prog w) A (.call (.ref C) ⟨vs,kw⟩) R s:=by
 obtain⟨hh,g,d,t,os⟩:=s;exact PySem.W.make_core (PySem.W.makes_of X hm) (PySem.W.looks_findIn X hi) (λself=>PySem.W.bind_fn X self hf) (.inl rfl) h
end
def ie (f:Str) (v:V):List (Str×V)->List (Str×V)
 | []=>[(f,v)]
 | (g,x)::r=>if g=f then(g,v)::r else(g,x)::ie f v r
theorem lJ (f g:Str) (v:V):∀fs:List (Str×V),(ie f v fs).lookup g=if g=f then some v else fs.lookup g
 | []=>by
  show List.lookup g [(f,v)]=_;by_cases h:g=f
  ·have hb:(g==f)=true:=beq_iff_eq.mpr h;simp only[List.lookup,hb,if_pos h]
  ·have hb:(g==f)=false:=beq_eq_false_iff_ne.mpr h;simp only[List.lookup,hb,if_neg h]
 | (k,x)::r=>by
  have ih:=lJ f g v r;rw[show ie f v ((k,x)::r)=(if k=f then(k,v)::r else(k,x)::ie f v r)from rfl];by_cases hk:k=f
  ·rw[if_pos hk];by_cases h:g=k
   ·have hb:(g==k)=true:=beq_iff_eq.mpr h;simp only[List.lookup,hb,if_pos (h.trans hk)]
   ·have hb:(g==k)=false:=beq_eq_false_iff_ne.mpr h;simp only[List.lookup,hb,if_neg (λe:g=f=>h (e.trans hk.symm))]
  ·rw[if_neg hk];by_cases h:g=k
   ·have hb:(g==k)=true:=beq_iff_eq.mpr h;simp only[List.lookup,hb,if_neg (λe:g=f=>hk (h.symm.trans e))]
   ·have hb:(g==k)=false:=beq_eq_false_iff_ne.mpr h;simp only[List.lookup,hb];exact ih
theorem lw (f:Str) (v:V):∀fs:List (Str×V),f∈(ie f v fs).map (·.1)/\∀g,g∈fs.map (·.1)->g∈(ie f v fs).map (·.1)
 | []=>⟨by simp[ie],λg h=>by simp at h⟩
 | (k,x)::r=>by
  obtain⟨i1,i2⟩:=lw f v r;rw[show ie f v ((k,x)::r)=(if k=f then(k,v)::r else(k,x)::ie f v r)from rfl];by_cases hk:k=f
  ·rw[if_pos hk];subst hk;exact⟨by simp,λg h=>by simpa using h⟩
  ·rw[if_neg hk];refine⟨?_,λg h=>?_⟩
   ·rw[List.map_cons];exact List.mem_cons_of_mem _ i1
   ·rw[List.map_cons]at h ⊢;rcases List.mem_cons.mp h with e|e
    ·exact List.mem_cons.mpr (.inl e)
    ·exact List.mem_cons_of_mem _ (i2 g e)
theorem lL (f:Str) (v:V):∀fs:List (Str×V),(ie f v fs).length<=fs.length+1
 | []=>by simp[ie]
 | (k,x)::r=>by
  have ih:=lL f v r;rw[show ie f v ((k,x)::r)=(if k=f then(k,v)::r else(k,x)::ie f v r)from rfl];by_cases hk:k=f
  ·rw[if_pos hk,List.length_cons,List.length_cons];omega
  ·rw[if_neg hk,List.length_cons,List.length_cons];omega
theorem RelO.some_of {v:V} {o:Option Value} (r:RelO (some v) o):∃u,o=some u/\RelV v u:=by
 cases o with
 | none=>exact(show False from r).elim
 | some u=>exact⟨u,rfl,r⟩
variable {u:Value}
theorem xu {v:V} (r:RelV v u):PySem.W.handedIn u=true:=by
 cases v with
 | non=>cases(show u=Value.none from r);rfl
 | bl b=>cases(show u=Value.bool b from r);rfl
 | int i=>obtain⟨t,e⟩:=(show ∃t,u=Value.int i t from r);cases e;rfl
 | str x=>obtain⟨t,e⟩:=(show ∃t,u=Value.str x t from r);cases e;rfl
 | byt b=>obtain⟨t,e⟩:=(show ∃t,u=Value.bytes b t from r);cases e;rfl
 | flt b=>obtain⟨t,e⟩:=(show ∃t,u=Value.float b t from r);cases e;rfl
 | ref a=>cases(show u=Value.ref a from r);rfl
 | ty n=>cases(show u=Value.type n from r);rfl
section
variable {P:Program} {w:World} {H H':Hp} {h h':Heap} {a C dx:Addr} {fs fs':List (Str×V)}
theorem rj (hok:HOk P w H h) (e:H a=some (.ins C dx fs)):∃mA,ObjM h a dx C mA/\(∀f,RelO (fs.lookup f) (mA f))/\PySem.Within mA (fs.map (·.1))/\fs.length<=1000/\H dx=some (.own a):=by
 obtain⟨d,z,ne,ob,mA,n,r,q⟩:=(show ObjOk P w H h a (.ins C dx fs)from hok a _ e);exact⟨mA,⟨ob,n,ne⟩,r,q,z,d⟩
end
structure Cls (K:Frag) (C:Addr):Prop where
 pg:plainGet K C Str.empty=true
 hd:hasDictIn K C=true
 po:PySem.W.plainOver K C=true
 sa:findIn K (.ref C) "__setattr__"=some (some (.builtin "object.__setattr__"))
theorem Cls.get {K:Frag} (c:Cls K C) (f:Str):plainGet K C f=true:=c.pg
def NoAttr (K:Frag) (C:Addr) (f:Str):Prop:=findIn K (.ref C) f=some none
theorem NoAttr.taker {K:Frag} {f:Str} (n:NoAttr K C f):PySem.W.takerIn K C f=some none:=by
 unfold PySem.W.takerIn;rw[show findIn K (.ref C) f=some none from n];rfl
section
variable {X:Cx} {pins:List (Addr×Obj)} {O:St} {H:Hp} {s:Shared} {a C dx:Addr} {fs:List (Str×V)} {f:Str} {v:V} {A:Around} {E:Value->Shared->Prop}
theorem uT {b:Bool} (I:Inv X pins O H s) (e:H a=some (.ins C dx fs)) (c:Cls X.K C) (n:NoAttr X.K C f) (l:fs.lookup f=some v)
  (h:∀u s',Inv X pins O H s'->RelV v u->Q u s'):wpAny (model X.prog X.w) A (getAttr (.ref a) f b) Q E s:=by
 obtain⟨mA,HC,r,_,_,_⟩:=rj I.hok e;obtain⟨u,hu,ru⟩:=RelO.some_of (v:=v) (o:=mA f) (by rw[<- l];exact r f);exact BB I.kIn HC (c.get f) c.hd n hu (xu ru) (h u _ (I.tok _) ru)
theorem ut {y:V} {Q:Unit->Shared->Prop} (I:Inv X pins O H s) (e:H a=some (.ins C dx fs)) (c:Cls X.K C) (n:NoAttr X.K C f) (hl:fs.length<1000) (ry:RelV y u)
  (h:∀s',Inv X pins O (upd H a (.ins C dx (ie f y fs))) s'->Q () s'):wpAny (model X.prog X.w) A (setAttr (.ref a) f u) Q E s:=by
 obtain⟨mA,HC,r,wi,_,ho⟩:=rj I.hok e;have hz:(fs.map (·.1)).length<=sizeLine:=by rw[List.length_map,sizeLine_eq];omega
 refine Ay I.kIn HC c.sa c.po n.taker c.hd wi hz λh' O' sb=>h _ ?_;have hd:∃o,h'.get? dx=some o:=let ⟨o,_,_,e',_⟩:=O'.ns;⟨o,e'⟩;refine I.write (x:=a) (e:=dx) (by rw[e];exact True.intro) (.inr ho) (λb q hb z=>(sb.2 b hb).trans z) hd ?_;refine⟨by rw[aw HC.ne];exact ho,?_,HC.ne,O'.obj,_,O'.ns,λg=>?_,λg hg=>?_⟩
 ·have:=lL f y fs;omega
 ·show RelO ((ie f y fs).lookup g) (if g=f then some u else mA g);rw[lJ];by_cases q:g=f
  ·rw[if_pos q,if_pos q];exact ry
  ·rw[if_neg q,if_neg q];exact r g
 ·by_cases q:g=f
  ·rw[q];exact(lw f y fs).1
  ·refine(lw f y fs).2 g (wi g λz=>hg ?_);show(if g=f then some u else mA g)=none;rw[if_neg q];exact z
theorem Inv.made (I:Inv X pins O H s):Inv X pins O (upd (upd H s.heap.objs.size (.own (s.heap.objs.size+1))) (s.heap.objs.size+1) (.ins C s.heap.objs.size []))
  {s with heap:=(s.heap.push emptyDict).push (instObj C s.heap.objs.size) }:=by
 have e1:(s.heap.push emptyDict).get? s.heap.objs.size=some emptyDict:=Heap.get?_push_size s.heap rfl;have e2:((s.heap.push emptyDict).push (instObj C s.heap.objs.size)).get? (s.heap.objs.size+1)=some (instObj C s.heap.objs.size):=by
  have:=Heap.get?_push_size (s.heap.push emptyDict) (o:=instObj C s.heap.objs.size) rfl;rwa[Heap.size_push]at this
 have e3:(s.heap.push emptyDict).Ns s.heap.objs.size (λ_=>none):=⟨emptyDict,#[],_,e1,rfl,(λe he=>absurd he (by simp)),λ_=>rfl⟩;have I1:=I.laid (a:=s.heap.objs.size) (o:=.own (s.heap.objs.size+1)) (h':=s.heap.push emptyDict) (t':=s.toks) (λb u q=>Heap.get?_push_of_some _ q) (Nat.le_refl _) ⟨_,e1⟩;refine I1.laid (a:=s.heap.objs.size+1) (o:=.ins C s.heap.objs.size []) (t':=s.toks) (λb u q=>Heap.get?_push_of_some _ q) (Nat.le_of_eq (Heap.size_push _ _)) ?_;have ne:s.heap.objs.size≠s.heap.objs.size+1:=Nat.ne_of_lt (Nat.lt_succ_self _);refine⟨by rw[aw ne,aF],Nat.zero_le _,ne,e2,λ_=>none,(Heap.Ns1.of_empty e3).at λo q=>Heap.get?_push_of_some _ q,λ_=>True.intro,λy hy=>absurd rfl hy⟩
theorem Cb {prog:Program} {w:World} {env:Env} {e:Expr} {f:Str} {pos:Pos} {s:Shared} (hb:attributeBase e f env (eval e env)=eval e env)
  (h:wpAny (model prog w) A (eval e env) (λo s₁=>wpAny (model prog w) A (getAttr o f true) Q E s₁) E s):wpAny (model prog w) A (eval (.Attribute e f pos) env) Q E s :=
 Attribute_any_ h (by rw[arm_eval_Attribute,hb])
end
def Gk (K:Frag) (ta:TE) (f:Str):TE:=λO H Q=>ta O H λx H1=>∃a C dx fs v,x=.ref a/\H1 a=some (.ins C dx fs)/\Cls K C/\NoAttr K C f/\fs.lookup f=some v/\Q v H1
def qH (K:Frag) (ta tv:TE) (f:Str):TS:=λD O H=>tv O H λy H1=>ta O H1 λx H2=>∃a C dx fs,x=.ref a/\H2 a=some (.ins C dx fs)/\Cls K C/\NoAttr K C f/\fs.length<1000 /\
 D.nx O (upd H2 a (.ins C dx (ie f y fs)))
section
variable {X:Cx} {o e value:Expr} {f:Str} {pos pos' tpos:Pos} {ta tv:TE}
theorem DB (he:PE X e ta) (hb:attributeBase e f X.env (eval e X.env)=eval e X.env):PE X (.Attribute e f pos) (Gk X.K ta f):=by
 intro pins s O H Q I h;refine Cb hb (thn (he pins s O H _ I h) λu s1 ⟨x,H1,I1,rx,a,C,dx,fs,v,ex,ea,c,n,l,q⟩=>?_);subst ex;obtain rfl:u=Value.ref a:=rx;exact uT I1 ea c n l λu' s2 I2 ru=>⟨v,H1,I2,ru,q⟩
theorem Dr (ha:PE X o ta) (hv:PE X value tv) (hs:swapsWith value (some (.Attribute o f pos')) pos.line X.env=pure false):PS X (.Assign [.Attribute o f pos'] value pos) (qH X.K ta tv f):=by
 intro pins s O H D I h;refine plainObj_wpAny_Assign_Attribute (thn (hv pins s O H _ I h) λu s1 ⟨y,H1,I1,ry,q⟩=>thn (ha pins s1 O H1 _ I1 q) λov s2 ⟨x,H2,I2,rx,a,C,dx,fs,ex,ea,c,n,l,q2⟩=>?_) hs;subst ex;obtain rfl:ov=Value.ref a:=rx;exact ut I2 ea c n l ry λs3 I3=>⟨O,_,I3,q2⟩
end
section
variable {X:Cx} {pins:List (Addr×Obj)} {O:St} {H:Hp} {s:Shared} {A:Around} {E:Value->Shared->Prop} {Q:Value->Shared->Prop} {c:Value} {b:Bool}
inductive lH (K:Frag) (H:Hp):V->Value->Prop where
 | non:lH K H .non (.type "NoneType")
 | bl (x:Bool):lH K H (.bl x) (.type "bool")
 | int (i:Int):lH K H (.int i) (.type "int")
 | str (x:Str):lH K H (.str x) (.type "str")
 | flt (x:UInt64):lH K H (.flt x) (.type "float")
 | lst {a:Addr} {xs:List V} (e:H a=some (.lst xs)):lH K H (.ref a) (.type "list")
 | frz {a:Addr} {o:Obj} {xs:List V} (e:H a=some (.frz o (.lst xs))):lH K H (.ref a) (.type "list")
 | tup {a:Addr} {xs:List V} (e:H a=some (.tup xs)):lH K H (.ref a) (.type "tuple")
 | dK {a:Addr} {kvs:List (Key×V)} (e:H a=some (.dK kvs)):lH K H (.ref a) (.type "dict")
 | dT {a:Addr} {kvs:List (List Key×V)} (e:H a=some (.dT kvs)):lH K H (.ref a) (.type "dict")
 | ins {a C dx:Addr} {fs:List (Str×V)} (e:H a=some (.ins C dx fs)) (cl:Cls K C) (ha:findIn K (.ref C) "__class__"=some (some (.builtin "object.__class__")))
   (hn:PySem.W.specialIn K (.builtin "object.__class__") "__get__"=some (some (.builtin "getset_descriptor.__get__"))) (htk:PySem.W.takesIn K (.builtin "object.__class__")=some true)
   (hm:PySem.W.mroIn K C (.type "object")=some true):lH K H (.ref a) (.ref C)
theorem xp {x:V} {t:Value} (I:Inv X pins O H s) (rx:RelV x u) (ty:lH X.K H x t) (e:kitOne X.K t c=some b) (h:∀tk,Q (.bool b) { s with toks:=tk }) :
  wpAny (model X.prog X.w) A (call (.builtin "isinstance") [u,c]) Q E s:=by
 cases ty with
 | non=>cases(show u=Value.none from rx);exact kia_one PySem.W.kitx_none I.kIn True.intro e (λz=>nomatch z) h
 | bl y=>cases(show u=Value.bool y from rx);exact kia_one PySem.W.kitx_bool I.kIn True.intro e (λz=>nomatch z) h
 | int i=>obtain⟨t,q⟩:=(show ∃t,u=Value.int i t from rx);cases q;exact kia_one PySem.W.kitx_int I.kIn True.intro e (λz=>nomatch z) h
 | str y=>obtain⟨t,q⟩:=(show ∃t,u=Value.str y t from rx);cases q;exact kia_one PySem.W.kitx_str I.kIn True.intro e (λz=>nomatch z) h
 | flt y=>obtain⟨t,q⟩:=(show ∃t,u=Value.float y t from rx);cases q;exact kia_one PySem.W.kitx_float I.kIn True.intro e (λz=>nomatch z) h
 | @lst a xs ea =>
  cases(show u=Value.ref a from rx);obtain⟨_,_,n,_,h1⟩:=(show ObjOk X.prog X.w H s.heap a (.lst xs)from I.hok a _ ea);exact kia_one PySem.W.kitx_list I.kIn ⟨_,h1,rfl⟩ e (λz=>nomatch z) h
 | @frz a ob xs ea =>
  cases(show u=Value.ref a from rx);obtain⟨_,_,_,n,_,h1⟩:=(show ObjOk X.prog X.w H s.heap a (.frz ob (.lst xs))from I.hok a _ ea);exact kia_one PySem.W.kitx_list I.kIn ⟨_,h1,rfl⟩ e (λz=>nomatch z) h
 | @tup a xs ea =>
  cases(show u=Value.ref a from rx);obtain⟨_,_,_,p⟩:=(show ObjOk X.prog X.w H s.heap a (.tup xs)from I.hok a _ ea);obtain⟨o,h1,h2,_⟩:=p;exact kia_one PySem.W.kitx_tuple I.kIn ⟨o,h1,h2⟩ e (λz=>nomatch z) h
 | @dK a kvs ea =>
  cases(show u=Value.ref a from rx);obtain⟨_,_,vs,_,p⟩:=(show ObjOk X.prog X.w H s.heap a (.dK kvs)from I.hok a _ ea);obtain⟨o,es,ep,h1,h2,_⟩:=p;exact kia_one PySem.W.kitx_dict I.kIn ⟨o,h1,h2.1⟩ e (λz=>nomatch z) h
 | @dT a kvs ea =>
  cases(show u=Value.ref a from rx);obtain⟨_,_,xs,_,o,es,ep,h1,h2,_⟩:=(show ObjOk X.prog X.w H s.heap a (.dT kvs)from I.hok a _ ea);exact kia_one PySem.W.kitx_dict I.kIn ⟨o,h1,h2.1⟩ e (λz=>nomatch z) h
 | @ins a C dx fs ea cl ha hn htk hm =>
  cases(show u=Value.ref a from rx);obtain⟨mA,HC,_⟩:=rj I.hok ea;obtain⟨od,J,_⟩:=HC.look;exact kia_one (PySem.W.kitx_own (cl.get _) cl.hd ha hn htk hm) I.kIn J e (λz=>nomatch z) h
end
end L2
namespace L2
open PySem PySem.Spec PyProof.Rows
structure Room (k:Nat) (A:Around):Prop where
 hd:A.handled=none
 dp:A.depth+3*k+5<recursionLimit
 un:A.units+16*k+200<cLine
variable {k:Nat} {A:Around}
theorem Room.mono {j:Nat} (r:Room k A) (h:j<=k):Room j A:=⟨r.hd,by have:=r.dp;omega,by have:=r.un;omega⟩
theorem Room.deeper (r:Room (k+1) A) (env:Env):Room k (A.deeper env) :=
 ⟨r.hd,by have:=r.dp;show A.depth+1+3*k+5<_;omega,by have:=r.un;show A.units+3+16*k+200<_;omega⟩
variable {us:List Value}
theorem uO {C:Addr} {kw:List (Str×Value)}:(A.under (.builtin "type.__call__" ⟨.ref C::us,kw⟩)).depth=A.depth+1:=by
 first|rfl|simp[Around.under,Code.weight,Code.isCreation,Code.isGuard,Code.isCaller,Code.frames,Code.isFrame,guardIds]
theorem uN {C:Addr} {kw:List (Str×Value)}:(A.under (.builtin "type.__call__" ⟨.ref C::us,kw⟩)).units=A.units+1:=by
 first|rfl|simp[Around.under,Code.cUnits,Code.frames,Code.isFrame]
theorem Room.make (r:Room (k+1) A) (C:Addr) (us:List Value) (kw:List (Str×Value)):Room k (A.under (.builtin "type.__call__" ⟨.ref C::us,kw⟩)) :=
 ⟨r.hd,by have:=r.dp;rw[uO];omega,by have:=r.un;rw[uN];omega⟩
theorem Room.depth (r:Room k A):A.depth<recursionLimit:=by have:=r.dp;omega
def Gg:TA:=λ_ H Q=>Q [] H
def EO (ta:TE) (tr:TA):TA:=λO H Q=>ta O H λx H1=>tr O H1 λxs H2=>Q (x::xs) H2
section
variable {X:Cx} {e:Expr} {es:List Expr} {te:TE} {t:TA} {pos:Pos}
theorem bU:PA X [] Gg:=λ_ _ _ _ H Q I h=>Calls.spliced_nil ⟨[],H,I,.nil,h⟩
theorem bu (ha:PE X e te) (hr:PA X es t) (hs:starEach (e::es) X.env=(false,eval e X.env)::starEach es X.env:=by rfl):PA X (e::es) (EO te t):=by
 intro pos pins s O H Q I h;rw[hs];show wpAny _ _ (spliced ((false,eval e X.env)::backTo pos (starEach es X.env))) _ _ s;refine Calls.spliced_cons (thn (ha pins s O H _ I h) λu s1 ⟨x,H1,I1,r1,q1⟩=>?_);exact thn (hr pos pins s1 O H1 _ I1 q1) λus s2 ⟨xs,H2,I2,r2,q2⟩=>⟨x::xs,H2,I2,.cons r1 r2,q2⟩
def Gb (t:TA):TE:=λO H Q=>t O H λxs H1=>xs.length<=sizeLine/\∀p,H1 p=none->Q (.ref p) (upd H1 p (.tup xs))
def Gh (t:TA):TE:=λO H Q=>t O H λxs H1=>xs.length<=sizeLine/\∀p,H1 p=none->Q (.ref p) (upd H1 p (.lst xs))
theorem Dx {x1} (h:PA X es t):PE X (.Tuple es x1 pos) (Gb t):=by
 intro pins s O H Q I hq;refine wpAny_Tuple_spliced (thn (h pos pins s O H _ I hq) λus s1 ⟨xs,H1,I1,r,z,q⟩=>⟨by rw[<- r.length];exact z,?_⟩);have hf:H1 s1.heap.objs.size=none:=I1.hok.fresh (Nat.le_refl _);refine⟨.ref s1.heap.objs.size,upd H1 s1.heap.objs.size (.tup xs),I1.laid (t':=s1.toks) (λb u e=>Heap.get?_push_of_some _ e) (Nat.le_refl _) ?_,rfl,q _ hf⟩;exact⟨z,us,r,⟨_,Heap.get?_push_size _ rfl,rfl,_,rfl⟩⟩
theorem lg (h:PA X es t):PE X (.List es pos) (Gh t):=by
 intro pins s O H Q I hq;refine wpAny_List_spliced (thn (h pos pins s O H _ I hq) λus s1 ⟨xs,H1,I1,r,z,q⟩=>⟨by rw[<- r.length];exact z,?_⟩);have hf:H1 s1.heap.objs.size=none:=I1.hok.fresh (Nat.le_refl _);refine⟨.ref s1.heap.objs.size,upd H1 s1.heap.objs.size (.lst xs),I1.laid (t':=s1.toks) (λb u e=>Heap.get?_push_of_some _ e) (Nat.le_refl _) ?_,rfl,q _ hf⟩;exact⟨z,us,0,r,Heap.get?_push_size _ rfl⟩
end
abbrev Sp:=List V->Hp->VK->XK->Prop
abbrev CXT:=List Env->Hp->Shared->XK->Value->Shared->Prop
structure Env0 (P:Program) (w:World) (K:Frag) (mg:Str->Option Value) (base:Heap) (A:Around) (outer:List Env) (s:Shared) (H:Hp):Prop where
 frames:A.frames=some outer
 mod:Mod K mg base
 bs:∀b o,base.get? b=some o->s.heap.get? b=some o/\H b=none
 bsz:base.objs.size<=s.heap.objs.size
 funs:s.heap.FunFrames base outer
 frf:∀b∈frs outer,H b=none
 hok:HOk P w H s.heap
 bare:AllBare s.gens
def CE (outer:List Env) (P:Program) (w:World) (H:Hp) (s:Shared) (Q:VK) (u:Value) (s':Shared):Prop :=
 ∃v H',s'.os=s.os/\AllBare s'.gens/\Un (frs outer) [] H H' s.heap s'.heap/\HOk P w H' s'.heap/\RelV v u/\Q v H'
def CR (CX:CXT) (outer:List Env) (P:Program) (w:World) (H:Hp) (s:Shared) (Q:VK) (E:XK) (r:Result) (s':Shared):Prop :=
 match r with
 | .ok (.ret u)=>CE outer P w H s Q u s'
 | .ok _=>False
 | .error e=>CX outer H s E e s'
structure FnOk (P:Program) (w:World) (K:Frag) (mg:Str->Option Value) (base:Heap) (CX:CXT) (k:Nat) (f:Addr) (fd:FuncData) (ps:List Str) (sp:Sp):Prop where
 len:∀vs H Q E,sp vs H Q E->vs.length=ps.length
 run:∀(A:Around) (outer:List Env) (s:Shared) (H:Hp) (args:Args) (us:List Value) (vs:List V) (Q:VK) (E:XK),Room k A->Env0 P w K mg base A outer s H->BindsTo s fd args (ps.zip us)->Vals vs us->sp vs H Q E ->
  codeAny (model P w) A (.call (.ref f) args) (CR CX outer P w H s Q E) s
variable {P:Program} {w:World} {K:Frag} {mg:Str->Option Value} {CX:CXT} {f:Addr} {ps:List Str}
theorem FnOk.imp {base:Heap} {fd:FuncData} {sp sp':Sp} (F:FnOk P w K mg base CX k f fd ps sp)
  (h:∀vs H Q E,sp' vs H Q E->sp vs H Q E):FnOk P w K mg base CX k f fd ps sp' :=
 ⟨λvs H Q E q=>F.len vs H Q E (h _ _ _ _ q),λA outer s H args us vs Q E hr he hb hv hs=>F.run A outer s H args us vs Q E hr he hb hv (h _ _ _ _ hs)⟩
variable {s:Shared} {H:Hp}
theorem Env0.make {base:Heap} {outer:List Env} (e:Env0 P w K mg base A outer s H) (C:Addr) (us:List Value) (kw:List (Str×Value)) :
  Env0 P w K mg base (A.under (.builtin "type.__call__" ⟨.ref C::us,kw⟩)) outer s H:=⟨by first|exact e.frames|(simpa[Around.under,Code.envs,Code.isFrame,pushEnvs]using e.frames),e.mod,e.bs,e.bsz,e.funs,e.frf,e.hok,e.bare⟩
section
variable {X:Cx} {pins:List (Addr×Obj)} {O:St} {H:Hp} {s s':Shared}
theorem Inv.env0 (I:Inv X pins O H s):Env0 X.prog X.w X.K X.mg X.base X.A X.stack s H :=
 ⟨I.ok.frames,I.ok.mod,I.bs,Nat.le_trans I.ok.bsz I.sz,I.stack,I.stkFree,I.hok,I.bare⟩
theorem Inv.after {Q:VK} {u:Value} (I:Inv X pins O H s) (h:CE X.stack X.prog X.w H s Q u s'):EP X pins O Q u s':=by
 obtain⟨v,H',os,bare,un,hok,r,q⟩:=h;obtain⟨hh,g,d,t,os'⟩:=s';obtain rfl:os'=s.os:=os;exact⟨v,H',I.call (h':=hh) (g':=g) (d':=d) (t':=t) (ch:=[]) un hok bare (λb z=>absurd z (by simp)),r,q⟩
end
def Binds (K:Frag) (fd:FuncData) (ps:List Str) (ds:List Value):Prop :=
 ∀(s:Shared) (us:List Value),K.In s.heap->(us++ds).length=ps.length->BindsTo s fd ⟨us,[]⟩ (ps.zip (us++ds))
theorem Binds.all {fd:FuncData} (h:∀us:List Value,us.length=ps.length->bindArgs fd ⟨us,[]⟩=pure (ps.zip us)):Binds K fd ps []:=λs us _ hl=>by
 rw[List.append_nil]at hl ⊢;exact .of_eq (h us hl)
def rZ (CX:CXT) (X:Cx) (E:XK):Prop:=∀(pins:List (Addr×Obj)) (O:St) (H:Hp) (s:Shared) (e:Value) (s':Shared),Inv X pins O H s->CX X.stack H s E e s'->X.xe e s'
variable {vs:List V}
section
variable {X:Cx} {CX:CXT} {k:Nat} {f C:Addr} {fd:FuncData} {ps:List Str} {sp:Sp} {dvs:List V} {ds:List Value} {E:XK} {x m:Str} {p pos apos:Pos} {e o:Expr} {es:List Expr} {ta:TE} {t:TA}
theorem kZ {pins:List (Addr×Obj)} {O:St} {Q:VK} (F:FnOk X.prog X.w X.K X.mg X.base CX k f fd ps sp) (hr:Room k X.A) (hb:Binds X.K fd ps ds) (hd:Vals dvs ds) (hx:rZ CX X E)
  (I:Inv X pins O H s) (r:Vals vs us) (h:sp (vs++dvs) H Q E):wpAny (model X.prog X.w) X.A (call (.ref f) us) (EP X pins O Q) X.xe s:=by
 have r2:Vals (vs++dvs) (us++ds):=r.append hd;have hl:(us++ds).length=ps.length:=by rw[<- r2.length];exact F.len _ _ _ _ h
 refine wpAny_call (codeAny_mono (F.run X.A X.stack s H ⟨us,[]⟩ (us++ds) (vs++dvs) Q E hr I.env0 (hb s us I.kIn hl) r2 h) λr s' hq=>?_);cases r with
 | error e=>exact hx pins O H s e s' I hq
 | ok fl =>
  cases fl with
  | ret u=>exact I.after hq
  | next=>exact False.elim hq
  | brk=>exact False.elim hq
  | cont=>exact False.elim hq
structure Mk (K:Frag) (C f:Addr):Prop where
 makes:PySem.W.makesIn K C=true
 init:findIn K (.ref C) "__init__"=some (some (.ref f))
 fn:PySem.W.isFn K (.ref f)=true
 kp:keepIn K (.ref C)=true
theorem yh {pins:List (Addr×Obj)} {O:St} {Q:VK} (M:Mk X.K C f) (F:FnOk X.prog X.w X.K X.mg X.base CX k f fd ps sp) (hr:Room (k+1) X.A) (hb:Binds X.K fd ps ds) (hd:Vals dvs ds)
  (hx:rZ CX X E) (I:Inv X pins O H s) (r:Vals vs us)
  (h:∀x dx,H x=none->H dx=none->dx≠x->sp (.ref x::(vs++dvs)) (upd (upd H dx (.own x)) x (.ins C dx [])) (λv H2=>v=.non/\Q (.ref x) H2) E) :
  wpAny (model X.prog X.w) X.A (call (.ref C) us) (EP X pins O Q) X.xe s:=by
 have hq:=h (s.heap.objs.size+1) s.heap.objs.size (I.hok.fresh (Nat.le_succ _)) (I.hok.fresh (Nat.le_refl _)) (Nat.ne_of_lt (Nat.lt_succ_self _));have I2:=Inv.made (C:=C) I;have r2:Vals (V.ref (s.heap.objs.size+1)::(vs++dvs)) (Value.ref (s.heap.objs.size+1)::(us++ds)):=.cons rfl (r.append hd);have hl:(Value.ref (s.heap.objs.size+1)::us++ds).length=ps.length:=by
  have e:=r2.length;rw[F.len _ _ _ _ hq]at e;exact e.symm
 refine wpAny_call (yV (f:=f) I.kIn M.makes M.init (beq_iff_eq.mp M.fn) (codeAny_mono (F.run _ X.stack _ _ ⟨Value.ref (s.heap.objs.size+1)::us,[]⟩ (Value.ref (s.heap.objs.size+1)::(us++ds)) _ _ E (hr.make C us [])
  (I2.env0.make C us []) (hb _ (Value.ref (s.heap.objs.size+1)::us) I2.kIn hl) r2 hq) λr s' hq'=>?_))
 cases r with
 | error e=>exact hx pins O _ _ e s' I2 hq'
 | ok fl =>
  cases fl with
  | ret u =>
   obtain⟨v,H',I3,rv,ev,q3⟩:=I2.after hq';subst ev;exact⟨rv,⟨V.ref (s.heap.objs.size+1),H',I3,rfl,q3⟩⟩
  | next=>exact False.elim hq'
  | brk=>exact False.elim hq'
  | cont=>exact False.elim hq'
end
section
variable {X:Cx} {CX:CXT} {k:Nat} {f C:Addr} {fd:FuncData} {ps ks:List Str} {sp:Sp} {E:XK} {x m:Str} {p pos apos kpos:Pos} {e o:Expr} {es:List Expr} {kws:List Keyword} {te ta:TE} {t tk:TA} {nm:Option Str}
variable {g:List Value->List Value->List Value} {gV:List V->List V->List V}
end
structure ay (N P:List Str) (sc:Scope):Prop where
 kind:sc.kind=.function
 co:sc.isCoroutine=false
 gen:sc.isGenerator=false
 nd:N.Nodup
 pre:N.take P.length=P
 par:∀x∈P,sc.names.lookup x=some .local\/sc.names.lookup x=some .cell
 nofree:∀y∈sc.names,y.2 ≠ .free
theorem qo {kindOf:Str->Option NameKind} {x:Str}:∀{binds:List (Str×Value)} {m:Str->Option Value},(∀v,(x,v)∉binds)->bindL kindOf binds m x=m x
 | [],_,_=>rfl
 | (n,v)::r,m,h=>by
  unfold bindL;rw[qo λw hw=>h w (List.mem_cons_of_mem _ hw)];split
  ·have:x≠n:=by rintro rfl;exact h v List.mem_cons_self
   simp[this]
  ·rfl
theorem qr {kindOf:Str->Option NameKind} {x:Str}:∀{binds:List (Str×Value)} {m:Str->Option Value},(∀v,(x,v)∉binds)->bindC kindOf binds m x=m x
 | [],_,_=>rfl
 | (n,v)::r,m,h=>by
  unfold bindC;rw[qr λw hw=>h w (List.mem_cons_of_mem _ hw)];split
  ·rfl
  ·have:x≠n:=by rintro rfl;exact h v List.mem_cons_self
   simp[this]
theorem qp {kindOf:Str->Option NameKind} {x:Str} {v:Value}:∀{P:List Str} {vs:List Value} {i:Nat} {m:Str->Option Value},P.Nodup->P[i]?=some x->vs[i]?=some v->kindOf x=some .local ->
  bindL kindOf (P.zip vs) m x=some v
 | [],_,_,_,_,h,_,_=>by simp at h
 | _::_,[],_,_,_,_,h,_=>by simp at h
 | p::P,w::vs,0,m,nd,h1,h2,hk=>by
  simp at h1 h2;subst h1;subst h2;show bindL kindOf ((p,w)::P.zip vs) m p=_;unfold bindL;rw[qo λv hv=>(List.nodup_cons.mp nd).1 (List.of_mem_zip hv).1,if_pos hk];simp
 | p::P,w::vs,i+1,m,nd,h1,h2,hk=>by
  show bindL kindOf ((p,w)::P.zip vs) m x=_;unfold bindL;exact qp (i:=i) (List.nodup_cons.mp nd).2 (by simpa using h1) (by simpa using h2) hk
theorem qs {kindOf:Str->Option NameKind} {x:Str} {v:Value}:∀{P:List Str} {vs:List Value} {i:Nat} {m:Str->Option Value},P.Nodup->P[i]?=some x->vs[i]?=some v->kindOf x≠some .local ->
  bindC kindOf (P.zip vs) m x=some v
 | [],_,_,_,_,h,_,_=>by simp at h
 | _::_,[],_,_,_,_,h,_=>by simp at h
 | p::P,w::vs,0,m,nd,h1,h2,hk=>by
  simp at h1 h2;subst h1;subst h2;show bindC kindOf ((p,w)::P.zip vs) m p=_;unfold bindC;rw[qr λv hv=>(List.nodup_cons.mp nd).1 (List.of_mem_zip hv).1,if_neg hk];simp
 | p::P,w::vs,i+1,m,nd,h1,h2,hk=>by
  show bindC kindOf ((p,w)::P.zip vs) m x=_;unfold bindC;exact qs (i:=i) (List.nodup_cons.mp nd).2 (by simpa using h1) (by simpa using h2) hk
def start (N:List Str) (vs:List V):St:=vs.map some++List.replicate (N.length-vs.length) none
def gi (CX:CXT) (P:Program) (w:World) (K:Frag) (mg:Str->Option Value) (base:Heap) (N:List Str) (qual:Str) (scope:Scope) (f:Addr) (cd:Value) (A:Around) (outer:List Env) (s:Shared) (H:Hp) (E:XK):Cx where
 prog:=P
 w:=w
 K:=K
 mg:=mg
 base:=base
 A:=A.deeper (envOfC qual scope s.heap.objs.size f cd)
 N:=N
 s₀:=s
 H₀:=H
 env:=envOfC qual scope s.heap.objs.size f cd
 outer:=outer
 stack:=envOfC qual scope s.heap.objs.size f cd::outer
 ex:=[]
 calm:=true
 fn:=λ_=>true
 pn:=[]
 xe:=λe s'=>wpAny (model P w) (A.deeper (envOfC qual scope s.heap.objs.size f cd)) (leaving (envOfC qual scope s.heap.objs.size f cd) e) (λ_ s''=>CX outer H s E e s'') (λe' s''=>CX outer H s E e' s'') s'
theorem t6 {sc:Scope} {n:Nat} {x:Str} (h:sc.names.lookup x=some .cell):∃c,(cellsFrom n sc.names []).lookup x=some c:=by
 have q:=PySem.W.cellsFrom_some sc.names n [] (.inl h);exact Option.isSome_iff_exists.mp q
theorem xq {base:Heap} {N:List Str} {qual:Str} {scope:Scope} {cd:Value} {outer:List Env} {s1:Shared} {E:XK}
  (S:ay N ps scope) (hd:A.handled=none) (e0:Env0 P w K mg base A outer s H) (hl:vs.length=ps.length) (r:Vals vs us)
  (x:InCallC s s.heap.objs.size (bindL (envOfC qual scope s.heap.objs.size f cd).kindOf (ps.zip us) λ_=>none) (cellsFrom (s.heap.objs.size+1) scope.names []) (bindC (envOfC qual scope s.heap.objs.size f cd).kindOf (ps.zip us) λ_=>none) s1) :
  Inv (gi CX P w K mg base N qual scope f cd A outer s H E) [] (start N vs) H s1:=by
 have hpl:ps.length<=N.length:=by have:=congrArg List.length S.pre;rw[List.length_take]at this;omega
 obtain⟨h1,tk,rfl,hk⟩:=x.done;have noA:∀b:Addr,b∉(gi CX P w K mg base N qual scope f cd A outer s H E).ex:=λb z=>absurd (show b∈([]:List Addr)from z) (by simp);refine⟨⟨e0.mod,S.kind,rfl,rfl,Nat.le_refl _,λy z c h1 h2=>?_,λy hy=>?_,λy c _ h=>?_,λ_=>hd,Around.frames_deeper e0.frames,.inr ⟨rfl,rfl⟩,λb z=>absurd z (noA b),e0.bs,e0.bsz,λb _ _=>noA b,λb z=>absurd z (noA b),e0.funs,e0.frf⟩,
  rfl,e0.bare,Un.kept hk,⟨_,x.toInCall.ns,λi y v h1 h2 h3=>?_⟩,λy c h=>⟨_,x.cell y c h⟩,e0.hok.fresh (Nat.le_refl _),λy c h=>?_,λp hp=>absurd (show p∈([]:List (Addr×Obj))from hp) (by simp),e0.hok.kept hk,?_⟩
 ·exact name_of_addr x.apart (PySem.mem_of_lookup h1) (PySem.mem_of_lookup h2)
 ·have hy:scope.names.lookup y=some .cell\/scope.names.lookup y=some .free:=hy;rcases hy with hy|hy
  ·exact t6 hy
  ·exact absurd rfl (S.nofree _ (PySem.mem_of_lookup hy))
 ·exact Nat.le_of_lt (x.above y c (PySem.mem_of_lookup h))
 ·have hi:i<vs.length:=by
   unfold start at h2;by_cases hi:i<vs.length
   ·exact hi
   ·rw[List.getElem?_append_right (by simpa using hi)]at h2;rw[List.getElem?_replicate]at h2;split at h2<;>cases h2
  have ha:vs[i]?=some v:=by
   unfold start at h2;rw[List.getElem?_append_left (by simpa using hi),List.getElem?_map]at h2;cases e:vs[i]? with
   | none=>rw[e]at h2;cases h2
   | some a=>rw[e]at h2;cases h2;rfl
  obtain⟨u,hu,rv⟩:=r.get ha;have hp:ps[i]?=some y:=by
   rw[<- S.pre,List.getElem?_take_of_lt (by omega)];exact h1
  have ndP:ps.Nodup:=by rw[<- S.pre];exact S.nd.sublist (List.take_sublist _ _)
  refine⟨u,rv,?_⟩;rcases S.par y (List.mem_of_getElem? hp)with k|k
  ·exact .inl ⟨k,qp ndP hp hu k⟩
  ·obtain⟨c,e⟩:=t6 (n:=s.heap.objs.size+1) k;refine .inr ⟨.inl k,c,e,?_⟩;have q:=x.cell y c e;rw[qs ndP hp hu (by show scope.names.lookup y≠_;rw[k];decide)]at q;exact q
 ·exact e0.hok.fresh (Nat.le_of_lt (x.above y c (PySem.mem_of_lookup h)))
 ·unfold start;show _=N.length;rw[List.length_append,List.length_map,List.length_replicate];omega
theorem FA {base:Heap} {name qual:Str} {params:Arguments} {body:List Stmt} {scope:Scope} {dV kV doc pm cdv ct oc:Value} {an od:Option Addr}
  {osl:Array (Option Value)} {N:List Str} {sp:Sp} (lk:K.lookup f=some ⟨oc,od,.func (fnOf name qual params body scope dV kV doc pm an cdv ct),osl⟩) (hcd:codeIn K cdv qual=true) (S:ay N ps scope)
  (len:∀vs H Q E,sp vs H Q E->vs.length=ps.length)
  (hbody:∀(A:Around) (outer:List Env) (s:Shared) (H:Hp) (vs:List V) (Q:VK) (E:XK),Room k (A.deeper (envOfC qual scope s.heap.objs.size f cdv))->sp vs H Q E ->
   ∃t,PSs (gi CX P w K mg base N qual scope f cdv A outer s H E) body t/\t { nx:=λ_ H'=>Q .non H',rt:=Q } (start N vs) H) :
  FnOk P w K mg base CX (k+1) f (fnOf name qual params body scope dV kV doc pm an cdv ct) ps sp:=by
 refine⟨len,λA outer s H args us vs Q E hr e0 hb r hsp=>?_⟩;have hl:=len _ _ _ _ hsp;have KX:K.In s.heap:=e0.mod.kin.keeps λb o e=>(e0.bs b o e).1;have lim:s.heap.NoLimit:=e0.mod.nolimit.keeps λb o e=>(e0.bs b o e).1;have hkind:∀y∈ps.zip us,scope.names.lookup y.1=some .local\/(scope.names.lookup y.1=some .cell/\((cellsFrom (s.heap.objs.size+1) scope.names []).lookup y.1).isSome=true):=λ⟨n,v⟩ hy=>by
  rcases S.par n (List.of_mem_zip hy).1 with q|q
  ·exact .inl q
  ·exact .inr ⟨q,PySem.W.cellsFrom_some _ _ _ (.inl q)⟩
 refine codeAny_call_function hr.depth (KX _ _ lk) rfl S.co S.gen rfl (PySem.W.codeRec_of KX hcd) (hb _ _ _ _ ?_);refine wpAny_newFunctionEnv_cells S.kind hkind λenv he s1 x=>?_;subst he;refine⟨lim.keeps x.toInCall.keep,codeAny_func ?_⟩;obtain⟨t,ht,hq⟩:=hbody A outer s H vs Q E (hr.deeper _) hsp;have I:Inv (gi CX P w K mg base N qual scope f cdv A outer s H E) [] (start N vs) H s1:=xq S hr.hd e0 hl r x;refine wpAny_mono (ht [] s1 (start N vs) H _ I hq) (λfl s' hs=>?_) λe s' hs=>hs;have fin:∀{σ':St} {H':Hp} {v:V} {u:Value},Inv (gi CX P w K mg base N qual scope f cdv A outer s H E) [] σ' H' s'->RelV v u->Q v H'->CE outer P w H s Q u s' :=
  λ{σ' H' v u} J rv q=>⟨v,H',J.os,J.bare,J.base,J.hok,rv,q⟩
 cases fl with
 | ret u =>
  obtain⟨v,σ',H',J,rv,q⟩:=hs;exact fin J rv q
 | next =>
  obtain⟨σ',H',J,q⟩:=hs;exact fin (v:=V.non) (u:=Value.none) J rfl q
 | brk =>
  obtain⟨_,_,_,q⟩:=hs;exact False.elim q
 | cont =>
  obtain⟨_,_,_,q⟩:=hs;exact False.elim q
end L2
namespace L2
open PySem PySem.Spec PyProof.Rows
section
variable {X:Cx} {x:Str} {p pos:Pos} {e:Expr} {es:List Expr} {t:TA} {id T:String} {r:List V->Hp->VK->Prop}
def tCB (r:List V->Hp->VK->Prop) (t:TA):TE:=λO H Q=>t O H λvs H1=>r vs H1 Q
theorem d7 (hc:jU X (.builtin id) r) (hg:Gl X x) (hm:X.mg x=none) (hv:bootBuiltins x=some (.builtin id)) (ha:PA X (e::es) t) (hn:x ≠ "__name__":=by decide) (hdb:(x==("__debug__":Str))=false:=by decide)
  (he:starEach (e::es) X.env=(false,eval e X.env)::starEach es X.env:=by rfl) (hpl:(backTo pos (starEach es X.env)).any (·.1)=false:=by rfl):PE X (.Call (.Name x p) (e::es) [] pos) (tCB r t):=by
 intro pins s O H Q I h;refine wpAny_Call_Name_kw (i5 I hg hm hv ?_ hn hdb);exact PyProof.Rows.callWith_builtin1 (thn (ha pos pins s O H _ I h) λus s1 ⟨vs,H1,I1,r1,q1⟩=>hc pins s1 O H1 vs us Q I1 r1 q1) he hpl
theorem cA (hc:jU X (.type T) r) (hg:Gl X x) (hm:X.mg x=none) (hv:bootBuiltins x=some (.type T)) (ha:PA X (e::es) t) (hn:x ≠ "__name__":=by decide) (hdb:(x==("__debug__":Str))=false:=by decide)
  (he:starEach (e::es) X.env=(false,eval e X.env)::starEach es X.env:=by rfl) (hpl:(backTo pos (starEach es X.env)).any (·.1)=false:=by rfl):PE X (.Call (.Name x p) (e::es) [] pos) (tCB r t):=by
 intro pins s O H Q I h;refine wpAny_Call_Name_kw (i5 I hg hm hv ?_ hn hdb);exact PyProof.Rows.callWith_type1 (thn (ha pos pins s O H _ I h) λus s1 ⟨vs,H1,I1,r1,q1⟩=>hc pins s1 O H1 vs us Q I1 r1 q1) he hpl
end
end L2
namespace HT
open PySem PyProof.Rows
section
open PySem.SeqAt
open PySem.AutoSeq1 (wpAny_loadPart')
open PySem.MeetsSeq PySem.MeetsSeq2 PySem.MeetsSeq3
end
section
variable {prog:Program} {w:World} {A:Around} {E:Value->Shared->Prop} {s:Shared}
def sIx (n d:Nat):Option Int->Nat
 | none=>d
 | some v=>if v<0 then(v+(n:Int)).toNat else min v.toNat n
end
end HT
namespace L2
open PySem PySem.Spec PyProof.Rows
abbrev TO:=St->Hp->(Option Int->Hp->Prop)->Prop
def PO (X:Cx) (e:Option Expr) (t:TO):Prop :=
 ∀(pins:List (Addr×Obj)) (s:Shared) (O:St) (H:Hp) (Q:Option Int->Hp->Prop),Inv X pins O H s->t O H Q ->
  wpAny (model X.prog X.w) X.A (evalPart e X.env) (λu s'=>∃o H',Inv X pins O H' s'/\IsPart u o/\Q o H') X.xe s
def Aw:TO:=λ_ H Q=>Q none H
def EK (t:TE):TO:=λO H Q=>t O H λx H1=>∃i,x=.int i/\Q (some i) H1
theorem nU {ns:List Int}:∀{us:List Value},Vals (ns.map V.int) us->IntsAre us ns:=by
 induction ns with
 | nil=>intro us r;rw[List.map_nil]at r;cases r;exact .nil
 | cons n ns ih =>
  intro us r;rw[List.map_cons]at r;cases r with
  | cons r1 r2 =>
   obtain⟨t,e⟩:=r1;subst e;exact .cons n t (ih r2)
section
variable {X:Cx} {e:Expr} {te:TE} {lo hi:Option Expr} {tl th:TO} {pos p2:Pos}
theorem AU:PO X none Aw:=by
 intro pins s O H Q I h;rw[evalPart_none];exact wpAny_pure ⟨none,H,I,.none,h⟩
theorem AT (h:PE X e te):PO X (some e) (EK te):=by
 intro pins s O H Q I hw;rw[evalPart_some];refine thn (h pins s O H _ I hw) λu s1 ⟨x,H1,I1,r1,q1⟩=>?_;obtain⟨i,rfl,q⟩:=q1;obtain⟨t,rfl⟩:=r1;exact⟨some i,H1,I1,.int i t,q⟩
def SlR (X:Cx) (r:V->Option Int->Option Int->Hp->VK->Prop):Prop :=
 ∀(pins:List (Addr×Obj)) (s:Shared) (O:St) (H:Hp) (x:V) (v vl vu:Value) (lo hi:Option Int) (sl:Addr) (Q:VK),Inv X pins O H s->RelV x v->s.heap.IsSliceOf sl vl vu .none->IsPart vl lo->IsPart vu hi->r x lo hi H Q ->
  ∃T id,typeLookup (.type T) "__getitem__"=pure (some (.builtin id))/\s.TypeIs v T/\wpAny (model X.prog X.w) X.A (getItem v (.ref sl)) (EP X pins O Q) X.xe s
def tSl (r:V->Option Int->Option Int->Hp->VK->Prop) (te:TE) (tl th:TO):TE:=λO H Q=>te O H λx H1=>tl O H1 λl H2=>th O H2 λu H3=>r x l u H3 Q
theorem sN {r:V->Option Int->Option Int->Hp->VK->Prop} (hr:SlR X r) (he:PE X e te) (hl:PO X lo tl) (hu:PO X hi th):PE X (.Subscript e (.Slice lo hi none p2) pos) (tSl r te tl th):=by
 intro pins s O H Q I h;refine Subscript_ (thn (he pins s O H _ I h) λv s1 ⟨x,H1,I1,r1,q1⟩=>?_);refine wpAny_Slice (thn (hl pins s1 O H1 _ I1 q1) λvl s2 ⟨l,H2,I2,pl,q2⟩=>thn (hu pins s2 O H2 _ I2 q2) λvu s3 ⟨u,H3,I3,pu,q3⟩=>?_);rw[evalPart_none];refine wpAny_pure ?_;have I4:Inv X pins O H3 { s3 with heap:=s3.heap.push { cls:=.type "slice",data:=.fields #[vl,vu,.none] } }:=I3.kept (t':=s3.toks) λb ob q=>Heap.get?_push_of_some _ q;obtain⟨T,id,hT,ht,hg⟩:=hr pins { s3 with heap:=s3.heap.push { cls:=.type "slice",data:=.fields #[vl,vu,.none] } } O H3 x v vl vu l u s3.heap.objs.size Q I4 r1 (Heap.IsSliceOf.new ..) pl pu q3;show wpAny (model X.prog X.w) X.A (subscriptTail e (.Slice lo hi none p2) v (.ref s3.heap.objs.size)) (EP X pins O Q) X.xe { s3 with heap:=s3.heap.push { cls:=.type "slice",data:=.fields #[vl,vu,.none] } };exact tail_any (ops:=[.ref s3.heap.objs.size,v]) ht hT hg (by with_unfolding_all rfl)
def xA (xs:List V) (lo hi:Option Int):List V:=(xs.drop (HT.sIx xs.length 0 lo)).take (HT.sIx xs.length xs.length hi-HT.sIx xs.length 0 lo)
theorem tX (xs:List V) (lo hi:Option Int):(xA xs lo hi).length<=xs.length:=by
 unfold xA;rw[List.length_take,List.length_drop];omega
end
end L2
namespace L2
open PySem PySem.Spec PyProof.Rows
def ixN (n:Nat) (i:Int):Option Nat:=if 0<=i then(if i<n then some i.toNat else none)else if -(n:Int)<=i then some (i+n).toNat else none
def atI {Y:Type} (xs:List Y) (i:Int):Option Y:=(ixN xs.length i).bind λj=>xs[j]?
theorem wf {n:Nat} {i:Int} {j:Nat} (h:ixN n i=some j):seqIndex? i n=some j/\j<n/\-(n:Int)<=i/\i<n:=by
 unfold ixN at h;by_cases h0:0<=i
 ·rw[if_pos h0]at h;by_cases h1:i<n
  ·rw[if_pos h1]at h;have e:i.toNat=j:=Option.some.inj h;exact⟨by rw[seqIndex_of h0 h1,e],by omega,by omega,h1⟩
  ·rw[if_neg h1]at h;cases h
 ·rw[if_neg h0]at h;by_cases h1:-(n:Int)<=i
  ·rw[if_pos h1]at h;have e:(i+n).toNat=j:=Option.some.inj h;exact⟨by rw[seqIndex_neg (by omega) h1,e],by omega,h1,by omega⟩
  ·rw[if_neg h1]at h;cases h
theorem rX {Y:Type} {xs:List Y} {i:Int} {v:Y} (h:atI xs i=some v):∃j,seqIndex? i xs.length=some j/\xs[j]?=some v/\j<xs.length/\-(xs.length:Int)<=i/\i<xs.length:=by
 unfold atI at h;cases e:ixN xs.length i with
 | none=>rw[e]at h;cases h
 | some j =>
  rw[e]at h;obtain⟨h1,h2,h3,h4⟩:=wf e;exact⟨j,h1,h,h2,h3,h4⟩
def kM (b:Expr):Prop:=∀o i,subscripted b false o i=operate [o,i] (getItem o i)
def IxR (X:Cx) (r:R2):Prop :=
 ∀(value slice:Expr) (pins:List (Addr×Obj)) (s:Shared) (O:St) (H:Hp) (x y:V) (v u:Value) (Q:VK),Inv X pins O H s->RelV x v->RelV y u->r x y H Q ->
  subscripted slice false v u=operate [v,u] (getItem v u)->wpAny (model X.prog X.w) X.A (subscriptTail value slice v u) (EP X pins O Q) X.xe s
def MtR (X:Cx) (id:String) (r:V->List V->Hp->VK->Prop):Prop :=
 ∀(pins:List (Addr×Obj)) (s:Shared) (O:St) (H:Hp) (x:V) (xs:List V) (v:Value) (us:List Value) (Q:VK),Inv X pins O H s->RelV x v->Vals xs us->r x xs H Q ->
  wpAny (model X.prog X.w) X.A (call (.builtin id) (v::us)) (EP X pins O Q) X.xe s
section
variable {X:Cx} {a b:Expr} {ta tb:TE} {pos:Pos}
theorem IxR.or {r r':R2} (h:IxR X r) (h':IxR X r'):IxR X (λx y H Q=>r x y H Q\/r' x y H Q):=by
 intro value slice pins s O H x y v u Q I rx ry q hs;rcases q with q|q
 ·exact h value slice pins s O H x y v u Q I rx ry q hs
 ·exact h' value slice pins s O H x y v u Q I rx ry q hs
theorem yG {r:R2} (hr:IxR X r) (ha:PE X a ta) (hb:PE X b tb) (hs:kM b):PE X (.Subscript a b pos) (tOp r ta tb):=by
 intro pins s O H Q I h;exact Subscript_ (Es ha hb I h λv u s2 x y H2 I2 rx ry q=>hr a b pins s2 O H2 x y v u Q I2 rx ry q (hs _ _))
def E4 (K:Frag):R2:=λx y H Q=>∃p xs i v,x=.ref p/\y=.int i/\SqL K H p xs/\atI xs i=some v/\Q v H
def E1 (K:Frag):R2:=λx y H Q=>∃p xs i v,x=.ref p/\y=.int i/\SqT K H p xs/\atI xs i=some v/\Q v H
def E3:R2:=λx y H Q=>∃z i c,x=.str z/\y=.int i/\z.length<=sizeLine/\atI z.cps.toList i=some c/\Q (.str ⟨#[c]⟩) H
theorem ix_list:IxR X (E4 X.K):=by
 intro value slice pins s O H x y v u Q I rx ry h hs;obtain⟨p,xs,i,z,rfl,rfl,hq,he,q⟩:=h;cases rx;obtain⟨t,rfl⟩:=ry;obtain⟨its,r,pl,hz⟩:=I.list hq;obtain⟨j,h1,h2,h3,h4,h5⟩:=rX he;obtain⟨w,ew,rw'⟩:=r.get h2;have hl:=r.length;have hn:=nP;have fin:EP X pins O Q w s:=⟨z,H,I,rw',q⟩;by_cases h0:0<=i
 ·have hj:i.toNat=j:=by
   rw[seqIndex_of h0 h5]at h1;exact Option.some.inj h1
  exact item_listR pl.isList h0 (by omega) (by rw[hj];simpa using ew) fin hs
 ·have hj:(i+(its.toArray.size:Int)).toNat=j:=by
   rw[seqIndex_neg (by omega) h4]at h1;rw[List.size_toArray,<- hl];exact Option.some.inj h1
  exact subscriptTail_builtinR (x:=w) pl.isList.typeIs slot_list_getitem.lookup
   (wpAny_getItem_list_neg (Q:=λr s'=>r=w/\EP X pins O Q r s') pl.isList (by omega) (by rw[List.size_toArray]<;>omega) (by omega) (by rw[hj];simpa using ew) ⟨rfl,fin⟩) hs
theorem ix_tup:IxR X (E1 X.K):=by
 intro value slice pins s O H x y v u Q I rx ry h hs;obtain⟨p,xs,i,z,rfl,rfl,hq,he,q⟩:=h;cases rx;obtain⟨t,rfl⟩:=ry;obtain⟨its,r,pl,hz⟩:=I.tuple hq;obtain⟨j,h1,h2,h3,h4,h5⟩:=rX he;obtain⟨w,ew,rw'⟩:=r.get h2;have hl:=r.length;have hn:=nP;have fin:EP X pins O Q w s:=⟨z,H,I,rw',q⟩;exact subscriptTail_builtinR (x:=w) pl.typeIs slot_tuple_getitem.lookup
  (getItem_tuple (j:=j) (Q:=λr s'=>r=w/\EP X pins O Q r s') pl (by omega) (by omega) (by rw[List.size_toArray,<- hl];exact h1) (by simpa using ew) ⟨rfl,fin⟩) hs
theorem D3:IxR X E3:=by
 intro value slice pins s O H x y v u Q I rx ry h hs;obtain⟨z,i,c,rfl,rfl,hz,he,q⟩:=h;obtain⟨t,rfl⟩:=rx;obtain⟨t',rfl⟩:=ry;obtain⟨j,h1,h2,h3,h4,h5⟩:=rX he;have hl:z.cps.toList.length=z.length:=by simp[Str.length]
 rw[hl]at h1 h4 h5;have hn:=nP;exact tail_any (typeIs_str s z t) slot_str_getitem.lookup (getItem_str (c:=c) (by
  have e1:decide (i < -(2 ^ 63:Int))=false:=decide_eq_false (by omega);have e2:decide (i ≥ 2 ^ 63)=false:=decide_eq_false (by omega);rw[e1,e2,Bool.or_false]) (by rw[h1];simpa using h2) ⟨.str ⟨#[c]⟩,H,I.tok _,⟨_,rfl⟩,q⟩) hs
def rIx (K:Frag):R2:=λx y H Q=>E4 K x y H Q\/E1 K x y H Q\/E3 x y H Q
theorem y9:IxR X (rIx X.K):=ix_list.or (ix_tup.or D3)
theorem uM (its:List Value) (n j:Nat) (u:Value):Obj.mapSeq (·.setIfInBounds j u) { cls:=.type "list",data:=.seq its.toArray n }={ cls:=.type "list",data:=.seq (its.set j u).toArray n }:=by
 simp[Obj.mapSeq]
theorem Inv.lst {pins:List (Addr×Obj)} {O:St} {H:Hp} {s:Shared} {p:Addr} {xs:List V} (I:Inv X pins O H s) (h:H p=some (.lst xs)) :
  ∃(its:List Value) (n:Nat),Vals xs its/\s.heap.get? p=some { cls:=.type "list",data:=.seq its.toArray n }/\xs.length<=sizeLine:=by
 obtain⟨z,its,n,r,e⟩:=I.hok p _ h;exact⟨its,n,r,e,z⟩
theorem Inv.lstUpd {pins:List (Addr×Obj)} {O:St} {H:Hp} {s:Shared} {p:Addr} {xs ys:List V} {its its':List Value} {n n':Nat} {f:Obj->Obj} (I:Inv X pins O H s) (h:H p=some (.lst xs))
  (ho:s.heap.get? p=some { cls:=.type "list",data:=.seq its.toArray n }) (hf:f { cls:=.type "list",data:=.seq its.toArray n }={ cls:=.type "list",data:=.seq its'.toArray n' }) (r:Vals ys its') (hz:ys.length<=sizeLine) (t:Nat) :
  Inv X pins O (upd H p (.lst ys)) { s with heap:=s.heap.update p f,toks:=t }:=by
 have e:(s.heap.update p f).get? p=some { cls:=.type "list",data:=.seq its'.toArray n' }:=by
  rw[Heap.get?_update_self f ho (by rw[hf]<;>rfl),hf]
 refine I.write (x:=p) (e:=p) (by rw[h];trivial) (.inl rfl) (λb u hb q=>(Heap.get?_update_other _ _ (Ne.symm hb)).trans q) ⟨_,e⟩ ?_;exact⟨hz,its',n',r,e⟩
def EX:V->V->V->Hp->(Hp->Prop)->Prop:=λo i v H Q=>∃p xs k j,o=.ref p/\i=.int k/\H p=some (.lst xs)/\ixN xs.length k=some j/\Q (upd H p (.lst (xs.set j v)))
theorem xW:Ex X EX:=by
 intro pins s O H o i v ov iv u Q I ro ri rv h;obtain⟨p,xs,k,j,rfl,rfl,hp,hj,q⟩:=h;cases ro;obtain⟨t,rfl⟩:=ri;obtain⟨its,n,r,ho,hz⟩:=I.lst hp;obtain⟨h1,h2,h3,h4⟩:=wf hj;have hl:=r.length;have hn:=nP;have I':Inv X pins O (upd H p (.lst (xs.set j v))) { s with heap:=s.heap.update p (Obj.mapSeq (·.setIfInBounds j u)) } :=
  I.lstUpd hp ho (uM its n j u) (r.set rv j) (by rw[List.length_set];exact hz) s.toks
 by_cases h0:0<=k
 ·have hk:k.toNat=j:=by
   rw[seqIndex_of h0 h4]at h1;exact Option.some.inj h1
  exact PySem.W.ki_setAt ho h0 (by omega) (by rw[List.size_toArray,<- hl];exact h4) (by rw[hk];exact⟨_,I',q⟩)
 ·have hk:(k+(its.toArray.size:Int)).toNat=j:=by
   rw[seqIndex_neg (by omega) h3]at h1;rw[List.size_toArray,<- hl];exact Option.some.inj h1
  exact PySem.W.ki_setBack ho (by omega) (by rw[List.size_toArray,<- hl];exact h3) (by omega) (by rw[hk];exact⟨_,I',q⟩)
theorem qF (lo hi:Option Int) (n:Nat):(sliceBounds lo hi none n).1=((HT.sIx n 0 lo:Nat):Int)/\(sliceBounds lo hi none n).2.1=((HT.sIx n n hi:Nat):Int)/\(sliceBounds lo hi none n).2.2=1:=by
 refine⟨?_,?_,rfl⟩
 ·cases lo with
  | none=>simp[sliceBounds,HT.sIx]
  | some i =>
   simp only[sliceBounds,HT.sIx,Option.getD_none,show(1:Int)>0 by decide,if_true];by_cases h:i<0
   ·simp only[h,if_true]<;>omega
   ·simp only[h,if_false]<;>omega
 ·cases hi with
  | none=>simp[sliceBounds,HT.sIx]
  | some i =>
   simp only[sliceBounds,HT.sIx,Option.getD_none,show(1:Int)>0 by decide,if_true];by_cases h:i<0
   ·simp only[h,if_true]<;>omega
   ·simp only[h,if_false]<;>omega
theorem o0 (its:List Value) (lo hi:Option Int):slicePick its.toArray lo hi none=((its.drop (HT.sIx its.length 0 lo)).take (HT.sIx its.length its.length hi-HT.sIx its.length 0 lo)).toArray:=by
 obtain⟨h1,h2,h3⟩:=qF lo hi its.toArray.size;unfold slicePick;rw[h1,h2,h3];simp only[sliceRange_one,pick_run,List.size_toArray]<;>rfl
def Go (K:Frag):V->Option Int->Option Int->Hp->VK->Prop:=λx lo hi H Q=>∃a xs,x=.ref a/\SqL K H a xs/\∀p,H p=none->Q (.ref p) (upd H p (.lst (xA xs lo hi)))
theorem vF:SlR X (Go X.K):=by
 intro pins s O H x v vl vu lo hi sl Q I rx hs pl pu h;obtain⟨a,xs,rfl,hx,q⟩:=h;cases rx;obtain⟨its,r,ht,hz⟩:=I.list hx;have hlen:=r.length;refine⟨"list",_,slot_list_getitem.lookup,ht.isList.typeIs,?_⟩;refine wpAny_getItem_list_slice ht.isList hs pl pu .none (by simp) ?_ (by rw[List.size_toArray]<;>omega);rw[o0,<- hlen];refine⟨.ref s.heap.objs.size,_,I.laid (t':=s.toks) (o:=.lst (xA xs lo hi)) (λb ob q=>Heap.get?_push_of_some _ q) (Nat.le_refl _) ?_,rfl,q _ (I.hok.fresh (Nat.le_refl _))⟩;exact⟨Nat.le_trans (tX xs lo hi) hz,_,0,(r.drop (HT.sIx xs.length 0 lo)).take (HT.sIx xs.length xs.length hi-HT.sIx xs.length 0 lo),Heap.get?_push_size _ rfl⟩
theorem fL:jU X (.builtin "len") (λxs H Q=>∃p ys,xs=[.ref p]/\(SqL X.K H p ys\/SqT X.K H p ys)/\Q (.int ys.length) H):=by
 intro pins s O H xs us Q I r h;obtain⟨p,ys,rfl,hq,q⟩:=h;obtain⟨u,rfl,rx⟩:=mW r;cases rx;have hn:=nP;rcases hq with hq|hq
 ·obtain⟨its,r',pl,hz⟩:=I.list hq;have hlen:=r'.length;exact Calls.call_len_list pl.isList (by simp only[List.size_toArray]<;>omega) ⟨.int ys.length,H,I.tok _,⟨s.toks+1,by rw[List.size_toArray,hlen]⟩,q⟩
 ·obtain⟨its,r',pl,hz⟩:=I.tuple hq;have hlen:=r'.length;exact len_tuple pl (by simp only[List.size_toArray]<;>omega) ⟨.int ys.length,H,I.tok _,⟨s.toks+1,by rw[List.size_toArray,hlen]⟩,q⟩
theorem kL:jU X (.type "list") (λxs H Q=>∃p ys,xs=[.ref p]/\(SqL X.K H p ys\/SqT X.K H p ys)/\∀l,H l=none->Q (.ref l) (upd H l (.lst ys))):=by
 intro pins s O H xs us Q I r h;obtain⟨p,ys,rfl,hq,q⟩:=h;obtain⟨u,rfl,rx⟩:=mW r;cases rx;have fin:∀(its:List Value),Vals ys its->ys.length<=sizeLine->∀(h':Heap) (c':Nat),(∀b o',s.heap.get? b=some o'->h'.get? b=some o') ->
   h'.get? s.heap.objs.size=some { cls:=.type "list",dict:=none,data:=.seq its.toArray c',slots:=#[] }->EP X pins O Q (.ref s.heap.objs.size) { s with heap:=h' }:=λits r' hz h' c' kp e =>
  ⟨.ref s.heap.objs.size,_,I.laid (t':=s.toks) kp (Nat.le_refl _) (show ObjOk X.prog X.w _ h' _ (.lst ys)from⟨hz,its,c',r',e⟩),rfl,q _ (I.hok.fresh (Nat.le_refl _))⟩
 rcases hq with hq|hq
 ·obtain⟨its,r',pl,hz⟩:=I.list hq;have hlen:=r'.length;obtain⟨o,ho,hc,n,hd⟩:=pl.isList;exact call_list_seq p (.inl rfl) ho hc hd (λh' c' kp e=>fin its r' hz h' c' kp e) (by simp only[List.size_toArray]<;>omega)
 ·obtain⟨its,r',pl,hz⟩:=I.tuple hq;have hlen:=r'.length;obtain⟨o,ho,hc,n,hd⟩:=pl;exact call_list_seq p (.inr rfl) ho hc hd (λh' c' kp e=>fin its r' hz h' c' kp e) (by simp only[List.size_toArray]<;>omega)
theorem dB:jU X (.type "tuple") (λxs H Q=>∃p ys,xs=[.ref p]/\((SqL X.K H p ys/\∀l,H l=none->Q (.ref l) (upd H l (.tup ys)))\/(SqT X.K H p ys/\Q (.ref p) H))):=by
 intro pins s O H xs us Q I r h;obtain⟨p,ys,rfl,h⟩:=h;obtain⟨u,rfl,rx⟩:=mW r;cases rx;rcases h with⟨hq,q⟩|⟨hq,q⟩
 ·obtain⟨its,r',pl,hz⟩:=I.list hq;have hlen:=r'.length;refine call_tuple_list pl.isList (λh' kp=>?_) (by simp only[List.size_toArray]<;>omega);have I1:Inv X pins O H { s with heap:=h' }:=I.kept (t':=s.toks) kp;have I2:Inv X pins O (upd H h'.objs.size (.tup ys)) { s with heap:=h'.push { cls:=.type "tuple",data:=.seq its.toArray } } :=
   I1.laid (t':=s.toks) (λb o e=>Heap.get?_push_of_some _ e) (Nat.le_refl _) (show ObjOk X.prog X.w _ _ _ (.tup ys)from⟨hz,its,r',IsTup.new _ _⟩)
  exact⟨.ref h'.objs.size,_,I2,rfl,q _ (I1.hok.fresh (Nat.le_refl _))⟩
 ·obtain⟨its,r',pl,hz⟩:=I.tuple hq;exact call_tuple_same pl ⟨.ref p,H,I,rfl,q⟩
def tyV (K:Frag) (T:String) (x:V) (H:Hp):Prop:=match x with
 | .str _=>T="str"
 | .int _=>T="int"
 | .ref p=>(T="list"/\∃xs,SqL K H p xs)\/(T="tuple"/\∃o,K.lookup p=some o/\o.cls=.type "tuple"/\o.dict=none) \/
   (T="dict"/\((∃kvs,H p=some (.dK kvs))\/∃kvs,H p=some (.dT kvs)))\/(T="set"/\∃S n,H p=some (.set S n))
 | _=>False
theorem CP {pins:List (Addr×Obj)} {O:St} {H:Hp} {s:Shared} {T:String} {x:V} {v:Value} (I:Inv X pins O H s) (r:RelV x v) (ty:tyV X.K T x H) :
  s.TypeIs v T/\∀a,v=.ref a->∃ob,s.heap.get? a=some ob/\ob.dict=none:=by
 cases x with
 | str z =>
  obtain⟨t,rfl⟩:=r;cases(show T="str" from ty);exact⟨typeIs_str s z t,λ_ e=>nomatch e⟩
 | int i =>
  obtain⟨t,rfl⟩:=r;cases(show T="int" from ty);exact⟨typeIs_int s i t,λ_ e=>nomatch e⟩
 | ref p =>
  cases r;rcases ty with⟨rfl,xs,hq⟩|⟨rfl,o,hk,hc,hd⟩|⟨rfl,hk⟩|⟨rfl,S,n,hk⟩
  ·obtain⟨its,_,pl,_⟩:=I.list hq;refine⟨pl.isList.typeIs,λa e=>?_⟩;cases e;obtain⟨o,n,e,c,hd,_⟩:=pl;exact⟨o,e,hd⟩
  ·refine⟨⟨o,I.kIn p o hk,hc⟩,λa e=>?_⟩;cases e;exact⟨o,I.kIn _ o hk,hd⟩
  ·have z:∃o,s.heap.get? p=some o/\o.ExactDict:=by
    rcases hk with⟨kvs,hk⟩|⟨kvs,hk⟩
    ·obtain⟨_,_,_,_,o,_,_,e,ex,_⟩:=I.hok p _ hk;exact⟨o,e,ex⟩
    ·obtain⟨_,_,_,_,o,_,_,e,ex,_⟩:=I.hok p _ hk;exact⟨o,e,ex⟩
   obtain⟨o,e,ex⟩:=z;refine⟨⟨o,e,ex.1⟩,λa e2=>?_⟩;cases e2;exact⟨o,e,ex.2.1⟩
  ·obtain⟨o,_,_,_,e,ex,_⟩:=I.hok p _ hk;refine⟨⟨o,e,ex.1⟩,λa e2=>?_⟩;cases e2;exact⟨o,e,ex.2.1⟩
 | _=>exact False.elim ty
def tBM (K:Frag) (T:String) (r:V->List V->Hp->VK->Prop) (to:TE) (t:TA):TE:=λO H Q=>to O H λx H1=>tyV K T x H1/\t O H1 λxs H2=>r x xs H2 Q
variable {o e:Expr} {es:List Expr} {to:TE} {t:TA} {name:Str} {apos cpos:Pos} {T id:String} {r:V->List V->Hp->VK->Prop}
theorem nh (pa:PlainAttrs T) (slot:Slot T name id) (hty:typeOf (.builtin id)=pure (.type "method_descriptor")) (hm:MtR X id r) (ho:PE X o to) (ha:PA X (e::es) t)
  (hbase:attributeBase o name X.env (eval o X.env)=eval o X.env:=by rfl)
  (hfew:((backTo cpos (starEach (e::es) X.env)).all (λx=>!x.1)&&(backToKw cpos (keywordEach [] X.env)).all (λx=>x.1.isSome)
   && decide ((e::es).length+([]:List Keyword).length+(if([]:List Keyword).isEmpty then 0 else 1)<30))=true:=by rfl)
  (hline:(apos.endLine==cpos.line)=true:=by rfl) (hs:starEach (e::es) X.env=(false,eval e X.env)::starEach es X.env:=by rfl) (hplain:(backTo cpos (starEach es X.env)).any (·.1)=false:=by rfl) :
  PE X (.Call (.Attribute o name apos) (e::es) [] cpos) (tBM X.K T r to t):=by
 intro pins s O H Q I h;refine wpAny_Call_method_late hbase hfew hline rfl (thn (ho pins s O H _ I h) λv s1 ⟨x,H1,I1,r1,ty,q1⟩=>?_);obtain⟨h1,h2⟩:=CP I1 r1 ty;refine⟨T,id,pa,slot,hty,h1,h2,?_⟩;have hA:=ha cpos pins s1 O H1 _ I1 q1;rw[hs]at hA ⊢;refine Calls.callWith_builtin (by show(false||(backTo cpos (starEach es X.env)).any (·.1))=false;rw[hplain]<;>rfl) (Calls.evalArgs_plain ?_);exact thn hA λus s2 ⟨vs,H2,I2,r2,q2⟩=>hm pins s2 O H2 x vs v us Q I2 r1 r2 q2
end
end L2
namespace L2
open PySem PySem.Spec PyProof.Rows
def MtM (X:Cx) (id:String) (r:V->List V->Hp->VK->Prop):Prop :=
 ∀(pins:List (Addr×Obj)) (s:Shared) (O:St) (H:Hp) (x:V) (xs:List V) (v:Value) (us:List Value) (Q:VK),Inv X pins O H s->RelV x v->Vals xs us->r x xs H Q ->
  wpAny (model X.prog X.w) X.A (call (.builtin id) (v::us)) (EP X pins O Q) X.xe s
theorem Vals.one:∀{x:V} {us:List Value},Vals [x] us->∃u,us=[u]/\RelV x u
 | _,_,.cons r .nil=>⟨_,rfl,r⟩
theorem Vals.two:∀{x y:V} {us:List Value},Vals [x,y] us->∃u v,us=[u,v]/\RelV x u/\RelV y v
 | _,_,_,.cons r (.cons q .nil)=>⟨_,_,rfl,r,q⟩
theorem Vals.rep {xs:List V} {us:List Value} (h:Vals xs us):∀k:Nat,Vals (List.replicate k xs).flatten (List.replicate k us).flatten
 | 0=>.nil
 | k+1=>by
  rw[List.replicate_succ,List.replicate_succ,List.flatten_cons,List.flatten_cons];exact Vals.append h (Vals.rep h k)
theorem qd (its:List Value):∀(k:Nat) (acc:List Value),
  List.foldl (λx1 x2=>x1++x2) acc.toArray (List.replicate k its.toArray)=(acc++(List.replicate k its).flatten).toArray
 | 0,acc=>by simp
 | k+1,acc=>by
  have e:acc.toArray++its.toArray=(acc++its).toArray:=by simp
  have e2:(acc++its)++(List.replicate k its).flatten=acc++(List.replicate (k+1) its).flatten:=by
   rw[List.replicate_succ,List.flatten_cons,List.append_assoc]
  rw[<- e2,<- qd its k (acc++its),<- e,List.replicate_succ,List.foldl_cons]
section
variable {X:Cx} {pins:List (Addr×Obj)} {O:St} {H:Hp} {s:Shared} {l b:Addr} {xs ys zs:List V}
theorem Inv.lset {its its':List Value} {n:Nat} {f:Array Value->Array Value} {t':Nat} (I:Inv X pins O H s) (hH:H l=some (.lst xs))
  (e:s.heap.get? l=some { cls:=.type "list",data:=.seq its.toArray n }) (hf:f its.toArray=its'.toArray) (hv:Vals ys its') (hz:ys.length<=sizeLine) :
  Inv X pins O (upd H l (.lst ys)) { s with heap:=s.heap.update l (Obj.mapSeq f),toks:=t' }:=by
 have q:=PySem.IsL.update e f;rw[hf]at q;refine I.write (x:=l) (e:=l) (by rw[hH];exact trivial) (.inl rfl) (λb' u hb hu=>(Heap.get?_update_other s.heap (Obj.mapSeq f) (Ne.symm hb)).trans hu) ⟨_,q⟩ ?_;exact⟨hz,its',_,hv,q⟩
theorem Inv.lnew {its:List Value} {t':Nat} (I:Inv X pins O H s) (hv:Vals ys its) (hz:ys.length<=sizeLine) :
  Inv X pins O (upd H s.heap.objs.size (.lst ys)) { s with heap:=s.heap.push { cls:=.type "list",data:=.seq its.toArray },toks:=t' } :=
 I.laid (λ_ _ q=>Heap.get?_push_of_some _ q) (Nat.le_refl _) ⟨hz,its,0,hv,Heap.get?_push_size _ rfl⟩
theorem Inv.fresh (I:Inv X pins O H s):H s.heap.objs.size=none:=I.hok.fresh (Nat.le_refl _)
theorem Inv.lstM (I:Inv X pins O H s) (hH:H l=some (.lst xs)):xs.length<=sizeLine/\∃(its:List Value) (n:Nat),Vals xs its/\xs.length=its.length/\s.heap.get? l=some { cls:=.type "list",data:=.seq its.toArray n }:=by
 obtain⟨z,its,n,r,e⟩:=I.hok l _ hH;exact⟨z,its,n,r,r.length,e⟩
theorem sR {n:Nat} (h:n<=sizeLine):Builtin.List.listTooLong n=false:=by
 unfold Builtin.List.listTooLong;exact decide_eq_false (by omega)
end
section
variable {X:Cx}
def kg:V->List V->Hp->VK->Prop:=λx vs H Q=>∃l xs y,x=.ref l/\vs=[y]/\H l=some (.lst xs)/\xs.length<sizeLine/\Q .non (upd H l (.lst (xs++[y])))
theorem gT:MtM X "list.append" kg:=by
 intro pins s O H x vs v us Q I rx rv h;obtain⟨l,xs,y,rfl,rfl,hH,hz,q⟩:=h;cases rx;obtain⟨u,rfl,ru⟩:=rv.one;obtain⟨z,its,n,r,hl,e⟩:=I.lstM hH;refine call_meets F.slot_list_append ⟨_,e,rfl⟩ F.entry_list_append (F.args_list_append_2 _ _) (PySem.list_append l its.toArray n u (by rw[List.size_toArray];omega)) ⟨e,?_⟩;refine⟨.non,_,I.lset (its':=its++[u]) hH e (by simp) (r.append (.cons ru .nil)) ?_,rfl,q⟩;rw[List.length_append,List.length_singleton];omega
def vO:V->List V->Hp->VK->Prop:=λx vs H Q=>∃l b xs zs,x=.ref l/\vs=[.ref b]/\H l=some (.lst xs)/\H b=some (.lst zs)/\xs.length+zs.length<=sizeLine/\Q .non (upd H l (.lst (xs++zs)))
theorem xk:MtM X "list.extend" vO:=by
 intro pins s O H x vs v us Q I rx rv h;obtain⟨l,b,xs,zs,rfl,rfl,hH,hB,hz,q⟩:=h;cases rx;obtain⟨u,rfl,ru⟩:=rv.one;cases ru;obtain⟨z,its,n,r,hl,e⟩:=I.lstM hH;obtain⟨z2,its2,n2,r2,hl2,e2⟩:=I.lstM hB;have hsz:its.toArray.size+its2.toArray.size<=sizeLine:=by rw[List.size_toArray,List.size_toArray];omega
 have hlong:¬ (!its.toArray.isEmpty&&Builtin.List.listTooLong (its.toArray.size+its2.toArray.size))=true:=by
  rw[sR hsz,Bool.and_false];exact Bool.false_ne_true
 refine call_meets F.slot_list_extend ⟨_,e,rfl⟩ F.entry_list_extend (F.args_list_extend_2 _ _)
  (AutoSeq1.list_extend_list_list_0 l its.toArray n b its2.toArray n2 hlong (by rw[List.size_toArray];omega) (by omega)) ⟨e,e2,?_⟩
 refine⟨.non,_,I.lset (its':=its++its2) hH e (by simp) (r.append r2) ?_,rfl,q⟩;rw[List.length_append];omega
def Di:R2:=λx y H Q=>∃l b xs zs,x=.ref l/\y=.ref b/\H l=some (.lst xs)/\H b=some (.lst zs)/\xs.length+zs.length<=sizeLine/\∀p,H p=none->Q (.ref p) (upd H p (.lst (xs++zs)))
theorem DO:OpR X (binaryOp .Add) Di:=by
 intro pins s O H x y v u Q I rx ry h;obtain⟨l,b,xs,zs,rfl,rfl,hH,hB,hz,q⟩:=h;cases rx;cases ry;obtain⟨z,its,n,r,hl,e⟩:=I.lstM hH;obtain⟨z2,its2,n2,r2,hl2,e2⟩:=I.lstM hB;refine PySem.P.add_list e e2 ?_ (by rw[List.size_toArray,List.size_toArray];omega);have ea:its.toArray++its2.toArray=(its++its2).toArray:=by simp
 rw[ea];exact⟨.ref _,_,I.lnew (t':=s.toks) (r.append r2) (by rw[List.length_append];omega),rfl,q _ I.fresh⟩
def Gp:R2:=λx y H Q=>∃l k xs,x=.ref l/\y=.int k/\H l=some (.lst xs)/\-(2 ^ 63)<=k/\k<2 ^ 63/\xs.length*k.toNat<=sizeLine /\
 ∀p,H p=none->Q (.ref p) (upd H p (.lst (List.replicate k.toNat xs).flatten))
theorem Bq {Y:Type} (xs:List Y) (k:Nat):(List.replicate k xs).flatten.length=k*xs.length:=by
 induction k with
 | zero=>simp
 | succ k ih=>rw[List.replicate_succ,List.flatten_cons,List.length_append,ih,Nat.succ_mul,Nat.add_comm]
theorem DJ:OpR X (binaryOp .Mult) Gp:=by
 intro pins s O H x y v u Q I rx ry h;obtain⟨l,k,xs,rfl,rfl,hH,h1,h2,hz,q⟩:=h;cases rx;obtain⟨t,rfl⟩:=ry;obtain⟨z,its,n,r,hl,e⟩:=I.lstM hH;have hlen:its.toArray.size*k.toNat<=sizeLine:=by rw[List.size_toArray,<- hl];exact hz
 have hcap:¬ its.toArray.size*k.toNat>(2 ^ 63-1)/8:=by
  have:(sizeLine:Nat)<=(2 ^ 63-1)/8:=by decide
  omega
 have hfit:¬ (!Builtin.List.listFitsIndex k)=true:=by
  rw[fitsIndex_both h1 h2];exact Bool.false_ne_true
 have hlong:¬ Builtin.List.listTooLong (its.toArray.size*k.toNat)=true:=by
  rw[sR hlen];exact Bool.false_ne_true
 have hnew:List.foldl (λx1 x2=>x1++x2) #[] (List.replicate (if its.toArray.isEmpty=true then 0 else k.toNat) its.toArray)=(List.replicate k.toNat its).flatten.toArray:=by
  have f0:∀m:Nat,List.foldl (λx1 x2=>x1++x2) #[] (List.replicate m its.toArray)=(List.replicate m its).flatten.toArray:=λm=>by
   have:=qd its m [];rw[List.nil_append]at this;exact this
  rw[f0];cases its with
  | nil=>simp
  | cons a r'=>rw[if_neg (by simp)]
 refine wpAny_binaryOp_repeat_ref (T:="list") (U:="int") (by decide) ⟨_,e,rfl⟩ (λs'=>typeIs_int s' k t) noFill_list_mul F.fills_int_mul F.slot_int_rmul repeat_list F.slot_int_index.lookup
  (call_meets F.slot_int_rmul (typeIs_int s k t) F.entry_int_rmul (F.args_int_rmul_2 _ _) (int___rmul___int_list k t l its.toArray n)
   ⟨e,rfl,⟨_,e,rfl⟩,call_meets F.slot_list_mul ⟨_,e,rfl⟩ F.entry_list_mul (F.args_list_mul_2 _ _) (AutoListH.list___mul___list_int_3 l its.toArray n k t hfit hcap hlong) ⟨e,?_⟩⟩)
 rw[hnew];exact⟨.ref _,_,I.lnew (t':=s.toks) (r.rep k.toNat) (by rw[Bq,Nat.mul_comm];exact hz),rfl,q _ I.fresh⟩
end
section
variable {prog:Program} {w:World} {A:Around} {E:Value->Shared->Prop} {s:Shared}
end
section
variable {X:Cx}
end
end L2
namespace Att
open PySem PySem.W PySem.Calls PyProof.Rows
theorem mf {P:Params} {h:Heap}:∀(ns:List Int) (vs:List Value),WellAll P h vs (ns.map WData.int)->IntsAre vs ns:=by
 intro ns
 induction ns with
 | nil =>
  intro vs w;rw[List.map_nil]at w;cases w;exact .nil
 | cons n ns ih =>
  intro vs w;rw[List.map_cons]at w;cases w with
  | cons a b =>
   cases a;exact .cons _ _ (ih _ b)
theorem w4 {l:OpenLaw} {n:Nat} (hn:l.most=some n) {P:Params} {h:Heap} {args:List WData} {vals:List Value}
  (hpre:l.row.toRowW.claim.pre args=true) (hwl:WellAll P h vals args) :
  ∃a vs ns,vals=[Value.ref a]/\args=[WData.list (ns.map WData.int)]/\h.get? a=some { cls:=.type "list",data:=.seq vs.toArray }/\IntsAre vs ns/\ns.length<=n:=by
 have hsh:WShape.hasAll [] args [.list .int]=true:=(pre_splitW hpre).1;have hc:l.pre.holds [] { args:=args }=true:=(pre_splitW hpre).2;obtain⟨d,r,rfl,h1,h2⟩:=hasAllW_cons hsh;obtain rfl:=hasAllW_nil h2;obtain⟨xs,rfl,h3⟩:=hasW_list h1;obtain⟨ns,rfl⟩:=items_int h3;have hlen:ns.length<=n:=by
  unfold OpenLaw.pre at hc;have h4:(WTm.not (.lt (.lit (.int (n:Int))) (.len (.arg 0)))).holds [] { args:=[.list (ns.map .int)] }=true:=by
   have h4:=(holds_andW hc).1;rw[hn]at h4;exact h4
  have h5:=condW_of h4 (w_not (w_lt w_lit (w_len_list (w_arg rfl))));rw[List.length_map]at h5;refine Nat.le_of_not_lt λq=>?_;have q':(n:Int)<((ns.length:Nat):Int):=by omega
  first
   | (rw[decide_eq_true q']at h5;exact absurd h5 (by decide))
   | (simp at h5;omega)
 cases hwl with
 | cons w1 w2 =>
  cases w2;cases w1 with
  | list ho hall=>exact⟨_,_,ns,rfl,rfl,ho,mf ns _ hall,hlen⟩
theorem w_ (l:OpenLaw) (args:List WData):l.row.toRowW.claim.post args (.bool true) args=true :=
 postW_of (r:=l.row.toRowW) (X:=(true==true))
  (show WShape.has [] (.bool true) .bool=true by first|rfl|decide|simp[WShape.has,WShape.arms,WShape.armsAll])
  (show(WTm.eq .res (.lit (.bool true))).value [] { args:=args,res:=some (.bool true),after:=args }=some (.bool (true==true))from w_eq_bool (w_res rfl) w_lit) rfl
theorem attach_call {l:OpenLaw} {n:Nat} {q:Program} {loose:List Str} {XP:(Str->Option Value)->Heap->Prop} {YP:World->Heap->Prop} {d:DefRec}
  (hn:l.most=some n) (hdf:d.params.defaults=[])
  (call:∀(w:World) (s₀ s₁:Shared) (mg mb:Str->Option Value) (fa:Addr) (o:Obj) (pm cd doc:Value) (a:Addr) (vs:List Value) (ns:List Int),
   Ground q loose [] XP w s₀ mg mb s₁.heap->YP w s₁.heap ->
   s₁.heap.get? fa=some o->o.data=.func (docDef d.name d.params d.body d.scope pm cd doc)->s₁.heap.CodeRec cd d.name->mg d.name=some (.ref fa) ->
   s₁.heap.get? a=some { cls:=.type "list",data:=.seq vs.toArray }->IntsAre vs ns->ns.length<=n->s₁.gens=#[] ->
   codeAny (model l.prog w) callerA (.call (.ref fa) ⟨[.ref a],[]⟩) (λr s'=>r=.ok (.ret (.bool true))/\OldK s₁.heap s'.heap/\s'.os=s₁.os/\AllBare s'.gens) s₁) :
  WalkO q loose XP YP l.row.toRowW d [] (λf vs=>PySem.call f vs):=by
 intro w s₀ s₁ mg mb G HD fa o pm cd doc dV kV ho hd hcd hD hmg hg args vals as hpre hlay hrd hwl hlo;obtain rfl:dV=.none:=Dflts.none hD hdf;obtain rfl:kV=.none:=Dflts.noKw hD;obtain⟨a,vs,ns,rfl,rfl,hobj,hints,hlen⟩:=w4 hn hpre hwl;refine enter_call (codeAny_mono (call w s₀ s₁ mg mb fa o pm cd doc a vs ns G HD ho (fd_plain hd) hcd hmg hobj hints hlen hg) λr s' hq=>?_);obtain⟨rfl,h2,h3,h4⟩:=hq;exact⟨.inl ⟨.bool true,.bool true,[],rfl,λ_=>rfl,.bool true,w_ l _,λ_=>⟨List.Pairwise.nil,λ_ hm=>(nomatch hm)⟩⟩,h2,h3,h4⟩
section
variable {prog:Program} {w:World} {A:Around} {E:Value->Shared->Prop} {s:Shared} {K:Frag}
end
end Att
namespace L2
open PySem PySem.Spec PyProof.Rows
theorem pP:∀{vs:List Value} {ns:List Int},IntsAre vs ns->Vals (ns.map V.int) vs
 | _,_,.nil=>.nil
 | _,_,.cons n t h=>.cons ⟨t,rfl⟩ (pP h)
def Ey (H:Hp):Prop:=∀b,H b=none\/∃o xs,H b=some (.frz o (.lst xs))
theorem y7 {P:Program} {w:World} {K:Frag} {mg mb:Str->Option Value} {CX:CXT} {k:Nat} {fa a:Addr} {fd:FuncData} {x:Str} {sp:Sp} {s₁:Shared} {vs:List Value} {ns:List Int}
  (KX:K.In s₁.heap) (hns:s₁.heap.Ns mainGlobals mg) (hb:s₁.heap.Ns builtinsNs mb) (hbb:∀x:Str,x ≠ "__name__"->mb x=bootBuiltins x) (hlim:s₁.heap.NoLimit) (hg:s₁.gens=#[])
  (ha:s₁.heap.get? a=some { cls:=.type "list",data:=.seq vs.toArray }) (hi:IntsAre vs ns) (hl:ns.length<=sizeLine) (hr:Room k callerA)
  (F:∀base:Heap,K.In base->base.Ns mainGlobals mg->FnOk P w K mg base CX k fa fd [x] sp) (hbind:∀(s:Shared) (u:Value),BindsTo s fd ⟨[u],[]⟩ [(x,u)])
  (hsp:∀H:Hp,Ey H->SqL K H a (ns.map V.int)->sp [.ref a] H (λv _=>v=.bl true) λ_ _ _=>False)
  (hCX:∀H e s',CX [] H s₁ (λ_ _ _=>False) e s'->False) :
  codeAny (model P w) callerA (.call (.ref fa) ⟨[.ref a],[]⟩) (λr s'=>r=.ok (.ret (.bool true))/\OldK s₁.heap s'.heap/\s'.os=s₁.os/\AllBare s'.gens) s₁:=by
 have rv:=pP hi;have lenV:=hi.length;have core:∀H:Hp,Ey H->SqL K H a (ns.map V.int)->HOk P w H s₁.heap->(∀b,H b≠none->b=a)->(H a≠none->K.lookup a=none) ->
   codeAny (model P w) callerA (.call (.ref fa) ⟨[.ref a],[]⟩) (λr s'=>r=.ok (.ret (.bool true))/\OldK s₁.heap s'.heap/\s'.os=s₁.os/\AllBare s'.gens) s₁:=by
  intro H hO hS hok hA hK;have base_of:∀{b:Addr} {o:Obj},s₁.heap.get? b=some o->H b=none->(rk s₁.heap H).get? b=some o:=λe n=>zc e n;have noA:∀{b:Addr} {o:Obj} {es:Array DictEntry} {ep:Nat},s₁.heap.get? b=some o->o.data=.dict es ep->H b=none:=λ{b o es ep} e d=>by
   cases q:H b with
   | none=>rfl
   | some u =>
    have e':b=a:=hA b (by rw[q];simp);subst e';rw[ha]at e;cases e;have d':Data.seq vs.toArray _=Data.dict es ep:=d;cases d'
  have nsK:∀{b:Addr} {m:Str->Option Value},s₁.heap.Ns b m->(rk s₁.heap H).Ns b m:=λ{b m} ⟨o,es,ep,e,d,r⟩=>⟨o,es,ep,base_of e (noA e d),d,r⟩;have hKb:K.In (rk s₁.heap H):=λb o e=>base_of (KX b o e) (by
   cases q:H b with
   | none=>rfl
   | some u =>
    have e':b=a:=hA b (by rw[q];simp);subst e';rw[hK (by rw[q];simp)]at e;cases e)
  have hM:Mod K mg (rk s₁.heap H):=⟨hKb,nsK hns,⟨mb,nsK hb,hbb⟩,let ⟨mc,h1,h2⟩:=hlim;⟨mc,nsK h1,h2⟩⟩;have e0:Env0 P w K mg (rk s₁.heap H) callerA [] s₁ H:=⟨rfl,hM,λb o e=>Bj e,Nat.le_of_eq (xt _ _),trivial,λb hb=>absurd (show b∈([]:List Addr)from hb) (by simp),hok,.of_eq hg⟩;refine codeAny_mono ((F _ hKb (nsK hns)).run callerA [] s₁ H ⟨[.ref a],[]⟩ [.ref a] [.ref a] _ _ hr e0 (hbind s₁ (.ref a)) (.cons rfl .nil) (hsp H hO hS)) λr s' h=>?_;cases r with
  | error e=>exact(hCX H e s' h).elim
  | ok fl =>
   cases fl with
   | next=>exact False.elim h
   | brk=>exact False.elim h
   | cont=>exact False.elim h
   | ret u =>
    obtain⟨v,H',os,bare,un,hok',r',q⟩:=h;have q':v=.bl true:=q;subst q';obtain rfl:u=Value.bool true:=r';refine⟨rfl,OldK.of_keep λb o e=>?_,os,bare⟩;cases q:H b with
    | none=>exact un.keep b o e q (by intro z;exact absurd (show b∈([]:List Addr)from z) (by simp)) (by simp)
    | some u =>
     rcases hO b with z|⟨ob,xs,z⟩
     ·rw[q]at z;cases z
     ·have z2:=un.frzs b ob _ z;obtain⟨e1,_⟩:=hok b _ z;obtain⟨e2,_⟩:=hok' b _ z2;rw[e]at e1;cases e1;exact e2
 cases hk:K.lookup a with
 | some o =>
  have e:=KX a o hk;rw[ha]at e;cases e;refine core (λ_=>none) (λ_=>.inl rfl) (.inr ⟨_,vs.toArray,_,hk,rfl,rfl,rfl,by rw[List.size_toArray,lenV];exact hl,by simpa using rv⟩) (λb u z=>by have z':(none:Option HO)=some u:=z;cases z') (λb z=>absurd rfl z) λz=>absurd rfl z
 | none =>
  refine core (λb=>if b=a then some (.frz { cls:=.type "list",data:=.seq vs.toArray } (.lst (ns.map V.int)))else none) (λb=>?_) (.inl (.inr ⟨{ cls:=.type "list",data:=.seq vs.toArray },if_pos rfl⟩)) (λb u z=>?_) (λb z=>?_) λ_=>hk
  ·by_cases hb:b=a
   ·exact .inr ⟨_,_,if_pos hb⟩
   ·exact .inl (if_neg hb)
  ·by_cases hb:b=a
   ·have z':=(if_pos hb).symm.trans z;cases z';subst hb;exact⟨ha,by rw[List.length_map];exact hl,vs,_,rv,ha⟩
   ·have z':=(if_neg hb).symm.trans z;cases z'
  ·by_cases hb:b=a
   ·exact hb
   ·exact absurd (if_neg hb) z
end L2
namespace L2
open PySem PySem.Spec PyProof.Rows
theorem walk_of {l:PySem.W.OpenLaw} {n k:Nat} {q:Program} {loose:List Str} {XP:(Str->Option Value)->Heap->Prop} {YP:World->Heap->Prop} {d:DefRec} {K:Params->Frag} {CX:World->CXT} {sp:World->Sp} {x:Str}
  (hn:l.most=some n) (hn2:n<=sizeLine) (hdf:d.params.defaults=[]) (hr:Room k callerA)
  (hY:∀(w:World) (h:Heap),YP w h->(K w.params).In h)
  (F:∀(w:World) (mg:Str->Option Value) (fa:Addr) (h:Heap),(K w.params).In h->h.Ns mainGlobals mg->mg d.name=some (.ref fa) ->
   ∃fd:FuncData,(∀(s:Shared) (u:Value),BindsTo s fd ⟨[u],[]⟩ [(x,u)]) /\
    ∀base:Heap,(K w.params).In base->base.Ns mainGlobals mg->FnOk l.prog w (K w.params) mg base (CX w) k fa fd [x] (sp w))
  (hsp:∀(w:World) (H:Hp) (a:Addr) (ns:List Int),ns.length<=n->Ey H->SqL (K w.params) H a (ns.map V.int)->sp w [.ref a] H (λv _=>v=.bl true) λ_ _ _=>False)
  (hCX:∀(w:World) (H:Hp) (s:Shared) (e:Value) (s':Shared),CX w [] H s (λ_ _ _=>False) e s'->False) :
  PySem.W.WalkO q loose XP YP l.row.toRowW d [] (λf vs=>PySem.call f vs):=by
 refine Att.attach_call hn hdf λw s₀ s₁ mg mb fa o pm cd doc a vs ns G HD ho hd hcd hmg hobj hints hlen hg=>?_;have KX:=hY w _ HD;obtain⟨fd,hb,hF⟩:=F w mg fa _ KX G.T.g hmg;exact y7 KX G.T.g G.T.b G.T.builtins G.T.nolimit hg hobj hints (Nat.le_trans hlen hn2) hr hF hb (λH hO hS=>hsp w H a ns hlen hO hS) λH e s'=>hCX w H s₁ e s'
end L2
namespace L2
open PySem PySem.Spec PyProof.Rows
def Bz (s:Stmt) (j:Nat):Stmt:=match s with
 | .ClassDef _ _ _ body _ _ _ _ _ _ _=>body.getD j (.Pass ⟨0,0,0,0⟩)
 | _=>.Pass ⟨0,0,0,0⟩
def jA (s:Stmt):Arguments:=match s with
 | .FunctionDef _ a _ _ _ _ _ _ _ _=>a
 | _=>{ posonlyargs:=[],args:=[],vararg:=none,kwonlyargs:=[],kw_defaults:=[],kwarg:=none,defaults:=[] }
def bY (s:Stmt):List Stmt:=match s with
 | .FunctionDef _ _ b _ _ _ _ _ _ _=>b
 | _=>[]
def aj (s:Stmt):Scope:=match s with
 | .FunctionDef _ _ _ _ _ _ sc _ _ _=>sc
 | _=>{ kind:=.function,names:=[],isGenerator:=false,isCoroutine:=false }
abbrev CX0:CXT:=λ_ _ _ _ _ _=>False
abbrev E0:XK:=λ_ _ _=>False
theorem nj {X:Cx}:rZ CX0 X E0:=λ_ _ _ _ _ _ _ h=>h.elim
structure Fun (K:Frag) (x qual:Str) (st:Stmt) (f:Addr) (fd:FuncData):Prop where
 ex:∃(oc:Value) (od:Option Addr) (kV doc pm:Value) (an:Option Addr) (cdv ct:Value) (osl:Array (Option Value)),
  fd=fnOf x qual (jA st) (bY st) (aj st) .none kV doc pm an cdv ct/\K.lookup f=some ⟨oc,od,.func fd,osl⟩/\codeIn K cdv qual=true
 kp:keepIn K (.ref f)=true
variable {x qual:Str} {st:Stmt} {f:Addr}
section
variable {P:Program} {w:World} {K:Frag} {mg:Str->Option Value} {base:Heap}
theorem Fun.ok {fd:FuncData} {N ps:List Str} {k:Nat} {sp:Sp} (F:Fun K x qual st f fd) (S:ay N ps (aj st)) (len:∀vs H Q E,sp vs H Q E->vs.length=ps.length)
  (hbody:∀(cdv:Value) (A:Around) (outer:List Env) (s:Shared) (H:Hp) (vs:List V) (Q:VK) (E:XK),Room k (A.deeper (envOfC qual (aj st) s.heap.objs.size f cdv))->sp vs H Q E ->
   ∃t,PSs (gi CX0 P w K mg base N qual (aj st) f cdv A outer s H E).nox (bY st) t/\t { nx:=λ_ H'=>Q .non H',rt:=Q } (start N vs) H):FnOk P w K mg base CX0 (k+1) f fd ps sp:=by
 obtain⟨oc,od,kV,doc,pm,an,cdv,ct,osl,rfl,lk,hcd⟩:=F.ex;refine FA lk hcd S len λA outer s H vs Q E hr hsp=>?_;obtain⟨t,h,q⟩:=hbody cdv A outer s H vs Q E hr hsp;exact⟨t,h.nox,q⟩
theorem Fun.binds {fd:FuncData} {ps:List Str} (F:Fun K x qual st f fd)
  (h:∀(kV doc pm:Value) (an:Option Addr) (cdv ct:Value) (us:List Value),us.length=ps.length->bindArgs (fnOf x qual (jA st) (bY st) (aj st) .none kV doc pm an cdv ct) ⟨us,[]⟩=pure (ps.zip us)):Binds K fd ps []:=by
 obtain⟨oc,od,kV,doc,pm,an,cdv,ct,osl,rfl,lk,hcd⟩:=F.ex;exact .all (h kV doc pm an cdv ct)
theorem aS {oc:Value} {od an:Option Addr} {osl:Array (Option Value)} {kV doc pm cdv ct:Value} (l:K.lookup f=some ⟨oc,od,.func (fnOf x qual (jA st) (bY st) (aj st) .none kV doc pm an cdv ct),osl⟩)
  (c:codeIn K cdv qual=true) (k:keepIn K (.ref f)=true):Fun K x qual st f (fnOf x qual (jA st) (bY st) (aj st) .none kV doc pm an cdv ct):=⟨⟨oc,od,kV,doc,pm,an,cdv,ct,osl,rfl,l,c⟩,k⟩
end
section
variable {X:Cx}
theorem pv (i:Nat) {pos:Pos} (hN:X.N[i]?=some x:=by rfl) (hv:Vis X.env.scope x:=by first|exact Or.inl rfl|exact Or.inr (Or.inl rfl)|exact Or.inr (Or.inr rfl)) (hd:(x==("__debug__":Str))=false:=by decide)
  (hcd:(x==("__classdict__":Str))=false:=by decide):PE X (.Name x pos) (df i):=Dw hN hv hd hcd
end
theorem rh {A B:Prop} (h:B):if false=true then A else B:=by
 rw[if_neg Bool.false_ne_true];exact h
theorem rb {A B:Prop} (h:A):if true=true then A else B:=by
 rw[if_pos rfl];exact h
def Same (H H':Hp):Prop:=∀b o,H b=some o->H' b=some o
theorem Same.refl (H:Hp):Same H H:=λ_ _ h=>h
theorem Same.trans {H H1 H2:Hp} (a:Same H H1) (b:Same H1 H2):Same H H2:=λc o h=>b c o (a c o h)
theorem Same.seq {K:Frag} {H H':Hp} {a:Addr} {xs:List V} (e:Same H H') (h:SqL K H a xs):SqL K H' a xs:=by
 rcases h with(h|⟨o,h⟩)|h
 ·exact .inl (.inl (e _ _ h))
 ·exact .inl (.inr ⟨o,e _ _ h⟩)
 ·exact .inr h
end L2
set_option compiler.extract_closed false
set_option genSizeOf true
set_option genInjectivity true
set_option autoImplicit false
namespace DL
open PySem PySem.Spec PyProof.Rows L2
abbrev St:=L2.St
def exN (c:Nat):Str:=match c with
 | 0=>"NoHall"
 | 1=>"NoArrow"
 | 2=>"NoBox"
 | 3=>"NoPicture"
 | 4=>"NoReading"
 | 5=>"NoThing"
 | _=>"NoSending"
structure EA (h:Heap) (e:Addr) (cls:Value) (ch:List Addr):Prop where
 mem:e∈ch
 at_:∃oe vs,h.get? e=some oe/\oe.cls=cls/\oe.dict=none/\oe.data=.fields vs/\1<vs.size/\(vs[1]?=some .none\/∃T oT ts fl,vs[1]?=some (.ref T)/\T≠e/\T∈ch/\h.get? T=some oT/\oT.data=.fields ts/\ts[3]?=some fl)
 thr:∀b∈ch,∃o vs,h.get? b=some o/\o.data=.fields vs
section
variable {M:Model} {A:Around} {E:Value->Shared->Prop} {s:Shared}
end
variable {X:Cx} {O:St} {H:Hp} {s:Shared}
theorem _root_.L2.Inv.frn {pins:List (Addr×Obj)} (I:Inv X pins O H s):∀b∈X.fs,H b=none:=λb hb=>by
 obtain⟨_,o,ho,_⟩:=I.ok.funs.mem hb;exact I.base.free b o ho (I.ok.frf b hb) λz=>I.ok.exfs b z hb
def GZ (X:Cx) (pins:List (Addr×Obj)) (H:Hp) (b:Addr):Prop :=
 H b=none/\X.s₀.heap.get? b=none/\b≠X.env.locals/\b∉frs X.stack/\(∀x c,X.env.cells.lookup x=some c->c≠b)/\∀p∈X.pn++pins,p.1≠b
section
variable {X:Cx} {pins:List (Addr×Obj)} {O:St} {H:Hp} {s:Shared} {h':Heap} {ch:List Addr}
end
inductive D where
 | non|bl (b:Bool)|int (i:Int)|lst (xs:List D)|tup (xs:List D)|ob (e r t:D)|scr (ns:List Int)|exn (c:Nat)
abbrev KA:=Int×Int×List Int
inductive OK where
 | s|l (k:OK)|p (j k:OK)
 deriving DecidableEq
inductive Slt where
 | shr (d:D)|own (xs:List D)|dic (kvs:List (KA×D))|tre (k:OK) (d:D)
abbrev Rho:=List (Option Slt)
structure RB where
 rho:Rho
 ad:Nat->List Addr
instance:Coe RB Rho:=⟨RB.rho⟩
inductive R (Y:Type) where
 | val (a:Y)|exc (c:Nat)|bad
def R.bind {Y β:Type}:R Y->(Y->R β)->R β
 | .val a,f=>f a
 | .exc c,_=>.exc c
 | .bad,_=>.bad
inductive Out where
 | nx (U:Rho)|rt (d:D)|bk (U:Rho)|ct (U:Rho)
def exP (K:Frag) (c:Nat) (a:Addr):Heap->Prop:=λh=>∃ox Cc,h.get? a=some ox/\ox.cls=.ref Cc/\ox.dict=none/\(∃vs,ox.data=.fields vs)/\nsIn K mainGlobals (exN c)=some (some (.ref Cc))
def FE (e r t:V):List (Str×V):=[("ends",e),("rests",r),("table",t)]
mutual
inductive Has (K:Frag) (C:Addr) (H:Hp):V->D->Prop where
 | non:Has K C H .non .non
 | bl (b:Bool):Has K C H (.bl b) (.bl b)
 | int (i:Int):Has K C H (.int i) (.int i)
 | lst {a:Addr} {vs:List V} {xs:List D}:H a=some (.lst vs)->HasL K C H vs xs->Has K C H (.ref a) (.lst xs)
 | tup {a:Addr} {vs:List V} {xs:List D}:H a=some (.tup vs)->HasL K C H vs xs->Has K C H (.ref a) (.tup xs)
 | scr {a:Addr} {ns:List Int}:SqL K H a (ns.map V.int)->Has K C H (.ref a) (.scr ns)
 | exn {a:Addr} {c:Nat}:H a=some (.ext (exP K c a))->Has K C H (.ref a) (.exn c)
 | ob {a dx:Addr} {ve vr vt:V} {e r t:D}:H a=some (.ins C dx (FE ve vr vt))->Has K C H ve e->Has K C H vr r->Has K C H vt t->Has K C H (.ref a) (.ob e r t)
inductive HasL (K:Frag) (C:Addr) (H:Hp):List V->List D->Prop where
 | nil:HasL K C H [] []
 | cons {v:V} {d:D} {vs:List V} {ds:List D}:Has K C H v d->HasL K C H vs ds->HasL K C H (v::vs) (d::ds)
end
section
variable {K:Frag} {C:Addr} {H H':Hp}
mutual
theorem Has.mono (s:Same H H'):∀{v:V} {d:D},Has K C H v d->Has K C H' v d
 | _,_,.non=>.non
 | _,_,.bl b=>.bl b
 | _,_,.int i=>.int i
 | _,_,.lst q h=>.lst (s _ _ q) (HasL.mono s h)
 | _,_,.tup q h=>.tup (s _ _ q) (HasL.mono s h)
 | _,_,.scr q=>.scr (s.seq q)
 | _,_,.exn q=>.exn (s _ _ q)
 | _,_,.ob q a b c=>.ob (s _ _ q) (Has.mono s a) (Has.mono s b) (Has.mono s c)
theorem HasL.mono (s:Same H H'):∀{vs:List V} {ds:List D},HasL K C H vs ds->HasL K C H' vs ds
 | _,_,.nil=>.nil
 | _,_,.cons a b=>.cons (Has.mono s a) (HasL.mono s b)
end
theorem HasL.len:∀{vs:List V} {ds:List D},HasL K C H vs ds->vs.length=ds.length
 | _,_,.nil=>rfl
 | _,_,.cons _ b=>by simp[HasL.len b]
theorem HasL.app:∀{vs:List V} {ds:List D} {ws:List V} {es:List D},HasL K C H vs ds->HasL K C H ws es->HasL K C H (vs++ws) (ds++es)
 | _,_,_,_,.nil,h=>h
 | _,_,_,_,.cons a b,h=>.cons a (HasL.app b h)
theorem HasL.get:∀{vs:List V} {ds:List D} {i:Nat} {d:D},HasL K C H vs ds->ds[i]?=some d->∃v,vs[i]?=some v/\Has K C H v d
 | _,_,_,_,.nil,e=>by simp at e
 | _,_,0,_,.cons a _,e=>by simp at e;subst e;exact⟨_,rfl,a⟩
 | _,_,i+1,d,.cons _ b,e=>by
  obtain⟨v,h1,h2⟩:=HasL.get (i:=i) (d:=d) b (by simpa using e);exact⟨v,by simpa using h1,h2⟩
theorem HasL.get':∀{vs:List V} {ds:List D} {i:Nat} {v:V},HasL K C H vs ds->vs[i]?=some v->∃d,ds[i]?=some d/\Has K C H v d
 | _,_,_,_,.nil,e=>by simp at e
 | _,_,0,_,.cons a _,e=>by simp at e;subst e;exact⟨_,rfl,a⟩
 | _,_,i+1,v,.cons _ b,e=>by
  obtain⟨d,h1,h2⟩:=HasL.get' (i:=i) (v:=v) b (by simpa using e);exact⟨d,by simpa using h1,h2⟩
theorem HasL.drop:∀{vs:List V} {ds:List D} (n:Nat),HasL K C H vs ds->HasL K C H (vs.drop n) (ds.drop n)
 | _,_,0,h=>h
 | _,_,_+1,.nil=>.nil
 | _,_,n+1,.cons _ b=>HasL.drop n b
theorem HasL.take:∀{vs:List V} {ds:List D} (n:Nat),HasL K C H vs ds->HasL K C H (vs.take n) (ds.take n)
 | _,_,0,_=>.nil
 | _,_,_+1,.nil=>.nil
 | _,_,n+1,.cons a b=>.cons a (HasL.take n b)
theorem HasL.ints:∀ns:List Int,HasL K C H (ns.map V.int) (ns.map D.int)
 | []=>.nil
 | n::ns=>.cons (.int n) (HasL.ints ns)
end
def za:Slt->Bool
 | .shr _=>false
 | _=>true
def Own (U:RB) (O:St) (b:Addr):Prop:=∃i:Nat,b∈U.ad i
open Classical in
def msk (U:RB) (O:St) (H:Hp):Hp:=λb=>if Own U O b then none else H b
section
variable {U:RB} {O:St} {H H':Hp} {b:Addr} {o:HO}
theorem msk_some:msk U O H b=some o↔¬ Own U O b/\H b=some o:=by
 unfold msk;by_cases h:Own U O b
 ·rw[if_pos h];exact⟨λe=>(by cases e),λe=>absurd h e.1⟩
 ·rw[if_neg h];exact⟨λe=>⟨h,e⟩,λe=>e.2⟩
theorem msk_sub:Same (msk U O H) H:=λb o e=>(msk_some.mp e).2
theorem aO (s:Same H H'):Same (msk U O H) (msk U O H'):=λb o e=>msk_some.mpr ⟨(msk_some.mp e).1,s _ _ (msk_some.mp e).2⟩
end
def mF (k:KA):Int:=reduceHash (Builtin.Tuple.tupleHashOf [hashInt k.1,hashInt k.2.1,reduceHash (Builtin.Tuple.tupleHashOf (k.2.2.map hashInt))])
def GR (x:KA×Addr×Value):DictEntry:=⟨mF x.1,.ref x.2.1,x.2.2⟩
def dOk (a:Addr) (xs:List (KA×Addr×Value)) (h:Heap):Prop:=(a==sysModules)=false/\xs.length<=100001/\∃o es ep,h.get? a=some o/\o.ExactDict/\o.data=.dict es ep/\es.toList=xs.map GR
def kK (a:Addr) (xs:List (KA×Addr×Value)):HO:=.ext (dOk a xs)
def KeyIn (M:Hp) (k:KA) (a:Addr):Prop:=∃ta,M a=some (.tup [.int k.1,.int k.2.1,.ref ta])/\M ta=some (.tup (k.2.2.map V.int))
def EntOk (K:Frag) (C:Addr) (M:Hp) (p:KA×D) (q:KA×Addr×Value):Prop:=p.1=q.1/\KeyIn M p.1 q.2.1/\∃v,RelV v q.2.2/\Has K C M v p.2
structure DicAt (K:Frag) (C:Addr) (M H:Hp) (a:Addr) (kvs:List (KA×D)):Prop where
 ex:∃xs,H a=some (kK a xs)/\(xs.map (·.1)).Nodup/\Paired (EntOk K C M) kvs xs
variable {M M':Hp}
theorem KeyIn.mono {k:KA} {a:Addr} (m:Same M M') (h:KeyIn M k a):KeyIn M' k a:=by
 obtain⟨ta,h1,h2⟩:=h;exact⟨ta,m _ _ h1,m _ _ h2⟩
variable {K:Frag} {C:Addr}
theorem EntOk.mono {p:KA×D} {q:KA×Addr×Value} (m:Same M M') (h:EntOk K C M p q):EntOk K C M' p q:=by
 obtain⟨h1,h2,v,h3,h4⟩:=h;exact⟨h1,h2.mono m,v,h3,h4.mono m⟩
variable {H':Hp}
theorem DicAt.mono {a:Addr} {kvs:List (KA×D)} (e:∀o,H a=some o->H' a=some o) (m:Same M M') (h:DicAt K C M H a kvs):DicAt K C M' H' a kvs:=by
 obtain⟨xs,h1,h2,h3⟩:=h.ex;exact⟨xs,e _ h1,h2,Paired.mapP h3 λp q z=>z.mono m⟩
mutual
inductive Tre (K:Frag) (C:Addr) (M H:Hp):OK->V->D->List Addr->Prop where
 | s {v:V} {d:D}:Has K C M v d->Tre K C M H .s v d []
 | l {k:OK} {a:Addr} {vs:List V} {xs:List D} {A:List Addr}:H a=some (.lst vs)->TreP K C M H (vs.map λ_=>k) vs xs A->a∉A->Tre K C M H (.l k) (.ref a) (.lst xs) (a::A)
 | p {j k:OK} {a:Addr} {vs:List V} {xs:List D} {A:List Addr}:H a=some (.tup vs)->TreP K C M H [j,k] vs xs A->Tre K C M H (.p j k) (.ref a) (.tup xs) A
inductive TreP (K:Frag) (C:Addr) (M H:Hp):List OK->List V->List D->List Addr->Prop where
 | nil:TreP K C M H [] [] [] []
 | cons {k:OK} {ks:List OK} {v:V} {vs:List V} {d:D} {ds:List D} {A B:List Addr}:Tre K C M H k v d A->TreP K C M H ks vs ds B->(∀a∈A,a∉B)->TreP K C M H (k::ks) (v::vs) (d::ds) (A++B)
end
structure Stay (A:List Addr) (H H':Hp):Prop where
 at_:∀a∈A,∀o,H a=some o->H' a=some o
 tup:∀a vs,H a=some (.tup vs)->H' a=some (.tup vs)
variable {A:List Addr}
section
variable {K:Frag} {C:Addr} {H H' M M':Hp}
theorem Stay.of (s:Same H H'):Stay A H H':=⟨λa _ o e=>s a o e,λa vs e=>s a _ e⟩
theorem Stay.sub {B:List Addr} (h:Stay A H H') (hs:∀a∈B,a∈A):Stay B H H':=⟨λa ha=>h.at_ a (hs a ha),h.tup⟩
mutual
theorem Tre.stay (m:Same M M'):∀{k:OK} {v:V} {d:D} {A:List Addr},Stay A H H'->Tre K C M H k v d A->Tre K C M' H' k v d A
 | _,_,_,_,_,.s h=>.s (h.mono m)
 | _,_,_,_,y,.l e h n=>.l (y.at_ _ List.mem_cons_self _ e) (TreP.stay m (y.sub λ_ ha=>List.mem_cons_of_mem _ ha) h) n
 | _,_,_,_,y,.p e h=>.p (y.tup _ _ e) (TreP.stay m y h)
theorem TreP.stay (m:Same M M'):∀{ks:List OK} {vs:List V} {ds:List D} {A:List Addr},Stay A H H'->TreP K C M H ks vs ds A->TreP K C M' H' ks vs ds A
 | _,_,_,_,_,.nil=>.nil
 | _,_,_,_,y,.cons h t n=>.cons (Tre.stay m (y.sub λ_ ha=>List.mem_append_left _ ha) h) (TreP.stay m (y.sub λ_ ha=>List.mem_append_right _ ha) t) n
end
mutual
theorem Tre.has (m:Same M H):∀{k:OK} {v:V} {d:D} {A:List Addr},Tre K C M H k v d A->Has K C H v d
 | _,_,_,_,.s h=>h.mono m
 | _,_,_,_,.l e h _=>.lst e (TreP.has m h)
 | _,_,_,_,.p e h=>.tup e (TreP.has m h)
theorem TreP.has (m:Same M H):∀{ks:List OK} {vs:List V} {ds:List D} {A:List Addr},TreP K C M H ks vs ds A->HasL K C H vs ds
 | _,_,_,_,.nil=>.nil
 | _,_,_,_,.cons h t _=>.cons (Tre.has m h) (TreP.has m t)
end
mutual
theorem Tre.lists:∀{k:OK} {v:V} {d:D} {A:List Addr},Tre K C M H k v d A->∀a∈A,∃vs,H a=some (.lst vs)
 | _,_,_,_,.s _,a,ha=>by cases ha
 | _,_,_,_,.l e h _,a,ha=>by
  rcases List.mem_cons.mp ha with rfl|ha
  ·exact⟨_,e⟩
  ·exact TreP.lists h a ha
 | _,_,_,_,.p _ h,a,ha=>TreP.lists h a ha
theorem TreP.lists:∀{ks:List OK} {vs:List V} {ds:List D} {A:List Addr},TreP K C M H ks vs ds A->∀a∈A,∃vs,H a=some (.lst vs)
 | _,_,_,_,.nil,a,ha=>by cases ha
 | _,_,_,_,.cons h t _,a,ha=>by
  rcases List.mem_append.mp ha with ha|ha
  ·exact Tre.lists h a ha
  ·exact TreP.lists t a ha
end
theorem TreP.len:∀{ks:List OK} {vs:List V} {ds:List D} {A:List Addr},TreP K C M H ks vs ds A->vs.length=ds.length/\ks.length=ds.length
 | _,_,_,_,.nil=>⟨rfl,rfl⟩
 | _,_,_,_,.cons _ t _=>⟨congrArg Nat.succ t.len.1,congrArg Nat.succ t.len.2⟩
theorem TreP.of:∀{vs:List V} {ds:List D},HasL K C M vs ds->TreP K C M H (vs.map λ_=>.s) vs ds []
 | _,_,.nil=>.nil
 | _,_,.cons h t=>.cons (A:=[]) (B:=[]) (.s h) (TreP.of t) λ_ ha=>by cases ha
theorem TreP.flat:∀{vs us:List V} {ds:List D} {A:List Addr},TreP K C M H (us.map λ_=>OK.s) vs ds A->A=[]/\HasL K C M vs ds
 | [],us,_,_,h=>by cases us with
  | nil=>cases h;exact⟨rfl,.nil⟩
  | cons _ _=>cases h
 | v::vs,us,_,_,h=>by cases us with
  | nil=>cases h
  | cons _ us=>cases h with
   | cons h t _=>cases h with
    | s h=>obtain⟨e,t'⟩:=TreP.flat t;subst e;exact⟨rfl,.cons h t'⟩
end
def SlotOk (K:Frag) (C:Addr) (M H:Hp) (A:List Addr):Slt->Option (Option V)->Prop
 | .shr d,o=>∃v,o=some (some v)/\Has K C M v d
 | .own xs,o=>∃a vs,o=some (some (.ref a))/\a∈A/\H a=some (.lst vs)/\HasL K C M vs xs
 | .dic kvs,o=>∃a,o=some (some (.ref a))/\a∈A/\DicAt K C M H a kvs
 | .tre k d,o=>∃v B,o=some (some v)/\(∀a∈B,a∈A)/\Tre K C M H k v d B
structure Rel (K:Frag) (C:Addr) (H0:Hp) (U:RB) (O:St) (H:Hp):Prop where
 len:U.rho.length=O.length
 keep:Same H0 (msk U O H)
 at_:∀(i:Nat) sl,U.rho[i]?=some (some sl)->SlotOk K C (msk U O H) H (U.ad i) sl O[i]?
 inj:∀(i j:Nat) a,a∈U.ad i->a∈U.ad j->i=j
 kin:∀(i:Nat) a,a∈U.ad i->(∃vs,H a=some (.lst vs))\/∃xs,H a=some (kK a xs)
 bnd:∀(i:Nat) a,a∈U.ad i->i<U.rho.length
def vq (K:Frag) (C:Addr) (H0:Hp) (U:Rho) (O:St) (H:Hp):Prop:=∃β:RB,β.rho=U/\Rel K C H0 β O H
def RB.put (U:RB) (i:Nat) (sl:Slt) (A:List Addr):RB:=⟨U.rho.set i (some sl),λj=>if j=i then(if i<U.rho.length then A else[])else U.ad j⟩
variable {sl:Slt} {o:HO} {i j:Nat} {σ':St} {Y:Type} {v:V} {d:D} {vs:List V} {xs:List D}
section
variable {K:Frag} {C:Addr} {H0 H H' M M':Hp} {U:RB} {O:St}
theorem SlotOk.stay {o:Option (Option V)} (y:Stay A H H') (m:Same M M') (h:SlotOk K C M H A sl o):SlotOk K C M' H' A sl o:=by
 cases sl with
 | shr d=>obtain⟨v,e,h⟩:=h;exact⟨v,e,h.mono m⟩
 | own xs=>obtain⟨a,vs,e,n,q,h⟩:=h;exact⟨a,vs,e,n,y.at_ _ n _ q,h.mono m⟩
 | dic kvs=>obtain⟨a,e,n,h⟩:=h;exact⟨a,e,n,h.mono (λo q=>y.at_ _ n _ q) m⟩
 | tre k d=>obtain⟨v,B,e,n,h⟩:=h;exact⟨v,B,e,n,h.stay m (y.sub n)⟩
theorem SlotOk.mono {o:Option (Option V)} (s:Same H H') (m:Same M M') (h:SlotOk K C M H A sl o):SlotOk K C M' H' A sl o:=h.stay (.of s) m
theorem Rel.mono (r:Rel K C H0 U O H) (s:Same H H'):Rel K C H0 U O H' :=
 ⟨r.len,r.keep.trans (aO s),λi sl e=>(r.at_ i sl e).mono s (aO s),r.inj,λi a h=>(r.kin i a h).imp (λ⟨vs,e⟩=>⟨vs,s _ _ e⟩) λ⟨xs,e⟩=>⟨xs,s _ _ e⟩,r.bnd⟩
theorem Rel.rebase (r:Rel K C H0 U O H):Rel K C (msk U O H) U O H:=⟨r.len,Same.refl _,r.at_,r.inj,r.kin,r.bnd⟩
theorem Rel.base {H1:Hp} (r:Rel K C H0 U O H) (s:Same H1 H0):Rel K C H1 U O H:=⟨r.len,s.trans r.keep,r.at_,r.inj,r.kin,r.bnd⟩
theorem Rel.ownAt (r:Rel K C H0 U O H) {b:Addr} (h:Own U O b):H b≠none:=by
 obtain⟨i,h⟩:=h;rcases r.kin i b h with⟨vs,e⟩|⟨xs,e⟩<;>(rw[e];exact λz=>by cases z)
theorem Rel.new (r:Rel K C H0 U O H) {p:Addr} (h:H p=none):msk U O (upd H p o) p=some o :=
 msk_some.mpr ⟨λz=>r.ownAt z h,aF⟩
theorem aA {p:Addr} (h:H p=none):Same H (upd H p o):=λb u e=>by
 rw[aw (ba e h)];exact e
theorem fk {a:Addr} (h:a∈(U.put i sl A).ad j):(j=i/\i<U.rho.length/\a∈A)\/(j≠i/\a∈U.ad j):=by
 unfold RB.put at h;dsimp only at h;split at h
 ·rename_i e;split at h
  ·exact .inl ⟨e,‹_›,h⟩
  ·cases h
 ·exact .inr ⟨‹_›,h⟩
theorem Dl {sl':Slt} (h:(U.put i sl A).rho[j]?=some (some sl')):(j=i/\i<U.rho.length/\sl'=sl)\/(j≠i/\U.rho[j]?=some (some sl')):=by
 unfold RB.put at h;dsimp only at h;by_cases e:i=j
 ·subst e;rw[List.getElem?_set]at h;simp only[if_true]at h;split at h
  ·cases h;exact .inl ⟨rfl,‹_›,rfl⟩
  ·cases h
 ·rw[List.getElem?_set_ne e]at h;exact .inr ⟨λz=>e z.symm,h⟩
theorem uB {a:Addr} (hi:i<U.rho.length):(U.put i sl A).ad i=A:=by
 unfold RB.put;dsimp only;rw[if_pos rfl,if_pos hi]
theorem kh (h:j≠i):(U.put i sl A).ad j=U.ad j:=by
 unfold RB.put;dsimp only;rw[if_neg h]
theorem Rel.put (r:Rel K C H0 U O H) (hl:σ'.length=O.length) (ho:∀j:Nat,j≠i->σ'[j]?=O[j]?)
  (fr:∀a∈A,a∈U.ad i\/H a=none) (st:∀j:Nat,j≠i->Stay (U.ad j) H H') (ks:∀b o,msk U O H b=some o->H' b=some o) (kA:∀a∈A,(∃vs,H' a=some (.lst vs))\/∃xs,H' a=some (kK a xs))
  (h:i<U.rho.length->Same (msk U O H) (msk (U.put i sl A) σ' H')->SlotOk K C (msk (U.put i sl A) σ' H') H' A sl σ'[i]?):Rel K C H0 (U.put i sl A) σ' H':=by
 have own:∀b,Own (U.put i sl A) σ' b->Own U O b\/H b=none:=λb z=>by
  obtain⟨j,z⟩:=z;rcases fk z with⟨_,_,z⟩|⟨_,z⟩
  ·rcases fr b z with z|z
   ·exact .inl ⟨i,z⟩
   ·exact .inr z
  ·exact .inl ⟨j,z⟩
 have sub:Same (msk U O H) (msk (U.put i sl A) σ' H'):=λb o e=>by
  obtain⟨h1,h2⟩:=msk_some.mp e;refine msk_some.mpr ⟨λz=>?_,ks b o e⟩;rcases own b z with z|z
  ·exact h1 z
  ·rw[z]at h2;cases h2
 have kin':∀(j:Nat) a,j≠i->a∈U.ad j->(∃vs,H' a=some (.lst vs))\/∃xs,H' a=some (kK a xs):=λj a hj ha=>(r.kin j a ha).imp (λ⟨vs,e⟩=>⟨vs,(st j hj).at_ a ha _ e⟩) λ⟨xs,e⟩=>⟨xs,(st j hj).at_ a ha _ e⟩;refine⟨?_,r.keep.trans sub,λj sl' e=>?_,λj k a x y=>?_,λj a x=>?_,λj a x=>?_⟩
 ·show(U.rho.set i (some sl)).length=_;rw[List.length_set,hl];exact r.len
 ·rcases Dl e with⟨rfl,hi,rfl⟩|⟨hj,e⟩
  ·rw[uB (a:=0) hi];exact h hi sub
  ·rw[kh hj,ho j hj];exact(r.at_ j sl' e).stay (st j hj) sub
 ·rcases fk x with⟨rfl,_,x⟩|⟨hj,x⟩
  ·rcases fk y with⟨rfl,_,_⟩|⟨hk,y⟩
   ·rfl
   ·rcases fr a x with x|x
    ·exact r.inj _ _ a x y
    ·exact absurd x (r.ownAt ⟨k,y⟩)
  ·have x':=x;rcases fk y with⟨rfl,_,y⟩|⟨hk,y⟩
   ·rcases fr a y with y|y
    ·exact r.inj _ _ a x' y
    ·exact absurd y (r.ownAt ⟨j,x'⟩)
   ·exact r.inj _ _ a x' y
 ·rcases fk x with⟨_,_,x⟩|⟨hj,x⟩
  ·exact kA a x
  ·exact kin' j a hj x
 ·show j<(U.rho.set i (some sl)).length;rw[List.length_set];rcases fk x with⟨rfl,hi,_⟩|⟨_,x⟩
  ·exact hi
  ·exact r.bnd j a x
theorem Rel.e (r:Rel K C H0 U O H):vq K C H0 U.rho O H:=⟨U,rfl,r⟩
theorem j9 {l:List Y} {a:Y}:(l.set i a).length=l.length:=List.length_set
theorem jW {O:St} (h:i<O.length):(O.set i (some v))[i]?=some (some v):=by
 rw[List.getElem?_set];simp[h]
theorem Rel.setShr (r:Rel K C H0 U O H) (h:Has K C (msk U O H) v d):Rel K C H0 (U.put i (.shr d) []) (O.set i (some v)) H :=
 r.put j9 (λj hj=>List.getElem?_set_ne λz=>hj z.symm) (λa ha=>by cases ha) (λj _=>.of (Same.refl _)) (λb o e=>(msk_some.mp e).2) (λa ha=>by cases ha) λhi s=>⟨v,jW (by rw[<- r.len];exact hi),h.mono s⟩
theorem Rel.setOwn (r:Rel K C H0 U O H) {a:Addr} (hn:H a=none) (h:HasL K C (msk U O H) vs xs):Rel K C H0 (U.put i (.own xs) [a]) (O.set i (some (.ref a))) (upd H a (.lst vs)) :=
 r.put j9 (λj hj=>List.getElem?_set_ne λz=>hj z.symm) (λb hb=>.inr (by cases List.mem_singleton.mp hb;exact hn)) (λj _=>.of (aA hn)) (λb o e=>aA hn b o (msk_some.mp e).2)
  (λb hb=>.inl (by cases List.mem_singleton.mp hb;exact⟨vs,aF⟩)) λhi s=>⟨a,vs,jW (by rw[<- r.len];exact hi),List.mem_singleton.mpr rfl,aF,h.mono s⟩
theorem Rel.apart (r:Rel K C H0 U O H) {a:Addr} (ha:a∈U.ad i) (hj:j≠i):Stay (U.ad j) H (upd H a o):=by
 refine⟨λb hb u e=>?_,λb vs e=>?_⟩
 ·rw[aw λ(z:b=a)=>hj (r.inj j i b hb (z▸ha))];exact e
 ·have:b≠a:=λz=>by
   subst z;rcases r.kin i b ha with⟨us,e'⟩|⟨xs,e'⟩<;>(rw[e]at e';cases e')
  rw[aw this];exact e
theorem Rel.shown (r:Rel K C H0 U O H) {a:Addr} (ha:a∈U.ad i):∀b u,msk U O H b=some u->upd H a o b=some u:=λb u e=>by
 obtain⟨h1,h2⟩:=msk_some.mp e;rw[aw λ(z:b=a)=>h1 ⟨i,z▸ha⟩];exact h2
theorem Rel.write (r:Rel K C H0 U O H) {a:Addr} {ys:List D} {ws:List V} (e:U.rho[i]?=some (some (.own xs))) (q:O[i]?=some (some (.ref a))) (h:HasL K C (msk U O H) ws ys) :
  Rel K C H0 (U.put i (.own ys) [a]) O (upd H a (.lst ws)):=by
 obtain⟨b,vs,e1,ha,_,_⟩:=r.at_ i _ e;rw[q]at e1;cases e1;exact r.put rfl (λj _=>rfl) (λb hb=>.inl (by cases List.mem_singleton.mp hb;exact ha)) (λj hj=>r.apart ha hj) (r.shown ha) (λb hb=>.inl (by cases List.mem_singleton.mp hb;exact⟨ws,aF⟩))
  λhi s=>⟨a,ws,q,List.mem_singleton.mpr rfl,aF,h.mono s⟩
theorem Rel.freeze (r:Rel K C H0 U O H) (e:U.rho[i]?=some (some (.own xs))):Rel K C H0 (U.put i (.shr (.lst xs)) []) O H:=by
 obtain⟨a,vs,q,ha,h1,h2⟩:=r.at_ i _ e;refine r.put rfl (λj _=>rfl) (λb hb=>by cases hb) (λj _=>.of (Same.refl _)) (λb o z=>(msk_some.mp z).2) (λb hb=>by cases hb) λhi s=>⟨_,q,.lst (msk_some.mpr ⟨λz=>?_,h1⟩) (h2.mono s)⟩;obtain⟨j,z⟩:=z;rcases fk z with⟨_,_,z⟩|⟨hj,z⟩
 ·cases z
 ·exact hj (r.inj j i a z ha)
mutual
theorem Tre.share (s:Same M M'):∀{k:OK} {v:V} {d:D} {A:List Addr},Tre K C M H k v d A->(∀a∈A,∀o,H a=some o->M' a=some o)->(∀a vs,H a=some (.tup vs)->M' a=some (.tup vs))->Has K C M' v d
 | _,_,_,_,.s h,_,_=>h.mono s
 | _,_,_,_,.l e h _,f,t=>.lst (f _ List.mem_cons_self _ e) (TreP.share s h (λa ha=>f a (List.mem_cons_of_mem _ ha)) t)
 | _,_,_,_,.p e h,f,t=>.tup (t _ _ e) (TreP.share s h f t)
theorem TreP.share (s:Same M M'):∀{ks:List OK} {vs:List V} {ds:List D} {A:List Addr},TreP K C M H ks vs ds A->(∀a∈A,∀o,H a=some o->M' a=some o)->(∀a vs,H a=some (.tup vs)->M' a=some (.tup vs))->HasL K C M' vs ds
 | _,_,_,_,.nil,_,_=>.nil
 | _,_,_,_,.cons h t _,f,u=>.cons (Tre.share s h (λa ha=>f a (List.mem_append_left _ ha)) u) (TreP.share s t (λa ha=>f a (List.mem_append_right _ ha)) u)
end
theorem Rel.tups (r:Rel K C H0 U O H) {a:Addr} (e:H a=some (.tup vs)):¬ Own U O a:=λ⟨i,h⟩=>by
 rcases r.kin i a h with⟨us,e'⟩|⟨xs,e'⟩<;>(rw[e]at e';cases e')
theorem Rel.thaw (r:Rel K C H0 U O H) {k:OK} (e:U.rho[i]?=some (some (.tre k d))):Rel K C H0 (U.put i (.shr d) []) O H:=by
 obtain⟨v,A,q,hA,h⟩:=r.at_ i _ e;have own:∀b,Own (U.put i (.shr d) []) O b->Own U O b/\b∉U.ad i:=λb z=>by
  obtain⟨j,z⟩:=z;rcases fk z with⟨_,_,z⟩|⟨hj,z⟩
  ·cases z
  ·exact⟨⟨j,z⟩,λy=>hj (r.inj j i b z y)⟩
 refine r.put rfl (λj _=>rfl) (λb hb=>by cases hb) (λj _=>.of (Same.refl _)) (λb o z=>(msk_some.mp z).2) (λb hb=>by cases hb) λhi s=>⟨_,q,h.share s (λa ha o e=>?_) λa vs e=>?_⟩
 ·exact msk_some.mpr ⟨λz=>(own a z).2 (hA a ha),e⟩
 ·exact msk_some.mpr ⟨λz=>r.tups e (own a z).1,e⟩
end
def Fly (X:Cx) (pins:List (Addr×Obj)) (c:Nat) (H:Hp) (e:Value) (s:Shared):Prop:=∃ea Cc ch,e=.ref ea/\X.mg (exN c)=some (.ref Cc)/\EA s.heap ea (.ref Cc) ch/\∀b∈ch,GZ X pins H b
def XE (X:Cx) (c:Nat) (O:St) (H:Hp):Prop:=∀pins H' e s',Inv X pins O H' s'->Same H H'->Fly X pins c H' e s'->X.xe e s'
def XS (X:Cx) (c:Nat) (H0:Hp):Prop:=∀pins σ' H' e s',Inv X pins σ' H' s'->Same H0 H'->Fly X pins c H' e s'->X.xe e s'
variable {c:Nat}
theorem XE.mono (s:Same H H') (h:XE X c O H):XE X c O H':=λpins H2 e s' I s2 f=>h pins H2 e s' I (s.trans s2) f
theorem XS.mono (s:Same H H') (h:XS X c H):XS X c H':=λpins O H2 e s' I s2 f=>h pins O H2 e s' I (s.trans s2) f
theorem XS.xe (s:Same H H') (h:XS X c H):XE X c O H':=λpins H2 e s' I s2 f=>h pins O H2 e s' I (s.trans s2) f
inductive Brw (K:Frag) (C:Addr) (M H:Hp):V->D->Prop where
 | cl {v:V} {d:D}:Has K C M v d->Brw K C M H v d
 | own {a:Addr} {vs:List V} {xs:List D}:H a=some (.lst vs)->HasL K C M vs xs->Brw K C M H (.ref a) (.lst xs)
theorem Brw.mono (m:Same M M') (s:Same H H') (h:Brw K C M H v d):Brw K C M' H' v d:=by
 cases h with
 | cl h=>exact .cl (h.mono m)
 | own e h=>exact .own (s _ _ e) (h.mono m)
section
variable (C:Addr) (X:Cx)
abbrev bP (H0:Hp) (U:RB) (O:St) (H:Hp):Prop:=Rel X.K C H0 U O H
abbrev iQ (H0:Hp) (U:Rho) (O:St) (H:Hp):Prop:=vq X.K C H0 U O H
abbrev dC (U:RB) (O:St) (H:Hp) (v:V) (d:D):Prop:=Has X.K C (msk U O H) v d
abbrev iN (U:RB) (O:St) (H:Hp) (v:List V) (d:List D):Prop:=HasL X.K C (msk U O H) v d
abbrev EC (U:RB) (O:St) (H:Hp) (v:V) (d:D):Prop:=Brw X.K C (msk U O H) H v d
def pV (Rl:Hp->V->D->Prop) (r:R D) (O:St) (H:Hp) (Q:VK):Prop:=match r with
 | .val d=>∀v H',Same H H'->Rl H' v d->Q v H'
 | .exc c=>XE X c O H
 | .bad=>False
def pB (r:R Bool) (O:St) (H:Hp) (Q:Bool->Hp->Prop):Prop:=match r with
 | .val b=>∀H',Same H H'->Q b H'
 | .exc c=>XE X c O H
 | .bad=>False
def pL (Rl:Hp->List V->List D->Prop) (r:R (List D)) (O:St) (H:Hp) (Q:List V->Hp->Prop):Prop:=match r with
 | .val d=>∀v H',Same H H'->Rl H' v d->Q v H'
 | .exc c=>XE X c O H
 | .bad=>False
def teC (F:Rho->R D):TE:=λO H Q=>∃U:RB,(∃H0,bP C X H0 U O H)/\pV X (dC C X U O) (F U) O H Q
def teB (F:Rho->R D):TE:=λO H Q=>∃U:RB,(∃H0,bP C X H0 U O H)/\pV X (EC C X U O) (F U) O H Q
def ttD (F:Rho->R Bool):TT:=λO H Q=>∃U:RB,(∃H0,bP C X H0 U O H)/\pB X (F U) O H Q
def taD (F:Rho->R (List D)):TA:=λO H Q=>∃U:RB,(∃H0,bP C X H0 U O H)/\pL X (iN C X U O) (F U) O H Q
def ED (e:Expr) (F:Rho->R D):Prop:=PE X e (teC C X F)
def EB (e:Expr) (F:Rho->R D):Prop:=PE X e (teB C X F)
def TD (e:Expr) (F:Rho->R Bool):Prop:=PT X e (ttD C X F)
def AD (es:List Expr) (F:Rho->R (List D)):Prop:=PA X es (taD C X F)
def pS (o:R Out) (H0:Hp) (Dn:iR):Prop:=match o with
 | .val (.nx U')=>∀σ' H',iQ C X H0 U' σ' H'->Dn.nx σ' H'
 | .val (.bk U')=>∀σ' H',iQ C X H0 U' σ' H'->Dn.bk σ' H'
 | .val (.ct U')=>∀σ' H',iQ C X H0 U' σ' H'->Dn.ct σ' H'
 | .val (.rt d)=>∀v H',Same H0 H'->Has X.K C H' v d->Dn.rt v H'
 | .exc c=>XS X c H0
 | .bad=>False
def tsD (F:Rho->R Out):TS:=λDn O H=>∃U H0,iQ C X H0 U O H/\pS C X (F U) H0 Dn
def SD (st:Stmt) (F:Rho->R Out):Prop:=PS X st (tsD C X F)
def SDs (st:List Stmt) (F:Rho->R Out):Prop:=PSs X st (tsD C X F)
end
variable {a b:Expr} {r:R2} {Q:VK} {F Fa Fb:Rho->R D} {x:Str} {pos:Pos} {f:D->D->R D} {op:CmpOp} {rest es:List Expr} {n:Nat}
section
variable {C:Addr} {X:Cx} {U:RB} {O:St} {H H':Hp}
theorem aD {e:Expr} {t t':TE} (h:PE X e t) (hw:∀O H Q,t' O H Q->t O H Q):PE X e t':=λpins s O H Q I q=>h pins s O H Q I (hw O H Q q)
theorem eZ {e:Expr} {t t':TT} (h:PT X e t) (hw:∀O H Q,t' O H Q->t O H Q):PT X e t':=λpins s O H Q I q=>h pins s O H Q I (hw O H Q q)
theorem ju {e:List Expr} {t t':TA} (h:PA X e t) (hw:∀O H Q,t' O H Q->t O H Q):PA X e t':=λpos pins s O H Q I q=>h pos pins s O H Q I (hw O H Q q)
theorem aW {e:Stmt} {t t':TS} (h:PS X e t) (hw:∀D O H,t' D O H->t D O H):PS X e t':=λpins s O H Q I q=>h pins s O H Q I (hw Q O H q)
theorem bJ {e:List Stmt} {t t':TS} (h:PSs X e t) (hw:∀D O H,t' D O H->t D O H):PSs X e t':=λpins s O H Q I q=>h pins s O H Q I (hw Q O H q)
theorem pV.mono {Rl:Hp->V->D->Prop} {r:R D} (s:Same H H') (h:pV X Rl r O H Q):pV X Rl r O H' Q:=by
 cases r with
 | val d=>exact λv H2 s2 q=>h v H2 (s.trans s2) q
 | exc c=>exact XE.mono s h
 | bad=>exact h
theorem pB.mono {r:R Bool} {Q:Bool->Hp->Prop} (s:Same H H') (h:pB X r O H Q):pB X r O H' Q:=by
 cases r with
 | val d=>exact λH2 s2=>h H2 (s.trans s2)
 | exc c=>exact XE.mono s h
 | bad=>exact h
theorem pL.mono {Rl:Hp->List V->List D->Prop} {r:R (List D)} {Q:List V->Hp->Prop} (s:Same H H') (h:pL X Rl r O H Q):pL X Rl r O H' Q:=by
 cases r with
 | val d=>exact λv H2 s2 q=>h v H2 (s.trans s2) q
 | exc c=>exact XE.mono s h
 | bad=>exact h
theorem aQ {Rl:Hp->V->D->Prop} {r:R D} {k:D->R Y} {P:R Y->Hp->Prop} (hexc:∀c,P (.exc c) H->XE X c O H) (hbad:P .bad H->False) (h:P (r.bind k) H)
  (hk:∀d v H1,Same H H1->Rl H1 v d->P (k d) H->Q v H1):pV X Rl r O H Q:=by
 cases r with
 | val d=>exact λv H1 s q=>hk d v H1 s q h
 | exc c=>exact hexc c h
 | bad=>exact hbad h
theorem kl {r:R Bool} {k:Bool->R Y} {P:R Y->Hp->Prop} {Q:Bool->Hp->Prop} (hexc:∀c,P (.exc c) H->XE X c O H) (hbad:P .bad H->False) (h:P (r.bind k) H)
  (hk:∀d H1,Same H H1->P (k d) H->Q d H1):pB X r O H Q:=by
 cases r with
 | val d=>exact λH1 s=>hk d H1 s h
 | exc c=>exact hexc c h
 | bad=>exact hbad h
theorem dF {Rl:Hp->List V->List D->Prop} {r:R (List D)} {k:List D->R Y} {P:R Y->Hp->Prop} {Q:List V->Hp->Prop} (hexc:∀c,P (.exc c) H->XE X c O H) (hbad:P .bad H->False) (h:P (r.bind k) H)
  (hk:∀d v H1,Same H H1->Rl H1 v d->P (k d) H->Q v H1):pL X Rl r O H Q:=by
 cases r with
 | val d=>exact λv H1 s q=>hk d v H1 s q h
 | exc c=>exact hexc c h
 | bad=>exact hbad h
theorem EB.of {e:Expr} (h:ED C X e F):EB C X e F:=aD h λO H Q yy0=>by
 obtain⟨U,r,q⟩:=yy0;exact⟨U,r,by
  cases z:F U with
  | val d=>rw[z]at q;exact λv H' s h=>q v H' s (.cl h)
  | exc c=>rw[z]at q;exact q
  | bad=>rw[z]at q;exact q⟩
def vr (i:Nat):Rho->R D:=λU=>match U[i]? with
 | some (some (.shr d))=>.val d
 | _=>.bad
def vb (i:Nat):Rho->R D:=λU=>match U[i]? with
 | some (some (.shr d))=>.val d
 | some (some (.own xs))=>.val (.lst xs)
 | some (some (.tre (.l .s) (.lst xs)))=>.val (.lst xs)
 | _=>.bad
theorem Ek (h:PE X (.Name x pos) (df i)):ED C X (.Name x pos) (vr i):=by
 refine aD h λO H Q zz0=>?_;obtain⟨U,⟨H0,r⟩,q⟩:=zz0;unfold vr at q;split at q
 ·rename_i d e;obtain⟨v,e1,h1⟩:=r.at_ i _ e;exact⟨v,e1,q v H (Same.refl _) h1⟩
 ·exact q.elim
theorem En (h:PE X (.Name x pos) (df i)):EB C X (.Name x pos) (vb i):=by
 refine aD h λO H Q zz1=>?_;obtain⟨U,⟨H0,r⟩,q⟩:=zz1;unfold vb at q;split at q
 ·rename_i d e;obtain⟨v,e1,h1⟩:=r.at_ i _ e;exact⟨v,e1,q v H (Same.refl _) (.cl h1)⟩
 ·rename_i xs e;obtain⟨a,vs,e1,_,h1,h2⟩:=r.at_ i _ e;exact⟨_,e1,q _ H (Same.refl _) (.own h1 h2)⟩
 ·rename_i xs e;obtain⟨v,B,e1,_,h⟩:=r.at_ i _ e;cases h with
  | l h1 h2 _=>exact⟨_,e1,q _ H (Same.refl _) (.own h1 h2.flat.2)⟩
 ·exact q.elim
def kd (d:D):Rho->R D:=λ_=>.val d
theorem aU {i j pos}:ED C X (.Constant (.int i) j pos) (kd (.int i)):=aD yH λO H Q yy1=>by
 obtain⟨U,r,q⟩:=yy1;exact q _ H (Same.refl _) (.int i)
theorem dq {i j pos}:ED C X (.Constant (.bool i) j pos) (kd (.bl i)):=aD Cw λO H Q yy2=>by
 obtain⟨U,r,q⟩:=yy2;exact q _ H (Same.refl _) (.bl i)
theorem El {j pos}:ED C X (.Constant .none j pos) (kd .non):=aD Dz λO H Q yy3=>by
 obtain⟨U,r,q⟩:=yy3;exact q _ H (Same.refl _) .non
theorem oy {i:Int} {t:Tok} (hg:Gl X x) (hm:X.mg x=some (.int i t)) (hd:(x==("__debug__":Str))=false:=by decide):ED C X (.Name x pos) (kd (.int i)) :=
  aD (A7 (v:=.int i) hg hm ⟨t,rfl⟩ hd) λO H Q yy4=>by
   obtain⟨U,r,q⟩:=yy4;exact q _ H (Same.refl _) (.int i)
def bin (f:D->D->R D) (a b:Rho->R D):Rho->R D:=λU=>(a U).bind λx=>(b U).bind λy=>f x y
def OpD (C:Addr) (X:Cx) (r:R2) (f:D->D->R D):Prop:=∀U O H v w x y z (Q:VK),(∃H0,bP C X H0 U O H)->EC C X U O H v x->EC C X U O H w y->f x y=.val z->(∀u H',Same H H'->dC C X U O H' u z->Q u H')->r v w H Q
def fi (f:D->D->R D):Prop:=∀x y c,f x y ≠ .exc c
theorem qE (hf:fi f) (ho:OpD C X r f) {O:St} {H:Hp} (h:teC C X (bin f Fa Fb) O H Q):tOp r (teB C X Fa) (teB C X Fb) O H Q:=by
 obtain⟨U,⟨H0,r0⟩,q⟩:=h;refine⟨U,⟨H0,r0⟩,aQ (P:=λz H=>pV X (dC C X U O) z O H Q) (λ_ h=>h) (λh=>h) q λx v H1 s1 h1 q1=>?_⟩;refine⟨U,⟨H0,r0.mono s1⟩,aQ (P:=λz H=>pV X (dC C X U O) z O H Q) (λ_ h=>h) (λh=>h) (q1.mono s1) λy w H2 s2 h2 q2=>?_⟩;cases e:f x y with
 | val z =>
  rw[e]at q2;exact ho U O H2 v w x y z Q ⟨H0,(r0.mono s1).mono s2⟩ (h1.mono (aO s2) s2) h2 e λu H3 s3 h3=>q2 u H3 (s2.trans s3) h3
 | exc c=>exact(hf x y c e).elim
 | bad=>rw[e]at q2;exact q2.elim
theorem wA {op:Operator} (h:OpR X (binaryOp op) r) (hf:fi f) (ho:OpD C X r f) (ha:EB C X a Fa) (hb:EB C X b Fb) :
  ED C X (.BinOp a op b pos) (bin f Fa Fb):=aD (Cv h ha hb) λO H Q q=>qE hf ho q
theorem u8 (h:OpR X (compareOp op) r) (hf:fi f) (ho:OpD C X r f) (ha:EB C X a Fa) (hb:EB C X b Fb) (hm:behindInMarks op b=false) :
  ED C X (.Compare a [op] [b] pos) (bin f Fa Fb):=aD (A8 h ha hb hm) λO H Q q=>qE hf ho q
theorem FM (h:IxR X r) (hf:fi f) (ho:OpD C X r f) (ha:EB C X a Fa) (hb:EB C X b Fb) (hs:kM b) :
  ED C X (.Subscript a b pos) (bin f Fa Fb):=aD (yG h ha hb hs) λO H Q q=>qE hf ho q
def asB:D->R Bool
 | .bl b=>.val b
 | _=>.bad
def tst (F:Rho->R D):Rho->R Bool:=λU=>(F U).bind asB
theorem Brw.int {H:Hp} {i:Int} (h:Brw K C M H v (.int i)):v=.int i:=by
 cases h with
 | cl h=>cases h;rfl
theorem Brw.bl {H:Hp} {i:Bool} (h:Brw K C M H v (.bl i)):v=.bl i:=by
 cases h with
 | cl h=>cases h;rfl
theorem Has.bl' {i:Bool} (h:Has K C M v (.bl i)):v=.bl i:=by cases h;rfl
theorem EQ {O:St} {H:Hp} {Q:Bool->Hp->Prop} (h:ttD C X (tst F) O H Q):teC C X F O H λx H1=>∃c,x=.bl c/\Q c H1:=by
 obtain⟨U,⟨H0,r0⟩,q⟩:=h;refine⟨U,⟨H0,r0⟩,aQ (P:=λz H=>pB X z O H Q) (λ_ h=>h) (λh=>h) q λx v H1 s1 h1 q1=>?_⟩;cases x with
 | bl b=>exact⟨b,Has.bl' h1,q1 H1 s1⟩
 | _=>exact q1.elim
theorem cG {e:Expr} (h:ED C X e F) (he:∀whole,isTrue e X.env whole=(do let v <- whole;standAt e.pos;holding [v] (truthy v)):=by intro _;rfl):TD C X e (tst F) :=
 eZ (yp h he) λO H Q q=>EQ q
theorem kU (h:OpR X (compareOp op) r) (hf:fi f) (ho:OpD C X r f) (ha:EB C X a Fa) (hb:EB C X b Fb) (hm:behindInMarks op b=false) :
  TD C X (.Compare a [op] [b] pos) (tst (bin f Fa Fb)):=eZ (vR h ha hb hm) λO H Q q=>by
 obtain⟨U,r0,q⟩:=q;refine qE hf ho ⟨U,r0,?_⟩;exact aQ (P:=λz H=>pB X z O H Q) (λ_ h=>h) (λh=>h) q λx v H1 s1 h1 q1=>by
  cases x with
  | bl b=>exact⟨b,Has.bl' h1,q1 H1 s1⟩
  | _=>exact q1.elim
def xD (a b:Rho->R Bool):Rho->R Bool:=λU=>(a U).bind λx=>if x=true then b U else .val false
def orB (a b:Rho->R Bool):Rho->R Bool:=λU=>(a U).bind λx=>if x=true then .val true else b U
def cX (a:Rho->R Bool):Rho->R Bool:=λU=>(a U).bind λx=>.val (!x)
def WD (C:Addr) (X:Cx) (e:Expr) (F:Rho->R Bool):Prop:=PW X e (ttD C X F)
theorem vP {e:Expr} {t t':TT} (h:PW X e t) (hw:∀O H Q,t' O H Q->t O H Q):PW X e t':=λwh pins s O H Q I q=>h wh pins s O H Q I (hw O H Q q)
theorem vv {F:Rho->R Bool} (h:TD C X a F):WD C X (.BoolOp .And [a] pos) F:=vQ h
theorem eI {F:Rho->R Bool} (h:TD C X a F):WD C X (.BoolOp .Or [a] pos) F:=Dj h
theorem xL {Fa Fb:Rho->R Bool} (ha:TD C X a Fa) (hb:WD C X (.BoolOp .And (b::rest) pos) Fb):WD C X (.BoolOp .And (a::b::rest) pos) (xD Fa Fb) :=
  vP (yo ha hb) λO H Q yy5=>by
   obtain⟨U,⟨H0,r0⟩,q⟩:=yy5;exact⟨U,⟨H0,r0⟩,kl (P:=λz H=>pB X z O H Q) (λ_ h=>h) (λh=>h) q λx H1 s1 q1=>by
    cases x with
    | true=>rw[if_pos rfl];rw[if_pos rfl]at q1;exact⟨U,⟨H0,r0.mono s1⟩,q1.mono s1⟩
    | false=>rw[if_neg Bool.false_ne_true];rw[if_neg Bool.false_ne_true]at q1;exact q1 H1 s1⟩
theorem fN {Fa Fb:Rho->R Bool} (ha:TD C X a Fa) (hb:WD C X (.BoolOp .Or (b::rest) pos) Fb):WD C X (.BoolOp .Or (a::b::rest) pos) (orB Fa Fb) :=
  vP (E7 ha hb) λO H Q yy6=>by
   obtain⟨U,⟨H0,r0⟩,q⟩:=yy6;exact⟨U,⟨H0,r0⟩,kl (P:=λz H=>pB X z O H Q) (λ_ h=>h) (λh=>h) q λx H1 s1 q1=>by
    cases x with
    | false=>rw[if_neg Bool.false_ne_true];rw[if_neg Bool.false_ne_true]at q1;exact⟨U,⟨H0,r0.mono s1⟩,q1.mono s1⟩
    | true=>rw[if_pos rfl];rw[if_pos rfl]at q1;exact q1 H1 s1⟩
theorem jV {e:Expr} {F:Rho->R Bool} (h:WD C X e F):TD C X e F:=h.pt
theorem cH {F:Rho->R Bool} (h:TD C X a F):TD C X (.UnaryOp .Not a pos) (cX F) :=
  eZ (yq h) λO H Q yy7=>by
   obtain⟨U,r0,q⟩:=yy7;exact⟨U,r0,kl (P:=λz H=>pB X z O H Q) (λ_ h=>h) (λh=>h) q λx H1 s1 q1=>q1 H1 s1⟩
def Ce (a b:Rho->R D):Rho->R D:=λU=>(a U).bind λx=>(asB x).bind λc=>if c=true then b U else .val (.bl false)
def orV (a b:Rho->R D):Rho->R D:=λU=>(a U).bind λx=>(asB x).bind λc=>if c=true then .val (.bl true)else b U
theorem zN {op} (h:ED C X a F):ED C X (.BoolOp op [a] pos) F:=Dy h
theorem zS (ha:ED C X a Fa) (hb:ED C X (.BoolOp .And (b::rest) pos) Fb):ED C X (.BoolOp .And (a::b::rest) pos) (Ce Fa Fb) :=
  aD (DC ha hb) λO H Q yy8=>by
   obtain⟨U,⟨H0,r0⟩,q⟩:=yy8;exact⟨U,⟨H0,r0⟩,aQ (P:=λz H=>pV X (dC C X U O) z O H Q) (λ_ h=>h) (λh=>h) q λx v H1 s1 h1 q1=>by
    cases x with
    | bl c =>
      refine⟨c,Has.bl' h1,?_⟩;cases c with
      | true=>exact rb ⟨U,⟨H0,r0.mono s1⟩,q1.mono s1⟩
      | false=>exact rh (q1 _ H1 s1 (.bl false))
    | _=>exact q1.elim⟩
theorem FJ (ha:ED C X a Fa) (hb:ED C X (.BoolOp .Or (b::rest) pos) Fb):ED C X (.BoolOp .Or (a::b::rest) pos) (orV Fa Fb) :=
  aD (Fg ha hb) λO H Q yy9=>by
   obtain⟨U,⟨H0,r0⟩,q⟩:=yy9;exact⟨U,⟨H0,r0⟩,aQ (P:=λz H=>pV X (dC C X U O) z O H Q) (λ_ h=>h) (λh=>h) q λx v H1 s1 h1 q1=>by
    cases x with
    | bl c =>
      refine⟨c,Has.bl' h1,?_⟩;cases c with
      | false=>exact rh ⟨U,⟨H0,r0.mono s1⟩,q1.mono s1⟩
      | true=>exact rb (q1 _ H1 s1 (.bl true))
    | _=>exact q1.elim⟩
def aN:Rho->R (List D):=λ_=>.val []
def aC (a:Rho->R D) (r:Rho->R (List D)):Rho->R (List D):=λU=>(a U).bind λx=>(r U).bind λxs=>.val (x::xs)
theorem ag:AD C X [] aN:=ju bU λO H Q yy12=>by
 obtain⟨U,r0,q⟩:=yy12;exact q [] H (Same.refl _) .nil
theorem ab {e:Expr} {Fr:Rho->R (List D)} (ha:ED C X e Fa) (hr:AD C X es Fr) (hs:starEach (e::es) X.env=(false,eval e X.env)::starEach es X.env:=by rfl):AD C X (e::es) (aC Fa Fr) :=
  ju (bu ha hr hs) λO H Q yy13=>by
   obtain⟨U,⟨H0,r0⟩,q⟩:=yy13;exact⟨U,⟨H0,r0⟩,aQ (P:=λz H=>pL X (iN C X U O) z O H Q) (λ_ h=>h) (λh=>h) q λx v H1 s1 h1 q1 =>
    ⟨U,⟨H0,r0.mono s1⟩,dF (P:=λz H=>pL X (iN C X U O) z O H Q) (λ_ h=>h) (λh=>h) (q1.mono s1) λxs vs H2 s2 h2 q2=>q2 _ H2 s2 (.cons (h1.mono (aO s2)) h2)⟩⟩
def LIM:Nat:=100000
theorem q8 (h:n<=LIM):n<=sizeLine:=Nat.le_trans h (by decide)
theorem DX (h:n<=LIM):n<sizeLine:=Nat.lt_of_le_of_lt h (by decide)
def mkT (xs:List D):R D:=if xs.length<=LIM then .val (.tup xs)else .bad
def mkL (xs:List D):R D:=if xs.length<=LIM then .val (.lst xs)else .bad
def eT (a:Rho->R (List D)):Rho->R D:=λU=>(a U).bind mkT
def eL (a:Rho->R (List D)):Rho->R D:=λU=>(a U).bind mkL
theorem cB {x1} {F : Rho -> R (List D)} (h : AD C X es F) : ED C X (.Tuple es x1 pos) (eT F) :=
  aD (Dx h) fun O H Q yy14 => by
   obtain ⟨U, ⟨H0, r0⟩, q⟩ := yy14
   exact ⟨U, ⟨H0, r0⟩, dF (P := fun z H => pV X (dC C X U O) z O H Q) (fun _ h => h) (fun h => h) q fun xs vs H1 s1 h1 q1 => by
    unfold mkT at q1
    split at q1
    · rename_i hl
      refine ⟨by rw [h1.len]; exact q8 hl, fun p hp => q1 _ _ (s1.trans (aA hp)) ?_⟩
      exact .tup ((r0.mono s1).new hp) (h1.mono (aO (aA hp)))
    · exact q1.elim⟩
theorem bx {F : Rho -> R (List D)} (h : AD C X es F) : ED C X (.List es pos) (eL F) :=
  aD (lg h) fun O H Q yy15 => by
   obtain ⟨U, ⟨H0, r0⟩, q⟩ := yy15
   exact ⟨U, ⟨H0, r0⟩, dF (P := fun z H => pV X (dC C X U O) z O H Q) (fun _ h => h) (fun h => h) q fun xs vs H1 s1 h1 q1 => by
    unfold mkL at q1
    split at q1
    · rename_i hl
      refine ⟨by rw [h1.len]; exact q8 hl, fun p hp => q1 _ _ (s1.trans (aA hp)) ?_⟩
      exact .lst ((r0.mono s1).new hp) (h1.mono (aO (aA hp)))
    · exact q1.elim⟩
end
section
variable {C:Addr} {X:Cx} {U:RB} {O:St} {H H':Hp}
def iI (f:Int->Int->R D):D->D->R D
 | .int i,.int j=>f i j
 | _,_=>.bad
theorem jr {f:Int->Int->R D} (h:∀i j c,f i j ≠ .exc c):fi (iI f):=by
 intro x y c;cases x<;>cases y<;>simp[iI]<;>exact h _ _ c
theorem uG {g:Int->Int->V} {f:Int->Int->R D} (h:∀i j z,f i j=.val z->∀K C H,Has K C H (g i j) z):OpD C X (rI0 g) (iI f):=by
 intro U O H v w x y z Q r hx hy e k;cases x with
 | int i =>
  cases y with
  | int j=>exact⟨i,j,hx.int,hy.int,k _ H (Same.refl _) (h i j z e _ _ _)⟩
  | _=>cases e
 | _=>cases e
theorem yO {P:Int->Int->Prop} {g:Int->Int->V} {f:Int->Int->R D} (h:∀i j z,f i j=.val z->P i j/\∀K C H,Has K C H (g i j) z):OpD C X (rI P g) (iI f):=by
 intro U O H v w x y z Q r hx hy e k;cases x with
 | int i =>
  cases y with
  | int j=>exact⟨i,j,hx.int,hy.int,(h i j z e).1,k _ H (Same.refl _) ((h i j z e).2 _ _ _)⟩
  | _=>cases e
 | _=>cases e
def fV (i j:Int):R D:=if(-(2 ^ 64)<i/\i<2 ^ 64)\/(-(2 ^ 64)<j/\j<2 ^ 64)then .val (.int (i*j))else .bad
def bm (i j:Int):R D:=if 0<j then .val (.int (i%j))else .bad
def dU (i j:Int):R D:=if 0<j/\j<1073741824 then .val (.int (i/j))else .bad
def flt (i j:Int):R D:=.val (.bl (decide (i<j)))
def fle (i j:Int):R D:=.val (.bl (decide (i<=j)))
def fgt (i j:Int):R D:=.val (.bl (decide (j<i)))
theorem Bb:OpD C X (rI CMul λi j=>.int (i*j)) (iI fV):=yO λi j z e=>by
 unfold fV at e;split at e
 ·cases e;exact⟨‹_›,λ_ _ _=>.int _⟩
 ·cases e
theorem Bc:OpD C X (rI (λ_ j=>0<j) λi j=>.int (i%j)) (iI bm):=yO λi j z e=>by
 unfold bm at e;split at e
 ·cases e;exact⟨‹_›,λ_ _ _=>.int _⟩
 ·cases e
theorem Be:OpD C X (rI FS λi j=>.int (i/j)) (iI dU):=yO λi j z e=>by
 unfold dU at e;split at e
 ·cases e;exact⟨‹_›,λ_ _ _=>.int _⟩
 ·cases e
theorem DG:OpD C X (rI0 λi j=>.bl (decide (i<j))) (iI flt):=uG λi j z e=>by cases e;exact λ_ _ _=>.bl _
theorem yL:OpD C X (rI0 λi j=>.bl (decide (i<=j))) (iI fle):=uG λi j z e=>by cases e;exact λ_ _ _=>.bl _
theorem yM:OpD C X (rI0 λi j=>.bl (decide (j<i))) (iI fgt):=uG λi j z e=>by cases e;exact λ_ _ _=>.bl _
theorem Dm:fi (iI fV):=jr λi j c e=>by unfold fV at e;split at e<;>cases e
theorem Do:fi (iI bm):=jr λi j c e=>by unfold bm at e;split at e<;>cases e
theorem Dp:fi (iI dU):=jr λi j c e=>by unfold dU at e;split at e<;>cases e
theorem E9:fi (iI flt):=jr λi j c e=>by cases e
theorem Cs:fi (iI fle):=jr λi j c e=>by cases e
theorem Ct:fi (iI fgt):=jr λi j c e=>by cases e
def bo:D->D->R D
 | .int i,.int j=>.val (.int (i+j))
 | .lst xs,.lst ys=>if xs.length+ys.length<=LIM then .val (.lst (xs++ys))else .bad
 | _,_=>.bad
theorem Brw.lst {K:Frag} {M H:Hp} {v:V} {xs:List D} (s:Same M H) (h:Brw K C M H v (.lst xs)):∃a vs,v=.ref a/\H a=some (.lst vs)/\HasL K C M vs xs:=by
 cases h with
 | cl h=>cases h with
  | lst q h=>exact⟨_,_,rfl,s _ _ q,h⟩
 | own e h=>exact⟨_,_,rfl,e,h⟩
theorem Brw.tup {K:Frag} {M H:Hp} {v:V} {xs:List D} (s:Same M H) (h:Brw K C M H v (.tup xs)):∃a vs,v=.ref a/\H a=some (.tup vs)/\HasL K C M vs xs:=by
 cases h with
 | cl h=>cases h with
  | tup q h=>exact⟨_,_,rfl,s _ _ q,h⟩
theorem Brw.scr {K:Frag} {M H:Hp} {v:V} {ns:List Int} (s:Same M H) (h:Brw K C M H v (.scr ns)):∃a,v=.ref a/\SqL K H a (ns.map V.int):=by
 cases h with
 | cl h=>cases h with
  | scr q=>exact⟨_,rfl,s.seq q⟩
theorem Bf:OpD C X (λx y H Q=>rI0 (λi j=>.int (i+j)) x y H Q\/Di x y H Q) bo:=by
 intro U O H v w x y z Q r hx hy e k;obtain⟨H0,r⟩:=r;cases x with
 | int i =>
  cases y with
  | int j=>cases e;exact .inl ⟨i,j,hx.int,hy.int,k _ H (Same.refl _) (.int _)⟩
  | _=>cases e
 | lst xs =>
  cases y with
  | lst ys =>
   simp only[bo]at e;split at e
   ·rename_i hl;cases e;obtain⟨a,vs,rfl,q1,h1⟩:=hx.lst msk_sub;obtain⟨b,ws,rfl,q2,h2⟩:=hy.lst msk_sub;refine .inr ⟨a,b,vs,ws,rfl,rfl,q1,q2,by rw[h1.len,h2.len];exact q8 hl,λp hp=>k _ _ (aA hp) ?_⟩;exact .lst (r.new hp) ((h1.app h2).mono (aO (aA hp)))
   ·cases e
  | _=>cases e
 | _=>cases e
theorem Dq:fi bo:=by
 intro x y c e;unfold bo at e;split at e
 ·cases e
 ·split at e<;>cases e
 ·cases e
theorem Ba:OpR X (binaryOp .Add) (λx y H Q=>rI0 (λi j=>.int (i+j)) x y H Q\/Di x y H Q):=op_add.or DO
def fix:D->D->R D
 | .lst xs,.int i=>match atI xs i with
  | some d=>.val d
  | none=>.bad
 | .tup xs,.int i=>match atI xs i with
  | some d=>.val d
  | none=>.bad
 | .scr ns,.int i=>match atI ns i with
  | some d=>.val (.int d)
  | none=>.bad
 | _,_=>.bad
theorem E_:fi fix:=by
 intro x y c e;unfold fix at e;split at e
 ·split at e<;>cases e
 ·split at e<;>cases e
 ·split at e<;>cases e
 ·cases e
theorem Cd {β:Type} (f:Y->β) (xs:List Y) (i:Int):L2.atI (xs.map f) i=(L2.atI xs i).map f:=by
 unfold L2.atI;rw[List.length_map];cases ixN xs.length i with
 | none=>rfl
 | some j=>simp
theorem HasL.atI {K:Frag} {vs:List V} {xs:List D} {i:Int} {d:D} (h:HasL K C H vs xs) (e:atI xs i=some d):∃v,L2.atI vs i=some v/\Has K C H v d:=by
 unfold L2.atI at e ⊢;rw[h.len];cases q:ixN xs.length i with
 | none=>rw[q]at e;cases e
 | some j =>
  rw[q]at e;exact h.get e
theorem DH:OpD C X (rIx X.K) fix:=by
 intro U O H v w x y z Q r hx hy e k;unfold fix at e;split at e
 ·rename_i xs i;split at e
  ·rename_i d q;cases e;obtain⟨a,vs,rfl,q1,h1⟩:=hx.lst msk_sub;obtain⟨u,q2,h2⟩:=h1.atI q;exact .inl ⟨a,vs,i,u,rfl,hy.int,SqL.of q1,q2,k _ H (Same.refl _) h2⟩
  ·cases e
 ·rename_i xs i;split at e
  ·rename_i d q;cases e;obtain⟨a,vs,rfl,q1,h1⟩:=hx.tup msk_sub;obtain⟨u,q2,h2⟩:=h1.atI q;exact .inr (.inl ⟨a,vs,i,u,rfl,hy.int,SqT.of q1,q2,k _ H (Same.refl _) h2⟩)
  ·cases e
 ·rename_i ns i;split at e
  ·rename_i d q;cases e;obtain⟨a,rfl,q1⟩:=hx.scr msk_sub;exact .inl ⟨a,_,i,.int d,rfl,hy.int,q1,by rw[Cd,q];rfl,k _ H (Same.refl _) (.int d)⟩
  ·cases e
 ·cases e
theorem cM (ha:EB C X a Fa) (hb:EB C X b Fb):ED C X (.BinOp a .Add b pos) (bin bo Fa Fb):=wA Ba Dq Bf ha hb
theorem ot (ha:EB C X a Fa) (hb:EB C X b Fb):ED C X (.BinOp a .Mult b pos) (bin (iI fV) Fa Fb):=wA DM Dm Bb ha hb
theorem cY (ha:EB C X a Fa) (hb:EB C X b Fb):ED C X (.BinOp a .Mod b pos) (bin (iI bm) Fa Fb):=wA DN Do Bc ha hb
theorem gA (ha:EB C X a Fa) (hb:EB C X b Fb):ED C X (.BinOp a .FloorDiv b pos) (bin (iI dU) Fa Fb):=wA Bh Dp Be ha hb
theorem FK (ha:EB C X a Fa) (hb:EB C X b Fb):ED C X (.Compare a [.LtE] [b] pos) (bin (iI fle) Fa Fb):=u8 nq Cs yL ha hb (iY _)
theorem FN (ha:EB C X a Fa) (hb:EB C X b Fb):ED C X (.Compare a [.Gt] [b] pos) (bin (iI fgt) Fa Fb):=u8 Cz Ct yM ha hb (iY _)
theorem Cp (ha:EB C X a Fa) (hb:EB C X b Fb):TD C X (.Compare a [.Lt] [b] pos) (tst (bin (iI flt) Fa Fb)):=kU Cy E9 DG ha hb (iY _)
theorem EI (ha:EB C X a Fa) (hb:EB C X b Fb):TD C X (.Compare a [.LtE] [b] pos) (tst (bin (iI fle) Fa Fb)):=kU nq Cs yL ha hb (iY _)
theorem vz (ha:EB C X a Fa) (hb:EB C X b Fb):TD C X (.Compare a [.Gt] [b] pos) (tst (bin (iI fgt) Fa Fb)):=kU Cz Ct yM ha hb (iY _)
theorem ak (ha:EB C X a Fa) (hb:EB C X b Fb) (hs:kM b:=by exact λ_ _=>rfl):ED C X (.Subscript a b pos) (bin fix Fa Fb):=FM y9 E_ DH ha hb hs
def jI:D->R D
 | .int i=>.val (.int (-i))
 | _=>.bad
def una (f:D->R D) (a:Rho->R D):Rho->R D:=λU=>(a U).bind f
theorem lA (h:EB C X a F):ED C X (.UnaryOp .USub a pos) (una jI F) :=
  aD (Ff CO h) λO H Q yy0=>by
   obtain⟨U,r0,q⟩:=yy0;exact⟨U,r0,aQ (P:=λz H=>pV X (dC C X U O) z O H Q) (λ_ h=>h) (λh=>h) q λx v H1 s1 h1 q1=>by
    cases x with
    | int i=>exact⟨i,h1.int,q1 _ H1 s1 (.int _)⟩
    | _=>exact q1.elim⟩
def pz:D->D
 | .non=>.bl true
 | _=>.bl false
def d9:D->D
 | .non=>.bl false
 | _=>.bl true
theorem Brw.isN {H:Hp} (h:Brw K C M H v d):pz d=.bl (decide (v=.non))/\d9 d=.bl (!decide (v=.non)):=by
 cases h with
 | cl h=>cases h<;>simp[pz,d9]
 | own e h=>simp[pz,d9]
theorem CZ {j pos pos'} (h:EB C X a F):TD C X (.Compare a [.Is] [.Constant .none j pos'] pos) (tst (una (λd=>.val (pz d)) F)) :=
 eZ (yr (DD h)) λO H Q zz0=>by
  obtain⟨U,r0,q⟩:=zz0;refine⟨U,r0,?_⟩;cases e:F U with
  | val d =>
   intro v H1 s1 h1;refine⟨_,rfl,?_⟩;have z:tst (una (λd=>.val (pz d)) F) U=.val (decide (v=.non)):=by
    unfold tst una;rw[e];show asB (pz d)=_;rw[(h1.isN).1];rfl
   rw[z]at q;exact q H1 s1
  | exc c =>
   have z:tst (una (λd=>.val (pz d)) F) U=.exc c:=by unfold tst una;rw[e];rfl
   rw[z]at q;exact q
  | bad =>
   have z:tst (una (λd=>.val (pz d)) F) U=.bad:=by unfold tst una;rw[e];rfl
   rw[z]at q;exact q
theorem Aq {j pos pos'} (h:EB C X a F):TD C X (.Compare a [.IsNot] [.Constant .none j pos'] pos) (tst (una (λd=>.val (d9 d)) F)) :=
 eZ (yr (A9 h)) λO H Q zz1=>by
  obtain⟨U,r0,q⟩:=zz1;refine⟨U,r0,?_⟩;cases e:F U with
  | val d =>
   intro v H1 s1 h1;refine⟨_,rfl,?_⟩;have z:tst (una (λd=>.val (d9 d)) F) U=.val (!decide (v=.non)):=by
    unfold tst una;rw[e];show asB (d9 d)=_;rw[(h1.isN).2];rfl
   rw[z]at q;exact q H1 s1
  | exc c =>
   have z:tst (una (λd=>.val (d9 d)) F) U=.exc c:=by unfold tst una;rw[e];rfl
   rw[z]at q;exact q
  | bad =>
   have z:tst (una (λd=>.val (d9 d)) F) U=.bad:=by unfold tst una;rw[e];rfl
   rw[z]at q;exact q
def chn (f g:Int->Int->Bool) (a b c:Rho->R D):Rho->R D:=λU=>(a U).bind λx=>(b U).bind λy=>match x,y with
 | .int i,.int j=>if f i j=true then(c U).bind λz=>match z with
   | .int k=>.val (.bl (g j k))
   | _=>.bad
  else .val (.bl false)
 | _,_=>.bad
end
variable {k:Nat} {p:Pos} {g:Int->Int->Bool} {Fc:Rho->R D} {st:Stmt} {H0:Hp}
section
variable {C:Addr} {X:Cx} {U:RB} {O:St} {H H':Hp}
theorem pT {f:Int->Int->Bool} {O:St} {H:Hp} (h:teC C X (chn f g Fa Fb Fc) O H Q) :
  um (rI0 λi j=>.bl (f i j)) (rI0 λi j=>.bl (g i j)) (teB C X Fa) (teB C X Fb) (teB C X Fc) O H Q:=by
 obtain⟨U,⟨H0,r0⟩,q⟩:=h;refine⟨U,⟨H0,r0⟩,aQ (P:=λz H=>pV X (dC C X U O) z O H Q) (λ_ h=>h) (λh=>h) q λx v H1 s1 h1 q1=>?_⟩;refine⟨U,⟨H0,r0.mono s1⟩,aQ (P:=λz H=>pV X (dC C X U O) z O H Q) (λ_ h=>h) (λh=>h) (q1.mono s1) λy w H2 s2 h2 q2=>?_⟩;cases x with
 | int i =>
  cases y with
  | int j =>
   refine⟨i,j,h1.int,h2.int,f i j,rfl,?_⟩;cases e:f i j with
   | false =>
    simp only[e,Bool.false_eq_true,if_false]at q2 ⊢;exact q2 _ H2 s2 (.bl false)
   | true =>
    simp only[e,if_true]at q2 ⊢;refine⟨U,⟨H0,(r0.mono s1).mono s2⟩,aQ (P:=λz H=>pV X (dC C X U O) z O H Q) (λ_ h=>h) (λh=>h) (q2.mono s2) λz w' H3 s3 h3 q3=>?_⟩;cases z with
    | int k=>exact⟨j,k,h2.int,h3.int,q3 _ H3 s3 (.bl _)⟩
    | _=>exact q3.elim
  | _=>exact q2.elim
 | _=>exact q2.elim
theorem zR {c:Expr} {op':CmpOp} {f:Int->Int->Bool} (ho:OpR X (compareOp op) (rI0 λi j=>.bl (f i j))) (ho':OpR X (compareOp op') (rI0 λi j=>.bl (g i j)))
  (ha:EB C X a Fa) (hb:EB C X b Fb) (hc:EB C X c Fc) (hm:lastMarks [op,op'] [b,c]=false:=by with_unfolding_all rfl):ED C X (.Compare a [op,op'] [b,c] pos) (chn f g Fa Fb Fc) :=
 aD (yJ ho ho' ha hb hc hm) λO H Q q=>pT q
theorem si {c:Expr} {op':CmpOp} {f:Int->Int->Bool} (ho:OpR X (compareOp op) (rI0 λi j=>.bl (f i j))) (ho':OpR X (compareOp op') (rI0 λi j=>.bl (g i j)))
  (ha:EB C X a Fa) (hb:EB C X b Fb) (hc:EB C X c Fc) (hm:lastMarks [op,op'] [b,c]=false:=by with_unfolding_all rfl):TD C X (.Compare a [op,op'] [b,c] pos) (tst (chn f g Fa Fb Fc)) :=
 eZ (yt ho ho' ha hb hc hm) λO H Q q=>by
  obtain⟨U,r0,q⟩:=q;refine pT ⟨U,r0,?_⟩;exact aQ (P:=λz H=>pB X z O H Q) (λ_ h=>h) (λh=>h) q λx v H1 s1 h1 q1=>by
   cases x with
   | bl b=>exact⟨b,Has.bl' h1,q1 H1 s1⟩
   | _=>exact q1.elim
def ly (f:Nat):D->R D
 | .ob e r t=>match f with
  | 0=>.val e
  | 1=>.val r
  | _=>.val t
 | _=>.bad
theorem lC {e:Expr} {f:Str} (h:EB C X e F) (c:Cls X.K C) (n:NoAttr X.K C f) (hb:attributeBase e f X.env (eval e X.env)=eval e X.env)
    (hk:∀ve vr vt,(FE ve vr vt).lookup f=some (match k with|0=>ve|1=>vr|_=>vt)):ED C X (.Attribute e f pos) (una (ly k) F) :=
  aD (DB h hb) λO H Q yy0=>by
   obtain⟨U,r0,q⟩:=yy0;exact⟨U,r0,aQ (P:=λz H=>pV X (dC C X U O) z O H Q) (λ_ h=>h) (λh=>h) q λx v H1 s1 h1 q1=>by
    cases x with
    | ob de dr dt =>
      cases h1 with
      | cl h1 =>
        cases h1 with
        | @ob a dx ve vr vt _ _ _ e1 g1 g2 g3 =>
          refine⟨a,C,dx,_,_,rfl,msk_sub _ _ e1,c,n,hk ve vr vt,?_⟩
          match k with
          | 0=>exact q1 _ H1 s1 g1
          | 1=>exact q1 _ H1 s1 g2
          | _+2=>exact q1 _ H1 s1 g3
    | _=>exact q1.elim⟩
def aM:D->R D
 | .lst xs=>.val (.int xs.length)
 | .tup xs=>.val (.int xs.length)
 | .scr ns=>.val (.int ns.length)
 | _=>.bad
theorem Em {e:Expr} (h:EB C X e F) (hg:Gl X "len") (hm:X.mg "len"=none) (hst:starEach [e] X.env=(false,eval e X.env)::starEach [] X.env:=by rfl)
    (hs:∀t:TA,PA X [e] t->PE X (.Call (.Name "len" p) [e] [] pos) (tCB (λxs H Q=>∃p ys,xs=[.ref p]/\(SqL X.K H p ys\/SqT X.K H p ys)/\Q (.int ys.length) H) t):=by
      exact λt ha=>d7 fL (by assumption) (by assumption) PySem.boot_len ha):ED C X (.Call (.Name "len" p) [e] [] pos) (una aM F) :=
  aD (hs _ (bu h bU hst)) λO H Q yy1=>by
   obtain⟨U,r0,q⟩:=yy1;exact⟨U,r0,aQ (P:=λz H=>pV X (dC C X U O) z O H Q) (λ_ h=>h) (λh=>h) q λx v H1 s1 h1 q1=>by
    cases x with
    | lst xs =>
      obtain⟨a,vs,rfl,e1,h2⟩:=h1.lst msk_sub;exact⟨a,vs,rfl,.inl (SqL.of e1),q1 _ H1 s1 (by rw[h2.len];exact .int _)⟩
    | tup xs =>
      obtain⟨a,vs,rfl,e1,h2⟩:=h1.tup msk_sub;exact⟨a,vs,rfl,.inr (SqT.of e1),q1 _ H1 s1 (by rw[h2.len];exact .int _)⟩
    | scr ns =>
      obtain⟨a,rfl,e1⟩:=h1.scr msk_sub;exact⟨a,_,rfl,.inl e1,q1 _ H1 s1 (by rw[List.length_map];exact .int _)⟩
    | _=>exact q1.elim⟩
def BF:List D->R D
 | [.int i,.int j]=>.val (.int (if j>i then j else i))
 | _=>.bad
def u_ (F:Rho->R (List D)):Rho->R D:=λU=>(F U).bind BF
theorem zO {F : Rho -> R (List D)} (hc : X.calm = true) (h : AD C X [a, b] F) (hg : Gl X "max") (hm : X.mg "max" = none)
    (hs : ∀ t : TA, PA X [a, b] t -> PE X (.Call (.Name "max" p) [a, b] [] pos) (tCB (fun xs H Q => ∃ i j, xs = [.int i, .int j] /\ Q (.int (if j > i then j else i)) H) t) := by
      exact fun t ha => d7 (lF (by assumption)) (by assumption) (by assumption) PySem.boot_max ha) : ED C X (.Call (.Name "max" p) [a, b] [] pos) (u_ F) :=
  aD (hs _ h) fun O H Q yy2 => by
   obtain ⟨U, r0, q⟩ := yy2
   exact ⟨U, r0, dF (P := fun z H => pV X (dC C X U O) z O H Q) (fun _ h => h) (fun h => h) q fun xs vs H1 s1 h1 q1 => by
    unfold BF at q1
    split at q1
    · rename_i i j
      cases h1 with
      | cons a1 b1 => cases b1 with
        | cons a2 b2 => cases b2; cases a1; cases a2; exact ⟨i, j, rfl, q1 _ H1 s1 (.int _)⟩
    · exact q1.elim⟩
def pF (Rl:Hp->List V->List D->Prop) (r:R (List D)) (O:St) (H:Hp) (Q:VK):Prop:=match r with
 | .val xs=>∀a vs H1,Same H H1->H1 a=none->Rl H1 vs xs->Q (.ref a) (upd H1 a (.lst vs))
 | .exc c=>XE X c O H
 | .bad=>False
variable (C X) in
def teF (F:Rho->R (List D)):TE:=λO H Q=>∃U:RB,(∃H0,bP C X H0 U O H)/\pF (X:=X) (iN C X U O) (F U) O H Q
variable (C X) in
def FD (e:Expr) (F:Rho->R (List D)):Prop:=PE X e (teF C X F)
def DW (r:R (List D)):R D:=r.bind λxs=>.val (.lst xs)
def eLs (F:Rho->R (List D)):Rho->R D:=λU=>DW (F U)
theorem bE {e:Expr} {F:Rho->R (List D)} (h:FD C X e F):ED C X e (eLs F):=aD h λO H Q yy3=>by
 obtain⟨U,⟨H0,r0⟩,q⟩:=yy3;exact⟨U,⟨H0,r0⟩,by
  unfold eLs at q;cases e:F U with
  | val xs =>
    rw[e]at q;exact λa vs H1 s1 hn h1=>q _ _ (s1.trans (aA hn)) (.lst ((r0.mono s1).new hn) (h1.mono (aO (aA hn))))
  | exc c=>rw[e]at q;exact q
  | bad=>rw[e]at q;exact q⟩
def lim (r:R (List D)):R (List D):=r.bind λxs=>if xs.length<=LIM then .val xs else .bad
def eE (F:Rho->R (List D)):Rho->R (List D):=λU=>lim (F U)
theorem j6 {F : Rho -> R (List D)} (h : AD C X es F) : FD C X (.List es pos) (eE F) :=
  aD (lg h) fun O H Q yy4 => by
   obtain ⟨U, ⟨H0, r0⟩, q⟩ := yy4
   exact ⟨U, ⟨H0, r0⟩, dF (P := fun z H => pF (X := X) (iN C X U O) z O H Q) (fun _ h => h) (fun h => h) q fun xs vs H1 s1 h1 q1 => by
    split at q1
    · rename_i hl
      exact ⟨by rw [h1.len]; exact q8 hl, fun p hp => q1 p vs H1 s1 hp h1⟩
    · exact q1.elim⟩
def itD:D->R (List D)
 | .lst xs=>.val xs
 | .tup xs=>.val xs
 | .scr ns=>.val (ns.map .int)
 | _=>.bad
def fIt (F:Rho->R D):Rho->R (List D):=λU=>(F U).bind itD
theorem BK {e:Expr} (h:EB C X e F) (hg:Gl X "list") (hm:X.mg "list"=none) (hst:starEach [e] X.env=(false,eval e X.env)::starEach [] X.env:=by rfl)
    (hs:∀t:TA,PA X [e] t->PE X (.Call (.Name "list" p) [e] [] pos) (tCB (λxs H Q=>∃p ys,xs=[.ref p]/\(SqL X.K H p ys\/SqT X.K H p ys)/\∀l,H l=none->Q (.ref l) (upd H l (.lst ys))) t):=by
      exact λt ha=>cA kL (by assumption) (by assumption) PySem.boot_list ha):FD C X (.Call (.Name "list" p) [e] [] pos) (fIt F) :=
  aD (hs _ (bu h bU hst)) λO H Q yy5=>by
   obtain⟨U,r0,q⟩:=yy5;exact⟨U,r0,aQ (P:=λz H=>pF (X:=X) (iN C X U O) z O H Q) (λ_ h=>h) (λh=>h) q λx v H1 s1 h1 q1=>by
    cases x with
    | lst xs =>
      obtain⟨a,vs,rfl,e1,h2⟩:=h1.lst msk_sub;exact⟨a,vs,rfl,.inl (SqL.of e1),λl hl=>q1 l vs H1 s1 hl h2⟩
    | tup xs =>
      obtain⟨a,vs,rfl,e1,h2⟩:=h1.tup msk_sub;exact⟨a,vs,rfl,.inr (SqT.of e1),λl hl=>q1 l vs H1 s1 hl h2⟩
    | scr ns =>
      obtain⟨a,rfl,e1⟩:=h1.scr msk_sub;exact⟨a,_,rfl,.inl e1,λl hl=>q1 l _ H1 s1 hl (HasL.ints ns)⟩
    | _=>exact q1.elim⟩
def jH:D->R D
 | .lst xs=>.val (.tup xs)
 | .tup xs=>.val (.tup xs)
 | _=>.bad
theorem kI {e:Expr} (h:EB C X e F) (hg:Gl X "tuple") (hm:X.mg "tuple"=none) (hst:starEach [e] X.env=(false,eval e X.env)::starEach [] X.env:=by rfl)
    (hs:∀t:TA,PA X [e] t->PE X (.Call (.Name "tuple" p) [e] [] pos) (tCB (λxs H Q=>∃p ys,xs=[.ref p]/\((SqL X.K H p ys/\∀l,H l=none->Q (.ref l) (upd H l (.tup ys)))\/(SqT X.K H p ys/\Q (.ref p) H))) t):=by
      exact λt ha=>cA dB (by assumption) (by assumption) PySem.boot_tuple ha):ED C X (.Call (.Name "tuple" p) [e] [] pos) (una jH F) :=
  aD (hs _ (bu h bU hst)) λO H Q yy6=>by
   obtain⟨U,⟨H0,r0⟩,q⟩:=yy6;exact⟨U,⟨H0,r0⟩,aQ (P:=λz H=>pV X (dC C X U O) z O H Q) (λ_ h=>h) (λh=>h) q λx v H1 s1 h1 q1=>by
    cases x with
    | lst xs =>
      obtain⟨a,vs,rfl,e1,h2⟩:=h1.lst msk_sub;exact⟨a,vs,rfl,.inl ⟨SqL.of e1,λl hl=>q1 _ _ (s1.trans (aA hl)) (.tup ((r0.mono s1).new hl) (h2.mono (aO (aA hl))))⟩⟩
    | tup xs =>
      cases h1 with
      | cl h1 =>
        cases h1 with
        | tup e1 h2=>exact⟨_,_,rfl,.inr ⟨SqT.of (msk_sub _ _ e1),q1 _ H1 s1 (.tup e1 h2)⟩⟩
    | _=>exact q1.elim⟩
def sq (a b:Rho->R Out):Rho->R Out:=λU=>(a U).bind λo=>match o with
 | .nx U'=>b U'
 | o=>.val o
def nxt:Rho->R Out:=λU=>.val (.nx U)
def asg (i:Nat) (e:Rho->R D):Rho->R Out:=λU=>(e U).bind λd=>.val (.nx (U.set i (some (.shr d))))
def own (i:Nat) (e:Rho->R (List D)):Rho->R Out:=λU=>(e U).bind λxs=>.val (.nx (U.set i (some (.own xs))))
def ret (e:Rho->R D):Rho->R Out:=λU=>(e U).bind λd=>.val (.rt d)
def drp (e:Rho->R D):Rho->R Out:=λU=>(e U).bind λ_=>.val (.nx U)
def iff (t:Rho->R Bool) (a b:Rho->R Out):Rho->R Out:=λU=>(t U).bind λc=>if c=true then a U else b U
def bad:Rho->R Out:=λ_=>.bad
theorem aH:SDs C X [] nxt:=bJ mB λD O H yy7=>by
 obtain⟨_,H0,⟨U,rfl,r⟩,q⟩:=yy7;exact q O H r.e
theorem ai {rest:List Stmt} {F G:Rho->R Out} (h1:SD C X st F) (h2:SDs C X rest G):SDs C X (st::rest) (sq F G) :=
 bJ (dz h1 h2) λD O H zz0=>by
  obtain⟨_,H0,⟨U,rfl,r⟩,q⟩:=zz0;refine⟨U,H0,r.e,?_⟩;unfold sq at q;cases e:F U with
  | val o =>
   rw[e]at q;cases o with
   | nx U'=>exact λσ' H' r'=>⟨U',H0,r',q⟩
   | rt d=>exact q
   | bk U'=>exact q
   | ct U'=>exact q
  | exc c=>rw[e]at q;exact q
  | bad=>rw[e]at q;exact q
theorem ah {F:Rho->R Out} (h:SD C X st F):SDs C X [st] F:=cz h
theorem cW {Dn:iR} {U:RB} {O:St} {H:Hp} (r:bP C X H0 U O H) (h:pS C X (.exc c) H0 Dn):XE X c O H:=XS.xe (r.keep.trans msk_sub) h
theorem Da {e:Expr} {pos':Pos} (hN:X.N.Nodup) (hi:X.N[i]?=some x) (hx:Loc X.env.scope x) (he:ED C X e F) (hs:swapsWith e (some (.Name x pos')) pos.line X.env=pure false:=by rfl)
    (hf:X.fn x=true\/X.env.scope.names.lookup x=some .local:=by first|exact .inl rfl|exact .inr rfl|assumption):SD C X (.Assign [.Name x pos'] e pos) (asg i F) :=
  aW (j0 hN hi hx he hs hf) λD O H yy8=>by
   obtain⟨_,H0,⟨U,rfl,r⟩,q⟩:=yy8;exact⟨U,⟨H0,r⟩,aQ (P:=λz _=>pS C X z H0 D) (λc h=>cW r h) (λh=>h) q λd v H1 s1 h1 q1=>q1 _ _ ⟨_,rfl,(r.mono s1).setShr h1⟩⟩
theorem kX {e:Expr} {pos':Pos} {F:Rho->R (List D)} (hN:X.N.Nodup) (hi:X.N[i]?=some x) (hx:Loc X.env.scope x) (he:FD C X e F) (hs:swapsWith e (some (.Name x pos')) pos.line X.env=pure false:=by rfl)
    (hf:X.fn x=true\/X.env.scope.names.lookup x=some .local:=by first|exact .inl rfl|exact .inr rfl|assumption):SD C X (.Assign [.Name x pos'] e pos) (own i F) :=
  aW (j0 hN hi hx he hs hf) λD O H yy9=>by
   obtain⟨_,H0,⟨U,rfl,r⟩,q⟩:=yy9;exact⟨U,⟨H0,r⟩,by
    unfold own at q;cases e:F U with
    | val xs =>
      rw[e]at q;exact λa vs H1 s1 hn h1=>q _ _ ⟨_,rfl,(r.mono s1).setOwn hn h1⟩
    | exc c=>rw[e]at q;exact cW r q
    | bad=>rw[e]at q;exact q⟩
theorem aK {e:Expr} (he:ED C X e F):SD C X (.Return (some e) pos) (ret F) :=
  aW (j3 he) λD O H yy10=>by
   obtain⟨_,H0,⟨U,rfl,r⟩,q⟩:=yy10;exact⟨U,⟨H0,r⟩,aQ (P:=λz _=>pS C X z H0 D) (λc h=>cW r h) (λh=>h) q λd v H1 s1 h1 q1=>q1 v H1 ((r.mono s1).keep.trans msk_sub) (h1.mono msk_sub)⟩
theorem mt {e:Expr} (he:EB C X e F) (hs:swapsWith e none pos.line X.env=pure false:=by rfl):SD C X (.Expr e pos) (drp F) :=
  aW (gw he hs) λD O H yy11=>by
   obtain⟨_,H0,⟨U,rfl,r⟩,q⟩:=yy11;exact⟨U,⟨H0,r⟩,aQ (P:=λz _=>pS C X z H0 D) (λc h=>cW r h) (λh=>h) q λd v H1 s1 h1 q1=>q1 _ _ (r.mono s1).e⟩
theorem bj {c:Expr} {a b:List Stmt} {Ft:Rho->R Bool} {Fa Fb:Rho->R Out} (hc:TD C X c Ft) (ha:SDs C X a Fa) (hb:SDs C X b Fb):SD C X (.If c a b pos) (iff Ft Fa Fb) :=
  aW (sK hc ha hb) λD O H yy12=>by
   obtain⟨_,H0,⟨U,rfl,r⟩,q⟩:=yy12;exact⟨U,⟨H0,r⟩,kl (P:=λz _=>pS C X z H0 D) (λc h=>cW r h) (λh=>h) q λc H1 s1 q1=>by
    cases c with
    | true=>exact rb ⟨U,H0,(r.mono s1).e,q1⟩
    | false=>exact rh ⟨U,H0,(r.mono s1).e,q1⟩⟩
theorem fP:SD C X st bad:=aW yx λD O H yy13=>by
 obtain⟨_,H0,⟨U,rfl,r⟩,q⟩:=yy13;exact q
def frz (i:Nat) (U:Rho):Rho:=match U[i]? with
 | some (some (.own xs))=>U.set i (some (.shr (.lst xs)))
 | some (some (.tre _ d))=>U.set i (some (.shr d))
 | _=>U
theorem Rel.frz {K:Frag} {H0:Hp} {U:Rho} (r:vq K C H0 U O H) (i:Nat):vq K C H0 (DL.frz i U) O H:=by
 obtain⟨U,rfl,r⟩:=r;unfold DL.frz;split
 ·exact⟨_,rfl,r.freeze ‹_›⟩
 ·exact⟨_,rfl,r.thaw ‹_›⟩
 ·exact r.e
theorem Az {sts:List Stmt} {F:Rho->R Out} (i:Nat) (h:SDs C X sts F):SDs C X sts (λU=>F (frz i U)):=bJ h λD O H yy16=>by
 obtain⟨U,H0,r,q⟩:=yy16;exact⟨frz i U,H0,Rel.frz r i,q⟩
def app (i:Nat) (e:Rho->R D):Rho->R Out:=λU=>match U[i]? with
 | some (some (.own xs))=>(e U).bind λd=>if xs.length<LIM then .val (.nx (U.set i (some (.own (xs++[d])))))else .bad
 | _=>.bad
theorem jY {e:Expr} {ap cp:Pos} (hv:PE X (.Name x p) (df i)) (he:ED C X e F)
  (hs:∀{to:TE} {t:TA},PE X (.Name x p) to->PA X [e] t->PS X (.Expr (.Call (.Attribute (.Name x p) "append" ap) [e] [] cp) pos) (jK (tBM X.K "list" kg to t)):=by
   exact λho ha=>gw (nh PySem.F.plainAttrs_list PySem.F.slot_list_append PySem.F.type_list_append gT ho ha))
  (hst:starEach [e] X.env=(false,eval e X.env)::starEach [] X.env:=by rfl) :
  SD C X (.Expr (.Call (.Attribute (.Name x p) "append" ap) [e] [] cp) pos) (app i F) :=
 aW (hs hv (bu he bU hst)) λD O H zz1=>by
  obtain⟨_,H0,⟨U,rfl,r⟩,q⟩:=zz1;unfold app at q;split at q
  ·rename_i xs e0;obtain⟨a,vs,e1,_,h1,h2⟩:=r.at_ i _ e0;refine⟨_,e1,.inl ⟨rfl,_,SqL.of h1⟩,U,⟨H0,r⟩,aQ (P:=λz _=>pS C X z H0 D) (λc h=>cW r h) (λh=>h) q λd v H1 s1 h3 q1=>?_⟩;split at q1
   ·rename_i hl;have h2':=h2.mono (aO (U:=U) (O:=O) s1);refine⟨a,vs,v,rfl,rfl,s1 _ _ h1,by rw[h2.len];exact Nat.lt_of_lt_of_le hl (by decide),?_⟩;exact q1 _ _ ⟨_,rfl,(r.mono s1).write e0 e1 (h2'.app (.cons h3 .nil))⟩
   ·exact q1.elim
  ·exact q.elim
end
def D9:HO->Bool
 | .lst _=>true
 | .ins _ _ _=>true
 | .own _=>true
 | .ext _=>true
 | _=>false
structure Hid (H:Hp) (h:Heap) (zs:List Addr):Prop where
 kind:∀z∈zs,∃o,H z=some o/\D9 o=true
 insd:∀z∈zs,∀c dx fs,H z=some (.ins c dx fs)->dx∈zs
 own:∀z∈zs,∀a,H z=some (.own a)->a∈zs
 obj:∀z∈zs,∃o,h.get? z=some o/\∀v,o.data ≠ .cell v
def cut (zs:List Addr) (H:Hp):Hp:=λb=>if b∈zs then none else H b
def jn (zs:List Addr) (H M:Hp):Hp:=λb=>if b∈zs then H b else M b
variable {zs:List Addr}
theorem cut_some {b:Addr}:cut zs H b=some o↔b∉zs/\H b=some o:=by
 unfold cut;by_cases h:b∈zs
 ·rw[if_pos h];exact⟨λe=>(by cases e),λe=>absurd h e.1⟩
 ·rw[if_neg h];exact⟨λe=>⟨h,e⟩,λe=>e.2⟩
theorem gj {b:Addr} (h:b∈zs):cut zs H b=none:=by unfold cut;rw[if_pos h]
theorem jM {b:Addr} (h:b∈zs):jn zs H M b=H b:=by unfold jn;rw[if_pos h]
theorem b0 {b:Addr} (h:b∉zs):jn zs H M b=M b:=by unfold jn;rw[if_neg h]
section
variable {X:Cx} {pins:List (Addr×Obj)} {O:St} {H M:Hp} {s s':Shared} {zs:List Addr}
theorem _root_.L2.Inv.hide (I:Inv X pins O H s) (Z:Hid H s.heap zs):Inv X (pins++du zs s.heap) O (cut zs H) s:=by
 have nk:∀b o,H b=some o->D9 o=false->b∉zs:=λb o e k hb=>by
  obtain⟨o',e',k'⟩:=Z.kind b hb;rw[e]at e';cases e';rw[k]at k';cases k'
 have nz:∀b,H b=none->b∉zs:=λb e hb=>by
  obtain⟨o',e',k'⟩:=Z.kind b hb;rw[e]at e';cases e'
 have none':∀b,H b=none->cut zs H b=none:=λb e=>by unfold cut;split<;>first|rfl|exact e
 have I1:Inv X pins O (cut zs H) s:=by
  refine⟨I.ok,I.os,I.bare,⟨I.base.keep,I.base.slot,λb o q n hx=>none' b (I.base.free b o q n hx),I.base.there,λb xs e=>?_,λb o u e=>?_,λb ps e=>?_⟩,I.loc,I.cell,none' _ I.free,λx c e=>none' _ (I.freeC x c e),λp hp=>?_,λa o e=>?_,I.len⟩
  ·have e1:=I.base.tups b xs e;exact cut_some.mpr ⟨nk b _ e1 rfl,e1⟩
  ·have e1:=I.base.frzs b o u e;exact cut_some.mpr ⟨nk b _ e1 rfl,e1⟩
  ·obtain⟨more,e1⟩:=I.base.tbls b ps e;exact⟨more,cut_some.mpr ⟨nk b _ e1 rfl,e1⟩⟩
  ·obtain⟨h1,h2,h3⟩:=I.pin p hp;exact⟨h1,none' _ h2,h3⟩
  ·obtain⟨h1,h2⟩:=cut_some.mp e;refine(I.hok a o h2).stay (λb u _ q=>q) (λb q=>cut_some.mpr ⟨λhb=>h1 (Z.own b hb a q),q⟩) λb xs q=>cut_some.mpr ⟨nk b _ q rfl,q⟩
 refine I1.pins_of λp hp=>?_;rcases List.mem_append.mp hp with hp|hp
 ·exact I1.pin p (List.mem_append_right _ hp)
 ·obtain⟨h1,h2⟩:=jv hp;obtain⟨o',e',k'⟩:=Z.kind p.1 h1;obtain⟨o,e,d⟩:=Z.obj p.1 h1;rw[h2]at e;cases e;refine⟨h2,gj h1,λz=>?_,λz=>?_,d⟩
  ·rw[z,I.free]at e';cases e'
  ·rw[I.frn _ z]at e';cases e'
theorem _root_.L2.Inv.showG {pins' pins'':List (Addr×Obj)} (I:Inv X pins O H s) (Z:Hid H s.heap zs) (J:Inv X pins' σ' M s') (h1:∀p∈du zs s.heap,p∈pins') (h2:∀p∈pins'',p∈pins'/\H p.1=none):Inv X pins'' σ' (jn zs H M) s'/\∀z∈zs,M z=none:=by
 have nk:∀b o,H b=some o->D9 o=false->b∉zs:=λb o e k hb=>by
  obtain⟨o',e',k'⟩:=Z.kind b hb;rw[e]at e';cases e';rw[k]at k';cases k'
 have nz:∀b,H b=none->b∉zs:=λb e hb=>by
  obtain⟨o',e',k'⟩:=Z.kind b hb;rw[e]at e';cases e'
 have pin:∀z∈zs,∀o,s.heap.get? z=some o->s'.heap.get? z=some o/\M z=none:=λz hz o e=>by
  have q:=J.pin (z,o) (List.mem_append_right _ (h1 _ (fS hz e)));exact⟨q.1,q.2.1⟩
 have mz:∀z∈zs,M z=none:=λz hz=>by
  obtain⟨o,e,_⟩:=Z.obj z hz;exact(pin z hz o e).2
 have none':∀b,H b=none->M b=none->jn zs H M b=none:=λb e e'=>by rw[b0 (nz b e)];exact e'
 refine⟨⟨J.ok,J.os,J.bare,⟨J.base.keep,J.base.slot,λb o q n hx=>none' b (I.base.free b o q n hx) (J.base.free b o q n hx),J.base.there,λb xs e=>?_,λb o u e=>?_,λb ps e=>?_⟩,J.loc,J.cell,none' _ I.free J.free,λx c e=>none' _ (I.freeC x c e) (J.freeC x c e),λp hp=>?_,λa o e=>?_,J.len⟩,mz⟩
 ·rw[b0 (nk b _ (I.base.tups b xs e) rfl)];exact J.base.tups b xs e
 ·rw[b0 (nk b _ (I.base.frzs b o u e) rfl)];exact J.base.frzs b o u e
 ·obtain⟨more,e1⟩:=I.base.tbls b ps e;rw[b0 (nk b _ e1 rfl)];exact J.base.tbls b ps e
 ·rcases List.mem_append.mp hp with hp|hp
  ·obtain⟨q1,q2,q3⟩:=J.pin p (List.mem_append_left _ hp);exact⟨q1,none' _ (I.pin p (List.mem_append_left _ hp)).2.1 q2,q3⟩
  ·obtain⟨q1,q2,q3⟩:=J.pin p (List.mem_append_right _ (h2 p hp).1);exact⟨q1,none' _ (h2 p hp).2 q2,q3⟩
 ·by_cases ha:a∈zs
  ·rw[jM ha]at e;obtain⟨o',e',k'⟩:=Z.kind a ha;rw[e]at e';cases e';have ok:=I.hok a o e;have same:∀u,s.heap.get? a=some u->s'.heap.get? a=some u:=λu q=>(pin a ha u q).1;cases o with
   | lst xs=>obtain⟨z,its,n,r,e1⟩:=ok;exact⟨z,its,n,r,same _ e1⟩
   | own y=>obtain⟨u,e1⟩:=ok;exact⟨u,same _ e1⟩
   | ext φ=>obtain⟨p,⟨u,e1⟩,st⟩:=ok;exact⟨st _ _ p λo q=>same o q,⟨u,same _ e1⟩,st⟩
   | ins c dx fs =>
    obtain⟨d,z,ne,e1,mA,⟨od,es,ep,e2,rest⟩,r⟩:=ok;have hd:dx∈zs:=Z.insd a ha c dx fs e;exact⟨by rw[jM hd];exact d,z,ne,same _ e1,mA,⟨od,es,ep,(pin dx hd _ e2).1,rest⟩,r⟩
   | _=>cases k'
  ·rw[b0 ha]at e;refine(J.hok a o e).stay (λb u _ q=>q) (λb q=>?_) λb xs q=>?_
   ·rw[b0 λhb=>by rw[mz b hb]at q;cases q];exact q
   ·rw[b0 λhb=>by rw[mz b hb]at q;cases q];exact q
theorem _root_.L2.Inv.show' (I:Inv X pins O H s) (Z:Hid H s.heap zs) (J:Inv X (pins++du zs s.heap) O M s'):Inv X pins O (jn zs H M) s'/\∀z∈zs,M z=none :=
 I.showG Z J (λp hp=>List.mem_append_right _ hp) λp hp=>⟨List.mem_append_left _ hp,(I.pin p (List.mem_append_right _ hp)).2.1⟩
end
def dv (U:RB) (O:St):List Addr:=(List.range U.rho.length).flatMap U.ad
variable {U:RB}
theorem fT {b:Addr} (hb:∀(i:Nat) a,a∈U.ad i->i<U.rho.length):b∈dv U O↔Own U O b:=by
 unfold dv;rw[List.mem_flatMap];exact⟨λ⟨i,_,h⟩=>⟨i,h⟩,λ⟨i,h⟩=>⟨i,List.mem_range.mpr (hb i b h),h⟩⟩
theorem im (hb:∀(i:Nat) a,a∈U.ad i->i<U.rho.length):msk U O H=cut (dv U O) H:=by
 funext b
 unfold msk cut;by_cases h:Own U O b
 ·rw[if_pos h,if_pos ((fT hb).mpr h)]
 ·rw[if_neg h,if_neg λz=>h ((fT hb).mp z)]
theorem Rel.hid {pins:List (Addr×Obj)} (r:bP C X H0 U O H) (I:Inv X pins O H s):Hid H s.heap (dv U O):=by
 have key:∀z∈dv U O,(∃vs,H z=some (.lst vs))\/∃xs,H z=some (kK z xs):=λz hz=>by
  obtain⟨i,h⟩:=(fT r.bnd).mp hz;exact r.kin i z h
 refine⟨λz hz=>?_,λz hz c dx fs e=>?_,λz hz a e=>?_,λz hz=>?_⟩
 ·rcases key z hz with⟨vs,e⟩|⟨vs,e⟩<;>exact⟨_,e,rfl⟩
 ·rcases key z hz with⟨vs,e'⟩|⟨vs,e'⟩<;>(rw[e]at e';cases e')
 ·rcases key z hz with⟨vs,e'⟩|⟨vs,e'⟩<;>(rw[e]at e';cases e')
 ·rcases key z hz with⟨vs,e'⟩|⟨vs,e'⟩
  ·obtain⟨_,its,n,_,e1⟩:=I.hok z _ e';exact⟨_,e1,λv q=>by cases q⟩
  ·obtain⟨⟨_,_,o,es,ep,e1,_,e2,_⟩,_⟩:=I.hok z _ e';exact⟨o,e1,λv q=>by rw[e2]at q;cases q⟩
def spD (K:Frag) (C:Addr) (n:Nat) (den:List D->R D):Sp:=λvs H Q _=>vs.length=n/\∃ds,HasL K C H vs ds/\match den ds with
 | .val d=>∀v H',Same H H'->Has K C H' v d->Q v H'
 | _=>False
section
variable {C:Addr} {X:Cx}
def noex:R D->R D
 | .val d=>.val d
 | _=>.bad
def cal (n:Nat) (den:List D->R D) (a:Rho->R (List D)):Rho->R D:=λU=>(a U).bind λds=>if ds.length=n then noex (den ds)else .bad
theorem B1 {CX:CXT} {f:Addr} {fd:FuncData} {ps:List Str} {den:List D->R D} {e:Expr} {Fa:Rho->R (List D)}
  (F:FnOk X.prog X.w X.K X.mg X.base CX k f fd ps (spD X.K C n den)) (hr:Room k X.A) (hg:Gl X x) (hm:X.mg x=some (.ref f)) (hk:keepIn X.K (.ref f)=true) (hb:Binds X.K fd ps []) (hx:rZ CX X E0)
  (ha:AD C X (e::es) Fa) (hdb:(x==("__debug__":Str))=false:=by decide) (he:starEach (e::es) X.env=(false,eval e X.env)::starEach es X.env:=by rfl) (hpl:(backTo pos (starEach es X.env)).any (·.1)=false:=by rfl) :
  ED C X (.Call (.Name x p) (e::es) [] pos) (cal n den Fa):=by
 rintro pins s O H Q I ⟨U,⟨H0,r0⟩,q⟩;refine wpAny_Call_Name_kw (gx I hg hm ?_ hdb);refine callWith_K (h₀:=X.base) I.ok.mod.kin hk (thn (ha pos pins s O H (λvs H1=>∃ds d,ds.length=n/\Same H H1/\iN C X U O H1 vs ds/\den ds=.val d/\∀v H',Same H H'->dC C X U O H' v d->Q v H') I
  ⟨U,⟨H0,r0⟩,dF (P:=λz H=>pV X (dC C X U O) z O H Q) (λ_ h=>h) (λh=>h) q λds vs H1 s1 h1 q1=>?_⟩) λus s1 ⟨vs,H1,I1,rv,ds,d,hl,s1',h1,e1,q1⟩=>⟨I1.kIn,?_⟩) he hpl
 ·split at q1
  ·rename_i hl;cases e1:den ds with
   | val d=>rw[e1]at q1;exact⟨ds,d,hl,s1,h1,e1,q1⟩
   | exc c=>rw[e1]at q1;exact q1.elim
   | bad=>rw[e1]at q1;exact q1.elim
  ·exact q1.elim
 ·have r1:=r0.mono s1';have Z:=Rel.hid r1 I1;have J:=I1.hide Z;refine thn (kZ (E:=E0) (Q:=λv M'=>Same (cut (dv U O) H1) M'/\Has X.K C M' v d) F hr hb .nil hx J rv ?_) λu s2 ⟨v,M',J2,ru,sm,hv⟩=>?_
  ·rw[List.append_nil];refine⟨h1.len.trans hl,ds,by rw[<- im r0.bnd];exact h1,?_⟩;rw[e1];exact λv H' s2 h2=>⟨s2,h2⟩
  ·obtain⟨I2,mz⟩:=I1.show' Z J2;have sj:Same H1 (jn (dv U O) H1 M'):=λb o eb=>by
    by_cases hb:b∈dv U O
    ·rw[jM hb];exact eb
    ·rw[b0 hb];exact sm b o (cut_some.mpr ⟨hb,eb⟩)
   have em:msk U O (jn (dv U O) H1 M')=M':=by
    rw[im r0.bnd]
    funext b
    by_cases hb:b∈dv U O
    ·rw[gj hb,mz b hb]
    ·unfold cut;rw[if_neg hb,b0 hb]
   exact⟨v,_,I2,ru,q1 v _ (s1'.trans sj) (by show Has _ _ (msk U O _) v d;rw[em];exact hv)⟩
end
def tgN (i:Nat):D->Rho->Option Rho:=λx U=>some (U.set i (some (.shr x)))
def tg2 (i j:Nat):D->Rho->Option Rho:=λx U=>match x with
 | .tup [a,b]=>some ((U.set i (some (.shr a))).set j (some (.shr b)))
 | _=>none
variable {tg:Expr} {ix:List Nat} {T:D->Rho->Option Rho}
section
variable {C:Addr} {X:Cx}
variable (C X) in
def gtD (ix:List Nat) (T:D->Rho->Option Rho):TG:=λv O H Q=>∃(U:RB) (H0:Hp) (x:D) (U':Rho),bP C X H0 U O H/\dC C X U O H v x/\T x U=some U'/\∀(σ':St) (β:RB),β.rho=U'->(∀j:Nat,β.ad j=if j∈ix then[]else U.ad j)->bP C X H0 β σ' H->(∀j:Nat,j∉ix->σ'[j]?=O[j]?)->Q σ' H
variable (C X) in
def GD (tg:Expr) (ix:List Nat) (T:D->Rho->Option Rho):Prop:=PG X tg (gtD C X ix T)
theorem vV {t t':TG} (h:PG X tg t) (hw:∀v O H Q,t' v O H Q->t v O H Q):PG X tg t':=λpins s O H v u Q I r q=>h pins s O H v u Q I r (hw v O H Q q)
theorem qM (j:Nat):(U.put i (.shr d) []).ad j=if j=i then[]else U.ad j:=by
 unfold RB.put;dsimp only;split
 ·split<;>rfl
 ·rfl
theorem mE:Same (msk U O H) (msk (U.put i (.shr d) []) σ' H):=λb o eb=>by
 obtain⟨h1,h2⟩:=msk_some.mp eb;refine msk_some.mpr ⟨λ⟨j,z⟩=>?_,h2⟩;rcases fk z with⟨_,_,z⟩|⟨_,z⟩
 ·cases z
 ·exact h1 ⟨j,z⟩
theorem BC (hN:X.N.Nodup) (hi:X.N[i]?=some x) (hx:Loc X.env.scope x) (hf:X.fn x=true\/X.env.scope.names.lookup x=some .local:=by first|exact .inl rfl|exact .inr rfl|assumption) :
  GD C X (.Name x pos) [i] (tgN i):=vV (az hN hi hx hf) λv O H Q zz0=>by
 obtain⟨U,H0,x,U',r,h,e,k⟩:=zz0;cases e;exact k _ _ rfl (λj=>by rw[qM];by_cases e1:j=i<;>simp[e1]) (r.setShr h) λj hj=>List.getElem?_set_ne λz=>hj (by simp[z])
theorem b_ {y:Str} {px py:Pos} (hc:X.calm=true) (h1:PG X (.Name x px) (gy i)) (h2:PG X (.Name y py) (gy j))
  (hs1:(assignEach [.Name x px,.Name y py] X.env).map (·.2)=assign (.Name x px) X.env::(assignEach [.Name y py] X.env).map (·.2):=by rfl)
  (hs2:(assignEach [.Name y py] X.env).map (·.2)=assign (.Name y py) X.env::(assignEach [] X.env).map (·.2):=by rfl)
  (hn:(assignEach [.Name x px,.Name y py] X.env).length=2:=by rfl) (hst:(assignEach [.Name x px,.Name y py] X.env).findIdx? (·.1)=none:=by rfl) :
  GD C X (.Tuple [.Name x px,.Name y py] n pos) [i,j] (tg2 i j):=vV (Du hc (sL h1 (sL h2 A5 hs2) hs1) hn hst) λv O H Q zz1=>by
 obtain⟨U,H0,d,U',r,h,e,k⟩:=zz1;unfold tg2 at e;split at e
 ·rename_i a b;cases e;cases h with
  | tup q hl =>
   cases hl with
   | @cons va _ _ _ ha hl =>
    cases hl with
    | @cons vb _ _ _ hb hl =>
     cases hl;refine⟨_,_,rfl,SqT.of (msk_sub _ _ q),rfl,va,_,rfl,vb,_,rfl,rfl,?_⟩;have r1:=r.setShr (i:=i) ha;refine k _ _ rfl (λm=>?_) (r1.setShr (i:=j) (hb.mono mE)) λm hm=>?_
     ·rw[qM,qM];by_cases e1:m=i<;>by_cases e2:m=j<;>simp[e1,e2]
     ·rw[List.getElem?_set_ne λz=>hm (by simp[z]),List.getElem?_set_ne λz=>hm (by simp[z])]
 ·cases e
def asT (T:D->Rho->Option Rho) (e:Rho->R D):Rho->R Out:=λU=>(e U).bind λd=>match T d U with
 | some U'=>.val (.nx U')
 | none=>.bad
theorem yf {e : Expr} (he : ED C X e F) (hg : GD C X tg ix T) (hs : swapsWithSole [tg] e pos.line X.env = pure false := by rfl) (hw : swappedStores [tg] e X.env = pure none := by rfl)
    (h1 : (assignEach [tg] X.env).map (·.2) = [assign tg X.env] := by rfl) : SD C X (.Assign [tg] e pos) (asT T F) :=
  aW (qN he hg hs hw h1) fun D O H yy0 => by
   obtain ⟨_, H0, ⟨U, rfl, r⟩, q⟩ := yy0
   exact ⟨U, ⟨H0, r⟩, aQ (P := fun z _ => pS C X z H0 D) (fun c h => cW r h) (fun h => h) q fun d v H1 s1 h1 q1 => by
    split at q1
    · rename_i U' e1
      exact ⟨U, H0, d, U', r.mono s1, h1, e1, fun σ' β eb _ r' _ => q1 σ' H1 ⟨β, eb, r'⟩⟩
    · exact q1.elim⟩
structure rY (K:Frag) (C:Addr) (J:It) (xs:List D) (M:Hp):Prop where
 go:∀(i:Nat) x H2,Same M H2->xs[i]?=some x->J.go i H2/\∀v H3,J.yld i H2 v H3->Same H2 H3/\∀U O,(∀b,Own U O b->H2 b≠none)->Same M (msk U O H2)->Has K C (msk U O H3) v x
 stop:∀H2,Same M H2->J.stop xs.length H2
variable (C X) in
def itI (F:Rho->R (List D)):TI:=λO H Rk=>∃U:RB,(∃H0,bP C X H0 U O H)/\match F U with
 | .val xs=>∀J H',Same H H'->rY X.K C J xs (msk U O H')->Rk J H'
 | .exc c=>XE X c O H
 | .bad=>False
variable (C X) in
def ID (tg iter:Expr) (F:Rho->R (List D)):Prop:=PI X tg iter (itI C X F)
theorem mC {e:Expr} {t t':TI} (h:PI X tg e t) (hw:∀O H Q,t' O H Q->t O H Q):PI X tg e t':=λpins s O H R I q=>h pins s O H R I (hw O H R q)
theorem wR {a:Addr} (e:M a=some (.lst vs)) (h:HasL K C M vs xs):rY K C (Itl K a) xs M where
 go:=λi x H2 s hx=>by
  obtain⟨v,e1,h1⟩:=h.get hx;refine⟨⟨vs,v,SqL.of (s _ _ e),e1⟩,λv' H3 y=>?_⟩;obtain⟨rfl,y⟩:=y;have e2:=y vs (SqL.of (s _ _ e));rw[e1]at e2;cases e2;exact⟨Same.refl _,λU O _ m=>h1.mono m⟩
 stop:=λH2 s=>⟨vs,SqL.of (s _ _ e),by rw[h.len];exact Nat.le_refl _⟩
theorem xN {a:Addr} (e:M a=some (.tup vs)) (h:HasL K C M vs xs):rY K C (Itt K a) xs M where
 go:=λi x H2 s hx=>by
  obtain⟨v,e1,h1⟩:=h.get hx;refine⟨⟨vs,v,SqT.of (s _ _ e),e1⟩,λv' H3 y=>?_⟩;obtain⟨rfl,y⟩:=y;have e2:=y vs (SqT.of (s _ _ e));rw[e1]at e2;cases e2;exact⟨Same.refl _,λU O _ m=>h1.mono m⟩
 stop:=λH2 s=>⟨vs,SqT.of (s _ _ e),by rw[h.len];exact Nat.le_refl _⟩
theorem xO {a:Addr} {ns:List Int} (e:SqL K M a (ns.map V.int)):rY K C (Itl K a) (ns.map D.int) M where
 go:=λi x H2 s hx=>by
  obtain⟨v,e1,h1⟩:=(HasL.ints (K:=K) (C:=C) (H:=M) ns).get hx;refine⟨⟨_,v,s.seq e,e1⟩,λv' H3 y=>?_⟩;obtain⟨rfl,y⟩:=y;have e2:=y _ (s.seq e);rw[e1]at e2;cases e2;exact⟨Same.refl _,λU O _ m=>h1.mono m⟩
 stop:=λH2 s=>⟨_,s.seq e,by simp⟩
def rng (lo:Int) (n:Nat):List D:=(List.range n).map λ(k:Nat)=>D.int (lo+(k:Int))
theorem xP {lo:Int}:rY K C (Itr lo n) (rng lo n) M where
 go:=λi x H2 s hx=>by
  have hi:i<n:=by have:=(List.getElem?_eq_some_iff.mp hx).1;simpa[rng]using this
  refine⟨hi,λv H3 y=>?_⟩;obtain⟨rfl,rfl⟩:=y;refine⟨Same.refl _,λU O _ m=>?_⟩;have:x=.int (lo+(i:Int)):=by
   unfold rng at hx;rw[List.getElem?_map,List.getElem?_range hi]at hx;exact(Option.some.inj hx).symm
  rw[this];exact .int _
 stop:=λH2 s=>by simp[rng,Itr]
theorem uD {l:Expr} {tl:TE} (hl:PE X l tl):PI X tg l (λO H R=>tl O H λx H1=>∃a,x=.ref a/\(((∃xs,SqL X.K H1 a xs)/\R (Itl X.K a) H1)\/((∃xs,SqT X.K H1 a xs)/\R (Itt X.K a) H1))):=by
 intro pins s O H R I h;refine thn (hl pins s O H _ I h) λv s1 zz3=>?_;obtain⟨x,H1,I1,r1,q1⟩:=zz3;obtain⟨a,e,q1⟩:=q1;subst e;cases r1;rcases q1 with⟨⟨xs,hq⟩,q⟩|⟨⟨xs,hq⟩,q⟩
 ·obtain⟨its,rv,p,hz⟩:=I1.list hq;refine wpAny_pyIter_list p.isList ?_;refine⟨s1.heap.objs.size,[s1.heap.objs.size],_,_,H1,rfl,I1.kept (t':=s1.toks) λb o e=>Heap.get?_push_of_some _ e,pQ a _,⟨_,Heap.get?_push_size _ rfl,rfl,rfl⟩,λb hb=>?_,q⟩;have e:b=s1.heap.objs.size:=by simpa using hb
  subst e;exact I1.fpOk (Nat.le_refl _) (I1.hok.fresh (Nat.le_refl _))
 ·obtain⟨its,rv,p,hz⟩:=I1.tuple hq;refine wpAny_pyIter_tuple (show s1.heap.IsTuple a its.toArray from p) ?_;refine⟨s1.heap.objs.size,[s1.heap.objs.size],_,_,H1,rfl,I1.kept (t':=s1.toks) λb o e=>Heap.get?_push_of_some _ e,ud a _,⟨_,Heap.get?_push_size _ rfl,rfl,rfl⟩,λb hb=>?_,q⟩;have e:b=s1.heap.objs.size:=by simpa using hb
  subst e;exact I1.fpOk (Nat.le_refl _) (I1.hok.fresh (Nat.le_refl _))
theorem bz {e:Expr} (h:ED C X e F):ID C X tg e (fIt F):=mC (uD h) λO H R yy2=>by
 obtain⟨U,⟨H0,r⟩,q⟩:=yy2;exact⟨U,⟨H0,r⟩,by
  unfold fIt at q;cases e:F U with
  | val d =>
    rw[e]at q;intro v H1 s1 h1;cases h1 with
    | lst e1 h1=>exact⟨_,rfl,.inl ⟨⟨_,SqL.of (msk_sub _ _ e1)⟩,q _ H1 s1 (wR e1 h1)⟩⟩
    | tup e1 h1=>exact⟨_,rfl,.inr ⟨⟨_,SqT.of (msk_sub _ _ e1)⟩,q _ H1 s1 (xN e1 h1)⟩⟩
    | scr e1=>exact⟨_,rfl,.inl ⟨⟨_,msk_sub.seq e1⟩,q _ H1 s1 (xO e1)⟩⟩
    | _=>exact q.elim
  | exc c=>rw[e]at q;exact q
  | bad=>rw[e]at q;exact q⟩
def o4:List D->R (List D)
 | [.int j]=>if -(2 ^ 62)<=j/\j<2 ^ 62 then .val (rng 0 j.toNat)else .bad
 | _=>.bad
def bq (F:Rho->R (List D)):Rho->R (List D):=λU=>(F U).bind o4
theorem bt {F : Rho -> R (List D)} (hg : Gl X "range") (hm : X.mg "range" = none) (ha : AD C X [a] F) (hs : starEach [a] X.env = [(false, eval a X.env)] := by rfl) :
    ID C X tg (.Call (.Name "range" p) [a] [] pos) (bq F) := mC (xg hg hm ha hs) fun O H R yy3 => by
     obtain ⟨U, ⟨H0, r⟩, q⟩ := yy3
     exact ⟨U, ⟨H0, r⟩, by
  unfold bq at q
  cases e : F U with
  | val ds =>
    rw [e] at q
    dsimp only [DL.R.bind] at q
    intro vs H1 s1 h1
    unfold o4 at q
    split at q
    · rename_i e0
      split at e0
      · rename_i j
        split at e0
        · rename_i hj
          cases e0
          cases h1 with
          | cons a b => cases a; cases b; exact ⟨j, rfl, hj.1, hj.2, q _ H1 s1 xP⟩
        · cases e0
      · cases e0
    · rename_i e0
      split at e0
      · split at e0 <;> cases e0
      · cases e0
    · exact q.elim
  | exc c => rw [e] at q; exact q
  | bad => rw [e] at q; exact q⟩
def aX (T:D->Rho->Option Rho) (F:Rho->R Out):List D->Rho->R Out
 | [],U=>.val (.nx U)
 | x::xs,U=>match T x U with
  | some U1=>(F U1).bind λo=>match o with
   | .nx U2=>aX T F xs U2
   | .ct U2=>aX T F xs U2
   | .bk U2=>.val (.nx U2)
   | .rt d=>.val (.rt d)
  | none=>.bad
def aY (src:Rho->R (List D)) (T:D->Rho->Option Rho) (F:Rho->R Out):Rho->R Out:=λU=>(src U).bind λxs=>aX T F xs U
theorem zf {src:Rho->R (List D)} {F:Rho->R Out} {D:iR} (h:tsD C X (aY src T F) D O H):EN (itI C X src) (gtD C X ix T) (tsD C X F) D O H:=by
 obtain⟨_,H0,⟨U,rfl,r⟩,q⟩:=h;refine⟨U,⟨H0,r⟩,?_⟩;unfold aY at q;cases e:src U with
 | exc c=>rw[e]at q;exact cW r q
 | bad=>rw[e]at q;exact q
 | val xs =>
  rw[e]at q;intro J H1 s1 wk;have r1:=r.mono s1;have hM:Same H0 (msk U O H1):=r1.keep;refine⟨λi m σ' H'=>m=xs.length-i/\i<=xs.length/\∃U':RB,bP C X (msk U O H1) U' σ' H'/\pS C X (aX T F (xs.drop i) U') H0 D,⟨xs.length,rfl,Nat.zero_le _,U,r1.rebase,q⟩,?_⟩;rintro i m σ' H' ⟨rfl,hi,U',r',q'⟩;have sm:Same (msk U O H1) H':=r'.keep.trans msk_sub;by_cases hlt:i<xs.length
  ·have ex:xs[i]?=some xs[i]:=by simp[hlt]
   have ed:xs.drop i=xs[i]::xs.drop (i+1):=List.drop_eq_getElem_cons hlt;rw[ed]at q';obtain⟨go,yld⟩:=wk.go i _ H' sm ex;refine .inr ⟨go,λO2 H2=>∃U2:RB,bP C X (msk U O H1) U2 O2 H2/\pS C X (aX T F (xs.drop (i+1)) U2) H0 D,λO2 H2 ⟨U2,r2,q2⟩=>⟨xs.length-(i+1),by omega,rfl,hlt,U2,r2,q2⟩,λv H3 y=>?_⟩;obtain⟨s3,hv⟩:=yld v H3 y;have hv':=hv U' σ' (λb ob=>r'.ownAt ob) r'.keep;unfold aX at q';split at q'
   ·rename_i U1 e1;refine⟨U',_,xs[i],U1,r'.mono s3,hv',e1,λO2 β eb _ r2 _=>⟨U1,_,⟨β,eb,r2⟩,?_⟩⟩;cases eF:F U1 with
    | val o =>
     rw[eF]at q';cases o with
     | nx U2=>exact λO4 H4 ⟨β4,e4,r4⟩=>⟨β4,r4,by rw[e4];exact q'⟩
     | ct U2=>exact λO4 H4 ⟨β4,e4,r4⟩=>⟨β4,r4,by rw[e4];exact q'⟩
     | bk U2=>exact λO4 H4 ⟨β4,e4,r4⟩=>q' O4 H4 ⟨β4,e4,r4.base hM⟩
     | rt d=>exact λv4 H4 s4 h4=>q' v4 H4 (hM.trans s4) h4
    | exc c=>rw[eF]at q';exact XS.mono hM q'
    | bad=>rw[eF]at q';exact q'
   ·exact q'.elim
  ·have ei:i=xs.length:=by omega
   subst ei;rw[List.drop_length]at q';exact .inl ⟨wk.stop H' sm,q' σ' H' (r'.base hM).e⟩
theorem bh {iter:Expr} {body:List Stmt} {src:Rho->R (List D)} {F:Rho->R Out} (hp:PassesOwn (model X.prog X.w) X.A X.env X.xe) (hc:X.calm=true) (hi:ID C X tg iter src) (hg:GD C X tg ix T) (hb:SDs C X body F)
  (hs:∀x,foldedSetIterable iter X.env x=pure x:=by intro _;rfl):SD C X (.For tg iter body [] pos) (aY src T F) :=
 aW (lf hp hc hi hg hb hs) λD O H h=>zf h
end
def st0 (N:List Str) (ds:List D):Rho:=ds.map (λd=>some (.shr d))++List.replicate (N.length-ds.length) none
def fin:R Out->R D
 | .val (.nx _)=>.val .non
 | .val (.rt d)=>.val d
 | .val _=>.bad
 | .exc c=>.exc c
 | .bad=>.bad
variable {N:List Str}
theorem Ax {ds:List D} (h:(st0 N ds)[i]?=some (some sl)):∃d,sl=.shr d/\ds[i]?=some d:=by
 unfold st0 at h;by_cases hi:i<ds.length
 ·rw[List.getElem?_append_left (by simpa using hi),List.getElem?_map]at h;cases e:ds[i]? with
  | none=>rw[e]at h;cases h
  | some d=>rw[e]at h;cases h;exact⟨d,rfl,rfl⟩
 ·rw[List.getElem?_append_right (by simpa using hi),List.getElem?_replicate]at h;split at h<;>cases h
theorem k_ {ds:List D} (h:HasL K C H vs ds):vq K C H (st0 N ds) (L2.start N vs) H:=by
 have sub:Same H (msk ⟨st0 N ds,λ_=>[]⟩ (L2.start N vs) H):=λb o e=>msk_some.mpr ⟨λ⟨_,z⟩=>(List.not_mem_nil z).elim,e⟩;refine⟨⟨st0 N ds,λ_=>[]⟩,rfl,?_,sub,λi sl e=>?_,λi j a z=>(List.not_mem_nil z).elim,λi a z=>(List.not_mem_nil z).elim,λi a z=>(List.not_mem_nil z).elim⟩
 ·show(st0 N ds).length=_;unfold st0 L2.start;simp[h.len]
 ·obtain⟨d,rfl,e1⟩:=Ax e;obtain⟨v,e2,h2⟩:=h.get e1;refine⟨v,?_,h2.mono sub⟩;have hi:i<vs.length:=(List.getElem?_eq_some_iff.mp e2).1;unfold L2.start;rw[List.getElem?_append_left (by simpa using hi),List.getElem?_map,e2];rfl
section
variable {P:Program} {w:World} {K:Frag} {mg:Str->Option Value} {base:Heap} {C:Addr}
theorem bb {qual:Str} {f:Addr} {fd:FuncData} {ps:List Str} {den:Rho->R Out} (F:Fun K x qual st f fd) (sc:ay N ps (aj st))
  (hb:∀(cdv:Value) (A:Around) (outer:List Env) (s:Shared) (H:Hp) (E:XK),Room k (A.deeper (envOfC qual (aj st) s.heap.objs.size f cdv)) ->
   SDs C (gi CX0 P w K mg base N qual (aj st) f cdv A outer s H E).nox (bY st) den) :
  FnOk P w K mg base CX0 (k+1) f fd ps (spD K C ps.length λds=>fin (den (st0 N ds))):=by
 refine F.ok sc (λvs H Q E h=>h.1) (λcdv A outer s H vs Q E hr h=>⟨_,hb cdv A outer s H E hr,?_⟩);obtain⟨_,ds,h,q⟩:=h;refine⟨st0 N ds,H,k_ h,?_⟩;dsimp only at q;cases e:den (st0 N ds)with
 | val o =>
  rw[e]at q;cases o with
  | nx U'=>exact λσ' H' ⟨_,_,r⟩=>q _ H' (r.keep.trans msk_sub) .non
  | rt d=>exact λv H' s' h'=>q v H' s' h'
  | bk U'=>exact q.elim
  | ct U'=>exact q.elim
 | exc c=>rw[e]at q;exact q.elim
 | bad=>rw[e]at q;exact q.elim
end
def FI (scope:Scope) (env:Env) (L:Addr) (cs:List (Str×Addr)):Env :=
 {scope:=relabel scope env,locals:=L,globals:=env.globals,cells:=cs,qual:=env.qual,func:=none,code:=env.code,frame:=env.frame,builtins:=env.builtins }
def D5 (o:Option NameKind):Bool:=match o with
 | some .cell=>true
 | _=>false
def kc (o:Option NameKind):Bool:=match o with
 | some .cell=>true
 | some .free=>true
 | _=>false
def cxC (X:Cx) (N':List Str) (scope:Scope) (L:Addr) (cs:List (Str×Addr)) (s:Shared) (H:Hp) (fp:List Addr):Cx :=
 {prog:=X.prog,w:=X.w,K:=X.K,mg:=X.mg,base:=X.base,A:=X.A,N:=N',s₀:=s,H₀:=H,env:=FI scope X.env L cs,outer:=X.stack,stack:=X.stack,ex:=fp,
  fn:=λx=>D5 (scope.names.lookup x),calm:=X.calm,pn:=[],xe:=λ_ _=>False }
def z4 (N:List Str) (env:Env) (sc:Scope):List Str->Nat->Bool
 | [],_=>true
 | x::r,i=>(match sc.names.lookup x with
   | some .free=>(match N[i]? with|some y=>y==x|none=>false)&&kc (env.kindOf x)
   | some .local=>Nat.ble N.length i
   | some .cell=>Nat.ble N.length i
   | _=>true)&&z4 N env sc r (i+1)
def fK (env:Env) (x:Str) (k:NameKind):Bool:=match k with
 | .free=>kc (env.kindOf x)
 | _=>true
def B9 (env:Env):List (Str×NameKind)->Bool
 | []=>true
 | p::r=>fK env p.1 p.2&&B9 env r
def lK (k:NameKind) (o:Option NameKind):Bool:=match k,o with
 | .local,some .local=>true
 | .local,_=>false
 | .free,some .free=>true
 | .free,_=>false
 | .cell,some .cell=>true
 | .cell,_=>false
 | _,_=>true
def B8 (names:List (Str×NameKind)):List (Str×NameKind)->Bool
 | []=>true
 | p::r=>lK p.2 (names.lookup p.1)&&B8 names r
theorem Fu {k:NameKind} {o:Option NameKind} (h:lK k o=true) (hk:k=.local\/k=.free\/k=.cell):o=some k:=by
 rcases hk with rfl|rfl|rfl
 ·cases o with
  | none=>cases h
  | some j=>cases j<;>first|rfl|cases h
 ·cases o with
  | none=>cases h
  | some j=>cases j<;>first|rfl|cases h
 ·cases o with
  | none=>cases h
  | some j=>cases j<;>first|rfl|cases h
def vh (N N':List Str) (env:Env) (sc:Scope):Bool:=z4 N env sc N' 0&&(B9 env sc.names&&(B8 sc.names sc.names&&(Nat.ble N.length N'.length&&(match sc.kind with | .function=>true|_=>false))))
theorem q_ {o:Option NameKind} (h:kc o=true):o=some .cell\/o=some .free:=by
 unfold kc at h;split at h<;>simp_all
theorem wM {N:List Str} {env:Env} {sc:Scope}:∀{l:List Str} {k i:Nat} {x:Str},z4 N env sc l k=true->l[i]?=some x ->
  (sc.names.lookup x=some .free->N[k+i]?=some x/\kc (env.kindOf x)=true)/\((sc.names.lookup x=some .local\/sc.names.lookup x=some .cell)->N.length<=k+i)
 | [],_,_,_,_,e=>by simp at e
 | y::r,k,0,x,h,e=>by
  simp at e;subst e;rw[z4,Bool.and_eq_true]at h;obtain⟨h,_⟩:=h;refine⟨λz=>?_,λz=>?_⟩
  ·rw[z]at h;simp only[Bool.and_eq_true]at h;obtain⟨h1,h2⟩:=h;refine⟨?_,h2⟩;split at h1
   ·rename_i w e1;rw[Nat.add_zero,e1,beq_iff_eq.mp h1]
   ·cases h1
  ·rcases z with z|z<;>(rw[z]at h;exact Nat.le_of_ble_eq_true h)
 | y::r,k,i+1,x,h,e=>by
  rw[z4,Bool.and_eq_true]at h;have q:=wM (k:=k+1) (i:=i) (x:=x) h.2 (by simpa using e);rw[show k+(i+1)=k+1+i by omega];exact q
theorem rL {env:Env}:∀{l:List (Str×NameKind)} {x:Str},B9 env l=true->(x,NameKind.free)∈l->kc (env.kindOf x)=true
 | [],_,_,h=>by cases h
 | p::r,x,h,m=>by
  have h:fK env p.1 p.2=true/\B9 env r=true:=Bool.and_eq_true_iff.mp h;rcases List.mem_cons.mp m with e|m
  ·subst e;exact h.1
  ·exact rL h.2 m
theorem mN {names:List (Str×NameKind)}:∀{l:List (Str×NameKind)} {x:Str} {k:NameKind},B8 names l=true->(x,k)∈l->(k=.local\/k=.free\/k=.cell)->names.lookup x=some k
 | [],_,_,_,h,_=>by cases h
 | p::r,x,k,h,m,hk=>by
  have h:lK p.2 (names.lookup p.1)=true/\B8 names r=true:=Bool.and_eq_true_iff.mp h;rcases List.mem_cons.mp m with e|m
  ·subst e;exact Fu h.1 hk
  ·exact mN h.2 m hk
def cSt (x:Str) (k:NameKind) (o:Option Addr) (acc:List (Str×Addr)):List (Str×Addr):=match k,o with
 | .free,some c=>(x,c)::acc
 | _,_=>acc
def dS (env:Env):List (Str×NameKind)->List (Str×Addr)->List (Str×Addr)
 | [],acc=>acc
 | p::r,acc=>dS env r (cSt p.1 p.2 (env.cells.lookup p.1) acc)
theorem rQ {k:NameKind} {o:Option Addr} {acc:List (Str×Addr)} (h:k ≠ .free):cSt x k o acc=acc:=by
 cases k with
 | free=>exact absurd rfl h
 | _=>rfl
theorem oG {k:NameKind} {acc:List (Str×Addr)}:cSt x k none acc=acc:=by cases k<;>rfl
theorem wK {env:Env} {scope:Scope} (h:∀x,(x,NameKind.free)∈scope.names->∃c,env.cells.lookup x=some c):closureFor scope env=pure (dS env scope.names []):=by
 unfold closureFor;have gen:∀(l:List (Str×NameKind)) (acc:List (Str×Addr)) (f:Str×NameKind->List (Str×Addr)->Sem (ForInStep (List (Str×Addr)))),(∀x,(x,NameKind.free)∈l->∃c,env.cells.lookup x=some c) ->
   (∀n k cs,f (n,k) cs=if(k==NameKind.free)=true then(do let a <- cellOf env n;pure (ForInStep.yield ((n,a)::cs)))else pure (ForInStep.yield cs))->forIn l acc f=pure (dS env l acc):=by
  intro l
  induction l with
  | nil=>intro acc f _ _;rfl
  | cons y r ih =>
   intro acc f hc hf;obtain⟨n,k⟩:=y;rw[List.forIn_cons,hf];have ih':=λacc=>ih acc f (λx hx=>hc x (List.mem_cons_of_mem _ hx)) hf;by_cases hk:k=.free
   ·subst hk;obtain⟨c,e⟩:=hc n List.mem_cons_self;rw[if_pos (by rfl)];unfold cellOf;rw[e];simp only[pure_bind];rw[ih'];show pure (dS env r ((n,c)::acc))=pure (dS env r (cSt n .free (env.cells.lookup n) acc));rw[e];rfl
   ·have hb:(k==NameKind.free)=false:=by simpa using hk
    rw[hb,if_neg Bool.false_ne_true,pure_bind];show forIn r acc f=_;rw[ih'];show _=pure (dS env r (cSt n k (env.cells.lookup n) acc));rw[rQ hk]
 dsimp only;rw[gen scope.names [] _ h]
 ·rfl
 ·intro n k cs;cases hb:k==NameKind.free<;>simp[hb]
theorem oC {env:Env}:∀{l:List (Str×NameKind)} {acc:List (Str×Addr)} {x:Str} {c:Addr},(dS env l acc).lookup x=some c->(∀c',acc.lookup x=some c'->env.cells.lookup x=some c')->env.cells.lookup x=some c
 | [],acc,x,c,e,h=>h c e
 | (y,k)::r,acc,x,c,e,h=>by
  have e:(dS env r (cSt y k (env.cells.lookup y) acc)).lookup x=some c:=e;refine oC e λc' e'=>?_;by_cases hk:k=.free
  ·subst hk;cases e0:env.cells.lookup y with
   | none=>rw[e0,oG]at e';exact h c' e'
   | some c0 =>
    rw[e0]at e';have e':((y,c0)::acc).lookup x=some c':=e';rw[List.lookup_cons]at e';cases hb:x==y with
    | true=>rw[hb]at e';cases e';rw[beq_iff_eq.mp hb];exact e0
    | false=>rw[hb]at e';exact h c' e'
  ·rw[rQ hk]at e';exact h c' e'
theorem lD {env:Env} {x:Str} {c:Addr} (hc:env.cells.lookup x=some c):∀{l:List (Str×NameKind)} {acc:List (Str×Addr)},((x,NameKind.free)∈l\/acc.lookup x=some c)->(dS env l acc).lookup x=some c
 | [],acc,h=>h.elim (λz=>by cases z) id
 | (y,k)::r,acc,h=>by
  show(dS env r (cSt y k (env.cells.lookup y) acc)).lookup x=some c;refine lD hc ?_;rcases h with h|h
  ·rcases List.mem_cons.mp h with e|h
   ·cases e;right;rw[hc];show((x,c)::acc).lookup x=some c;rw[List.lookup_cons,beq_self_eq_true]
   ·exact .inl h
  ·right;by_cases hk:k=.free
   ·subst hk;cases e0:env.cells.lookup y with
    | none=>rw[oG];exact h
    | some c0 =>
     show((y,c0)::acc).lookup x=some c;rw[List.lookup_cons];cases hb:x==y with
     | true=>rw[<- beq_iff_eq.mp hb,hc]at e0;exact e0.symm
     | false=>exact h
   ·rw[rQ hk];exact h
theorem mO:∀{names:List (Str×NameKind)} {n:Nat} {acc:List (Str×Addr)} {x:Str} {c:Addr},(cellsFrom n names acc).lookup x=some c->acc.lookup x=some c\/(n<=c/\(x,NameKind.cell)∈names)
 | [],_,_,_,_,e=>.inl e
 | (y,k)::r,n,acc,x,c,e=>by
  unfold cellsFrom at e;split at e
  ·rename_i hk;rcases mO e with q|⟨q,m⟩
   ·rw[List.lookup_cons]at q;cases hb:x==y with
    | true=>rw[hb]at q;cases q;rw[beq_iff_eq.mp hb,beq_iff_eq.mp hk];exact .inr ⟨Nat.le_refl _,List.mem_cons_self⟩
    | false=>rw[hb]at q;exact .inl q
   ·exact .inr ⟨Nat.le_of_succ_le q,List.mem_cons_of_mem _ m⟩
  ·rcases mO e with q|⟨q,m⟩
   ·exact .inl q
   ·exact .inr ⟨q,List.mem_cons_of_mem _ m⟩
theorem rM:∀{names:List (Str×NameKind)} {n:Nat} {acc:List (Str×Addr)} {x:Str},(x,NameKind.cell)∉names->(cellsFrom n names acc).lookup x=acc.lookup x
 | [],_,_,_,_=>rfl
 | (y,k)::r,n,acc,x,h=>by
  unfold cellsFrom;split
  ·rename_i hk;rw[rM λm=>h (List.mem_cons_of_mem _ m),List.lookup_cons];cases hb:x==y with
   | true=>exact absurd (by rw[beq_iff_eq.mp hb,beq_iff_eq.mp hk];exact List.mem_cons_self) h
   | false=>rfl
  ·exact rM λm=>h (List.mem_cons_of_mem _ m)
theorem Am {M:Model} {A:Around} {E:Value->Shared->Prop} {scope:Scope} {cl:List (Str×Addr)} {env:Env} {Q:Env->Shared->Prop}
  (h:Q { scope:=scope,locals:=s.heap.objs.size,globals:=env.globals,cells:=cellsFrom (s.heap.objs.size+1) scope.names cl,qual:=env.qual,func:=none,code:=env.code,frame:=env.frame,builtins:=env.builtins }
   {s with heap:=pushCells (s.heap.push { cls:=.type "dict",data:=.dict #[] }) scope.names }):wpAny M A (newFunctionEnv scope env.globals cl [] env.qual none .none (some env)) Q E s:=by
 simp only[newFunctionEnv,Option.isSome_some,if_true];refine wpAny_bind (wpAny_alloc ?_);refine wpAny_bind (wpAny_layCells _ (λname kind cells=>by cases hkc:kind==NameKind.cell<;>simp[hkc]) _ _ _ _ ?_);rw[show({ s with heap:=s.heap.push { cls:=.type "dict",data:=.dict #[] } }:Shared).heap.objs.size=s.heap.objs.size+1 from Heap.size_push ..];exact wpAny_pure h
structure Ck (ix:List Nat) (T:D->Rho->Option Rho):Prop where
 len:∀x U U',T x U=some U'->U'.length=U.length
 out:∀x U U',T x U=some U'->∀j:Nat,j∉ix->U'[j]?=U[j]?
 shr:∀x U U',T x U=some U'->∀(j:Nat) sl,j∈ix->U'[j]?=some (some sl)->za sl=false
theorem bO:Ck [i] (tgN i) where
 len:=λx U U' e=>by cases e;simp
 out:=λx U U' e j hj=>by cases e;exact List.getElem?_set_ne λz=>hj (by simp[z])
 shr:=λx U U' e j sl hj h=>by
  cases e;have:j=i:=by simpa using hj
  subst this;rw[List.getElem?_set]at h;simp only[if_true]at h;split at h<;>cases h
  rfl
theorem vG {U:Rho} (h:(U.set i (some (.shr d)))[j]?=some (some sl)) (hn:i≠j->za sl=false):za sl=false:=by
 by_cases hj:i=j
 ·subst hj;rw[List.getElem?_set]at h;simp only[if_true]at h;split at h<;>cases h
  rfl
 ·exact hn hj
theorem uf:Ck [i,j] (tg2 i j) where
 len:=λx U U' e=>by
  unfold tg2 at e;split at e
  ·cases e;simp
  ·cases e
 out:=λx U U' e k hk=>by
  unfold tg2 at e;split at e
  ·cases e;rw[List.getElem?_set_ne λz=>hk (by simp[z]),List.getElem?_set_ne λz=>hk (by simp[z])]
  ·cases e
 shr:=λx U U' e k sl hk h=>by
  unfold tg2 at e;split at e
  ·cases e;refine vG h λhj=>?_;rw[List.getElem?_set_ne hj]at h;refine vG h λhi=>?_;simp at hk;rcases hk with rfl|rfl
   ·exact absurd rfl hi
   ·exact absurd rfl hj
  ·cases e
def noE {Y:Type}:R Y->R Y
 | .val a=>.val a
 | _=>.bad
def jg (T:D->Rho->Option Rho) (t:Rho->R Bool) (e:Rho->R D):List D->Rho->R (List D)
 | [],_=>.val []
 | x::xs,U=>match T x U with
  | some U1=>(noE (t U1)).bind λb=>if b=true then(noE (e U1)).bind λd=>(jg T t e xs U).bind λds=>.val (d::ds)else jg T t e xs U
  | none=>.bad
variable {C:Addr} {X:Cx}
variable (C X) in
def uc (ifs:List Expr) (t:Rho->R Bool):Prop:=∀(pins:List (Addr×Obj)) (s:Shared) (O:St) (H:Hp) (Q:Bool->Hp->Prop),Inv X pins O H s->ttD C X t O H Q ->
 wpAny (model X.prog X.w) X.A (forIn ifs true λc r=>if r=true then do let ok <- isTrue c X.env (eval c X.env);pure (ForInStep.yield ok)else pure (ForInStep.yield r)) (TP X pins O Q) X.xe s
def tT:Rho->R Bool:=λ_=>.val true
theorem bf:uc C X [] tT:=λpins s O H Q I zz0=>by
 obtain⟨U,r,q⟩:=zz0;rw[List.forIn_nil];exact wpAny_pure ⟨H,I,q H (Same.refl _)⟩
theorem wl {c:Expr} {t:Rho->R Bool} (h:TD C X c t):uc C X [c] t:=λpins s O H Q I q=>by
 rw[List.forIn_cons,if_pos rfl];refine wpAny_bind (wpAny_bind (thn (h pins s O H Q I q) λb s1 z=>wpAny_pure ?_));show wpAny _ _ (forIn [] b _) _ _ s1;rw[List.forIn_nil];exact wpAny_pure z
def RB.ext (U:RB) (m:Nat):RB:=⟨U.rho++List.replicate m none,U.ad⟩
theorem yU {β:RB} (h:∀j,β.ad j=U.ad j):msk β σ'=msk U O:=by
 have e:β.ad=U.ad:=funext h
 funext G b
 unfold msk Own;rw[e]
theorem AO {m:Nat} (r:Rel K C H0 U O H) (hl:σ'.length=U.rho.length+m) (hp:∀j:Nat,j<U.rho.length->σ'[j]?=O[j]?) :
  Rel K C H0 (U.ext m) σ' H/\msk (U.ext m) σ'=msk U O:=by
 have at':∀(i:Nat) sl,(U.rho++List.replicate m none)[i]?=some (some sl)->U.rho[i]?=some (some sl)/\i<U.rho.length:=λi sl e=>by
  by_cases hi:i<U.rho.length
  ·rw[List.getElem?_append_left hi]at e;exact⟨e,hi⟩
  ·rw[List.getElem?_append_right (by omega),List.getElem?_replicate]at e;split at e<;>cases e
 have em:msk (U.ext m) σ'=msk U O:=yU λ_=>rfl;refine⟨⟨?_,by rw[em];exact r.keep,λi sl e=>?_,r.inj,r.kin,λi a z=>?_⟩,em⟩
 ·show(U.rho++List.replicate m none).length=_;simp[hl]
 ·obtain⟨e1,hi⟩:=at' i sl e;rw[em,hp i hi];exact r.at_ i sl e1
 ·show i<(U.rho++List.replicate m none).length;rw[List.length_append];exact Nat.lt_of_lt_of_le (r.bnd i a z) (Nat.le_add_right _ _)
theorem DU {β:RB} {O1:St} (h:∀j:Nat,β.ad j=if j∈ix then[]else U.ad j) (hix:∀j∈ix,U.ad j=[]):msk β O1=msk U O:=yU λj=>by
 rw[h j];split
 ·exact(hix j ‹_›).symm
 ·rfl
end DL
namespace DL
open PySem PySem.Spec PyProof.Rows L2
variable {scope:Scope} {pos:Pos} {env:Env}
theorem rK {prog:Program} {w:World} {A:Around} {R:Result->Shared->Prop} {s:Shared} {elt target iter:Expr} {ifs:List Expr} {it acc:Value} (I:Nat->Shared->Prop)
  (kT:∀n s,I n s->wpAny (model prog w) A (pyNext it) (λr s₁=>match r with
   | none=>R (.ok .next) s₁
   | some v=>wpAny (model prog w) A (letOwnedTupleGo target it v) (λ_ s₀=>wpAny (model prog w) A (assign target env v) (λ_ s₂ =>
     wpAny (model prog w) A (forIn ifs true λc r=>if r=true then do let ok <- isTrue c env (eval c env);pure (ForInStep.yield ok)else pure (ForInStep.yield r)) (λok s₃ =>
      if ok=true then wpAny (model prog w) A (eval elt env) (λx s₄ =>
       wpAny (model prog w) A (call (.builtin "list.append") [acc,x]) (λ_ s₅=>∃m,m<n/\I m s₅) (λ_ _=>False) s₄) (λ_ _=>False) s₃
      else ∃m,m<n/\I m s₃) (λ_ _=>False) s₂) (λ_ _=>False) s₀) (λ_ _=>False) s₁) (λ_ _=>False) s)
  (n:Nat) (h:I n s):codeAny (model prog w) A (.compLoop (.ListComp elt [⟨target,iter,ifs,0⟩] scope pos) 0 it acc env) R s:=by
 refine codeAny_loop rfl I (λn s hI=>?_) n h;show wpAny _ A ((compTurn (.ListComp elt [⟨target,iter,ifs,0⟩] scope pos) 0 it acc env).onRaise (λx=>do noteFrame x env;theTreesLotGoes x)) _ _ s;refine wpAny_noted ?_;rw[compTurn_list];refine wpAny_bind (wpAny_standAt (wpAny_bind (wpAny_mono (kT n s hI) (λr s₁ h₁=>?_) λ_ _ h'=>h'.elim)));cases r with
 | none=>exact wpAny_pure h₁
 | some v =>
  refine wpAny_bind (wpAny_mono h₁ (λ_ s₀ h₀=>?_) λ_ _ h'=>h'.elim);refine wpAny_bind (wpAny_mono h₀ (λ_ s₂ h₂=>wpAny_bind (wpAny_mono h₂ (λok s₃ h₃=>?_) λ_ _ h'=>h'.elim)) λ_ _ h'=>h'.elim);cases ok with
  | false=>exact wpAny_pure ⟨rfl,h₃⟩
  | true =>
   exact wpAny_bind (wpAny_bind (wpAny_mono h₃ (λx s₄ h₄=>wpAny_bind (wpAny_mono h₄ (λ_ s₅ h₅=>wpAny_pure (wpAny_pure ⟨rfl,h₅⟩)) λ_ _ h'=>h'.elim)) λ_ _ h'=>h'.elim))
theorem vi:∀{names:List (Str×NameKind)} {n:Nat} {acc:List (Str×Addr)},(∀x y c,acc.lookup x=some c->acc.lookup y=some c->x=y)->(∀x c,acc.lookup x=some c->c<n) ->
  ∀x y c,(cellsFrom n names acc).lookup x=some c->(cellsFrom n names acc).lookup y=some c->x=y
 | [],_,_,h,_=>h
 | (z,k)::r,n,acc,h,hb=>by
  unfold cellsFrom;split
  ·refine vi (λx y c e1 e2=>?_) (λx c e=>?_)
   ·rw[List.lookup_cons]at e1 e2;cases b1:x==z with
    | true =>
     rw[b1]at e1;cases e1;cases b2:y==z with
     | true=>rw[beq_iff_eq.mp b1,beq_iff_eq.mp b2]
     | false=>rw[b2]at e2;exact absurd (hb y _ e2) (Nat.lt_irrefl _)
    | false =>
     rw[b1]at e1;cases b2:y==z with
     | true=>rw[b2]at e2;cases e2;exact absurd (hb x _ e1) (Nat.lt_irrefl _)
     | false=>rw[b2]at e2;exact h x y c e1 e2
   ·rw[List.lookup_cons]at e;cases b1:x==z with
    | true=>rw[b1]at e;cases e;exact Nat.lt_succ_self _
    | false=>rw[b1]at e;exact Nat.lt_succ_of_lt (hb x c e)
  ·exact vi h hb
theorem rN:∀{names:List (Str×NameKind)} {h:Heap} {acc:List (Str×Addr)} {x:Str} {c:Addr},(cellsFrom h.objs.size names acc).lookup x=some c->acc.lookup x=some c\/(pushCells h names).IsCell c none
 | [],_,_,_,_,e=>.inl e
 | (y,k)::r,h,acc,x,c,e=>by
  unfold cellsFrom at e;unfold pushCells;split at e
  ·rename_i hk;rw[if_pos hk];have e':(cellsFrom (h.push { cls:=.type "cell",data:=.cell none }).objs.size r ((y,h.objs.size)::acc)).lookup x=some c:=by rw[Heap.size_push];exact e
   rcases rN e' with q|q
   ·rw[List.lookup_cons]at q;cases b1:x==y with
    | true =>
     rw[b1]at q;cases q;exact .inr ⟨_,pushCells_keeps r _ _ _ (Heap.get?_push_size _ rfl),rfl⟩
    | false=>rw[b1]at q;exact .inl q
   ·exact .inr q
  ·rename_i hk;rw[if_neg hk];exact rN e
theorem qj {env:Env}:∀{l:List (Str×NameKind)} {acc:List (Str×Addr)} {x:Str} {c:Addr},(dS env l acc).lookup x=some c->acc.lookup x=some c\/(x,NameKind.free)∈l
 | [],acc,x,c,e=>.inl e
 | (y,k)::r,acc,x,c,e=>by
  have e:(dS env r (cSt y k (env.cells.lookup y) acc)).lookup x=some c:=e;rcases qj e with q|q
  ·by_cases hk:k=.free
   ·subst hk;cases e0:env.cells.lookup y with
    | none=>rw[e0,oG]at q;exact .inl q
    | some c0 =>
     rw[e0]at q;have q:((y,c0)::acc).lookup x=some c:=q;rw[List.lookup_cons]at q;cases hb:x==y with
     | true=>rw[beq_iff_eq.mp hb];exact .inr List.mem_cons_self
     | false=>rw[hb]at q;exact .inl q
   ·rw[rQ hk]at q;exact .inl q
  ·exact .inr (List.mem_cons_of_mem _ q)
def reK (env:Env) (n:Str) (k:NameKind):NameKind:=if(k == .free&&env.scope.kind == .function&&env.kindOf n==some .cell)=true then .cell else k
theorem vM {env:Env}:∀{names:List (Str×NameKind)} {x:Str},
  (names.map λ(p:Str×NameKind)=>if(p.2 == .free&&env.scope.kind == .function&&env.kindOf p.1==some .cell)=true then(p.1,NameKind.cell)else(p.1,p.2)).lookup x=(names.lookup x).map (reK env x)
 | [],_=>rfl
 | (n,k)::r,x=>by
  have ih:=vM (env:=env) (names:=r) (x:=x);rw[List.map_cons];have e:(if(k == .free&&env.scope.kind == .function&&env.kindOf n==some .cell)=true then(n,NameKind.cell)else(n,k))=(n,reK env n k):=by
   unfold reK;split<;>rfl
  show List.lookup x ((if(k == .free&&env.scope.kind == .function&&env.kindOf n==some .cell)=true then(n,NameKind.cell)else(n,k))::_)=_;rw[e,List.lookup_cons,List.lookup_cons];cases hb:x==n with
  | true=>rw[beq_iff_eq.mp hb];rfl
  | false=>exact ih
variable {x:Str}
theorem ia:(relabel scope env).names.lookup x=(scope.names.lookup x).map (reK env x):=vM
theorem le {k:NameKind}:(k=.free/\(reK env x k=.free\/reK env x k=.cell))\/(k ≠ .free/\reK env x k=k):=by
 unfold reK;by_cases hk:k=.free
 ·subst hk;left;refine⟨rfl,?_⟩;split<;>simp
 ·right;refine⟨hk,?_⟩;have:(k==NameKind.free)=false:=by simpa using hk
  rw[this];rfl
variable {H:Hp}
theorem B6:cut [] H=H:=by
 funext b
 unfold cut;rw[if_neg List.not_mem_nil]
variable {U:RB} {O:St}
theorem km {zs:List Addr}:msk U O (cut zs H)=cut zs (msk U O H):=by
 funext b
 unfold msk cut;by_cases h:Own U O b<;>by_cases h':b∈zs<;>simp[h,h']
theorem mM {zs:List Addr}:Same (cut zs H) H:=λb o e=>(cut_some.mp e).2
variable {H':Hp}
theorem bR {b:Addr} (s:Same H H') (h:H' b=none):H b=none:=by
 cases e:H b with
 | none=>rfl
 | some o=>rw[s b o e]at h;cases h
variable {k:OK} {F:Rho->R D} {H0:Hp}
section
variable {C:Addr} {X:Cx}
def pK (C:Addr) (X:Cx) (k:OK) (U:RB) (r:R D) (O:St) (H:Hp) (Q:VK):Prop:=match r with
 | .val d=>∀v H' A,Same H H'->(∀a∈A,H a=none)->Tre X.K C (cut A (msk U O H')) H' k v d A->Q v H'
 | .exc c=>XE X c O H
 | .bad=>False
variable (C X) in
def teK (k:OK) (F:Rho->R D):TE:=λO H Q=>∃U:RB,(∃H0,bP C X H0 U O H)/\pK C X k U (F U) O H Q
variable (C X) in
def KD (k:OK) (e:Expr) (F:Rho->R D):Prop:=PE X e (teK C X k F)
theorem wd {e:Expr} (h:ED C X e F):KD C X .s e F:=aD h λO H Q ⟨U,r,q⟩=>⟨U,r,by
 cases z:F U with
 | val d=>rw[z]at q;exact λv H' s h=>q v H' [] s (λa ha=>by cases ha) (.s (by rw[B6];exact h))
 | exc c=>rw[z]at q;exact q
 | bad=>rw[z]at q;exact q⟩
theorem CB {e:Expr} {F:Rho->R (List D)} (h:FD C X e F):KD C X (.l .s) e (eLs F):=aD h λO H Q ⟨U,⟨H0,r⟩,q⟩=>⟨U,⟨H0,r⟩,by
 unfold eLs at q;cases z:F U with
 | val xs =>
  rw[z]at q;intro a vs H1 s1 hn h1;refine q _ _ [a] (s1.trans (aA hn)) (λb hb=>by cases List.mem_singleton.mp hb;exact bR s1 hn) (.l aF (TreP.of (h1.mono λb o e=>cut_some.mpr ⟨λhb=>?_,aO (aA hn) b o e⟩)) List.not_mem_nil);cases List.mem_singleton.mp hb;rw[(msk_some.mp e).2]at hn;cases hn
 | exc c=>rw[z]at q;exact q
 | bad=>rw[z]at q;exact q⟩
theorem Tre.free {v:V} {d:D} {A:List Addr} (r:bP C X H0 U O H) (s:Same H H') (hA:∀a∈A,H a=none) (h:Tre X.K C (cut A (msk U O H')) H' k v d A):dC C X U O H' v d :=
 h.share mM (λa ha o e=>msk_some.mpr ⟨λz=>r.ownAt z (hA a ha),e⟩) λa vs e=>msk_some.mpr ⟨λz=>(r.mono s).tups e z,e⟩
theorem FL {e:Expr} (h:KD C X k e F):ED C X e F:=aD h λO H Q ⟨U,⟨H0,r⟩,q⟩=>⟨U,⟨H0,r⟩,by
 cases z:F U with
 | val d=>rw[z]at q;exact λv H' A s hA h=>q v H' s (h.free r s hA)
 | exc c=>rw[z]at q;exact q
 | bad=>rw[z]at q;exact q⟩
def trS (i:Nat) (k:OK) (e:Rho->R D):Rho->R Out:=λU=>(e U).bind λd=>.val (.nx (U.set i (some (.tre k d))))
theorem Rel.setTre {K:Frag} (r:Rel K C H0 U O H) {i:Nat} {v:V} {d:D} {A:List Addr} (s:Same H H') (hA:∀a∈A,H a=none) (h:Tre K C (cut A (msk U O H')) H' k v d A) :
  Rel K C H0 (U.put i (.tre k d) A) (O.set i (some v)) H':=by
 refine r.put j9 (λj hj=>List.getElem?_set_ne λz=>hj z.symm) (λa ha=>.inr (hA a ha)) (λj _=>.of s) (λb o e=>s b o (msk_some.mp e).2) (λa ha=>.inl (h.lists a ha)) λhi _=>⟨v,A,jW (by rw[<- r.len];exact hi),λa ha=>ha,h.stay (λb o e=>?_) (.of (Same.refl _))⟩;obtain⟨h1,h2⟩:=cut_some.mp e;obtain⟨h3,h4⟩:=msk_some.mp h2;refine msk_some.mpr ⟨λ⟨j,z⟩=>?_,h4⟩;rcases fk z with⟨_,_,z⟩|⟨_,z⟩
 ·exact h1 z
 ·exact h3 ⟨j,z⟩
theorem yd {i:Nat} {e:Expr} {pos':Pos} (hN:X.N.Nodup) (hi:X.N[i]?=some x) (hx:Loc X.env.scope x) (he:KD C X k e F) (hs:swapsWith e (some (.Name x pos')) pos.line X.env=pure false:=by rfl)
    (hf:X.fn x=true\/X.env.scope.names.lookup x=some .local:=by first|exact .inl rfl|exact .inr rfl|assumption):SD C X (.Assign [.Name x pos'] e pos) (trS i k F) :=
  aW (j0 hN hi hx he hs hf) λD O H yy=>by
   obtain⟨_,H0,⟨U,rfl,r⟩,q⟩:=yy;exact⟨U,⟨H0,r⟩,by
    unfold trS at q;cases z:F U with
    | val d=>rw[z]at q;exact λv H' A s hA h=>q _ _ ⟨_,rfl,r.setTre s hA h⟩
    | exc c=>rw[z]at q;exact cW r q
    | bad=>rw[z]at q;exact q⟩
end
variable {C:Addr} {X:Cx}
theorem B5 {a:Addr} {o:HO} (h:H a=none):cut [a] (upd H a o)=H:=by
 funext b
 unfold cut;by_cases hb:b=a
 ·rw[if_pos (by simp[hb]),hb,h]
 ·rw[if_neg (by simp[hb]),aw hb]
theorem An {a:Addr} {o:HO} (h:H a=some o):upd (cut [a] H) a o=H:=by
 funext b
 by_cases hb:b=a
 ·rw[hb,aF,h]
 ·rw[aw hb];unfold cut;rw[if_neg (by simp[hb])]
theorem vf {N':List Str} {n:Nat} (hchk:vh X.N N' X.env scope=true) (hN:N'.length=X.N.length+n)
  {pins:List (Addr×Obj)} {H3:Hp} {s3:Shared} {fp:List Addr} (I3:Inv X pins O H3 s3) (hfp:∀b∈fp,b<s3.heap.objs.size) (f3:∀b∈fp,pO X pins H3 b) :
  Inv (cxC X N' scope s3.heap.objs.size (cellsFrom (s3.heap.objs.size+1) scope.names (dS X.env scope.names [])) s3 H3 fp) [] (O++List.replicate n none) H3
   {s3 with heap:=pushCells (s3.heap.push { cls:=.type "dict",data:=.dict #[] }) scope.names }:=by
 obtain⟨c1,hchk⟩:=Bool.and_eq_true_iff.mp hchk;obtain⟨c2,hchk⟩:=Bool.and_eq_true_iff.mp hchk;obtain⟨c3,hchk⟩:=Bool.and_eq_true_iff.mp hchk;obtain⟨c4,c5⟩:=Bool.and_eq_true_iff.mp hchk;have hkind:scope.kind=.function:=by
  revert c5;cases scope.kind<;>simp
 have keep:∀b o,s3.heap.get? b=some o->(pushCells (s3.heap.push { cls:=.type "dict",data:=.dict #[] }) scope.names).get? b=some o:=λb o e=>pushCells_keeps _ _ b o (Heap.get?_push_of_some _ e);have I4:Inv X pins O H3 { s3 with heap:=pushCells (s3.heap.push { cls:=.type "dict",data:=.dict #[] }) scope.names }:=I3.kept (t':=s3.toks) keep;have sz:(s3.heap.push { cls:=.type "dict",data:=.dict #[] }).objs.size=s3.heap.objs.size+1:=Heap.size_push ..;have fr:∀x,(x,NameKind.free)∈scope.names->∃c,X.env.cells.lookup x=some c:=λx hx=>I3.ok.has x (q_ (rL c2 hx));have cl_old:∀x c,(dS X.env scope.names []).lookup x=some c->X.env.cells.lookup x=some c:=λx c e=>oC e λc' e'=>by cases e'
 have cl_lt:∀x c,(dS X.env scope.names []).lookup x=some c->c<s3.heap.objs.size:=λx c e=>by
  obtain⟨v,q⟩:=I3.cell x c (cl_old x c e);exact q.lt
 have look:∀x c,(cellsFrom (s3.heap.objs.size+1) scope.names (dS X.env scope.names [])).lookup x=some c ->
   X.env.cells.lookup x=some c\/(s3.heap.objs.size+1<=c/\(x,NameKind.cell)∈scope.names/\(pushCells (s3.heap.push { cls:=.type "dict",data:=.dict #[] }) scope.names).IsCell c none):=λx c e=>by
  rcases mO e with q|⟨q,m⟩
  ·exact .inl (cl_old x c q)
  ·rcases rN (h:=s3.heap.push { cls:=.type "dict",data:=.dict #[] }) (by rw[sz];exact e)with z|z
   ·exact absurd (Nat.lt_of_lt_of_le (cl_lt x c z) (Nat.le_of_succ_le q)) (Nat.lt_irrefl _)
   ·exact .inr ⟨q,m,z⟩
 have ok:(cxC X N' scope s3.heap.objs.size (cellsFrom (s3.heap.objs.size+1) scope.names (dS X.env scope.names [])) s3 H3 fp).Ok:=by
  refine⟨I3.ok.mod,hkind,I3.ok.glob,I3.ok.blt,Nat.le_refl _,λx y c e1 e2=>?_,λx hx=>?_,λx c hf e=>?_,I3.ok.hd,I3.ok.frames,.inl rfl,λb hb=>⟨?_,λx c e=>?_⟩,I3.bs,Nat.le_trans I3.ok.bsz I3.sz,λb o e hb=>?_,λb hb hz=>?_,I3.stack,I3.stkFree⟩
  ·exact vi (λx y c e1 e2=>I3.ok.inj x y c (cl_old x c e1) (cl_old y c e2)) (λx c e=>Nat.lt_succ_of_lt (cl_lt x c e)) x y c e1 e2
  ·have hx:(relabel scope X.env).names.lookup x=some .cell\/(relabel scope X.env).names.lookup x=some .free:=hx;rw[ia]at hx;cases e:scope.names.lookup x with
   | none=>rw[e]at hx;rcases hx with z|z<;>cases z
   | some k =>
    rw[e]at hx;have:k=.cell\/k=.free:=by
     rcases le (env:=X.env) (x:=x) (k:=k)with⟨z,_⟩|⟨_,z⟩
     ·exact .inr z
     ·rcases hx with y|y
      ·left;have:=Option.some.inj y;rw[z]at this;exact this
      ·right;have:=Option.some.inj y;rw[z]at this;exact this
    refine Option.isSome_iff_exists.mp (PySem.W.cellsFrom_some _ _ _ ?_);rcases this with rfl|rfl
    ·exact .inl e
    ·obtain⟨c,ec⟩:=fr x (PySem.mem_of_lookup e);right;rw[lD ec (.inl (PySem.mem_of_lookup e))];rfl
  ·have hf:D5 (scope.names.lookup x)=true:=hf;have e0:scope.names.lookup x=some .cell:=by
    unfold D5 at hf;split at hf
    ·assumption
    ·cases hf
   rcases mO e with q|⟨q,m⟩
   ·rcases qj q with z|z
    ·cases z
    ·have:=mN c3 z (.inr (.inl rfl));rw[e0]at this;cases this
   ·exact Nat.le_of_succ_le q
  ·exact Nat.ne_of_lt (hfp b hb)
  ·rcases look x c e with q|⟨q,_,_⟩
   ·exact(f3 b hb).2.2.2.2.1 x c q
   ·exact λz=>absurd (Nat.lt_of_lt_of_le (z▸hfp b hb) (Nat.le_of_succ_le q)) (Nat.lt_irrefl _)
  ·rcases(f3 b hb).2.2.2.1 with z|z
   ·exact I3.ok.noex b o e z
   ·exact absurd (Nat.lt_of_lt_of_le (Nat.lt_of_lt_of_le (Heap.lt_size e) I3.ok.bsz) z) (Nat.lt_irrefl _)
  ·have:=I3.stkSub b hz;rcases List.mem_cons.mp this with z|z
   ·exact(f3 b hb).2.1 z
   ·exact(f3 b hb).2.2.1 z
 refine⟨ok,rfl,I3.bare,Un.kept keep,⟨λ_=>none,(Heap.Ns.new s3.heap (.type "dict")).keeps (pushCells_keeps _ _),λi x v h1 h2 h3=>?_⟩,λx c e=>?_,I3.hok.fresh (Nat.le_refl _),λx c e=>?_,λp hp=>absurd (show p∈([]:List (Addr×Obj))from hp) (by simp),I4.hok,?_⟩
 ·have hl:=I3.len;have hi:i<O.length:=by
   by_cases hi:i<O.length
   ·exact hi
   ·rw[List.getElem?_append_right (by omega),List.getElem?_replicate]at h2;split at h2<;>cases h2
  rw[List.getElem?_append_left hi]at h2;have h3:Vis (relabel scope X.env) x:=h3;obtain⟨g1,g2⟩:=wM c1 h1;rw[Nat.zero_add]at g1 g2;have e0:scope.names.lookup x=some .free:=by
   unfold Vis at h3;rw[ia]at h3;cases e:scope.names.lookup x with
   | none=>rw[e]at h3;rcases h3 with z|z|z<;>cases z
   | some k =>
    rw[e]at h3;rcases le (env:=X.env) (x:=x) (k:=k)with⟨z,_⟩|⟨z0,z⟩
    ·rw[z]
    ·exfalso;have h3:some k=some NameKind.local\/some k=some NameKind.cell\/some k=some NameKind.free:=by
      have h4:some (reK X.env x k)=some NameKind.local\/some (reK X.env x k)=some NameKind.cell\/some (reK X.env x k)=some NameKind.free:=h3;rw[z]at h4;exact h4
     rcases h3 with y|y|y
     ·have:=g2 (.inl (e.trans y));omega
     ·have:=g2 (.inr (e.trans y));omega
     ·exact z0 (Option.some.inj y)
  obtain⟨e1,hk⟩:=g1 e0;have hk:=q_ hk;obtain⟨m0,hn0,hl0⟩:=I4.loc;obtain⟨u,ru,lk⟩:=hl0 i x v e1 h2 (.inr hk);refine⟨u,ru,.inr ⟨?_,?_⟩⟩
  ·have:(relabel scope X.env).names.lookup x=some (reK X.env x .free):=by rw[ia,e0];rfl
   rcases le (env:=X.env) (x:=x) (k:=.free)with⟨_,z|z⟩|⟨z,_⟩
   ·rw[z]at this;exact .inr this
   ·rw[z]at this;exact .inl this
   ·exact absurd rfl z
  ·rcases lk with⟨z,_⟩|⟨_,c,ec,q⟩
   ·rcases hk with y|y<;>(rw[z]at y;cases y)
   ·refine⟨c,?_,q⟩;show(cellsFrom _ scope.names _).lookup x=some c;rw[rM λm=>by have:=mN c3 m (.inr (.inr rfl));rw[e0]at this;cases this];exact lD ec (.inl (PySem.mem_of_lookup e0))
 ·rcases look x c e with q|⟨_,_,q⟩
  ·exact I4.cell x c q
  ·exact⟨_,q⟩
 ·rcases look x c e with q|⟨q,_,_⟩
  ·exact I3.freeC x c q
  ·exact I3.hok.fresh (by omega)
 ·show _=N'.length;rw[List.length_append,List.length_replicate,hN,I3.len]
abbrev cxA (X:Cx) (N':List Str) (scope:Scope) (a:Addr) (H2:Hp) (s3:Shared) (fp:List Addr):Cx:=cxC X N' scope s3.heap.objs.size (cellsFrom (s3.heap.objs.size+1) scope.names (dS X.env scope.names [])) s3 (upd H2 a (.lst [])) fp
def CK (C:Addr) (X HD:Cx) (k:OK) (T:D->Rho->Option Rho) (t:Rho->R Bool) (e:Rho->R D) (n:Nat) (a:Addr) (H2:Hp) (O:St) (U:RB) (fp:List Addr) (tn:Nat->Heap->Prop) (xs ds:List D) (m:Nat) (s:Shared):Prop :=
 ∃(i:Nat) (σ':St) (H':Hp) (vs:List V) (ds1 ds2:List D) (A:List Addr),m=xs.length+1-i/\i<=xs.length /\
   Inv HD [] σ' H' s/\tn i s.heap/\(∀b∈fp,H' b=none) /\
   (∀j:Nat,j<U.rho.length->σ'[j]?=O[j]?)/\H' a=some (.lst vs)/\Same H2 (cut (a::A) H')/\TreP X.K C (msk U O (cut (a::A) H')) H' (vs.map λ_=>k) vs ds1 A/\a∉A /\
   jg T t e (xs.drop i) (U.rho++List.replicate n none)=.val ds2/\ds1++ds2=ds/\vs.length<=i
theorem TreP.app {K:Frag} {M H:Hp} {k:OK} {v:V} {d:D} {B:List Addr} (h:Tre K C M H k v d B):∀{ks:List OK} {vs:List V} {ds:List D} {A:List Addr},TreP K C M H ks vs ds A->(∀a∈A,a∉B)->∃A',(∀a,a∈A'↔a∈A\/a∈B)/\TreP K C M H (ks++[k]) (vs++[v]) (ds++[d]) A'
 | _,_,_,_,.nil,_=>⟨B++[],λa=>by simp,.cons h .nil λ_ _=>List.not_mem_nil⟩
 | _,_,_,_,.cons (A:=A1) (B:=A2) g t n,f=>by
  obtain⟨A',h1,h2⟩:=TreP.app h t λa ha=>f a (List.mem_append_right _ ha);refine⟨A1++A',λa=>by rw[List.mem_append,List.mem_append,h1 a,or_assoc],.cons g h2 λa ha hb=>?_⟩;rcases(h1 a).mp hb with hb|hb
  ·exact n a ha hb
  ·exact f a (List.mem_append_left _ ha) hb
theorem oB {tg elt iter:Expr} {ifs:List Expr} {N':List Str} {ix:List Nat} {T:D->Rho->Option Rho} {t:Rho->R Bool} {e:Rho->R D} {n:Nat}
  (hcalm:X.calm=true) (hchk:vh X.N N' X.env scope=true) (hN:N'.length=X.N.length+n) (hix:∀j∈ix,X.N.length<=j)
  (hg:∀L cs s H fp,GD C (cxC X N' scope L cs s H fp) tg ix T) (ht:∀L cs s H fp,uc C (cxC X N' scope L cs s H fp) ifs t) (he:∀L cs s H fp,KD C (cxC X N' scope L cs s H fp) k elt e)
  {pins:List (Addr×Obj)} {H2:Hp} {s2:Shared} {J:It} {fp:List Addr} {it:Addr} {tn:Nat->Heap->Prop} {xs ds:List D}
  (I2:Inv X pins O H2 s2) (r2:bP C X H0 U O H2) (TT:vo X.prog X.w X.K tg J fp it tn) (t0:tn 0 s2.heap) (f2:∀b∈fp,pO X pins H2 b) (wk:rY X.K C J xs (msk U O H2)) (hlen:xs.length<=LIM)
  (hd:jg T t e xs (U.rho++List.replicate n none)=.val ds) {R:Value->Addr->Result->Shared->Prop} {E:Value->Shared->Prop}
  (hR:∀a L vs A H' s1,Same H2 (cut (a::A) H')->(∀b∈a::A,H2 b=none)->H' a=some (.lst vs)->a∉A->TreP X.K C (msk U O (cut (a::A) H')) H' (vs.map λ_=>k) vs ds A->Inv X pins O H' s1->H' L=none->L≠X.env.locals->X.s₀.heap.objs.size<=L ->
   (∀x c,X.env.cells.lookup x=some c->c≠L)->(∀p∈X.pn++pins,p.1≠L)->(∃m,s1.heap.Ns L m)->R (.ref a) L (.ok .next) s1) :
  wpAny (model X.prog X.w) X.A (newList []) (λacc s₃=>wpAny (model X.prog X.w) X.A (newFunctionEnv scope X.env.globals (dS X.env scope.names []) [] X.env.qual none .none (some X.env)) (λcenv s₄ =>
   codeAny (model X.prog X.w) X.A (.compStart (.ListComp elt [⟨tg,iter,ifs,0⟩] scope pos) 0 (.ref it) acc { cenv with scope:=relabel scope X.env }) (R acc cenv.locals) s₄) E s₃) E s2:=by
 refine wpAny_newObj_type (Am ?_);have hfr2:H2 s2.heap.objs.size=none:=I2.fresh;have I3:=I2.lnew (its:=[]) (ys:=[]) (t':=s2.toks) .nil (Nat.zero_le _);have hfp:∀b∈fp,b<s2.heap.objs.size:=λb hb=>by
  obtain⟨o,eo,_⟩:=TT.obj 0 _ t0 b hb;exact Heap.lt_size eo
 have sz3:(s2.heap.push { cls:=.type "list",data:=.seq ([]:List Value).toArray }).objs.size=s2.heap.objs.size+1:=Heap.size_push ..;have f3:∀b∈fp,pO X pins (upd H2 s2.heap.objs.size (.lst [])) b:=λb hb=>⟨by rw[aw (Nat.ne_of_lt (hfp b hb))];exact(f2 b hb).1,(f2 b hb).2⟩;have I4:=vf (n:=n) hchk hN I3 (λb hb=>by rw[sz3];exact Nat.lt_succ_of_lt (hfp b hb)) f3;have keep:∀b o,s2.heap.get? b=some o->(pushCells ((s2.heap.push { cls:=.type "list",data:=.seq ([]:List Value).toArray }).push { cls:=.type "dict",data:=.dict #[] }) scope.names).get? b=some o:=λb o e =>
  pushCells_keeps _ _ b o (Heap.get?_push_of_some _ (Heap.get?_push_of_some _ e))
 have t4:tn 0 (pushCells ((s2.heap.push { cls:=.type "list",data:=.seq ([]:List Value).toArray }).push { cls:=.type "dict",data:=.dict #[] }) scope.names):=TT.keep 0 _ _ t0 λb hb o e=>keep b o e;generalize hs3:({ s2 with heap:=s2.heap.push { cls:=.type "list",data:=.seq ([]:List Value).toArray },toks:=s2.toks }:Shared)=s3 at I3 I4;have hH3:({ s2 with heap:=s2.heap.push { cls:=.type "list",data:=.seq ([]:List Value).toArray },toks:=s2.toks }:Shared).heap=s3.heap:=by rw[hs3]
 have t4':tn 0 (pushCells (s3.heap.push { cls:=.type "dict",data:=.dict #[] }) scope.names):=by rw[<- hH3];exact t4
 have hrl:U.rho.length=X.N.length:=r2.len.trans I2.len;generalize ha0:s2.heap.objs.size=a0 at *;have loop:∀s4:Shared,s4={ s3 with heap:=pushCells (s3.heap.push { cls:=.type "dict",data:=.dict #[] }) scope.names } ->
   codeAny (model X.prog X.w) X.A (.compLoop (.ListComp elt [⟨tg,iter,ifs,0⟩] scope pos) 0 (.ref it) (.ref a0) (FI scope X.env s3.heap.objs.size (cellsFrom (s3.heap.objs.size+1) scope.names (dS X.env scope.names []))))
    (R (.ref a0) s3.heap.objs.size) s4:=by
  rintro s4 rfl;refine rK (CK C X (cxA X N' scope a0 H2 s3 fp) k T t e n a0 H2 O U fp tn xs ds) ?_ (xs.length+1)
   ⟨0,_,_,[],[],ds,[],rfl,Nat.zero_le _,I4,t4',λb hb=>(f3 b hb).1,λj hj=>by rw[List.getElem?_append_left (by rw[<- r2.len];exact hj)],aF,by rw[B5 hfr2];exact Same.refl _,.nil,List.not_mem_nil,hd,rfl,Nat.le_refl _⟩
  rintro m s ⟨i,σ',H',vs,ds1,ds2,A,rfl,hi,I,tni,hfn,hpre,ha,sm,hv,hnA,hc,hds,hvl⟩;have lst:∀z∈a0::A,∃us,H' z=some (.lst us):=λz hz=>by
   rcases List.mem_cons.mp hz with rfl|hz
   ·exact⟨vs,ha⟩
   ·exact hv.lists z hz
  have Z:Hid H' s.heap (a0::A):=by
   refine⟨λz hz=>?_,λz hz c dx fs q=>?_,λz hz b q=>?_,λz hz=>?_⟩
   ·obtain⟨us,q⟩:=lst z hz;exact⟨_,q,rfl⟩
   ·obtain⟨us,q'⟩:=lst z hz;rw[q]at q';cases q'
   ·obtain⟨us,q'⟩:=lst z hz;rw[q]at q';cases q'
   ·obtain⟨us,q'⟩:=lst z hz;obtain⟨_,its,m,_,e1⟩:=I.hok _ _ q';exact⟨_,e1,λv q=>by cases q⟩
  have J0:=I.hide Z;have hM:∀b,H' b=none->cut (a0::A) H' b=none:=λb q=>by unfold cut;split<;>first|rfl|exact q
  have stat:∀{pn:List (Addr×Obj)} {G:Hp},(∀b∈fp,G b=none)->(∀p∈pn,∀b∈fp,p.1≠b)->∀b∈fp,pO (cxA X N' scope a0 H2 s3 fp) pn G b:=λ{pn G} h1 h2 b hb =>
   ⟨h1 b hb,(I.ok.exf b hb).1,I.ok.exfs b hb,.inl hb,(I.ok.exf b hb).2,λp hp=>h2 p hp b hb⟩
  have pna:∀p∈([]:List (Addr×Obj))++du (a0::A) s.heap,∀b∈fp,p.1≠b:=λp hp b hb z=>by
   obtain⟨q1,_⟩:=jv (show p∈du (a0::A) s.heap from hp);obtain⟨us,q⟩:=lst _ q1;rw[z,hfn b hb]at q;cases q
  have sM:Same (msk U O H2) (cut (a0::A) H'):=msk_sub.trans sm;by_cases hlt:i<xs.length
  ·have ex:xs[i]?=some xs[i]:=by simp[hlt]
   have ed:xs.drop i=xs[i]::xs.drop (i+1):=List.drop_eq_getElem_cons hlt;obtain⟨go,yld⟩:=wk.go i _ _ sM ex;refine wpAny_mono (TT.item (cxA X N' scope a0 H2 s3 fp) rfl rfl rfl hcalm i _ s σ' _ (λ_ _=>False) J0 (stat (λb hb=>hM b (hfn b hb)) pna) tni go) (λr s1 zz0=>?_) λ_ _ z=>z;obtain⟨u,hr,h1⟩:=zz0;subst hr;refine thn h1 λ_ s5 zz1=>?_;obtain⟨x,H5,I5,r5,y5,t5,n5⟩:=zz1;obtain⟨s5',hx⟩:=yld x H5 y5;have hx5:Has X.K C (msk U O H5) x xs[i]:=hx U O (λb ob q=>by
    have h2:=r2.ownAt ob;cases q2:H2 b with
    | none=>exact h2 q2
    | some o=>rw[sm b o q2]at q;cases q) (aO sm)
   have r5':=r2.mono (sm.trans s5');obtain⟨re5,em5⟩:=AO (m:=n) r5' (σ':=σ') (by have q:=I5.len;rw[hrl];exact q.trans hN) hpre;have I5p:=I5.pinned (stat n5 pna) (TT.obj _ _ t5);rw[ed]at hc;unfold jg at hc;split at hc
   ·rename_i U1 eT;have ix0:∀j∈ix,(U.ext n).ad j=[]:=λj hj=>by
     have h2:=hix j hj;refine List.eq_nil_iff_forall_not_mem.mpr λb hb=>?_;have:=r2.bnd j b hb;omega
    refine thn (hg _ _ _ _ _ _ s5 σ' H5 x u (λO6 H6=>H6=H5/\∃β:RB,β.rho=U1/\(∀j:Nat,β.ad j=if j∈ix then[]else(U.ext n).ad j)/\bP C X H0 β O6 H5/\∀j:Nat,j∉ix->O6[j]?=σ'[j]?) I5p r5 ⟨_,H0,xs[i],U1,re5,by show Has _ _ (msk _ _ _) x _;rw[em5];exact hx5,eT,λO6 β q0 q3 q1 q2=>⟨rfl,β,q0,q3,q1,q2⟩⟩) λ_ s6 zz2=>?_;obtain⟨O6,H6,I6,eH,β,eβ,aβ,r6,p6⟩:=zz2;subst eH;subst eβ;have em6:msk β O6=msk U O:=(DU aβ ix0).trans em5;have pre6:∀j:Nat,j<U.rho.length->O6[j]?=O[j]?:=λj hj=>by
     rw[p6 j λz=>by have:=hix j z;omega];exact hpre j hj
    cases et:t β with
    | exc c=>rw[et]at hc;cases hc
    | bad=>rw[et]at hc;cases hc
    | val b =>
     rw[et]at hc;refine thn (ht _ _ _ _ _ _ s6 O6 H6 (λb' H7=>b'=b/\Same H6 H7) I6 ⟨β,⟨H0,r6⟩,by rw[et];exact λH7 q=>⟨rfl,q⟩⟩) λb' s7 zz3=>?_;obtain⟨H7,I7,eb,s67⟩:=zz3;subst eb;have fin:∀{s9:Shared} {H9:Hp} {vs':List V} {ds1' ds2':List D} {A':List Addr},Inv (cxA X N' scope a0 H2 s3 fp) (du fp s5.heap) O6 H9 s9 ->
       H9 a0=some (.lst vs')->Same H2 (cut (a0::A') H9)->TreP X.K C (msk U O (cut (a0::A') H9)) H9 (vs'.map λ_=>k) vs' ds1' A'->a0∉A'->jg T t e (xs.drop (i+1)) (U.rho++List.replicate n none)=.val ds2'->ds1'++ds2'=ds->vs'.length<=i+1 ->
       ∃m,m<xs.length+1-i/\CK C X (cxA X N' scope a0 H2 s3 fp) k T t e n a0 H2 O U fp tn xs ds m s9:=λ{s9 H9 vs' ds1' ds2' A'} I9 g1 g3 g4 g4' g5 g6 g7=>by
      refine⟨xs.length+1-(i+1),by omega,i+1,O6,H9,vs',ds1',ds2',A',rfl,hlt,I9.pins_of λp hp=>absurd hp (by simp),TT.keep _ _ _ t5 λb hb o eo=>(I9.pin (b,o) (List.mem_append_right _ (fS hb eo))).1,λb hb=>?_,pre6,g1,g3,g4,g4',g5,g6,g7⟩;obtain⟨o,eo,_⟩:=TT.obj _ _ t5 b hb;exact(I9.pin (b,o) (List.mem_append_right _ (fS hb eo))).2.1
     have h1pins:∀p∈du (a0::A) s.heap,p∈(([]:List (Addr×Obj))++du (a0::A) s.heap)++du fp s5.heap:=λp hp=>List.mem_append_left _ hp;have h2pins:∀p∈du fp s5.heap,p∈(([]:List (Addr×Obj))++du (a0::A) s.heap)++du fp s5.heap/\H' p.1=none:=λp hp=>⟨List.mem_append_right _ hp,hfn _ (jv hp).1⟩;have s57:Same (cut (a0::A) H') H7:=s5'.trans s67;have back:∀{G:Hp},Same (cut (a0::A) H') G->(∀z∈a0::A,G z=none)->Stay A H' (jn (a0::A) H' G):=λ{G} sG mz=>⟨λb hb o q=>by rw[jM (List.mem_cons_of_mem _ hb)];exact q,λb us q=>by
      have nb:b∉a0::A:=λhb=>by obtain⟨ws,q'⟩:=lst b hb;rw[q]at q';cases q'
      rw[b0 nb];exact sG b _ (cut_some.mpr ⟨nb,q⟩)⟩
     cases b' with
     | false =>
      rw[if_neg Bool.false_ne_true];obtain⟨I8,mz⟩:=I.showG Z I7 h1pins h2pins;have eJ:cut (a0::A) (jn (a0::A) H' H7)=H7:=by
       funext b
       by_cases hb:b∈a0::A
       ·rw[gj hb,mz b hb]
       ·unfold cut;rw[if_neg hb,b0 hb]
      exact fin (A':=A) I8 (by rw[jM List.mem_cons_self];exact ha) (by rw[eJ];exact sm.trans s57) (by rw[eJ];exact hv.stay (aO s57) (back s57 mz)) hnA hc hds (Nat.le_succ_of_le hvl)
     | true =>
      rw[if_pos rfl];cases ee:e β with
      | exc c=>rw[ee]at hc;cases hc
      | bad=>rw[ee]at hc;cases hc
      | val d =>
       rw[ee]at hc;refine thn (he _ _ _ _ _ _ s7 O6 H7 (λy H8=>∃B,Same H7 H8/\(∀b∈B,H7 b=none)/\Tre X.K C (cut B (msk U O H8)) H8 k y d B) I7 ⟨β,⟨H0,r6.mono s67⟩,by rw[ee];exact λy H8 B q1 q2 q3=>⟨B,q1,q2,by rw[<- em6];exact q3⟩⟩) λyv s8 zz4=>?_;obtain⟨y,H8,I8,ry,B,s78,hB,hy⟩:=zz4;obtain⟨I9,mz⟩:=I.showG Z I8 h1pins h2pins;have s8':Same (cut (a0::A) H') H8:=s57.trans s78;cases ec:jg T t e (xs.drop (i+1)) (U.rho++List.replicate n none)with
       | exc c=>simp only[noE,DL.R.bind,ec,if_true]at hc;cases hc
       | bad=>simp only[noE,DL.R.bind,ec,if_true]at hc;cases hc
       | val ds3 =>
        simp only[noE,DL.R.bind,ec,if_true]at hc;cases hc;refine thn (gT _ s8 O6 _ (.ref a0) [y] (.ref a0) [yv] (λ_ H9=>H9=upd (jn (a0::A) H' H8) a0 (.lst (vs++[y]))) I9 rfl (.cons ry .nil)
         ⟨_,vs,y,rfl,rfl,by rw[jM List.mem_cons_self];exact ha,DX (by omega),rfl⟩) λ_ s9 ⟨_,H9,I10,_,eH9⟩=>?_
        have lB:∀b∈B,b∉a0::A:=λb hb hz=>by
         obtain⟨us,q⟩:=hy.lists b hb;rw[mz b hz]at q;cases q
        have at9:∀b,b≠a0->H9 b=jn (a0::A) H' H8 b:=λb hb=>by rw[eH9,aw hb]
        have eJ:∀A',(∀b,b∈A'↔b∈A\/b∈B)->cut (a0::A') H9=cut B H8:=λA' hA'=>by
         funext b
         by_cases hb:b∈a0::A
         ·have:b∈a0::A':=by
           rcases List.mem_cons.mp hb with z|z
           ·exact z▸List.mem_cons_self
           ·exact List.mem_cons_of_mem _ ((hA' b).mpr (.inl z))
          rw[gj this];unfold cut;split
          ·rfl
          ·exact(mz b hb).symm
         ·have nb:b≠a0:=λz=>hb (z▸List.mem_cons_self);by_cases hb2:b∈B
          ·rw[gj hb2,gj (List.mem_cons_of_mem _ ((hA' b).mpr (.inr hb2)))]
          ·have:b∉a0::A':=λz=>by
            rcases List.mem_cons.mp z with z|z
            ·exact nb z
            ·rcases(hA' b).mp z with z|z
             ·exact hb (List.mem_cons_of_mem _ z)
             ·exact hb2 z
           unfold cut;rw[if_neg this,if_neg hb2,at9 b nb,b0 hb]
        have sB:Same (cut (a0::A) H') (cut B H8):=λb o q=>cut_some.mpr ⟨λhb=>absurd (hB b hb) (by rw[s57 b o q];exact λz=>by cases z),s8' b o q⟩;have st1:Stay A H' H9:=by
         refine⟨λb hb o q=>?_,λb us q=>?_⟩
         ·rw[at9 b λz=>hnA (z▸hb)];exact(back s8' mz).at_ b hb o q
         ·rw[at9 b λz=>by rw[z,ha]at q;cases q];exact(back s8' mz).tup b us q
        have st2:Stay B H8 H9:=by
         refine⟨λb hb o q=>?_,λb us q=>?_⟩
         ·rw[at9 b λz=>lB b hb (z▸List.mem_cons_self),b0 (lB b hb)];exact q
         ·have nb:b∉a0::A:=λhz=>by rw[mz b hz]at q;cases q
          rw[at9 b λz=>nb (z▸List.mem_cons_self),b0 nb];exact q
        have g1:TreP X.K C (msk U O (cut B H8)) H9 (vs.map λ_=>k) vs ds1 A:=hv.stay (aO sB) st1;have g2:Tre X.K C (msk U O (cut B H8)) H9 k y d B:=hy.stay (by rw[km];exact Same.refl _) st2;obtain⟨A',hA',g3⟩:=TreP.app g2 g1 λb hb hb2=>lB b hb2 (List.mem_cons_of_mem _ hb);refine fin (A':=A') (vs':=vs++[y]) (ds1':=ds1++[d]) (ds2':=ds3) I10 (by rw[eH9];exact aF) (by rw[eJ A' hA'];exact sm.trans sB) (by rw[eJ A' hA',List.map_append];exact g3) (λz=>?_) ec (by rw[<- hds];simp) (by rw[List.length_append,List.length_singleton];omega);rcases(hA' a0).mp z with z|z
        ·exact hnA z
        ·exact lB a0 z List.mem_cons_self
   ·cases hc
  ·have ei:i=xs.length:=by omega
   subst ei;rw[List.drop_length]at hc;cases hc;rw[List.append_nil]at hds;subst hds;refine wpAny_mono (TT.done (cxA X N' scope a0 H2 s3 fp) rfl rfl rfl hcalm xs.length _ s σ' _ (λ_ _=>False) J0 (stat (λb hb=>hM b (hfn b hb)) pna) tni (wk.stop _ sM)) (λr s1 zz5=>?_) λ_ _ z=>z;obtain⟨hr,I1⟩:=zz5;subst hr;obtain⟨Ie,_⟩:=I.show' Z I1;have eH:jn (a0::A) H' (cut (a0::A) H')=H':=by
    funext b
    by_cases hb:b∈a0::A
    ·rw[jM hb]
    ·rw[b0 hb];unfold cut;rw[if_neg hb]
   rw[eH]at Ie;have IX:Inv X pins O H' s1:=I3.call' Ie.os Ie.base Ie.hok Ie.bare λb hb=>⟨(f3 b hb).2.2.2.1,(f3 b hb).2.1,(f3 b hb).2.2.2.2.1,(f3 b hb).2.2.2.2.2⟩;obtain⟨m,hm,_⟩:=Ie.loc;refine hR _ _ vs A H' s1 sm (λb hb=>bR sm (gj hb)) ha hnA hv IX Ie.free (Nat.ne_of_gt I3.lt) I3.sz (λx c q z=>?_) (λp hp z=>?_) ⟨m,hm⟩
   ·obtain⟨v,q⟩:=I3.cell x c q;exact absurd (z▸q.lt) (Nat.lt_irrefl _)
   ·exact absurd (z▸Heap.lt_size (I3.pin p hp).1) (Nat.lt_irrefl _)
 exact codeAny_compStart_list (loop _ rfl) (TT.self X.A 0 _ _ _ t4' (loop _ rfl))
end DL
namespace DL
open PySem PySem.Spec PyProof.Rows L2
variable {C:Addr} {X:Cx}
def be (src:Rho->R (List D)) (n:Nat) (T:D->Rho->Option Rho) (t:Rho->R Bool) (e:Rho->R D):Rho->R (List D):=λU=>(src U).bind λxs=>if xs.length<=LIM then noE (jg T t e xs (U++List.replicate n none))else .bad
variable {k:OK}
theorem tY {src:Rho->R (List D)} {n:Nat} {T:D->Rho->Option Rho} {t:Rho->R Bool} {e:Rho->R D} {O:St} {H:Hp} {Q:VK} {U:RB} {H0:Hp} (r:bP C X H0 U O H) (q:pK C X (.l k) U (eLs (be src n T t e) U) O H Q) :
  itI C X src O H λJ H2=>∃xs ds,Same H H2/\bP C X H0 U O H2/\rY X.K C J xs (msk U O H2)/\xs.length<=LIM/\jg T t e xs (U.rho++List.replicate n none)=.val ds/\∀v H' A,Same H2 H'->(∀a∈A,H2 a=none)->Tre X.K C (cut A (msk U O H')) H' (.l k) v (.lst ds) A->Q v H':=by
 refine⟨U,⟨H0,r⟩,?_⟩;unfold eLs DW be at q;cases es:src U with
 | exc c=>rw[es]at q;exact q
 | bad=>rw[es]at q;exact q
 | val xs =>
  rw[es]at q;intro J H2 s2 wk;simp only[DL.R.bind]at q;by_cases hl:xs.length<=LIM
  ·rw[if_pos hl]at q;cases ec:jg T t e xs (U.rho++List.replicate n none)with
   | val ds=>rw[ec]at q;exact⟨xs,ds,s2,r.mono s2,wk,hl,ec,λv H' A s1 h1 h2=>q v H' A (s2.trans s1) (λa ha=>bR s2 (h1 a ha)) h2⟩
   | exc c=>rw[ec]at q;exact q.elim
   | bad=>rw[ec]at q;exact q.elim
  ·rw[if_neg hl]at q;exact q.elim
variable {F:Rho->R (List D)}
theorem Co {O:St} {H:Hp} {Q:VK} (h:teF C X F O H Q):teK C X (.l .s) (eLs F) O H Q:=by
 obtain⟨U,⟨H0,r⟩,q⟩:=h;refine⟨U,⟨H0,r⟩,?_⟩;unfold eLs;cases e:F U with
 | val xs =>
  rw[e]at q;intro v H' A s1 hA h1;cases h1 with
  | @l _ a vs _ _ ha hp _ =>
   obtain⟨eA,hl⟩:=hp.flat;subst eA;have q2:=q a vs (cut [a] H') (λb o eb=>cut_some.mpr ⟨λhb=>Option.some_ne_none _ (eb.symm.trans (hA b hb)),s1 b o eb⟩) (gj (List.mem_singleton.mpr rfl)) (by show HasL _ _ (msk U O _) vs xs;rw[km];exact hl);rw[An ha]at q2;exact q2
 | exc c=>rw[e]at q;exact q
 | bad=>rw[e]at q;exact q
variable {i:Nat} {st:Stmt}
section
variable {tg elt iter:Expr} {ifs:List Expr} {scope:Scope} {pos:Pos} {N':List Str} {ix:List Nat} {T:D->Rho->Option Rho} {t:Rho->R Bool} {e:Rho->R D} {n:Nat} {src:Rho->R (List D)}
theorem qk (hchk:vh X.N N' X.env scope=true):(∀x,(x,NameKind.free)∈scope.names->kc (X.env.kindOf x)=true)/\scope.kind=.function/\∀x∈scope.names,x.2=.local->scope.names.lookup x.1=some .local:=by
 obtain⟨c1,hchk⟩:=Bool.and_eq_true_iff.mp hchk;obtain⟨c2,hchk⟩:=Bool.and_eq_true_iff.mp hchk;obtain⟨c3,hchk⟩:=Bool.and_eq_true_iff.mp hchk;obtain⟨c4,c5⟩:=Bool.and_eq_true_iff.mp hchk;refine⟨λx hx=>rL c2 hx,?_,λx hx hl=>?_⟩
 ·revert c5;cases scope.kind<;>simp
 ·obtain⟨n,k⟩:=x;have hl:k=.local:=hl;subst hl;exact mN c3 hx (.inl rfl)
theorem we (hcalm:X.calm=true) (hchk:vh X.N N' X.env scope=true) (hN:N'.length=X.N.length+n) (hix:∀j∈ix,X.N.length<=j) (hi:ID C X tg iter src)
  (hg:∀L cs s H fp,GD C (cxC X N' scope L cs s H fp) tg ix T) (ht:∀L cs s H fp,uc C (cxC X N' scope L cs s H fp) ifs t) (he:∀L cs s H fp,KD C (cxC X N' scope L cs s H fp) k elt e)
  (hs:∀x,foldedSetIterable iter X.env x=pure x:=by intro _;rfl):KD C X (.l k) (.ListComp elt [⟨tg,iter,ifs,0⟩] scope pos) (eLs (be src n T t e)):=by
 rintro pins s O H Q I ⟨U,⟨H0,r⟩,q⟩;obtain⟨c2,hkind,hnames⟩:=qk hchk;rw[eval_ListComp];refine wpAny_comprehension_free (use:=none) rfl hs (wK λx hx=>I.ok.has x (q_ (c2 x hx))) hkind hnames ?_;show wpAny _ _ (eval iter X.env) _ _ s;refine thn (hi pins s O H _ I (tY r q)) λv s1 h1=>thn h1 λitv s2 zz0=>?_;obtain⟨it,fp,tn,J,H2,ei,I2,TT,t0,f2,xs,ds,s2',r2,wk,hl,hd,hq⟩:=zz0;subst ei;refine oB (R:=λacc L=>compPost (model X.prog X.w) X.A X.xe none (EP X pins O Q) acc L) hcalm hchk hN hix hg ht he I2 r2 TT t0 f2 wk hl hd ?_;rintro a L vs A H' s1 sf hA ha hn hv IX uL lne lsz lc lp ⟨m,hm⟩;refine⟨m,hm,λh' hs'=>⟨.ref a,_,IX.turned (t':=s1.toks) (λb o hb eo=>(hs'.2 b hb).trans eo) uL lne (.inr lsz) lc lp,rfl,hq _ H' (a::A) (sf.trans mM) hA (.l ha (by rw[<- km];exact hv) hn)⟩⟩
theorem bn (hcalm:X.calm=true) (hchk:vh X.N N' X.env scope=true) (hN:N'.length=X.N.length+n) (hix:∀j∈ix,X.N.length<=j) (tk:Ck ix T) (hi:ID C X tg iter src)
  (hg:∀L cs s H fp,GD C (cxC X N' scope L cs s H fp) tg ix T) (ht:∀L cs s H fp,uc C (cxC X N' scope L cs s H fp) ifs t) (he:∀L cs s H fp,ED C (cxC X N' scope L cs s H fp) elt e)
  (hs:∀x,foldedSetIterable iter X.env x=pure x:=by intro _;rfl):FD C X (.ListComp elt [⟨tg,iter,ifs,0⟩] scope pos) (be src n T t e) :=
 aD (we hcalm hchk hN hix hi hg ht (λL cs s H fp=>wd (he L cs s H fp)) hs) λO H Q h=>Co h
theorem lI {y:Str} {py spos:Pos} (hy:PG X (.Name y py) (gy i)) (hcalm:X.calm=true) (hchk:vh X.N N' X.env scope=true) (hN:N'.length=X.N.length+n) (hix:∀j∈ix,X.N.length<=j) (hi:ID C X tg iter src)
  (hg:∀L cs s H fp,GD C (cxC X N' scope L cs s H fp) tg ix T) (ht:∀L cs s H fp,uc C (cxC X N' scope L cs s H fp) ifs t) (he:∀L cs s H fp,KD C (cxC X N' scope L cs s H fp) k elt e)
  (hsw:swapsWith (.ListComp elt [⟨tg,iter,ifs,0⟩] scope pos) (some (.Name y py)) spos.line X.env=pure true)
  (hs:∀x,foldedSetIterable iter X.env x=pure x:=by intro _;rfl):PS X (.Assign [.Name y py] (.ListComp elt [⟨tg,iter,ifs,0⟩] scope pos) spos) (uo (teK C X (.l k) (eLs (be src n T t e))) (gy i)):=by
 rintro pins s O H Dn I ⟨U,⟨H0,r⟩,q⟩;obtain⟨c2,hkind,hnames⟩:=qk hchk;rw[exec_Assign_Name_used _ _ _ _ hsw];refine wpAny_bind (wpAny_standAt (wpAny_bind ?_));show wpAny _ _ (do let _ <- comprehension (.ListComp elt [⟨tg,iter,ifs,0⟩] scope pos) scope X.env _ (newList []) false (eval iter X.env) (some (assign (.Name y py) X.env))) _ _ s;refine wpAny_bind (wpAny_mono (wpAny_comprehension_free (use:=some (assign (.Name y py) X.env)) (Q:=λ_ s'=>SP X pins Dn .next s') rfl hs (wK λx hx=>I.ok.has x (q_ (c2 x hx))) hkind hnames ?_) (λ_ s' hq=>wpAny_pure (wpAny_pure hq)) λ_ _ z=>z);refine thn (hi pins s O H _ I (tY r q)) λv s1 h1=>thn h1 λitv s2 zz1=>?_;obtain⟨it,fp,tn,J,H2,ei,I2,TT,t0,f2,xs,ds,s2',r2,wk,hl,hd,hq⟩:=zz1;subst ei;refine oB (R:=λacc L=>compPost (model X.prog X.w) X.A X.xe (some (assign (.Name y py) X.env)) (λ_ s'=>SP X pins Dn .next s') acc L) hcalm hchk hN hix hg ht he I2 r2 TT t0 f2 wk hl hd ?_;rintro a L vs A H' s1 sf hA ha hn hv IX uL lne lsz lc lp ⟨m,hm⟩;obtain⟨oL,esL,epL,eoL,edL,restL⟩:=id hm;have nfs:L∉X.fs:=λz=>by
  obtain⟨_,o,ho,_⟩:=I.ok.funs.mem z;exact absurd (Nat.lt_of_lt_of_le (Heap.lt_size ho) lsz) (Nat.lt_irrefl _)
 have IP:Inv X (pins++[(L,oL)]) O H' s1:=IX.pins_of λp hp=>by
  rcases List.mem_append.mp hp with hp|hp
  ·exact IX.pin p (List.mem_append_right _ hp)
  ·have:p=(L,oL):=by simpa using hp
   subst this;exact⟨eoL,uL,lne,nfs,λv z=>by rw[edL]at z;cases z⟩
 show wpAny _ _ (assign (.Name y py) X.env (.ref a)) _ _ s1;refine thn (hy _ s1 O _ (.ref a) (.ref a) Dn.nx IP rfl (hq _ H' (a::A) (sf.trans mM) hA (.l ha (by rw[<- km];exact hv) hn))) λ_ s2 zz2=>?_;obtain⟨σ',H',I',qn⟩:=zz2;have pL:=I'.pin (L,oL) (List.mem_append_right _ (List.mem_append_right _ (by simp)));have I'':Inv X pins σ' H' s2:=I'.unpinned;refine⟨m,⟨oL,esL,epL,pL.1,edL,restL⟩,λh' hs'=>⟨σ',H',I''.turned (t':=s2.toks) (λb o hb eo=>(hs'.2 b hb).trans eo) pL.2.1 lne (.inr lsz) lc lp,qn⟩⟩
theorem nc {y:Str} {py spos:Pos} (hy:PG X (.Name y py) (gy i)) (hcalm:X.calm=true) (hchk:vh X.N N' X.env scope=true) (hN:N'.length=X.N.length+n) (hix:∀j∈ix,X.N.length<=j) (tk:Ck ix T) (hi:ID C X tg iter src)
  (hg:∀L cs s H fp,GD C (cxC X N' scope L cs s H fp) tg ix T) (ht:∀L cs s H fp,uc C (cxC X N' scope L cs s H fp) ifs t) (he:∀L cs s H fp,ED C (cxC X N' scope L cs s H fp) elt e)
  (hsw:swapsWith (.ListComp elt [⟨tg,iter,ifs,0⟩] scope pos) (some (.Name y py)) spos.line X.env=pure true)
  (hs:∀x,foldedSetIterable iter X.env x=pure x:=by intro _;rfl):PS X (.Assign [.Name y py] (.ListComp elt [⟨tg,iter,ifs,0⟩] scope pos) spos) (uo (teF C X (be src n T t e)) (gy i)) :=
 aW (lI hy hcalm hchk hN hix hi hg ht (λL cs s H fp=>wd (he L cs s H fp)) hsw hs) λD O H h=>Co h
theorem AG {F:Rho->R D} (h:PS X st (uo (teK C X k F) (gy i))):SD C X st (trS i k F) :=
  aW h λD O H yy=>by
   obtain⟨_,H0,⟨U,rfl,r⟩,q⟩:=yy;exact⟨U,⟨H0,r⟩,by
    unfold trS at q;cases z:F U with
    | val d=>rw[z]at q;exact λv H' A s hA h=>q _ _ ⟨_,rfl,r.setTre s hA h⟩
    | exc c=>rw[z]at q;exact cW r q
    | bad=>rw[z]at q;exact q⟩
theorem AH (h:PS X st (uo (teF C X F) (gy i))):SD C X st (asg i (eLs F)) :=
  aW h λD O H yy0=>by
   obtain⟨_,H0,⟨U,rfl,r⟩,q⟩:=yy0;exact⟨U,⟨H0,r⟩,by
    unfold asg eLs DW at q;cases e:F U with
    | val xs =>
      rw[e]at q;exact λa vs H1 s1 hn h1=>q _ _ ⟨_,rfl,(r.mono (s1.trans (aA hn))).setShr (.lst ((r.mono s1).new hn) (h1.mono (aO (aA hn))))⟩
    | exc c=>rw[e]at q;exact cW r q
    | bad=>rw[e]at q;exact q⟩
theorem AJ (h:PS X st (uo (teF C X F) (gy i))):SD C X st (own i F) :=
  aW h λD O H yy1=>by
   obtain⟨_,H0,⟨U,rfl,r⟩,q⟩:=yy1;exact⟨U,⟨H0,r⟩,by
    unfold own at q;cases e:F U with
    | val xs =>
      rw[e]at q;exact λa vs H1 s1 hn h1=>q _ _ ⟨_,rfl,(r.mono s1).setOwn hn h1⟩
    | exc c=>rw[e]at q;exact cW r q
    | bad=>rw[e]at q;exact q⟩
end
end DL
namespace DL
open PySem PySem.Spec PyProof.Rows L2
def eqb:Nat->D->Bool
 | _,.non=>true
 | _,.bl _=>true
 | _,.int _=>true
 | n+1,.lst xs=>xs.all (eqb n)
 | n+1,.tup xs=>xs.all (eqb n)
 | _,_=>false
def pyq:Nat->D->D->Bool
 | _,.non,.non=>true
 | _,.bl a,.bl b=>a==b
 | _,.bl a,.int b=>(if a then 1 else 0)==b
 | _,.int a,.bl b=>a==(if b then 1 else 0)
 | _,.int a,.int b=>a==b
 | n+1,.lst xs,.lst ys=>decide (xs.length=ys.length)&&(List.range xs.length).all λj=>pyq n (xs.getD j .non) (ys.getD j .non)
 | n+1,.tup xs,.tup ys=>decide (xs.length=ys.length)&&(List.range xs.length).all λj=>pyq n (xs.getD j .non) (ys.getD j .non)
 | _,_,_=>false
theorem qL (n:Nat) (xs ys:List D):pyq (n+1) (.lst xs) (.lst ys)=(decide (xs.length=ys.length)&&(List.range xs.length).all λj=>pyq n (xs.getD j .non) (ys.getD j .non)):=rfl
theorem qK (n:Nat) (xs ys:List D):pyq (n+1) (.tup xs) (.tup ys)=(decide (xs.length=ys.length)&&(List.range xs.length).all λj=>pyq n (xs.getD j .non) (ys.getD j .non)):=rfl
section
variable {K:Frag} {C:Addr} {H:Hp}
theorem HasL.inj {n:Nat} (ih:∀{v:V} {x y:D},eqb n x=true->eqb n y=true->Has K C H v x->Has K C H v y->x=y):∀{vs:List V} {xs ys:List D},xs.all (eqb n)=true->ys.all (eqb n)=true->HasL K C H vs xs->HasL K C H vs ys->xs=ys
 | _,_,_,_,_,.nil,.nil=>rfl
 | _,_,_,h1,h2,.cons a b,.cons c d=>by
  rw[List.all_cons,Bool.and_eq_true]at h1 h2;rw[ih h1.1 h2.1 a c,HasL.inj ih h1.2 h2.2 b d]
theorem Has.inj:∀{n:Nat} {v:V} {x y:D},eqb n x=true->eqb n y=true->Has K C H v x->Has K C H v y->x=y:=by
 intro n
 induction n with
 | zero =>
  intro v x y h1 h2 a b;cases a<;>cases b<;>first|rfl|cases h1|cases h2
 | succ n ih =>
  intro v x y h1 h2 a b;cases a with
  | non=>cases b;rfl
  | bl _=>cases b;rfl
  | int _=>cases b;rfl
  | lst e1 g1 =>
   cases b with
   | lst e2 g2=>rw[e1]at e2;cases e2;rw[HasL.inj ih h1 h2 g1 g2]
   | tup e2 g2=>rw[e1]at e2;cases e2
   | ob _ _ _ _=>cases h2
   | scr _=>cases h2
   | exn _=>cases h2
  | tup e1 g1 =>
   cases b with
   | tup e2 g2=>rw[e1]at e2;cases e2;rw[HasL.inj ih h1 h2 g1 g2]
   | lst e2 g2=>rw[e1]at e2;cases e2
   | ob _ _ _ _=>cases h2
   | scr _=>cases h2
   | exn _=>cases h2
  | ob _ _ _ _=>cases h1
  | scr _=>cases h1
  | exn _=>cases h1
theorem sI:∀{n:Nat} {x:D},eqb n x=true->pyq n x x=true:=by
 intro n
 induction n with
 | zero =>
  intro x h;cases x with
  | non=>rfl
  | bl b=>exact beq_self_eq_true _
  | int b=>exact beq_self_eq_true _
  | _=>cases h
 | succ n ih =>
  intro x h;cases x with
  | non=>rfl
  | bl b=>exact beq_self_eq_true _
  | int b=>exact beq_self_eq_true _
  | lst xs =>
   rw[qL];simp only[decide_true,Bool.true_and,List.all_eq_true,List.mem_range];intro j hj;have h:xs.all (eqb n)=true:=h;rw[List.all_eq_true]at h;have e:xs.getD j .non=xs[j]:=by simp[List.getD,List.getElem?_eq_getElem hj]
   rw[e];exact ih (h _ (List.getElem_mem hj))
  | tup xs =>
   rw[qK];simp only[decide_true,Bool.true_and,List.all_eq_true,List.mem_range];intro j hj;have h:xs.all (eqb n)=true:=h;rw[List.all_eq_true]at h;have e:xs.getD j .non=xs[j]:=by simp[List.getD,List.getElem?_eq_getElem hj]
   rw[e];exact ih (h _ (List.getElem_mem hj))
  | ob _ _ _=>cases h
  | scr _=>cases h
  | exn _=>cases h
end
variable {X:Cx} {C:Addr} {H:Hp} {s:Shared} {vs:List V}
open SeqAt in
theorem CJ {n:Nat} {A:Around} {xs ys:List D} {ws:List V} {its its2:List Value}
  (ih:∀{x y:D} {v w:V} {u t:Value},eqb n x=true->eqb n y=true->Has X.K C H v x->Has X.K C H w y->RelV v u->RelV w t->EqAt A s u t (pyq n x y))
  (h1:∀x∈xs,eqb n x=true) (h2:∀x∈ys,eqb n x=true) (g1:HasL X.K C H vs xs) (g2:HasL X.K C H ws ys) (r:Vals vs its) (r2:Vals ws its2) (j:Nat) (h1':j<its.toArray.size) (h2':j<its2.toArray.size) :
  EqAt A s its.toArray[j] its2.toArray[j] (pyq n (xs.getD j .non) (ys.getD j .non)):=by
 have j1:j<xs.length:=by rw[<- g1.len,r.length];exact h1'
 have j2:j<ys.length:=by rw[<- g2.len,r2.length];exact h2'
 obtain⟨vj,ev,hv⟩:=g1.get (List.getElem?_eq_getElem j1);obtain⟨wj,ew,hw⟩:=g2.get (List.getElem?_eq_getElem j2);obtain⟨uj,eu,ruj⟩:=r.get ev;obtain⟨tj,et,rtj⟩:=r2.get ew;have eu':its.toArray[j]=uj:=(List.getElem?_eq_some_iff.mp eu).2;have et':its2.toArray[j]=tj:=(List.getElem?_eq_some_iff.mp et).2;have ex:xs.getD j .non=xs[j]:=by rw[List.getD,List.getElem?_eq_getElem j1];rfl
 have ey:ys.getD j .non=ys[j]:=by rw[List.getD,List.getElem?_eq_getElem j2];rfl
 rw[eu',et',ex,ey];exact ih (h1 _ (List.getElem_mem j1)) (h2 _ (List.getElem_mem j2)) hv hw ruj rtj
variable {pins:List (Addr×Obj)} {O:St}
open SeqAt in
theorem iG (I:Inv X pins O H s):∀(n:Nat) {A:Around} {x y:D} {v w:V} {u t:Value},A.units+n<cLine->eqb n x=true->eqb n y=true->Has X.K C H v x->Has X.K C H w y->RelV v u->RelV w t ->
  RcAt A s u t (pyq n x y)/\EqAt A s u t (pyq n x y)/\RcNeAt A s u t (!pyq n x y):=by
 intro n
 induction n with
 | zero =>
  intro A x y v w u t hu h1 h2 a b ru rt;cases a with
  | non =>
   cases ru;cases b with
   | non=>cases rt;exact⟨RcAt.none_none,EqAt.same _,RcNeAt.none_none⟩
   | bl _=>cases rt;exact⟨RcAt.none_bool _,EqAt.none_bool _,RcNeAt.none_bool _⟩
   | int _=>obtain⟨_,rfl⟩:=rt;exact⟨RcAt.none_int _ _,EqAt.none_int _ _,RcNeAt.none_int _ _⟩
   | _=>cases h2
  | bl _ =>
   cases ru;cases b with
   | non=>cases rt;exact⟨RcAt.bool_none _,EqAt.bool_none _,RcNeAt.bool_none _⟩
   | bl _=>cases rt;exact⟨RcAt.bool_bool _ _,EqAt.bool_bool _ _,RcNeAt.bool_bool _ _⟩
   | int _=>obtain⟨_,rfl⟩:=rt;exact⟨RcAt.bool_int _ _ _,EqAt.bool_int _ _ _,RcNeAt.bool_int _ _ _⟩
   | _=>cases h2
  | int _ =>
   obtain⟨_,rfl⟩:=ru;cases b with
   | non=>cases rt;exact⟨RcAt.int_none _ _,EqAt.int_none _ _,RcNeAt.int_none _ _⟩
   | bl _=>cases rt;exact⟨RcAt.int_bool _ _ _,EqAt.int_bool _ _ _,RcNeAt.int_bool _ _ _⟩
   | int _=>obtain⟨_,rfl⟩:=rt;exact⟨RcAt.int_int _ _ _ _,EqAt.int_int _ _ _ _,RcNeAt.int_int _ _ _ _⟩
   | _=>cases h2
  | _=>cases h1
 | succ n ih =>
  intro A x y v w u t hu h1 h2 a b ru rt;have hA:A.units<cLine:=by omega
  have hin:A.in1.units+n<cLine:=by show A.units+1+n<cLine;omega
  cases a with
  | non =>
   cases ru;cases b with
   | non=>cases rt;exact⟨RcAt.none_none,EqAt.same _,RcNeAt.none_none⟩
   | bl _=>cases rt;exact⟨RcAt.none_bool _,EqAt.none_bool _,RcNeAt.none_bool _⟩
   | int _=>obtain⟨_,rfl⟩:=rt;exact⟨RcAt.none_int _ _,EqAt.none_int _ _,RcNeAt.none_int _ _⟩
   | lst e2 g2=>cases rt;obtain⟨its,r,p,_⟩:=I.list (SqL.of e2);exact⟨RcAt.none_list p.isList hA,EqAt.none_list p.isList hA,RcNeAt.none_list p.isList hA⟩
   | tup e2 g2=>cases rt;obtain⟨its,r,p,_⟩:=I.tuple (SqT.of e2);exact⟨RcAt.none_tuple p hA,EqAt.none_tuple p hA,RcNeAt.none_tuple p hA⟩
   | _=>cases h2
  | bl _ =>
   cases ru;cases b with
   | non=>cases rt;exact⟨RcAt.bool_none _,EqAt.bool_none _,RcNeAt.bool_none _⟩
   | bl _=>cases rt;exact⟨RcAt.bool_bool _ _,EqAt.bool_bool _ _,RcNeAt.bool_bool _ _⟩
   | int _=>obtain⟨_,rfl⟩:=rt;exact⟨RcAt.bool_int _ _ _,EqAt.bool_int _ _ _,RcNeAt.bool_int _ _ _⟩
   | lst e2 g2=>cases rt;obtain⟨its,r,p,_⟩:=I.list (SqL.of e2);exact⟨RcAt.bool_list _ p.isList hA,EqAt.bool_list _ p.isList hA,RcNeAt.bool_list _ p.isList hA⟩
   | tup e2 g2=>cases rt;obtain⟨its,r,p,_⟩:=I.tuple (SqT.of e2);exact⟨RcAt.bool_tuple _ p hA,EqAt.bool_tuple _ p hA,RcNeAt.bool_tuple _ p hA⟩
   | _=>cases h2
  | int _ =>
   obtain⟨_,rfl⟩:=ru;cases b with
   | non=>cases rt;exact⟨RcAt.int_none _ _,EqAt.int_none _ _,RcNeAt.int_none _ _⟩
   | bl _=>cases rt;exact⟨RcAt.int_bool _ _ _,EqAt.int_bool _ _ _,RcNeAt.int_bool _ _ _⟩
   | int _=>obtain⟨_,rfl⟩:=rt;exact⟨RcAt.int_int _ _ _ _,EqAt.int_int _ _ _ _,RcNeAt.int_int _ _ _ _⟩
   | lst e2 g2=>cases rt;obtain⟨its,r,p,_⟩:=I.list (SqL.of e2);exact⟨RcAt.int_list _ _ p.isList hA,EqAt.int_list _ _ p.isList hA,RcNeAt.int_list _ _ p.isList hA⟩
   | tup e2 g2=>cases rt;obtain⟨its,r,p,_⟩:=I.tuple (SqT.of e2);exact⟨RcAt.int_tuple _ _ p hA,EqAt.int_tuple _ _ p hA,RcNeAt.int_tuple _ _ p hA⟩
   | _=>cases h2
  | @lst la vs xs e1 g1 =>
   cases ru;obtain⟨its,r,p,_⟩:=I.list (SqL.of e1);cases b with
   | non=>cases rt;exact⟨RcAt.list_none p.isList hA,EqAt.list_none p.isList hA,RcNeAt.list_none p.isList hA⟩
   | bl _=>cases rt;exact⟨RcAt.list_bool _ p.isList hA,EqAt.list_bool _ p.isList hA,RcNeAt.list_bool _ p.isList hA⟩
   | int _=>obtain⟨_,rfl⟩:=rt;exact⟨RcAt.list_int _ _ p.isList hA,EqAt.list_int _ _ p.isList hA,RcNeAt.list_int _ _ p.isList hA⟩
   | tup e2 g2=>cases rt;obtain⟨its2,r2,p2,_⟩:=I.tuple (SqT.of e2);exact⟨RcAt.list_tuple p.isList p2 hA,EqAt.list_tuple p.isList p2 hA,RcNeAt.list_tuple p.isList p2 hA⟩
   | @lst lb ws ys e2 g2 =>
    cases rt;obtain⟨its2,r2,p2,_⟩:=I.list (SqL.of e2);have l1:its.length=xs.length:=by rw[<- r.length,g1.len]
    have l2:its2.length=ys.length:=by rw[<- r2.length,g2.len]
    have el:=CJ (A:=A.in1) (s:=s) (λa b c d e f=>(ih hin a b c d e f).2.1) (List.all_eq_true.mp h1) (List.all_eq_true.mp h2) g1 g2 r r2;have rc:RcAt A s (.ref la) (.ref lb) (pyq (n+1) (.lst xs) (.lst ys)):=by
     rw[qL];by_cases hl:xs.length=ys.length
     ·have q:=RcAt.lists (A:=A) (s:=s) (e:=λj=>pyq n (xs.getD j .non) (ys.getD j .non)) p.isList p2.isList (by simp[l1,l2,hl]) hA el;have es:its.toArray.size=xs.length:=by simp[l1]
      rw[es]at q;rw[decide_eq_true hl,Bool.true_and];exact q
     ·rw[decide_eq_false hl,Bool.false_and];exact RcAt.lists_lengths p.isList p2.isList (by simp[l1,l2,hl]) hA
    have rn:RcNeAt A s (.ref la) (.ref lb) (!pyq (n+1) (.lst xs) (.lst ys)):=by
     rw[qL];by_cases hl:xs.length=ys.length
     ·have q:=RcNeAt.lists (A:=A) (s:=s) (e:=λj=>pyq n (xs.getD j .non) (ys.getD j .non)) p.isList p2.isList (by simp[l1,l2,hl]) hA el;have es:its.toArray.size=xs.length:=by simp[l1]
      rw[es]at q;rw[decide_eq_true hl,Bool.true_and];exact q
     ·rw[decide_eq_false hl,Bool.false_and];exact RcNeAt.lists_lengths p.isList p2.isList (by simp[l1,l2,hl]) hA
    refine⟨rc,?_,rn⟩;by_cases hab:la=lb
    ·subst hab;have:=Has.inj h1 h2 (.lst e1 g1) (.lst e2 g2);rw[this,sI h2];exact EqAt.same _
    ·exact EqAt.of_refs hab rc
   | _=>cases h2
  | @tup la vs xs e1 g1 =>
   cases ru;obtain⟨its,r,p,_⟩:=I.tuple (SqT.of e1);cases b with
   | non=>cases rt;exact⟨RcAt.tuple_none p hA,EqAt.tuple_none p hA,RcNeAt.tuple_none p hA⟩
   | bl _=>cases rt;exact⟨RcAt.tuple_bool _ p hA,EqAt.tuple_bool _ p hA,RcNeAt.tuple_bool _ p hA⟩
   | int _=>obtain⟨_,rfl⟩:=rt;exact⟨RcAt.tuple_int _ _ p hA,EqAt.tuple_int _ _ p hA,RcNeAt.tuple_int _ _ p hA⟩
   | lst e2 g2=>cases rt;obtain⟨its2,r2,p2,_⟩:=I.list (SqL.of e2);exact⟨RcAt.tuple_list p p2.isList hA,EqAt.tuple_list p p2.isList hA,RcNeAt.tuple_list p p2.isList hA⟩
   | @tup lb ws ys e2 g2 =>
    cases rt;obtain⟨its2,r2,p2,_⟩:=I.tuple (SqT.of e2);have l1:its.length=xs.length:=by rw[<- r.length,g1.len]
    have l2:its2.length=ys.length:=by rw[<- r2.length,g2.len]
    have el:=CJ (A:=A.in1) (s:=s) (λa b c d e f=>(ih hin a b c d e f).2.1) (List.all_eq_true.mp h1) (List.all_eq_true.mp h2) g1 g2 r r2;have rc:RcAt A s (.ref la) (.ref lb) (pyq (n+1) (.tup xs) (.tup ys)):=by
     rw[qK];have q:=RcAt.tuples (A:=A) (s:=s) (e:=λj=>pyq n (xs.getD j .non) (ys.getD j .non)) p p2 hA el;have es:its.toArray.size=xs.length:=by simp[l1]
     have es2:its2.toArray.size=ys.length:=by simp[l2]
     rw[es,es2]at q;by_cases hl:xs.length=ys.length
     ·rw[hl,Nat.min_self,beq_self_eq_true,Bool.and_true]at q;rw[decide_eq_true hl,Bool.true_and,hl];exact q
     ·rw[decide_eq_false hl,Bool.false_and];rw[show(xs.length==ys.length)=false by simpa using hl,Bool.and_false]at q;exact q
    have rn:RcNeAt A s (.ref la) (.ref lb) (!pyq (n+1) (.tup xs) (.tup ys)):=by
     rw[qK];have q:=RcNeAt.tuples (A:=A) (s:=s) (e:=λj=>pyq n (xs.getD j .non) (ys.getD j .non)) p p2 hA el;have es:its.toArray.size=xs.length:=by simp[l1]
     have es2:its2.toArray.size=ys.length:=by simp[l2]
     rw[es,es2]at q;by_cases hl:xs.length=ys.length
     ·rw[hl,Nat.min_self,beq_self_eq_true,Bool.and_true]at q;rw[decide_eq_true hl,Bool.true_and,hl];exact q
     ·rw[decide_eq_false hl,Bool.false_and];rw[show(xs.length==ys.length)=false by simpa using hl,Bool.and_false]at q;exact q
    refine⟨rc,?_,rn⟩;by_cases hab:la=lb
    ·subst hab;have:=Has.inj h1 h2 (.tup e1 g1) (.tup e2 g2);rw[this,sI h2];exact EqAt.same _
    ·exact EqAt.of_refs hab rc
   | _=>cases h2
  | _=>cases h1
open SeqAt in
theorem CH (I:Inv X pins O H s):∀(n:Nat) {A:Around} {x y:D} {v w:V} {u t:Value},A.units+n<cLine->eqb n x=true->eqb n y=true->Has X.K C H v x->Has X.K C H w y->RelV v u->RelV w t ->
  RcAt A s u t (pyq n x y)/\EqAt A s u t (pyq n x y) :=
 λn _ _ _ _ _ _ _ hu h1 h2 a b c d=>⟨(iG I n hu h1 h2 a b c d).1,(iG I n hu h1 h2 a b c d).2.1⟩
open SeqAt in
theorem Fm (I:Inv X pins O H s):∀(n:Nat) {A:Around} {x y:D} {v w:V} {u t:Value},A.units+n<cLine->eqb n x=true->eqb n y=true->Has X.K C H v x->Has X.K C H w y->RelV v u->RelV w t ->
  RcNeAt A s u t (!pyq n x y) :=
 λn _ _ _ _ _ _ _ hu h1 h2 a b c d=>(iG I n hu h1 h2 a b c d).2.2
variable {K:Frag}
theorem Brw.has {M:Hp} {v:V} {d:D} (s:Same M H) (h:Brw K C M H v d):Has K C H v d:=by
 cases h with
 | cl h=>exact h.mono s
 | own e h=>exact .lst e (h.mono s)
variable {a b:Expr} {pos:Pos} {Fa Fb:Rho->R D}
section
variable {C:Addr} {X:Cx}
def feq (x y:D):R D:=if eqb 9 x=true/\eqb 9 y=true then .val (.bl (pyq 9 x y))else .bad
def fne (x y:D):R D:=if eqb 9 x=true/\eqb 9 y=true then .val (.bl (!pyq 9 x y))else .bad
def AQ (K:Frag) (C:Addr) (neg:Bool):R2:=λv w H Q=>∃x y,eqb 9 x=true/\eqb 9 y=true/\Has K C H v x/\Has K C H w y/\Q (.bl (if neg then !pyq 9 x y else pyq 9 x y)) H
theorem yP (hu:X.A.units+9<cLine):OpR X (compareOp .Eq) (AQ X.K C false):=by
 intro pins s O H x y v u Q I rx ry h;obtain⟨dx,dy,e1,e2,h1,h2,q⟩:=h;exact(CH I 9 hu e1 e2 h1 h2 rx ry).1 _ _ _ _ ⟨.bl _,H,I,rfl,q⟩
theorem DK (hu:X.A.units+9<cLine):OpR X (compareOp .NotEq) (AQ X.K C true):=by
 intro pins s O H x y v u Q I rx ry h;obtain⟨dx,dy,e1,e2,h1,h2,q⟩:=h;exact Fm I 9 hu e1 e2 h1 h2 rx ry _ _ _ _ ⟨.bl _,H,I,rfl,q⟩
theorem yN:OpD C X (AQ X.K C false) feq:=by
 intro U O H v w x y z Q r hx hy e k;unfold feq at e;split at e
 ·rename_i hh;cases e;exact⟨x,y,hh.1,hh.2,hx.has msk_sub,hy.has msk_sub,k _ H (Same.refl _) (.bl _)⟩
 ·cases e
theorem DF:OpD C X (AQ X.K C true) fne:=by
 intro U O H v w x y z Q r hx hy e k;unfold fne at e;split at e
 ·rename_i hh;cases e;exact⟨x,y,hh.1,hh.2,hx.has msk_sub,hy.has msk_sub,k _ H (Same.refl _) (.bl _)⟩
 ·cases e
theorem Cu:fi feq:=λx y c e=>by unfold feq at e;split at e<;>cases e
theorem E8:fi fne:=λx y c e=>by unfold fne at e;split at e<;>cases e
theorem zQ (hu:X.A.units+9<cLine) (ha:EB C X a Fa) (hb:EB C X b Fb):ED C X (.Compare a [.Eq] [b] pos) (bin feq Fa Fb):=u8 (yP (C:=C) hu) Cu yN ha hb (iY _)
theorem gQ (hu:X.A.units+9<cLine) (ha:EB C X a Fa) (hb:EB C X b Fb):TD C X (.Compare a [.Eq] [b] pos) (tst (bin feq Fa Fb)):=kU (yP (C:=C) hu) Cu yN ha hb (iY _)
theorem cT (hu:X.A.units+9<cLine) (ha:EB C X a Fa) (hb:EB C X b Fb):TD C X (.Compare a [.NotEq] [b] pos) (tst (bin fne Fa Fb)):=kU (DK (C:=C) hu) E8 DF ha hb (iY _)
end
variable {C:Addr} {X:Cx}
def Ite (K:Frag) (a:Addr):It :=
 ⟨λi H=>∃xs x,SqL K H a xs/\xs[i]?=some x,λi H v H'=>∃p x,H p=none/\v=.ref p/\H'=upd H p (.tup [.int (i:Int),x])/\∀xs,SqL K H a xs->xs[i]?=some x,λi H=>∃xs,SqL K H a xs/\xs.length<=i⟩
variable {es:List Expr} {k:Nat}
theorem wT {P:Program} {w:World} (a it e:Addr) (hne:e≠it) :
  vo P w K (.Tuple es k pos) (Ite K a) [e,it] e (λi h=>(∃old,IsEnum h e it i old)/\h.IsListIter it a i) where
 mem:=by simp
 obj:=λi h st b hb=>by
  obtain⟨⟨old,he⟩,o,eo,c,d⟩:=st;have hb:b=e\/b=it:=by simpa using hb
  rcases hb with rfl|rfl
  ·exact⟨_,he,λv z=>by have z':Data.fields _=Data.cell v:=z;cases z'⟩
  ·exact⟨o,eo,λv z=>by rw[d]at z;cases z⟩
 keep:=λi h h' st kk=>by
  obtain⟨⟨old,he⟩,st⟩:=st;exact⟨⟨old,kk e (by simp) _ he⟩,st.at λo q=>kk it (by simp) o q⟩
 item:=by
  intro X hP hw hK hc i pins s O H E I hf st hg;subst hP hw hK;obtain⟨⟨old,he⟩,hit⟩:=st;obtain⟨xs,x,hq,hx⟩:=hg;obtain⟨its,rv,p,hz⟩:=I.list hq;obtain⟨u,hu,ru⟩:=rv.get hx;refine wpAny_pyNext_enum_item he hit p.isList (x:=u) (by simpa using hu) hne λh' out hit' ht hsz hk=>?_;refine⟨_,rfl,wpAny_letOwnedTupleGo_enum out λh'' he'' sb=>?_⟩;have fr:=I.fresh;have hk2:∀b o,b≠e->b≠it->s.heap.get? b=some o->h''.get? b=some o:=λb o h1 h2 eo=>(sb.2 b h1).trans (hk b o h1 h2 eo);have hse:s.heap.objs.size≠e:=Nat.ne_of_gt (Heap.lt_size he);have ht2:h''.get? s.heap.objs.size=some { cls:=.type "tuple",data:=.seq #[.int i s.toks,u] }:=(sb.2 _ hse).trans ht;have ne':∀b,H b≠none->b≠e/\b≠it:=λb hb=>⟨λz=>hb (by rw[z];exact(hf e (by simp)).1),λz=>hb (by rw[z];exact(hf it (by simp)).1)⟩;have I1:Inv X pins O (upd H s.heap.objs.size (.tup [.int (i:Int),x])) { s with heap:=h'',toks:=s.toks+1 }:=by
   refine I.call' (s':={ s with heap:=h'',toks:=s.toks+1 }) (ch:=[e,it]) rfl ⟨λb o q n hfs hx=>hk2 b o (λz=>hx (by simp[z])) (λz=>hx (by simp[z])) q,λb o q n hfs hx=>⟨o.slots,hk2 b o (λz=>hx (by simp[z])) (λz=>hx (by simp[z])) q⟩,
    λb o q n hx=>?_,λb o q hx=>⟨o,hk2 b o (λz=>hx (by simp[z])) (λz=>hx (by simp[z])) q⟩,λb ys q=>?_,λb o v q=>?_,λb ps q=>?_⟩ (λb o q=>?_) I.bare λb hb=>?_
   ·rw[aw (Nat.ne_of_lt (Heap.lt_size q))];exact n
   ·rw[aw (ba q fr)];exact q
   ·rw[aw (ba q fr)];exact q
   ·exact⟨#[],by rw[aw (ba q fr),q];simp⟩
   ·by_cases hb:b=s.heap.objs.size
    ·subst hb;rw[aF]at q;cases q;exact⟨by show 2<=sizeLine;decide,[.int i s.toks,u],.cons ⟨_,rfl⟩ (.cons ru .nil),⟨_,ht2,rfl,_,rfl⟩⟩
    ·rw[aw hb]at q;refine(I.hok b o q).stay (λc v hc qv=>?_) (λc qc=>by rw[aw (ba qc fr)];exact qc) λc ys qc=>by rw[aw (ba qc fr)];exact qc
     have hcn:H c≠none:=by
      rcases hc with z|z
      ·rw[z,q];simp
      ·rw[z];simp
     obtain⟨n1,n2⟩:=ne' c hcn;exact hk2 c v n1 n2 qv
   ·obtain⟨g0,g1,g2,g3,g4,g5⟩:=hf b hb;exact⟨g3,g1,g4,g5⟩
  refine⟨.ref s.heap.objs.size,_,I1,rfl,⟨_,x,fr,rfl,rfl,λys hy=>by rw[I.list_inj hy hq];exact hx⟩,⟨⟨u,?_⟩,?_⟩,λb hb=>?_⟩
  ·have:((i:Int)+1)=((i+1:Nat):Int):=by push_cast;rfl
   rw[this]at he'';exact he''
  ·exact hit'.at λo q=>(sb.2 it (Ne.symm hne)).trans q
  ·have hb':=(hf b hb).1;have hlt:b<s.heap.objs.size:=by
    have hb:b=e\/b=it:=by simpa using hb
    rcases hb with rfl|rfl
    ·exact Heap.lt_size he
    ·obtain⟨o,eo,_⟩:=hit;exact Heap.lt_size eo
   rw[aw (Nat.ne_of_lt hlt)];exact hb'
 done:=by
  intro X hP hw hK hc i pins s O H E I hf st hg;subst hP hw hK;obtain⟨⟨old,he⟩,hit⟩:=st;obtain⟨xs,hq,hx⟩:=hg;obtain⟨its,rv,p,hz⟩:=I.list hq;obtain⟨f0,f1,f2,f3,f4,f5⟩:=hf it (by simp);have hl:=rv.length;exact wpAny_pyNext_enum_end (I.ok.hd hc) he hit p.isList (by simp;omega) λh' eb=>⟨rfl,I.turned (t':=s.toks) (λb o hb q=>eb b o hb q) f0 f1 f3 f4 f5⟩
 self:=λ_ _ _ _ _ st h=>by
  obtain⟨⟨old,he⟩,_⟩:=st;exact wpAny_pyIter_enum he h
def enu:Nat->List D->List D
 | _,[]=>[]
 | k,x::r=>.tup [.int (k:Int),x]::enu (k+1) r
theorem ww:∀(k:Nat) (xs:List D),(enu k xs).length=xs.length
 | _,[]=>rfl
 | k,x::r=>by simp[enu,ww]
theorem u4:∀{k:Nat} {xs:List D} {i:Nat} {y:D},(enu k xs)[i]?=some y->∃x,xs[i]?=some x/\y=.tup [.int ((k+i:Nat):Int),x]
 | _,[],_,_,e=>by simp[enu]at e
 | k,x::r,0,y,e=>by
  simp[enu]at e;exact⟨x,rfl,by rw[<- e];rfl⟩
 | k,x::r,i+1,y,e=>by
  have e:(enu (k+1) r)[i]?=some y:=by simpa[enu]using e
  obtain⟨z,h1,h2⟩:=u4 e;refine⟨z,by simpa using h1,?_⟩;rw[h2,show k+1+i=k+(i+1) by omega]
theorem wS {a:Addr} {xs:List D} {M:Hp} (e:M a=some (.lst vs)) (h:HasL K C M vs xs):rY K C (Ite K a) (enu 0 xs) M where
 go:=λi y H2 s hy=>by
  obtain⟨x,hx,rfl⟩:=u4 hy;obtain⟨v,e1,h1⟩:=h.get hx;refine⟨⟨vs,v,SqL.of (s _ _ e),e1⟩,λv' H3 y=>?_⟩;obtain⟨p,x',hp,rfl,rfl,y⟩:=y;have e2:=y vs (SqL.of (s _ _ e));rw[e1]at e2;cases e2;refine⟨aA hp,λU O hown m=>?_⟩;have em:msk U O (upd H2 p (.tup [.int (i:Int),v])) p=some (.tup [.int (i:Int),v]):=msk_some.mpr ⟨λz=>hown p z hp,aF⟩;refine .tup em (.cons ?_ (.cons (h1.mono (m.trans (aO (aA hp)))) .nil));rw[Nat.zero_add];exact .int _
 stop:=λH2 s=>⟨vs,SqL.of (s _ _ e),by rw[ww,h.len];exact Nat.le_refl _⟩
variable {p:Pos}
theorem AZ {tp:Pos} {l:Expr} {ta:TA} (hg:Gl X "enumerate") (hm:X.mg "enumerate"=none) (ha:PA X [l] ta) (hs:starEach [l] X.env=[(false,eval l X.env)]:=by rfl) :
  PI X (.Tuple es k tp) (.Call (.Name "enumerate" p) [l] [] pos) (λO H R=>ta O H λvs H1=>∃a xs,vs=[.ref a]/\SqL X.K H1 a xs/\R (Ite X.K a) H1):=by
 intro pins s O H R I h;refine Call_ (i5 I hg hm boot_enumerate (PyProof.Rows.callWith_type1 (thn (ha pos pins s O H _ I h) λus s1 zz0=>?_) hs rfl));obtain⟨vs,H1,I1,r1,q1⟩:=zz0;obtain⟨a,xs,e,hq,q⟩:=q1;subst e;cases r1 with
 | cons r rr =>
  cases rr;cases r;obtain⟨its,rv,pl,hz⟩:=I1.list hq;refine call_enumerate_list pl.isList λh' he hit hsz kp=>?_;have I2:Inv X pins O H1 { s1 with heap:=h' }:=I1.kept (t':=s1.toks) kp;refine wpAny_pyIter_enum he ?_;have ne:s1.heap.objs.size+1≠s1.heap.objs.size:=Nat.succ_ne_self _;refine⟨s1.heap.objs.size+1,[s1.heap.objs.size+1,s1.heap.objs.size],_,_,H1,rfl,I2,wT a s1.heap.objs.size (s1.heap.objs.size+1) ne,⟨⟨_,he⟩,hit⟩,λb hb=>?_,q⟩;have hb:b=s1.heap.objs.size+1\/b=s1.heap.objs.size:=by simpa using hb
  have hle:s1.heap.objs.size<=b:=by
   rcases hb with z|z
   ·rw[z];exact Nat.le_succ _
   ·rw[z];exact Nat.le_refl _
  exact I1.fpOk hle (I1.hok.fresh hle)
def u5:List D->R (List D)
 | [.lst xs]=>.val (enu 0 xs)
 | _=>.bad
def fJ (F:Rho->R (List D)):Rho->R (List D):=λU=>(F U).bind u5
theorem cV {tp : Pos} {l : Expr} {F : Rho -> R (List D)} (hg : Gl X "enumerate") (hm : X.mg "enumerate" = none) (ha : AD C X [l] F) (hs : starEach [l] X.env = [(false, eval l X.env)] := by rfl) :
    ID C X (.Tuple es k tp) (.Call (.Name "enumerate" p) [l] [] pos) (fJ F) := mC (AZ hg hm ha hs) fun O H R yy0 => by
     obtain ⟨U, ⟨H0, r⟩, q⟩ := yy0
     exact ⟨U, ⟨H0, r⟩, by
  unfold fJ at q
  cases e : F U with
  | val ds =>
    rw [e] at q
    intro vs H1 s1 h1
    dsimp only [DL.R.bind] at q
    unfold u5 at q
    split at q
    · rename_i e0
      split at e0
      · rename_i xs
        cases e0
        cases h1 with
        | cons a b =>
          cases b
          cases a with
          | lst e1 g1 => exact ⟨_, _, rfl, SqL.of (msk_sub _ _ e1), q _ H1 s1 (wS e1 g1)⟩
      · cases e0
    · rename_i e0
      split at e0 <;> cases e0
    · exact q.elim
  | exc c => rw [e] at q; exact q
  | bad => rw [e] at q; exact q⟩
def E5:V->List V->Hp->VK->Prop:=λx vs H Q=>∃l xs i y,x=.ref l/\vs=[.int i,y]/\H l=some (.lst xs)/\0<=i/\i<=xs.length/\xs.length<LIM/\Q .non (upd H l (.lst (xs.take i.toNat++y::xs.drop i.toNat)))
theorem xi:MtM X "list.insert" E5:=by
 intro pins s O H x vs v us Q I rx rv h;obtain⟨l,xs,i,y,rfl,rfl,hH,h0,h1,hz,q⟩:=h;cases rx;obtain⟨ui,uy,rfl,⟨tk,rfl⟩,ry⟩:=rv.two;obtain⟨z,its,n,r,hl,e⟩:=I.lstM hH;have hfit:¬(!Builtin.List.listFitsIndex i)=true:=by
  have h63:(xs.length:Int)<2 ^ 63:=by
   have:xs.length<100000:=hz;omega
  have:Builtin.List.listFitsIndex i=true:=by
   unfold Builtin.List.listFitsIndex;rw[Bool.and_eq_true];exact⟨decide_eq_true (by omega),decide_eq_true (by omega)⟩
  rw[this];simp
 refine call_meets F.slot_list_insert ⟨_,e,rfl⟩ F.entry_list_insert (F.args_list_insert_3 _ _ _) (PySem.AutoListH.list_insert_list_int_val_1 l its.toArray n i tk uy hfit (by rw[List.size_toArray,<- hl];exact z)) ⟨e,?_⟩;have hm:min i.toNat its.length=i.toNat:=by omega
 refine⟨.non,_,I.lset (its':=its.take i.toNat++uy::its.drop i.toNat) hH e ?_ ((r.take i.toNat).append (.cons ry (r.drop i.toNat))) ?_,rfl,q⟩
 ·have hlt:¬ i<0:=by omega
  simp only[hlt,if_false,List.size_toArray,hm];apply Array.ext';simp[hm];exact List.take_of_length_le (by rw[List.length_drop];exact Nat.le_refl _)
 ·rw[List.length_append,List.length_cons,List.length_take,List.length_drop];have:xs.length<100000:=hz;have h2:(100000:Nat)<=sizeLine:=by decide
  omega
def ins (i:Nat) (k e:Rho->R D):Rho->R Out:=λU=>match U[i]? with
 | some (some (.own xs))=>(k U).bind λn=>(e U).bind λd=>match n with
  | .int n=>if 0<=n/\n<=xs.length/\xs.length<LIM then .val (.nx (U.set i (some (.own (xs.take n.toNat++d::xs.drop n.toNat)))))else .bad
  | _=>.bad
 | _=>.bad
theorem ye {i:Nat} {x:Str} {k e:Expr} {ap cp:Pos} {Fk F:Rho->R D} (hv:PE X (.Name x p) (df i)) (hk:ED C X k Fk) (he:ED C X e F)
  (hs:∀{to:TE} {t:TA},PE X (.Name x p) to->PA X [k,e] t->PS X (.Expr (.Call (.Attribute (.Name x p) "insert" ap) [k,e] [] cp) pos) (jK (tBM X.K "list" E5 to t)):=by
   exact λho ha=>gw (nh PySem.F.plainAttrs_list PySem.F.slot_list_insert PySem.F.type_list_insert xi ho ha))
  (hst:starEach [k,e] X.env=(false,eval k X.env)::starEach [e] X.env:=by rfl) (hst2:starEach [e] X.env=(false,eval e X.env)::starEach [] X.env:=by rfl) :
  SD C X (.Expr (.Call (.Attribute (.Name x p) "insert" ap) [k,e] [] cp) pos) (ins i Fk F) :=
 aW (hs hv (bu hk (bu he bU hst2) hst)) λD O H zz1=>by
  obtain⟨_,H0,⟨U,rfl,r⟩,q⟩:=zz1;unfold ins at q;split at q
  ·rename_i xs e0;obtain⟨a,vs,e1,_,h1,h2⟩:=r.at_ i _ e0;refine⟨_,e1,.inl ⟨rfl,_,SqL.of h1⟩,U,⟨H0,r⟩,aQ (P:=λz _=>pS C X z H0 D) (λc h=>cW r h) (λh=>h) q λn v H1 s1 h3 q1=>?_⟩;refine⟨U,⟨H0,r.mono s1⟩,aQ (P:=λz _=>pS C X z H0 D) (λc h=>cW (r.mono s1) h) (λh=>h) q1 λd w H2 s2 h4 q2=>?_⟩;cases n with
   | int n =>
    dsimp only at q2;split at q2
    ·rename_i hl;cases h3;have h2':=h2.mono (aO (U:=U) (O:=O) (s1.trans s2));refine⟨a,vs,n,w,rfl,rfl,s2 _ _ (s1 _ _ h1),hl.1,by rw[h2.len];exact hl.2.1,by rw[h2.len];exact hl.2.2,?_⟩;exact q2 _ _ ⟨_,rfl,((r.mono s1).mono s2).write e0 e1 ((h2'.take _).app (.cons h4 (h2'.drop _)))⟩
    ·exact q2.elim
   | _=>exact q2.elim
  ·exact q.elim
def E6 (K:Frag) (C:Addr) (neg:Bool):R2:=λv w H Q=>∃x a vs ys,eqb 8 x=true/\ys.all (eqb 8)=true/\Has K C H v x/\w=.ref a/\H a=some (.lst vs)/\HasL K C H vs ys/\Q (.bl (if neg then !(ys.any λy=>pyq 8 y x)else ys.any λy=>pyq 8 y x)) H
open Classical in
theorem By (I:Inv X pins O H s) {A:Around} (hu:A.units+9<cLine) {x:D} {v:V} {u:Value} {its:List Value} {ys:List D} (e1:eqb 8 x=true) (e2:ys.all (eqb 8)=true) (h1:Has X.K C H v x) (rx:RelV v u)
  (h2:HasL X.K C H vs ys) (r:Vals vs its):∃e:Value->Bool,(∀y,y∈its.toArray->SeqAt.EqAt A.in1 s y u (e y))/\its.toArray.any e=ys.any λy=>pyq 8 y x:=by
 have key:∀(j:Nat) (t:Value) (d:D),its[j]?=some t->ys[j]?=some d->∃w,RelV w t/\Has X.K C H w d:=λj t d q1 q2=>by
  obtain⟨w,g1,g2⟩:=h2.get q2;obtain⟨t',g3,g4⟩:=r.get g1;rw[q1]at g3;cases g3;exact⟨w,g4,g2⟩
 have mem8:∀(j:Nat) d,ys[j]?=some d->eqb 8 d=true:=λj d q=>List.all_eq_true.mp e2 d (List.mem_of_getElem? q);refine⟨λt=>decide (∃(j:Nat) (d:D),its[j]?=some t/\ys[j]?=some d/\pyq 8 d x=true),λt ht=>?_,?_⟩
 ·have ht:t∈its:=by simpa using ht
  obtain⟨j,hj,rfl⟩:=List.mem_iff_getElem.mp ht;have hl:its.length=ys.length:=by rw[<- r.length,h2.len]
  have q1:its[j]?=some its[j]:=by simp[hj]
  have q2:ys[j]?=some (ys[j]'(by omega)):=by simp[show j<ys.length by omega]
  obtain⟨w,g1,g2⟩:=key j _ _ q1 q2;have ok:=(CH I 8 (A:=A.in1) (by show A.units+1+8<cLine;omega) (mem8 j _ q2) e1 g2 h1 g1 rx).2;have:decide (∃(j':Nat) (d:D),its[j']?=some its[j]/\ys[j']?=some d/\pyq 8 d x=true)=pyq 8 (ys[j]'(by omega)) x:=by
   cases hp:pyq 8 (ys[j]'(by omega)) x with
   | true=>exact decide_eq_true ⟨j,_,q1,q2,hp⟩
   | false =>
    refine decide_eq_false λzz2=>?_;obtain⟨j',d,z1,z2,z3⟩:=zz2;obtain⟨w',g1',g2'⟩:=key j' _ _ z1 z2;have ew:w'=w:=RelV.inj g1' g1;subst ew;have:=Has.inj (mem8 j' d z2) (mem8 j _ q2) g2' g2;rw[<- this,z3]at hp;cases hp
  show SeqAt.EqAt A.in1 s its[j] u (decide (∃(j':Nat) (d:D),its[j']?=some its[j]/\ys[j']?=some d/\pyq 8 d x=true));rw[this];exact ok
 ·have hl:its.length=ys.length:=by rw[<- r.length,h2.len]
  rw[Bool.eq_iff_iff];simp only[Array.any_eq_true,List.any_eq_true,decide_eq_true_eq];constructor
  ·rintro⟨i,hi,j,d,q1,q2,q3⟩;exact⟨d,List.mem_of_getElem? q2,q3⟩
  ·rintro⟨d,hd,q3⟩;obtain⟨j,hj,rfl⟩:=List.mem_iff_getElem.mp hd;have hj':j<its.length:=by omega
   exact⟨j,by simpa using hj',j,ys[j],by simp[hj'],by simp[hj],q3⟩
theorem xh (hu:X.A.units+9<cLine):OpR X (compareOp .NotIn) (E6 X.K C true):=by
 intro pins s O H x y v u Q I rx ry h;obtain⟨d,a,vs,ys,e1,e2,h1,rfl,hH,h2,q⟩:=h;cases ry;obtain⟨its,r,pl,hz⟩:=I.list (SqL.of hH);obtain⟨e,he,hany⟩:=By I hu e1 e2 h1 rx h2 r;exact SeqAt.notIn_listAt e pl.isList he ⟨.bl _,H,I,by rw[hany];rfl,q⟩
def mh (neg:Bool) (x y:D):R D:=match y with
 | .lst ys=>if eqb 8 x=true/\ys.all (eqb 8)=true then .val (.bl (if neg then !(ys.any λy=>pyq 8 y x)else ys.any λy=>pyq 8 y x))else .bad
 | _=>.bad
theorem DI (neg:Bool):OpD C X (E6 X.K C neg) (mh neg):=by
 intro U O H v w x y z Q r hx hy e k;unfold mh at e;split at e
 ·rename_i ys;split at e
  ·rename_i hh;cases e;obtain⟨a,vs,rfl,e1,h2⟩:=hy.lst msk_sub;exact⟨x,a,vs,ys,hh.1,hh.2,hx.has msk_sub,rfl,e1,h2.mono msk_sub,k _ H (Same.refl _) (.bl _)⟩
  ·cases e
 ·cases e
theorem Fd (neg:Bool):fi (mh neg):=λx y c e=>by
 unfold mh at e;split at e
 ·split at e<;>cases e
 ·cases e
theorem CY (hu:X.A.units+9<cLine) (ha:EB C X a Fa) (hb:EB C X b Fb) (hm:behindInMarks .NotIn b=false:=by rfl):TD C X (.Compare a [.NotIn] [b] pos) (tst (bin (mh true) Fa Fb)):=kU (xh (C:=C) hu) (Fd _) (DI _) ha hb hm
end DL
namespace DL
open PySem PySem.Spec PyProof.Rows L2
open AutoSeq1 (wpAny_loadPart')
variable {r:Addr} {a b c:Int} {t u v:Tok} {n:Nat}
section
variable {prog:Program} {w:World} {A:Around} {E:Value->Shared->Prop} {s:Shared}
theorem kS {Q:List Value->Shared->Prop} (hh:A.handled=none) (hr:IsRange s.heap r a b c t u v) (hsmall:Builtin.Range.small a b c=true)
  (hn:Builtin.Range.rangeSize a b c=n) (hlen:n<=2 ^ 24)
  (hQ:∀h' tk acc,(∀b o',s.heap.get? b=some o'->h'.get? b=some o')->ItemsOf (λi v=>∃t,v=.int (a+i*c) t) acc n->Q acc.toList { s with heap:=h',toks:=tk }) :
  wpAny (model prog w) A (collect (.ref r)) Q E s:=by
 unfold collect;refine wpAny_bind (wpAny_runValue (codeAny_builtin F.entry_proto_collect ?_));rw[Around.under_plainId F.plain_proto_collect _];show wpAny _ A.in1 (newList [] >>= λl=>again (.builtin "list.__iadd__" ⟨[l,.ref r],[]⟩)) _ _ s;refine wpAny_bind (wpAny_newObj_type ?_);refine wpAny_pure ⟨plainId_quiet F.plain_list_iadd _,codeAny_builtin F.entry_list_iadd ?_⟩;rw[Around.under_plainId F.plain_list_iadd _];show wpAny _ A.in1 (Builtin.List.listExtendWith (.ref s.heap.objs.size) (.ref r) (.ref s.heap.objs.size)) _ _ _;have hS:(s.heap.push { cls:=.type "list",data:=.seq ([]:List Value).toArray }).get? s.heap.objs.size=some { cls:=.type "list",data:=.seq #[] 0 }:=Heap.get?_push_size _ rfl;have fin':∀h' tk acc c',(∀b o',s.heap.get? b=some o'->h'.get? b=some o')->h'.get? s.heap.objs.size=some { cls:=.type "list",dict:=none,data:=.seq acc c',slots:=#[] }->ItemsOf (λi v=>∃t,v=.int (a+i*c) t) acc n ->
   wpAny (model prog w) A (match Value.ref s.heap.objs.size with
   | Value.ref a=>do
    match(<- load a).data with
     | Data.seq xs _=>pure xs.toList
     | _=>unsupported "internal:collect"
   | _=>unsupported "internal:collect") Q E { s with heap:=h',toks:=tk }:=λh' tk acc c' hk hS' hacc=>by
  show wpAny _ A (load s.heap.objs.size >>= _) _ _ _;refine wpAny_bind (wpAny_load hS' ?_);exact wpAny_pure (hQ h' tk acc hk hacc)
 refine wpAny_mono (wpAny_extend_range (A:=A) (R:=λres s'=>∃h' tk acc c',res=.ok (.ret (.ref s.heap.objs.size))/\s'={ s with heap:=h',toks:=tk }/\(∀b o',s.heap.get? b=some o'->h'.get? b=some o') /\
   h'.get? s.heap.objs.size=some { cls:=.type "list",dict:=none,data:=.seq acc c',slots:=#[] }/\ItemsOf (λi v=>∃t,v=.int (a+i*c) t) acc n)
  (s:={ s with heap:=s.heap.push { cls:=.type "list",data:=.seq ([]:List Value).toArray } }) hh (Heap.get?_push_of_some _ hr) hsmall hn hlen s.heap.objs.size _ 0 hS λh' tk acc' c' hk hS' hacc=>⟨h',tk,acc',c',rfl,rfl,λb o' hb=>hk b o' (Nat.ne_of_lt (Heap.lt_size hb)) (Heap.get?_push_of_some _ hb),hS',hacc⟩) (λfin s' h=>?_) (λe s' h=>?_)
 ·cases fin with
  | done f =>
   obtain⟨h',tk,acc,c',e,rfl,hk,hS',hacc⟩:=h;cases e;exact fin' h' tk acc c' hk hS' hacc
  | again c'=>exact⟨h.1,codeAny_mono h.2 λr s'' hr=>by obtain⟨h',tk,acc,c',rfl,rfl,hk,hS',hacc⟩:=hr;exact fin' h' tk acc c' hk hS' hacc⟩
 ·obtain⟨_,_,_,_,e,_⟩:=h;exact absurd e (by simp)
theorem jf {Q₁:Value->Shared->Prop} (hh:A.handled=none) (hr:IsRange s.heap r a b c t u v) (hsmall:Builtin.Range.small a b c=true)
  (hn:Builtin.Range.rangeSize a b c=n) (hlen:n<=2 ^ 24)
  (h:∀(h':Heap) (tk:Nat) (acc:Array Value),(∀b o',s.heap.get? b=some o'->h'.get? b=some o')->ItemsOf (λi v=>∃t,v=.int (a+i*c) t) acc n->Q₁ (.ref h'.objs.size) { s with heap:=h'.push { cls:=.type "tuple",data:=.seq acc },toks:=tk }) (hsz:n<=sizeLine) :
  codeAny (model prog w) A (.call (.builtin "tuple.__new__") ⟨[.type "tuple",.ref r],[]⟩) (wants Q₁ E) s:=by
 refine codeAny_of_tree ?_;show wpAny _ A.in1 (do checkBuiltinCall "tuple.__new__" ⟨[.type "tuple",.ref r],[]⟩;again (.builtin "tuple.__new__" ⟨[.type "tuple",.ref r],[]⟩)) _ _ s;refine wpAny_bind (wpAny_of_eq (F.newCall_tuple_1 _) (wpAny_pure ⟨plainId_quiet F.plain_tuple_new _,codeAny_builtin F.entry_tuple_new ?_⟩));rw[Around.under_plainId F.plain_tuple_new _];have hsub:=sub_tuple_self;have hinit:=init_tuple_lookup;have hmh:=madeHere_tuple;have hTI:s.TypeIs (.ref r) "range":=⟨_,hr,rfl⟩;have hhi:A.in1.handled=none:=hh
 wp_walk using wpAny_typeOf hTI,kS (A:=A.in1) hhi hr hsmall hn hlen
 intro h' tk acc hk hacc;show wpAny _ _ (Builtin.Tuple.tupleExact acc.toList.toArray >>= λv=>PySem.ret v) _ _ _;unfold Builtin.Tuple.tupleExact;refine wpAny_bind (wpAny_newObj_type ?_ (by show acc.toList.toArray.size<=sizeLine;simp only[Array.toArray_toList];rw[hacc.1];exact hsz));refine wpAny_pure ?_;have e:acc.toList.toArray=acc:=by simp
 rw[e];exact h h' tk acc hk hacc
theorem lE {Q:Value->Shared->Prop} (hh:A.handled=none) (hr:IsRange s.heap r a b c t u v) (hsmall:Builtin.Range.small a b c=true)
  (hn:Builtin.Range.rangeSize a b c=n) (hlen:n<=2 ^ 24)
  (h:∀(h':Heap) (tk:Nat) (acc:Array Value),(∀b o',s.heap.get? b=some o'->h'.get? b=some o')->ItemsOf (λi v=>∃t,v=.int (a+i*c) t) acc n->Q (.ref h'.objs.size) { s with heap:=h'.push { cls:=.type "tuple",data:=.seq acc },toks:=tk }) (hsz:n<=sizeLine) :
  wpAny (model prog w) A (call (.type "tuple") [.ref r]) Q E s:=by
 refine callType_codes (Q₁:=λobj s₁=>s₁.TypeIs obj "tuple"/\Q obj s₁) F.called_tuple (F.typeCall_tuple_1 _) F.entry_object_init
  (jf hh hr hsmall hn hlen (λh' tk acc hm hacc=>⟨⟨_,Heap.get?_push_size _ rfl,rfl⟩,h h' tk acc hm hacc⟩) hsz) λobj s₁ h₁=>?_
 exact⟨h₁.1,F.args_object_init_2 obj _,object_init_meets F.called_tuple.init.lookup F.called_tuple.made (by decide) prog w A.in1 _ s₁ ⟨h₁.1,rfl,h₁.2⟩⟩
end
section
variable {C:Addr} {X:Cx}
def Gc (ta:TA):TE:=λO H Q=>ta O H λvs H1=>∃j:Int,vs=[.int j]/\-(2 ^ 62)<=j/\j<2 ^ 62/\∀r,H1 r=none->Q (.ref r) (upd H1 r (.rng 0 j))
theorem yF {a:Expr} {ta:TA} {p pos:Pos} (hg:Gl X "range") (hm:X.mg "range"=none) (ha:PA X [a] ta) (hs:starEach [a] X.env=[(false,eval a X.env)]:=by rfl):PE X (.Call (.Name "range" p) [a] [] pos) (Gc ta):=by
 intro pins s O H Q I h;refine Call_ (i5 I hg hm boot_range (PyProof.Rows.callWith_type1 (thn (ha pos pins s O H _ I h) λus s1 zz0=>?_) hs rfl));obtain⟨vs,H1,I1,r1,q1⟩:=zz0;obtain⟨j,e,q1,q2,q⟩:=q1;subst e;cases r1 with
 | cons r rr =>
  cases rr;obtain⟨t,rfl⟩:=r;refine call_range_1 ?_;exact⟨.ref s1.heap.objs.size,_,I1.laid (a:=s1.heap.objs.size) (o:=.rng 0 j) (λb u e=>Heap.get?_push_of_some _ e) (Nat.le_refl _) ⟨_,_,_,Heap.get?_push_size _ rfl⟩,rfl,q _ I1.fresh⟩
theorem mU {acc:List Value} (h:acc.length=n) (hv:∀(j:Nat) v,acc[j]?=some v->∃t,v=.int (0+(j:Int)*1) t):Vals ((List.range n).map λ(k:Nat)=>V.int (0+(k:Int))) acc:=by
 induction n generalizing acc with
 | zero=>cases acc with
  | nil=>exact .nil
  | cons x r=>simp at h
 | succ n ih =>
  have hne:acc≠[]:=by intro z;rw[z]at h;cases h
  have e:acc=acc.dropLast++[acc.getLast hne]:=(List.dropLast_concat_getLast hne).symm;have hl:acc.dropLast.length=n:=by rw[List.length_dropLast,h];rfl
  rw[List.range_succ,List.map_append,e];refine Vals.append (ih hl λj v q=>?_) (.cons ?_ .nil)
  ·refine hv j v ?_;rw[e,List.getElem?_append_left (List.getElem?_eq_some_iff.mp q).1];exact q
  ·obtain⟨t,et⟩:=hv n (acc.getLast hne) (by rw[List.getLast_eq_getElem,List.getElem?_eq_getElem (by omega)];congr 1;simp[h]);exact⟨t,by rw[et];simp⟩
def yn:List V->Hp->VK->Prop:=λxs H Q=>∃r j,xs=[.ref r]/\H r=some (.rng 0 j)/\-(2 ^ 62)<=j/\j<=100000/\∀p,H p=none->Q (.ref p) (upd H p (.tup ((List.range j.toNat).map λ(k:Nat)=>V.int (0+(k:Int)))))
theorem jh (hc:X.calm=true):jU X (.type "tuple") yn:=by
 intro pins s O H xs us Q I r h;obtain⟨ra,j,rfl,hq,hj0,hj,q⟩:=h;obtain⟨u,rfl,rx⟩:=mW r;cases rx;obtain⟨t,u',v',e⟩:=I.hok ra _ hq;have hn:Builtin.Range.rangeSize 0 j 1=(j.toNat:Nat):=by rw[rangeSize_one];split<;>omega
 have hsm:Builtin.Range.small 0 j 1=true:=small_one (by decide) (by decide) hj0 (by omega);refine lE (n:=j.toNat) (I.ok.hd hc) e hsm hn (by omega) (λh' tk acc hk hacc=>?_) (Nat.le_trans (show j.toNat<=100000 by omega) (by decide));have I1:Inv X pins O H { s with heap:=h',toks:=tk }:=I.kept hk;have hv:Vals ((List.range j.toNat).map λ(k:Nat)=>V.int (0+(k:Int))) acc.toList:=mU (by simpa using hacc.1) λi v q=>hacc.2 i v (by simpa using q);have I2:Inv X pins O (upd H h'.objs.size (.tup ((List.range j.toNat).map λ(k:Nat)=>V.int (0+(k:Int))))) { s with heap:=h'.push { cls:=.type "tuple",data:=.seq acc },toks:=tk } :=
  I1.laid (t':=tk) (λb o e=>Heap.get?_push_of_some _ e) (Nat.le_refl _) (show ObjOk X.prog X.w _ _ _ (.tup _)from⟨by rw[List.length_map,List.length_range];exact Nat.le_trans (show j.toNat<=100000 by omega) (by decide),acc.toList,hv,by simpa using IsTup.new _ _⟩)
 exact⟨.ref h'.objs.size,_,I2,rfl,q _ I1.fresh⟩
def rgT:List D->R D
 | [.int j]=>if -(2 ^ 62)<=j/\j<=100000 then .val (.tup (rng 0 j.toNat))else .bad
 | _=>.bad
def i_ (F:Rho->R (List D)):Rho->R D:=λU=>(F U).bind rgT
theorem tK {K:Frag} {H:Hp} (n:Nat):HasL K C H ((List.range n).map λ(k:Nat)=>V.int (0+(k:Int))) (rng 0 n):=by
 unfold rng
 induction List.range n with
 | nil=>exact .nil
 | cons x r ih=>exact .cons (.int _) ih
theorem tW {a : Expr} {p p2 pos pos2 : Pos} {F : Rho -> R (List D)} (hc : X.calm = true) (ha : AD C X [a] F) (hgr : Gl X "range") (hmr : X.mg "range" = none) (hgt : Gl X "tuple") (hmt : X.mg "tuple" = none)
    (hs : starEach [a] X.env = [(false, eval a X.env)] := by rfl) (hs2 : starEach [.Call (.Name "range" p2) [a] [] pos2] X.env = (false, eval (.Call (.Name "range" p2) [a] [] pos2) X.env) :: starEach [] X.env := by rfl)
    (hs3 : ∀ t : TA, PA X [.Call (.Name "range" p2) [a] [] pos2] t -> PE X (.Call (.Name "tuple" p) [.Call (.Name "range" p2) [a] [] pos2] [] pos) (tCB yn t) := by
      exact fun t ha => cA (jh (by assumption)) (by assumption) (by assumption) PySem.boot_tuple ha) :
    ED C X (.Call (.Name "tuple" p) [.Call (.Name "range" p2) [a] [] pos2] [] pos) (i_ F) :=
  aD (hs3 _ (bu (yF hgr hmr ha hs) bU hs2)) fun O H Q yy0 => by
   obtain ⟨U, ⟨H0, r⟩, q⟩ := yy0
   exact ⟨U, ⟨H0, r⟩, dF (P := fun z H => pV X (dC C X U O) z O H Q) (fun _ h => h) (fun h => h) q fun ds vs H1 s1 h1 q1 => by
    unfold rgT at q1
    split at q1
    · rename_i j
      split at q1
      · rename_i hj
        cases h1 with
        | cons a b =>
          cases a; cases b
          refine ⟨j, rfl, hj.1, by omega, fun ra hra => ⟨ra, j, rfl, aF, hj.1, hj.2, fun pa hpa => q1 _ _ ((s1.trans (aA hra)).trans (aA hpa)) ?_⟩⟩
          exact .tup (((r.mono s1).mono (aA hra)).new hpa) (tK _)
      · exact q1.elim
    · exact q1.elim⟩
end
end DL
namespace DL
open PySem PySem.Spec PyProof.Rows L2
def IsArr (h:Heap) (k:KA) (a:Addr):Prop:=∃ta t1 t2 its,IsTup h a #[.int k.1 t1,.int k.2.1 t2,.ref ta]/\IsTup h ta its.toArray/\IntsAre its k.2.2
theorem tJ {prog:Program} {w:World}:∀{its:List Value} {ks:List Int},IntsAre its ks->ItemsAre (intKind prog w) ks its
 | _,_,.nil=>.nil
 | _,_,.cons n t h=>.cons (by show Value.isInt n (.int n t)=true;simp[Value.isInt]) (tJ h)
variable {h:Heap}
theorem qz {prog:Program} {w:World} {ta:Addr} {its:List Value} {ks:List Int} (h1:IsTup h ta its.toArray) (h2:IntsAre its ks):IsTupleKey (intKind prog w) h ks ta:=by
 obtain⟨o,ho,hc,n,hd⟩:=h1;exact⟨o,its.toArray,n,ho,hc,hd,by simpa using tJ h2⟩
theorem lN:∀{its:List Value} {ks ls:List Int},IntsAre its ks->IntsAre its ls->ks=ls
 | _,_,_,.nil,.nil=>rfl
 | _,_,_,.cons n t h,.cons _ _ h'=>by rw[lN h h']
variable {a:Addr}
theorem p9 {x y:Array Value} (h1:IsTup h a x) (h2:IsTup h a y):x=y:=by
 obtain⟨o,ho,hc,n,hd⟩:=h1;obtain⟨o',ho',hc',n',hd'⟩:=h2;rw[ho]at ho';cases ho';rw[hd]at hd';injection hd'
variable {k:KA}
theorem IsArr.inj {l:KA} (h1:IsArr h k a) (h2:IsArr h l a):k=l:=by
 obtain⟨ta,t1,t2,its,q1,q2,q3⟩:=h1;obtain⟨tb,u1,u2,jts,p1,p2,p3⟩:=h2;have e:=p9 q1 p1;have e':=congrArg Array.toList e;simp only[List.cons.injEq,Value.int.injEq,Value.ref.injEq]at e';obtain⟨⟨e1,_⟩,⟨e2,_⟩,e3,_⟩:=e';subst e3;have e4:=p9 q2 p2;have e5:its=jts:=by simpa using congrArg Array.toList e4
 subst e5;have e6:=lN q3 p3;obtain⟨a1,a2,a3⟩:=k;obtain⟨b1,b2,b3⟩:=l;simp only at e1 e2 e6;rw[e1,e2,e6]
theorem lM {h':Heap} {d:Addr} {o:Obj} {es ep} {x:Array Value} (hx:IsTup h a x) (ho:h.get? d=some o) (hd:o.data=.dict es ep) (hs:Heap.SameBut d h h'):IsTup h' a x:=by
 obtain⟨o',ho',hc,n,hd'⟩:=hx;have hne:a≠d:=by
  rintro rfl;rw[ho]at ho';cases ho';rw[hd]at hd';cases hd'
 exact⟨o',(hs.2 a hne).trans ho',hc,n,hd'⟩
section
variable {prog:Program} {w:World} {A:Around} {E:Value->Shared->Prop} {s:Shared}
theorem ux {Q:Int->Shared->Prop} (hu:A.units+2<cLine) (hk:IsArr s.heap k a) (h:Q (mF k) { s with toks:=s.toks+(k.2.2.length+4) }):wpAny (model prog w) A (pyHash (.ref a)) Q E s:=by
 obtain⟨ta,t1,t2,its,q1,q2,q3⟩:=hk;have hT:s.TypeIs (.ref a) "tuple":=let ⟨o,ho,hc,_⟩:=q1;⟨o,ho,hc⟩;obtain⟨o,ho,_,n,hd⟩:=id q1;unfold pyHash
 first|unfold pyHashByItsType|skip
 first|refine wpAny_bind (wpAny_cRoomFor_or (.inr (by omega)) ?_)|skip
 refine wpAny_bind (wpAny_specialOf hT F.slot_tuple_hash.lookup ?_);show wpAny _ _ (if(some (Value.builtin "tuple.__hash__")==some Value.none)=true then _ else _) Q E s;rw[if_neg (by rw[beq_builtin_none];exact Bool.false_ne_true)];refine wpAny_bind (wpAny_specialOf hT F.slot_tuple_hash.lookup ?_);show wpAny _ _ (callSpecialIfBoundUnlessNone? (.ref a) "__hash__" _ >>= _) Q E s;refine wpAny_bind (wpAny_callSpecialIfBoundUnlessNone?_slot hT F.slot_tuple_hash (wpAny_call_entry F.slot_tuple_hash hT F.entry_tuple_hash ?_ (F.args_tuple_hash_1 _)));show wpAny _ _ (Builtin.Tuple.tupleItemsOf (.ref a) >>= _) _ _ s;refine wpAny_bind (wpAny_tupleItemsOf ho hd ?_);refine wpAny_bind ?_;rw[<- Array.forIn_toList];simp only[List.forIn_cons,List.forIn_nil];refine wpAny_bind (wpAny_bind (wpAny_pyHash_int ?_));refine wpAny_pure ?_;refine wpAny_bind (wpAny_bind (wpAny_pyHash_int ?_));refine wpAny_pure ?_;refine wpAny_bind (wpAny_bind (wpAny_pyHash_tuple (knd:=intKind prog w) (ks:=k.2.2) (by show A.units+1<cLine;omega) (qz q2 q3) ?_));refine wpAny_pure (wpAny_pure ?_);show wpAny _ _ (retInt (Builtin.Tuple.tupleHashOf _)) _ _ _;refine wpAny_ret_mkInt ?_;have e:((((#[]:Array Int).push (hashInt k.1)).push (hashInt k.2.1)).push (tupleKeyHash (intKind prog w) k.2.2)).toList=[hashInt k.1,hashInt k.2.1,reduceHash (Builtin.Tuple.tupleHashOf (k.2.2.map hashInt))]:=rfl;rw[e];unfold mF at h;generalize hg:Builtin.Tuple.tupleHashOf [hashInt k.1,hashInt k.2.1,reduceHash (Builtin.Tuple.tupleHashOf (k.2.2.map hashInt))]=G at h ⊢;show wpAny _ _ (if(decide (-(2:Int) ^ 63<=G)&&decide (G<2 ^ 63))=true then _ else _) Q E _;unfold reduceHash at h;by_cases hr:(decide (-(2:Int) ^ 63<=G)&&decide (G<2 ^ 63))=true
 ·rw[if_pos hr];rw[if_pos hr]at h;refine wpAny_pure ?_;simpa[Nat.add_assoc,Nat.add_comm,Nat.add_left_comm]using h
 ·rw[if_neg hr];rw[if_neg hr]at h;refine wpAny_bind (wpAny_rule (wpAny_pure ?_));simpa[Nat.add_assoc,Nat.add_comm,Nat.add_left_comm]using h
theorem zK {l:KA} {b:Addr} (hu:A.units+2<cLine) (hk:IsArr s.heap k a) (hl:IsArr s.heap l b):SeqAt.EqAt A s (.ref a) (.ref b) (decide (k=l)):=by
 by_cases hab:a=b
 ·subst hab;rw[hk.inj hl,decide_eq_true rfl];exact SeqAt.EqAt.same _
 ·refine SeqAt.EqAt.of_refs hab ?_;obtain⟨ta,t1,t2,its,q1,q2,q3⟩:=hk;obtain⟨tb,u1,u2,jts,p1,p2,p3⟩:=hl;have z:=SeqAt.RcAt.tuples (A:=A) (s:=s) (e:=λj=>if j=0 then k.1==l.1 else if j=1 then k.2.1==l.2.1 else decide (k.2.2=l.2.2)) q1 p1 (by omega) λj h1 h2=>by
   have hj:j=0\/j=1\/j=2:=by
    have:j<3:=h1;omega
   rcases hj with rfl|rfl|rfl
   ·exact SeqAt.EqAt.int_int _ _ _ _
   ·exact SeqAt.EqAt.int_int _ _ _ _
   ·exact λprog w E Q hq=>wpAny_eqBool_tuple (knd:=intKind prog w) (by show A.units+1<cLine;omega) (qz q2 q3) (qz p2 p3) hq
  have e:((List.range (min (#[Value.int k.1 t1,.int k.2.1 t2,.ref ta]:Array Value).size (#[Value.int l.1 u1,.int l.2.1 u2,.ref tb]:Array Value).size)).all (λj=>if j=0 then k.1==l.1 else if j=1 then k.2.1==l.2.1 else decide (k.2.2=l.2.2)) &&
    (#[Value.int k.1 t1,.int k.2.1 t2,.ref ta]:Array Value).size==(#[Value.int l.1 u1,.int l.2.1 u2,.ref tb]:Array Value).size)=decide (k=l):=by
   obtain⟨a1,a2,a3⟩:=k;obtain⟨b1,b2,b3⟩:=l;show((List.range 3).all _&&true)=_;rw[Bool.eq_iff_iff];simp[List.range_succ]
  rw[e]at z;exact z
theorem w6 (n:Nat) {ks:List Int} {Q:Bool->Shared->Prop} (hk:IsTupleKey (intKind prog w) s.heap ks a) (h:Q true s):wpAny (model prog w) A (eqIsQuiet (n+1) (.ref a)) Q E s:=by
 have hT:=hk.typeIs;obtain⟨o,items,m,ho,_,hd,hi⟩:=hk;unfold eqIsQuiet;refine wpAny_bind (wpAny_specialOf hT F.slot_tuple_eq.lookup ?_);show wpAny _ _ (isInstance (.ref a) (.type "tuple") >>= _) _ _ s;refine wpAny_bind (wpAny_isInstance hT isSubtype_tuple_tuple ?_);simp only[Bool.not_true,Bool.false_eq_true,if_false];refine wpAny_bind (wpAny_seqItems ho hd ?_);refine wpAny_bind ?_;show wpAny _ _ (forIn items _ _) _ _ s;rw[<- Array.forIn_toList];refine wpAny_forIn_list _ (λrest r s'=>r.1=none/\s'=s/\∀v∈rest,carriedByValue v=true) _ ?_ ?_ _ _ ⟨rfl,rfl,hi.byValue⟩
 ·rintro v rest r s' ⟨hr,rfl,hall⟩;rw[eqIsQuiet_byValue _ (hall v List.mem_cons_self)];refine wpAny_bind (wpAny_pure ?_);simp only[Bool.not_true,Bool.false_eq_true,if_false];exact wpAny_pure ⟨rfl,rfl,λu hu'=>hall u (List.mem_cons_of_mem _ hu')⟩
 ·rintro⟨r1,r2⟩ s' ⟨hr,rfl,_⟩;simp only at hr;subst hr;exact wpAny_pure h
theorem w8 {Q:Bool->Shared->Prop} (hk:IsArr s.heap k a) (h:Q true s):wpAny (model prog w) A (eqIsQuiet 8 (.ref a)) Q E s:=by
 obtain⟨ta,t1,t2,its,q1,q2,q3⟩:=hk;have hT:s.TypeIs (.ref a) "tuple":=let ⟨o,ho,hc,_⟩:=q1;⟨o,ho,hc⟩;obtain⟨o,ho,_,n,hd⟩:=id q1;unfold eqIsQuiet;refine wpAny_bind (wpAny_specialOf hT F.slot_tuple_eq.lookup ?_);show wpAny _ _ (isInstance (.ref a) (.type "tuple") >>= _) _ _ s;refine wpAny_bind (wpAny_isInstance hT isSubtype_tuple_tuple ?_);simp only[Bool.not_true,Bool.false_eq_true,if_false];refine wpAny_bind (wpAny_seqItems ho hd ?_);refine wpAny_bind ?_;show wpAny _ _ (forIn (#[Value.int k.1 t1,.int k.2.1 t2,.ref ta]:Array Value) _ _) _ _ s;rw[<- Array.forIn_toList];refine wpAny_forIn_list _ (λrest r s'=>r.1=none/\s'=s/\∀v∈rest,carriedByValue v=true\/v=.ref ta) _ ?_ ?_ _ _ ⟨rfl,rfl,λv hv=>?_⟩
 ·rintro v rest r s' ⟨hr,rfl,hall⟩;rcases hall v List.mem_cons_self with hv|rfl
  ·rw[eqIsQuiet_byValue _ hv];refine wpAny_bind (wpAny_pure ?_);simp only[Bool.not_true,Bool.false_eq_true,if_false];exact wpAny_pure ⟨rfl,rfl,λu hu'=>hall u (List.mem_cons_of_mem _ hu')⟩
  ·refine wpAny_bind (w6 (prog:=prog) (w:=w) 6 (qz q2 q3) ?_);simp only[Bool.not_true,Bool.false_eq_true,if_false];exact wpAny_pure ⟨rfl,rfl,λu hu'=>hall u (List.mem_cons_of_mem _ hu')⟩
 ·rintro⟨r1,r2⟩ s' ⟨hr,rfl,_⟩;simp only at hr;subst hr;exact wpAny_pure h
 ·have hv:v∈[Value.int k.1 t1,.int k.2.1 t2,.ref ta]:=hv;simp only[List.mem_cons,List.not_mem_nil,or_false]at hv;rcases hv with rfl|rfl|rfl
  ·exact .inl rfl
  ·exact .inl rfl
  ·exact .inr rfl
end
def mQ (prog:Program) (w:World):HeapKind prog w KA where
 is:=IsArr
 hash:=mF
 draws:=λk=>k.2.2.length+4
 room:=λA=>A.units+2<cLine
 inj:=λhx hy=>hx.inj hy
 keeps:=λhx ho hd hs=>by
  obtain⟨ta,t1,t2,its,q1,q2,q3⟩:=hx;exact⟨ta,t1,t2,its,lM q1 ho hd hs,lM q2 ho hd hs,q3⟩
 pyHash:=λhu hk h=>ux hu hk h
 eqBool:=λhu hx hy h=>zK hu hx hy _ _ _ _ h
 quiet:=λhk h=>w8 hk h
variable {C:Addr} {X:Cx}
variable {O:St} {H:Hp}
theorem kx {pins:List (Addr×Obj)} {s:Shared} (I:Inv X pins O H s) {kb:Addr} (h:KeyIn H k kb):IsArr s.heap k kb:=by
 obtain⟨ta,h1,h2⟩:=h;obtain⟨its,r,p,_⟩:=I.tuple (SqT.of h1);obtain⟨jts,r2,p2,_⟩:=I.tuple (SqT.of h2);cases r with
 | cons a b =>
  cases b with
  | cons c d =>
   cases d with
   | cons e f =>
    cases f;obtain⟨t1,rfl⟩:=a;obtain⟨t2,rfl⟩:=c;cases e;exact⟨ta,t1,t2,jts,p,p2,nU r2⟩
variable {xs:List (KA×Addr×Value)}
theorem rG {pins:List (Addr×Obj)} {s:Shared} (I:Inv X pins O H s) (e:H a=some (kK a xs)) (hk:∀x∈xs,KeyIn H x.1 x.2.1) (nd:(xs.map (·.1)).Nodup) :
  s.heap.DictOfH (mQ X.prog X.w) a xs/\(a==sysModules)=false/\xs.length<=100001:=by
 obtain⟨⟨h1,hl,o,es,ep,h2,h3,h4,h5⟩,_⟩:=I.hok a _ e;exact⟨⟨o,es,ep,h2,h3,h4,h5,λx hx=>kx I (hk x hx),nd⟩,h1,hl⟩
def Gq:R2:=λx y H Q=>∃a xs kb k p v,x=.ref a/\y=.ref kb/\H a=some (kK a xs)/\(∀x∈xs,KeyIn H x.1 x.2.1)/\(xs.map (·.1)).Nodup/\KeyIn H k kb/\atKey xs k=some p/\RelV v p.2/\Q v H
theorem D4 (hu:X.A.units+3<cLine):IxR X Gq:=by
 intro value slice pins s O H x y v u Q I rx ry h hs;obtain⟨a,xs,kb,k,p,v',rfl,rfl,e,hk,nd,hkey,hp,rp,q⟩:=h;cases rx;cases ry;obtain⟨hD,_,_⟩:=rG I e hk nd;exact subscriptTail_builtinR (x:=p.2) hD.typeIs slot_dict_getitem.lookup
  (wpAny_getItem_heap (knd:=mQ X.prog X.w) (Q:=λr s'=>r=p.2/\EP X pins O Q r s') (by show X.A.units+1+2<cLine;omega) (kx I hkey) hD hp ⟨rfl,v',H,I.tok _,rp,q⟩) hs
def Gr (neg:Bool):R2:=λx y H Q=>∃a xs kb k,x=.ref kb/\y=.ref a/\H a=some (kK a xs)/\(∀x∈xs,KeyIn H x.1 x.2.1)/\(xs.map (·.1)).Nodup/\KeyIn H k kb/\Q (.bl (if neg then !(atKey xs k).isSome else(atKey xs k).isSome)) H
theorem Bg (hu:X.A.units+3<cLine):OpR X (compareOp .NotIn) (Gr true):=by
 intro pins s O H x y v u Q I rx ry h;obtain⟨a,xs,kb,k,rfl,rfl,e,hk,nd,hkey,q⟩:=h;cases rx;cases ry;obtain⟨hD,hs,_⟩:=rG I e hk nd;exact wpAny_notIn_heap (knd:=mQ X.prog X.w) (by show X.A.units+1+2<cLine;omega) (kx I hkey) hs hD ⟨.bl _,H,I.tok _,rfl,q⟩
def EY:Cm:=λo i v H Q=>∃a xs kb k,o=.ref a/\i=.ref kb/\H a=some (kK a xs)/\(∀x∈xs,KeyIn H x.1 x.2.1)/\(xs.map (·.1)).Nodup/\KeyIn H k kb/\xs.length<=100000/\∀u,RelV v u->((storedH xs k kb u).map (·.1)).Nodup->Q (upd H a (kK a (storedH xs k kb u)))
theorem oA:∀h1 h2:Heap,dOk a xs h1->(∀o,h1.get? a=some o->h2.get? a=some o)->dOk a xs h2:=λh1 h2 ⟨p1,p2,o,es,ep,e1,e2,e3,e4⟩ k=>⟨p1,p2,o,es,ep,k o e1,e2,e3,e4⟩
theorem vI (hu:X.A.units+3<cLine):Ex X EY:=by
 intro pins s O H o i v ov iv u Q I ro ri rv h;obtain⟨a,xs,kb,k,rfl,rfl,e,hk,nd,hkey,hl,q⟩:=h;cases ro;cases ri;obtain⟨hD,hs,_⟩:=rG I e hk nd;refine wpAny_setItem_heap (knd:=mQ X.prog X.w) (by show X.A.units+1+2<cLine;omega) (kx I hkey) hD (λh' hD' sb=>?_) (Nat.le_trans hl (by decide));obtain⟨o',es,ep,e1,e2,e3,e4,_,nd'⟩:=hD';have len:(storedH xs k kb u).length<=100001:=by
  cases z:atKey xs k with
  | none=>rw[storedH_new z];simp;omega
  | some p=>rw[storedH_old z];simp;omega
 refine⟨_,I.write (x:=a) (e:=a) (by rw[e];exact True.intro) (.inl rfl) (λb w hb z=>(sb.2 b hb).trans z) ⟨o',e1⟩ ?_,q u rv nd'⟩;exact⟨⟨hs,len,o',es,ep,e1,e2,e3,e4⟩,⟨o',e1⟩,oA⟩
def nQ (kvs:List (KA×D)) (k:KA) (d:D):List (KA×D):=if(kvs.any λp=>decide (p.1=k))=true then kvs.map (λp=>if p.1=k then(p.1,d)else p)else kvs++[(k,d)]
def uQ (kvs:List (KA×D)) (k:KA):Option D:=(kvs.find? λp=>decide (p.1=k)).map (·.2)
def gY:List D->Option (List Int)
 | []=>some []
 | .int i::r=>(gY r).map (i :: ·)
 | _=>none
def pk:D->Option KA
 | .tup [.int a,.int b,.tup xs]=>(gY xs).map λl=>(a,b,l)
 | _=>none
theorem jx {K:Frag} {M:Hp}:∀{xs:List D} {l:List Int} {vs:List V},gY xs=some l->HasL K C M vs xs->vs=l.map V.int
 | [],l,vs,e,h=>by cases e;cases h;rfl
 | x::r,l,vs,e,h=>by
  cases x with
  | int i =>
   rw[gY]at e;cases z:gY r with
   | none=>rw[z]at e;cases e
   | some l' =>
    rw[z]at e;cases e;cases h with
    | cons a b=>cases a;rw[jx z b];rfl
  | _=>cases e
variable {K:Frag}
theorem q9 {M:Hp} {d:D} {v:V} (e:pk d=some k) (h:Has K C M v d):∃kb,v=.ref kb/\KeyIn M k kb:=by
 unfold pk at e;split at e
 ·rename_i a b xs;cases z:gY xs with
  | none=>rw[z]at e;cases e
  | some l =>
   rw[z]at e;cases e;cases h with
   | tup q hl =>
    cases hl with
    | cons h1 hl =>
     cases h1;cases hl with
     | cons h2 hl =>
      cases h2;cases hl with
      | cons h3 hl =>
       cases hl;cases h3 with
       | tup q2 g=>rw[jx z g]at q2;exact⟨_,rfl,_,q,q2⟩
 ·cases e
variable {kvs:List (KA×D)}
section
variable {K:Frag} {M:Hp}
theorem rE:∀{kvs:List (KA×D)} {xs:List (KA×Addr×Value)} {k:KA},Paired (EntOk K C M) kvs xs->(atKey xs k).isSome=kvs.any λp=>decide (p.1=k)
 | _,_,k,.nil=>rfl
 | _,_,k,.cons (a:=p) (b:=q) h t=>by
  have ih:=rE (k:=k) t;have e:=h.1;unfold atKey at ih ⊢;rw[List.find?_cons,List.any_cons,<- e];by_cases z:p.1=k
  ·rw[decide_eq_true z];rfl
  ·rw[decide_eq_false z];exact ih
theorem wz:∀{kvs:List (KA×D)} {xs:List (KA×Addr×Value)} {k:KA} {d:D},Paired (EntOk K C M) kvs xs->uQ kvs k=some d->∃p v,atKey xs k=some p/\RelV v p.2/\Has K C M v d
 | _,_,k,d,.nil,e=>by cases e
 | _,_,k,d,.cons (a:=p) (b:=q) h t,e=>by
  obtain⟨e1,_,v,h1,h2⟩:=h;unfold uQ at e;unfold atKey;rw[List.find?_cons]at e ⊢;rw[<- e1];by_cases z:p.1=k
  ·rw[decide_eq_true z]at e ⊢;cases e;exact⟨_,v,rfl,h1,h2⟩
  ·rw[decide_eq_false z]at e ⊢;exact wz t e
theorem i9:∀{kvs:List (KA×D)} {xs:List (KA×Addr×Value)},Paired (EntOk K C M) kvs xs->∀x∈xs,KeyIn M x.1 x.2.1
 | _,_,.nil,x,hx=>by cases hx
 | _,_,.cons h t,x,hx=>by
  rcases List.mem_cons.mp hx with rfl|hx
  ·rw[<- h.1];exact h.2.1
  ·exact i9 t x hx
theorem wy {k:KA} {d:D} {u:Value} {v:V} (rv:RelV v u) (hv:Has K C M v d):∀{kvs:List (KA×D)} {xs:List (KA×Addr×Value)},Paired (EntOk K C M) kvs xs->Paired (EntOk K C M) (kvs.map λp=>if p.1=k then(p.1,d)else p) (xs.map (putAt k u))
 | _,_,.nil=>.nil
 | _,_,.cons (a:=p) (b:=q) h t=>by
  refine .cons ?_ (wy rv hv t);obtain⟨e1,h2,v',h3,h4⟩:=h;show EntOk K C M (if p.1=k then(p.1,d)else p) (if q.1=k then(q.1,q.2.1,u)else q);rw[<- e1];by_cases z:p.1=k
  ·rw[if_pos z,if_pos z];exact⟨rfl,h2,v,rv,hv⟩
  ·rw[if_neg z,if_neg z];exact⟨e1,h2,v',h3,h4⟩
theorem wx {d:D} {u:Value} {v:V} {kb:Addr} (rv:RelV v u) (hv:Has K C M v d) (hk:KeyIn M k kb) (h:Paired (EntOk K C M) kvs xs):Paired (EntOk K C M) (nQ kvs k d) (storedH xs k kb u):=by
 unfold nQ;have e:=rE (k:=k) h;by_cases z:(kvs.any λp=>decide (p.1=k))=true
 ·rw[if_pos z];rw[z]at e;obtain⟨p,hp⟩:=Option.isSome_iff_exists.mp e;rw[storedH_old hp];exact wy rv hv h
 ·rw[if_neg z];have:atKey xs k=none:=by
   cases q:atKey xs k with
   | none=>rfl
   | some p=>rw[q]at e;exact absurd e.symm z
  rw[storedH_new this];exact Paired.snoc h ⟨rfl,hk,v,rv,hv⟩
end
variable {i:Nat}
theorem Rel.setDic {H0:Hp} {U:RB} (r:Rel K C H0 U O H) (hn:H a=none):Rel K C H0 (U.put i (.dic []) [a]) (O.set i (some (.ref a))) (upd H a (kK a [])) :=
 r.put j9 (λj hj=>List.getElem?_set_ne λz=>hj z.symm) (λb hb=>.inr (by cases List.mem_singleton.mp hb;exact hn)) (λj _=>.of (aA hn)) (λb o e=>aA hn b o (msk_some.mp e).2)
  (λb hb=>.inr (by cases List.mem_singleton.mp hb;exact⟨[],aF⟩)) λhi s=>⟨a,jW (by rw[<- r.len];exact hi),List.mem_singleton.mpr rfl,[],aF,List.nodup_nil,.nil⟩
theorem Rel.putDic {H0:Hp} {U:RB} (r:Rel K C H0 U O H) {kvs':List (KA×D)} {xs':List (KA×Addr×Value)} (e:U.rho[i]?=some (some (.dic kvs))) (q:O[i]?=some (some (.ref a)))
  (nd:(xs'.map (·.1)).Nodup) (h:Paired (EntOk K C (msk U O H)) kvs' xs'):Rel K C H0 (U.put i (.dic kvs') [a]) O (upd H a (kK a xs')):=by
 obtain⟨b,e1,ha,_⟩:=r.at_ i _ e;rw[q]at e1;cases e1;exact r.put rfl (λj _=>rfl) (λb hb=>.inl (by cases List.mem_singleton.mp hb;exact ha)) (λj hj=>r.apart ha hj) (r.shown ha) (λb hb=>.inr (by cases List.mem_singleton.mp hb;exact⟨xs',aF⟩))
  λhi s=>⟨a,q,List.mem_singleton.mpr rfl,xs',aF,nd,Paired.mapP h λp q z=>z.mono s⟩
def zW (i:Nat):Rho->R Out:=λU=>.val (.nx (U.set i (some (.dic []))))
variable {pos:Pos}
theorem yI:PE X (.Dict [] [] pos) (λ_ H Q=>∀p,H p=none->Q (.ref p) (upd H p (kK p []))):=λpins s O H Q I h=>by
 have big:sysModules<s.heap.objs.size:=Nat.lt_trans (by decide) (show mainGlobals<s.heap.objs.size from(I.mod.glob.keeps I.bk).lt);have e1:(s.heap.push { cls:=.type "dict",data:=.dict #[] }).get? s.heap.objs.size=some { cls:=.type "dict",data:=.dict #[] }:=Heap.get?_push_size _ rfl;have ok:dOk s.heap.objs.size [] (s.heap.push { cls:=.type "dict",data:=.dict #[] }):=⟨by simpa using(Nat.ne_of_gt big),Nat.zero_le _,_,#[],_,e1,⟨rfl,rfl,rfl⟩,rfl,rfl⟩;exact wpAny_Dict_empty ⟨.ref s.heap.objs.size,_,I.laid (a:=s.heap.objs.size) (o:=kK s.heap.objs.size []) (t':=s.toks) (λ_ _ q=>Heap.get?_push_of_some _ q) (Nat.le_refl _) ⟨ok,⟨_,e1⟩,oA⟩,rfl,h _ I.fresh⟩
variable {x:Str}
theorem vK {pos' dp:Pos} (hN:X.N.Nodup) (hi:X.N[i]?=some x) (hx:Loc X.env.scope x) (hs:swapsWith (.Dict [] [] dp) (some (.Name x pos')) pos.line X.env=pure false:=by rfl)
    (hf:X.fn x=true\/X.env.scope.names.lookup x=some .local:=by first|exact .inl rfl|exact .inr rfl|assumption):SD C X (.Assign [.Name x pos'] (.Dict [] [] dp) pos) (zW i) :=
  aW (j0 hN hi hx yI hs hf) λD O H yy0=>by
   obtain⟨_,H0,⟨U,rfl,r⟩,q⟩:=yy0;exact λp hp=>q _ _ ⟨_,rfl,r.setDic hp⟩
def rF (i:Nat) (k e:Rho->R D):Rho->R Out:=λU=>(e U).bind λd=>(noE (k U)).bind λkd=>match pk kd with
 | some k=>match U[i]? with
  | some (some (.dic kvs))=>if kvs.length<=100000 then .val (.nx (U.set i (some (.dic (nQ kvs k d)))))else .bad
  | _=>.bad
 | none=>.bad
theorem nl {M:Hp} (h:Paired (EntOk K C M) kvs xs):kvs.length=xs.length:=Paired.length h
theorem u6 {M M':Hp} (m:Same M M') (h:Paired (EntOk K C M) kvs xs):Paired (EntOk K C M') kvs xs:=Paired.mapP h λp q z=>z.mono m
variable {p:Pos} {Fk:Rho->R D}
theorem vJ {k e : Expr} {sp : Pos} {F : Rho -> R D} (hu : X.A.units + 3 < cLine) (hv : PE X (.Name x p) (df i)) (hk : ED C X k Fk) (he : ED C X e F)
    (ha : ∀ v, assign (.Subscript (.Name x p) k sp) X.env v = (do
      let ov <- holding [v] (eval (.Name x p) X.env)
      let iv <- holding [v, ov] (eval k X.env)
      standAt sp
      holding [v, ov, iv] (setItem ov iv v)
      release [v, ov, iv] []) := by intro _; rfl)
    (hs : swapsWithSole [.Subscript (.Name x p) k sp] e pos.line X.env = pure false := by rfl) (hw : swappedStores [.Subscript (.Name x p) k sp] e X.env = pure none := by rfl)
    (h1 : (assignEach [.Subscript (.Name x p) k sp] X.env).map (·.2) = [assign (.Subscript (.Name x p) k sp) X.env] := by rfl) :
    SD C X (.Assign [.Subscript (.Name x p) k sp] e pos) (rF i Fk F) :=
  aW (qN he (uE hv hk (vI hu) ha) hs hw h1) fun D O H yy1 => by
   obtain ⟨_, H0, ⟨U, rfl, r⟩, q⟩ := yy1
   exact ⟨U, ⟨H0, r⟩, aQ (P := fun z _ => pS C X z H0 D) (fun c h => cW r h) (fun h => h) q fun d v H1 s1 h1 q1 => by
    cases ek : Fk U with
    | exc c => rw [ek] at q1; exact q1.elim
    | bad => rw [ek] at q1; exact q1.elim
    | val kd =>
      rw [ek] at q1
      dsimp only [DL.R.bind, noE] at q1
      split at q1
      · rename_i kk ekk
        split at q1
        · rename_i kvs ei
          split at q1
          · rename_i hl
            obtain ⟨a, ea, _, xs, eH, nd, hp⟩ := r.at_ i _ ei
            refine ⟨_, ea, U, ⟨H0, r.mono s1⟩, ?_⟩
            rw [ek]
            intro kv H2 s2 h2
            obtain ⟨kb, rfl, hkey⟩ := q9 ekk h2
            have hp2 := u6 (aO (s1.trans s2)) hp
            refine ⟨a, xs, kb, kk, rfl, rfl, s2 _ _ (s1 _ _ eH), fun x hx => (i9 hp2 x hx).mono msk_sub, nd, hkey.mono msk_sub, by rw [<- nl hp]; exact hl, fun u ru nd' => ?_⟩
            exact q1 _ _ ⟨_, rfl, ((r.mono s1).mono s2).putDic ei ea nd' (wx ru (h1.mono (aO s2)) hkey hp2)⟩
          · exact q1.elim
        · exact q1.elim
      · exact q1.elim⟩
def rH (i:Nat) (k:Rho->R D):Rho->R D:=λU=>match U[i]? with
 | some (some (.dic kvs))=>(k U).bind λkd=>match pk kd with
  | some k=>match uQ kvs k with
   | some d=>.val d
   | none=>.bad
  | none=>.bad
 | _=>.bad
theorem wC {k:Expr} (hu:X.A.units+3<cLine) (hv:PE X (.Name x p) (df i)) (hk:ED C X k Fk) (hs:kM k:=by exact λ_ _=>rfl) :
  ED C X (.Subscript (.Name x p) k pos) (rH i Fk) :=
 aD (yG (D4 hu) hv hk hs) λO H Q zz1=>by
  obtain⟨U,⟨H0,r⟩,q⟩:=zz1;unfold rH at q;split at q
  ·rename_i kvs ei;obtain⟨a,ea,_,xs,eH,nd,hp⟩:=r.at_ i _ ei;refine⟨_,ea,U,⟨H0,r⟩,aQ (P:=λz H=>pV X (dC C X U O) z O H Q) (λ_ h=>h) (λh=>h) q λkd kv H1 s1 h1 q1=>?_⟩;split at q1
   ·rename_i kk ekk;split at q1
    ·rename_i d eg;obtain⟨kb,rfl,hkey⟩:=q9 ekk h1;have hp2:=u6 (aO s1) hp;obtain⟨pr,v,e1,e2,e3⟩:=wz hp2 eg;exact⟨a,xs,kb,kk,pr,v,rfl,rfl,s1 _ _ eH,λx hx=>(i9 hp2 x hx).mono msk_sub,nd,hkey.mono msk_sub,e1,e2,q1 v H1 s1 e3⟩
    ·exact q1.elim
   ·exact q1.elim
  ·exact q.elim
def zV (i:Nat) (k:Rho->R D):Rho->R Bool:=λU=>(k U).bind λkd=>match U[i]? with
 | some (some (.dic kvs))=>match pk kd with
  | some k=>.val (!(kvs.any λp=>decide (p.1=k)))
  | none=>.bad
 | _=>.bad
theorem As {k : Expr} (hu : X.A.units + 3 < cLine) (hv : PE X (.Name x p) (df i)) (hk : ED C X k Fk) (hm : behindInMarks .NotIn (.Name x p) = false := by rfl) :
    TD C X (.Compare k [.NotIn] [.Name x p] pos) (zV i Fk) :=
  eZ (vR (Bg hu) hk hv hm) fun O H Q yy2 => by
   obtain ⟨U, ⟨H0, r⟩, q⟩ := yy2
   exact ⟨U, ⟨H0, r⟩, aQ (P := fun z H => pB X z O H Q) (fun _ h => h) (fun h => h) q fun kd kv H1 s1 h1 q1 => by
    split at q1
    · rename_i kvs ei
      obtain ⟨a, ea, _, xs, eH, nd, hp⟩ := r.at_ i _ ei
      split at q1
      · rename_i kk ekk
        obtain ⟨kb, rfl, hkey⟩ := q9 ekk h1
        have hp2 := u6 (aO s1) hp
        refine ⟨_, ea, a, xs, kb, kk, rfl, rfl, s1 _ _ eH, fun x hx => (i9 hp2 x hx).mono msk_sub, nd, hkey.mono msk_sub, _, rfl, ?_⟩
        have := rE (k := kk) hp2
        rw [this]
        exact q1 H1 s1
      · exact q1.elim
    · exact q1.elim⟩
end DL
namespace DL
open PySem PySem.Spec PyProof.Rows L2
variable {C:Addr} {X:Cx}
def fz (i:Nat) (F:Rho->R Out):Rho->R Out:=λU=>F (frz i U)
theorem jX {sts:List Stmt} {F:Rho->R Out} (i:Nat) (h:SDs C X sts F):SDs C X sts (fz i F):=Az i h
def Fn (P:Program) (w:World) (K:Frag) (mg:Str->Option Value) (base:Heap) (C:Addr) (k:Nat) (x:Str) (n:Nat) (den:List D->R D):Prop :=
 ∃f fd ps,FnOk P w K mg base CX0 k f fd ps (spD K C n den)/\mg x=some (.ref f)/\keepIn K (.ref f)=true/\Binds K fd ps []
variable {k:Nat}
theorem FO {n:Nat} {den:List D->R D} {x:Str} {p pos:Pos} {e:Expr} {es:List Expr} {Fa:Rho->R (List D)} (F:Fn X.prog X.w X.K X.mg X.base C k x n den) (hr:Room k X.A) (hg:Gl X x) (ha:AD C X (e::es) Fa) (hx:X.xe=λ_ _=>False)
  (hdb:(x==("__debug__":Str))=false:=by decide) (he:starEach (e::es) X.env=(false,eval e X.env)::starEach es X.env:=by rfl) (hpl:(backTo pos (starEach es X.env)).any (·.1)=false:=by rfl) :
  ED C X (.Call (.Name x p) (e::es) [] pos) (cal n den Fa):=by
 obtain⟨f,fd,ps,h1,h2,h3,h4⟩:=F;exact B1 h1 hr hg h2 h3 h4 nj ha hdb he hpl
theorem br {A:Around} (r:Room k A):A.units+9<cLine:=by have:=r.un;omega
theorem pX {A:Around} (r:Room k A):A.units+3<cLine:=by have:=r.un;omega
theorem eK (m:Nat):∀j∈[m],m<=j:=λj hj=>by rw[List.mem_singleton.mp hj];exact Nat.le_refl _
theorem D8 (m:Nat):∀j∈[m,m+1],m<=j:=λj hj=>by
 rcases List.mem_cons.mp hj with h|h
 ·rw[h];exact Nat.le_refl _
 ·rw[List.mem_singleton.mp h];exact Nat.le_succ _
def whD (c:Rho->R Bool) (F:Rho->R Out):Nat->Rho->R Out
 | 0,_=>.bad
 | n+1,U=>(c U).bind λb=>if b=true then(F U).bind λo=>match o with
   | .nx U'=>whD c F n U'
   | .ct U'=>whD c F n U'
   | .bk U'=>.val (.nx U')
   | .rt d=>.val (.rt d)
  else .val (.nx U)
theorem yc {c:Expr} {body:List Stmt} {pos:Pos} {Fc:Rho->R Bool} {F:Rho->R Out} (n:Nat) (hp:PassesOwn (model X.prog X.w) X.A X.env X.xe) (hc:TD C X c Fc) (hb:SDs C X body F):SD C X (.While c body [] pos) (whD Fc F n) :=
  aW (yu hp hc hb) λD O H yy0=>by
   obtain⟨_,H0,⟨U,rfl,r⟩,q⟩:=yy0;exact⟨λm σ' H'=>∃U':RB,bP C X H0 U' σ' H'/\pS C X (whD Fc F m U') H0 D,⟨n,U,r,q⟩,λm σ' H' zz0=>by
    obtain⟨U',r',q'⟩:=zz0;cases m with
    | zero=>exact q'.elim
    | succ m =>
      unfold whD at q';refine⟨U',⟨H0,r'⟩,kl (P:=λz _=>pS C X z H0 D) (λc h=>cW r' h) (λh=>h) q' λb H1 s1 q1=>?_⟩;cases b with
      | false=>exact rh (q1 σ' H1 (r'.mono s1).e)
      | true =>
        refine rb ⟨λO2 H2=>∃U2:RB,bP C X H0 U2 O2 H2/\pS C X (whD Fc F m U2) H0 D,λO2 H2 z=>⟨m,Nat.lt_succ_self _,z⟩,U',H0,(r'.mono s1).e,?_⟩;rw[if_pos rfl]at q1;cases eF:F U' with
        | val o =>
          rw[eF]at q1;cases o with
          | nx U2=>exact λO4 H4 ⟨β4,e4,r4⟩=>⟨β4,r4,by rw[e4];exact q1⟩
          | ct U2=>exact λO4 H4 ⟨β4,e4,r4⟩=>⟨β4,r4,by rw[e4];exact q1⟩
          | bk U2=>exact λO4 H4 r4=>q1 O4 H4 r4
          | rt d=>exact λv4 H4 s4 h4=>q1 v4 H4 s4 h4
        | exc c=>rw[eF]at q1;exact q1
        | bad=>rw[eF]at q1;exact q1⟩
end DL
namespace DL
open PySem PySem.Spec PyProof.Rows L2
variable {x:Str}
section
variable {env:Env} {r:List Expr} {p:Pos}
theorem aa:starEach (.Name x p::r) env=(false,eval (.Name x p) env)::starEach r env:=rfl
theorem au {a k}:starEach (.Constant a k p::r) env=(false,eval (.Constant a k p) env)::starEach r env:=rfl
theorem cI {a}:starEach (.List a p::r) env=(false,eval (.List a p) env)::starEach r env:=rfl
theorem iU {a k}:starEach (.Tuple a k p::r) env=(false,eval (.Tuple a k p) env)::starEach r env:=rfl
theorem bi {a b c}:starEach (.BinOp a b c p::r) env=(false,eval (.BinOp a b c p) env)::starEach r env:=rfl
theorem ae {a b}:starEach (.Subscript a b p::r) env=(false,eval (.Subscript a b p) env)::starEach r env:=rfl
theorem bF {a b}:starEach (.Attribute a b p::r) env=(false,eval (.Attribute a b p) env)::starEach r env:=rfl
theorem ax {a b c}:starEach (.Call a b c p::r) env=(false,eval (.Call a b c p) env)::starEach r env:=rfl
theorem aR {a b c}:starEach (.ListComp a b c p::r) env=(false,eval (.ListComp a b c p) env)::starEach r env:=rfl
theorem av:(backTo p (starEach [] env)).any (·.1)=false:=rfl
theorem am {e:Expr} (h:starEach (e::r) env=(false,eval e env)::starEach r env) (h2:(backTo p (starEach r env)).any (·.1)=false):(backTo p (starEach (e::r) env)).any (·.1)=false:=by
 rw[h];exact h2
theorem bc {e:Expr} (h:starEach [e] env=(false,eval e env)::starEach [] env):starEach [e] env=[(false,eval e env)]:=h.trans rfl
end
variable {i j:Nat} {sl:Slt} {a:Addr}
section
variable {K:Frag} {C:Addr} {H0 H:Hp} {U:RB} {O:St}
def RB.del (U:RB) (i:Nat):RB:=⟨U.rho.set i none,λj=>if j=i then[]else U.ad j⟩
theorem qb {l:Rho} (h:(l.set i none)[j]?=some (some sl)):i≠j/\l[j]?=some (some sl):=by
 rw[List.getElem?_set]at h;split at h
 ·split at h<;>cases h
 ·exact⟨by assumption,h⟩
theorem je (h:a∈(U.del i).ad j):j≠i/\a∈U.ad j:=by
 unfold RB.del at h;dsimp only at h;split at h
 ·cases h
 ·exact⟨‹_›,h⟩
theorem kJ (h:j≠i):(U.del i).ad j=U.ad j:=by
 unfold RB.del;dsimp only;rw[if_neg h]
theorem Own.forget {b:Addr} (h:Own (U.del i) O b):Own U O b:=by
 obtain⟨j,h⟩:=h;exact⟨j,(je h).2⟩
theorem Rel.forget (r:Rel K C H0 U O H) (i:Nat):Rel K C H0 (U.del i) O H:=by
 have sub:Same (msk U O H) (msk (U.del i) O H):=λb o e=>msk_some.mpr ⟨λz=>(msk_some.mp e).1 z.forget,(msk_some.mp e).2⟩;refine⟨?_,r.keep.trans sub,λj sl e=>?_,λj k a x y=>r.inj j k a (je x).2 (je y).2,λj a x=>r.kin j a (je x).2,λj a x=>?_⟩
 ·show(U.rho.set i none).length=_;rw[List.length_set];exact r.len
 ·obtain⟨hj,e⟩:=qb e;rw[kJ λz=>hj z.symm];exact(r.at_ j sl e).mono (Same.refl _) sub
 ·show j<(U.rho.set i none).length;rw[List.length_set];exact r.bnd j a (je x).2
end
def spM (K:Frag) (C:Addr) (den:List D->R D):Sp:=λvs H Q _=>∃a us xs,vs=[.ref a]/\H a=some (.lst us)/\HasL K C (cut [a] H) us xs/\match den xs with
 | .val d=>∀v H',Same (cut [a] H) H'->Has K C H' v d->Q v H'
 | _=>False
def Mv (P:Program) (w:World) (K:Frag) (mg:Str->Option Value) (base:Heap) (C:Addr) (k:Nat) (x:Str) (den:List D->R D):Prop :=
 ∃f fd p,FnOk P w K mg base CX0 k f fd [p] (spM K C den)/\mg x=some (.ref f)/\keepIn K (.ref f)=true/\Binds K fd [p] []
def st1 (N:List Str) (xs:List D):Rho:=some (.own xs)::List.replicate (N.length-1) none
variable {N:List Str} {xs:List D}
theorem C6 (h:(st1 N xs)[i]?=some (some sl)):i=0/\sl=.own xs:=by
 cases i with
 | zero=>unfold st1 at h;simp at h;exact⟨rfl,h.symm⟩
 | succ n =>
  unfold st1 at h;rw[List.getElem?_cons_succ,List.getElem?_replicate]at h;split at h<;>cases h
variable {H:Hp} {st:Stmt} {f:Addr} {fd:FuncData} {k:Nat}
section
variable {P:Program} {w:World} {K:Frag} {mg:Str->Option Value} {base:Heap} {C:Addr}
theorem uw {us:List V} (e:H a=some (.lst us)) (h:HasL K C (cut [a] H) us xs):vq K C (cut [a] H) (st1 N xs) (L2.start N [.ref a]) H:=by
 have s0:(L2.start N [V.ref a])[0]?=some (some (.ref a)):=by unfold L2.start;simp
 have own:∀{i:Nat} {b:Addr},b∈(⟨st1 N xs,λj=>if j=0 then[a]else[]⟩:RB).ad i->i=0/\b=a:=λ{i b} z=>by
  dsimp only at z;split at z
  ·exact⟨‹_›,List.mem_singleton.mp z⟩
  ·cases z
 have sub:Same (cut [a] H) (msk ⟨st1 N xs,λj=>if j=0 then[a]else[]⟩ (L2.start N [.ref a]) H):=λb o e1=>by
  obtain⟨h1,h2⟩:=cut_some.mp e1;exact msk_some.mpr ⟨λ⟨i,z⟩=>h1 (List.mem_singleton.mpr (own z).2),h2⟩
 refine⟨⟨st1 N xs,λj=>if j=0 then[a]else[]⟩,rfl,?_,sub,λi sl e1=>?_,λi j b x y=>(own x).1.trans (own y).1.symm,λi b x=>.inl ?_,λi b x=>?_⟩
 ·show(st1 N xs).length=_;unfold st1 L2.start;simp
 ·obtain⟨rfl,rfl⟩:=C6 e1;exact⟨a,us,s0,List.mem_singleton.mpr rfl,e,h.mono sub⟩
 ·rw[(own x).2];exact⟨us,e⟩
 ·rw[(own x).1];exact Nat.succ_pos _
theorem Fp {qual p:Str} {den:Rho->R Out} (F:Fun K x qual st f fd) (sc:ay N [p] (aj st))
  (hb:∀(cdv:Value) (A:Around) (outer:List Env) (s:Shared) (H:Hp) (E:XK),Room k (A.deeper (envOfC qual (aj st) s.heap.objs.size f cdv)) ->
   SDs C (gi CX0 P w K mg base N qual (aj st) f cdv A outer s H E).nox (bY st) den) :
  FnOk P w K mg base CX0 (k+1) f fd [p] (spM K C λxs=>fin (den (st1 N xs))):=by
 refine F.ok sc (λvs H Q E h=>?_) (λcdv A outer s H vs Q E hr h=>⟨_,hb cdv A outer s H E hr,?_⟩)
 ·obtain⟨a,us,xs,rfl,_⟩:=h;rfl
 obtain⟨a,us,xs,rfl,e0,h,q⟩:=h;refine⟨st1 N xs,cut [a] H,uw e0 h,?_⟩;dsimp only at q;cases e:den (st1 N xs)with
 | val o =>
  rw[e]at q;cases o with
  | nx U'=>exact λσ' H' ⟨_,_,r⟩=>q _ H' (r.keep.trans msk_sub) .non
  | rt d=>exact λv H' s' h'=>q v H' s' h'
  | bk U'=>exact q.elim
  | ct U'=>exact q.elim
 | exc c=>rw[e]at q;exact q.elim
 | bad=>rw[e]at q;exact q.elim
end
variable {p pos cp:Pos} {den:List D->R D}
section
variable {C:Addr} {X:Cx}
def Bm (i:Nat) (den:List D->R D):Rho->R Out:=λU=>match U[i]? with
 | some (some (.own xs))=>(noex (den xs)).bind λd=>.val (.nx (U.set i (some (.shr d))))
 | _=>.bad
theorem A6 {y:Str} {p':Pos} (F:Mv X.prog X.w X.K X.mg X.base C k x den) (hr:Room k X.A) (hg:Gl X x) (hv:PE X (.Name y p') (df i)) (hdb:(x==("__debug__":Str))=false:=by decide) :
  PE X (.Call (.Name x p) [.Name y p'] [] pos) (λO H Q=>∃(U:RB) (H0:Hp) (xs:List D) (d:D),bP C X H0 U O H/\U.rho[i]?=some (some (.own xs))/\den xs=.val d/\∀v H',bP C X H0 (U.del i) O H'->dC C X (U.del i) O H' v d->Q v H'):=by
 obtain⟨f,fd,pn,hF,hm,hk,hb⟩:=F;rintro pins s O H Q I ⟨U,H0,xs,d,r0,e0,ed,q⟩;obtain⟨a,vs,e1,ha,h1,h2⟩:=r0.at_ i _ e0;refine wpAny_Call_Name_kw (gx I hg hm ?_ hdb);refine callWith_K (h₀:=X.base) I.ok.mod.kin hk (thn ((bu hv bU aa) pos pins s O H (λus H1=>us=[.ref a]/\H1=H) I ⟨_,e1,rfl,rfl⟩) λus s1 ⟨ws,H1,I1,rv,ew,eh⟩=>⟨I1.kIn,?_⟩) aa av;subst ew;subst eh;have rf:=r0.forget i;have Z:=Rel.hid rf I1;have J:=I1.hide Z;have nz:a∉dv (U.del i) O:=λz=>by
  obtain⟨j,z⟩:=(fT rf.bnd).mp z;exact(je z).1 (r0.inj j i a (je z).2 ha)
 have sub:Same (msk U O H1) (cut [a] (cut (dv (U.del i) O) H1)):=λb o eb=>by
  obtain⟨g1,g2⟩:=msk_some.mp eb;refine cut_some.mpr ⟨λz=>g1 ?_,cut_some.mpr ⟨λz=>g1 ((fT rf.bnd).mp z).forget,g2⟩⟩;rw[List.mem_singleton.mp z];exact⟨i,ha⟩
 refine thn (kZ (E:=E0) (Q:=λv M'=>Same (cut [a] (cut (dv (U.del i) O) H1)) M'/\Has X.K C M' v d) hF hr hb .nil nj J rv ?_) λu s2 ⟨v,M',J2,ru,sm,hv'⟩=>?_
 ·rw[List.append_nil];refine⟨a,vs,xs,rfl,cut_some.mpr ⟨nz,h1⟩,h2.mono sub,?_⟩;rw[ed];exact λv H' s2 h2=>⟨s2,h2⟩
 ·obtain⟨I2,mz⟩:=I1.show' Z J2;have em:msk (U.del i) O (jn (dv (U.del i) O) H1 M')=M':=by
   rw[im rf.bnd]
   funext b
   by_cases hb:b∈dv (U.del i) O
   ·rw[gj hb,mz b hb]
   ·unfold cut;rw[if_neg hb,b0 hb]
  have sM:Same (msk U O H1) M':=sub.trans sm;have keep:∀j b,b∈(U.del i).ad j->jn (dv (U.del i) O) H1 M' b=H1 b:=λj b hb=>jM ((fT rf.bnd).mpr ⟨j,hb⟩);have tup:∀b us,H1 b=some (.tup us)->jn (dv (U.del i) O) H1 M' b=some (.tup us):=λb us eb=>by
   have nb:b∉dv (U.del i) O:=λz=>rf.tups eb ((fT rf.bnd).mp z);rw[b0 nb];exact sM b _ (msk_some.mpr ⟨r0.tups eb,eb⟩)
  refine⟨v,_,I2,ru,q v _ ⟨rf.len,by rw[em];exact r0.keep.trans sM,λj sl ej=>?_,rf.inj,λj b hb=>by rw[keep j b hb];exact rf.kin j b hb,rf.bnd⟩ (by show Has _ _ (msk _ O _) v d;rw[em];exact hv')⟩;rw[em];obtain⟨hj,ej'⟩:=qb ej;have qq:=r0.at_ j sl ej';rw[<- kJ (U:=U) (i:=i) λz=>hj z.symm]at qq;exact qq.stay ⟨λb hb o eo=>by rw[keep j b hb];exact eo,tup⟩ sM
theorem AK {y:Str} {p' pos':Pos} (F:Mv X.prog X.w X.K X.mg X.base C k x den) (hr:Room k X.A) (hg:Gl X x) (hv:PE X (.Name y p') (df i)) (hN:X.N.Nodup) (hi:X.N[i]?=some y) (hx:Loc X.env.scope y)
  (hs:swapsWith (.Call (.Name x p) [.Name y p'] [] cp) (some (.Name y pos')) pos.line X.env=pure false) (hdb:(x==("__debug__":Str))=false:=by decide)
  (hf:X.fn y=true\/X.env.scope.names.lookup y=some .local:=by first|exact .inl rfl|exact .inr rfl|assumption):SD C X (.Assign [.Name y pos'] (.Call (.Name x p) [.Name y p'] [] cp) pos) (Bm i den) :=
 aW (j0 hN hi hx (A6 F hr hg hv hdb) hs hf) λD O H zz1=>by
  obtain⟨_,H0,⟨U,rfl,r⟩,q⟩:=zz1;unfold Bm at q;split at q
  ·rename_i xs e0;cases ed:den xs with
   | val d =>
    rw[ed]at q;refine⟨U,H0,xs,d,r,e0,ed,λv H' r' h'=>?_⟩;refine q _ _ ⟨_,?_,r'.setShr (i:=i) h'⟩;show(U.rho.set i none).set i _=_;rw[List.set_set]
   | exc c=>rw[ed]at q;exact q.elim
   | bad=>rw[ed]at q;exact q.elim
  ·exact q.elim
def tx:List D->List (KA×D)->Option (List (KA×D))
 | [],kvs=>some kvs
 | x::r,kvs=>match pk x with
  | some k=>if kvs.length<=100000 then tx r (nQ kvs k (.bl true))else none
  | none=>none
def nY (il ix idd:Nat):Rho->R Out:=λU=>match U[il]?,U[idd]? with
 | some (some (.own xs)),some (some (.dic kvs))=>match tx xs kvs with
  | some kvs'=>if ix<U.length then .val (.nx ((U.set ix none).set idd (some (.dic kvs'))))else .bad
  | none=>.bad
 | _,_=>.bad
theorem wZ {il ix idd:Nat} {l d:Str} {px pl pd px2 sp pos2:Pos} (hu:X.A.units+3<cLine) (hp:PassesOwn (model X.prog X.w) X.A X.env X.xe) (hc:X.calm=true) (hl:PE X (.Name l pl) (df il)) (hg:PG X (.Name x px) (gy ix)) (hd:PE X (.Name d pd) (df idd)) (hx:PE X (.Name x px2) (df ix))
  (n1:ix≠il:=by decide) (n2:ix≠idd:=by decide) (n3:il≠idd:=by decide)
  (ha:∀v,assign (.Subscript (.Name d pd) (.Name x px2) sp) X.env v=(do
   let ov <- holding [v] (eval (.Name d pd) X.env)
   let iv <- holding [v,ov] (eval (.Name x px2) X.env)
   standAt sp
   holding [v,ov,iv] (setItem ov iv v)
   release [v,ov,iv] []):=by intro _;rfl)
  (hs:swapsWithSole [.Subscript (.Name d pd) (.Name x px2) sp] (.Constant (.bool true) j cp) pos2.line X.env=pure false:=by rfl) (hw:swappedStores [.Subscript (.Name d pd) (.Name x px2) sp] (.Constant (.bool true) j cp) X.env=pure none:=by rfl)
  (h1:(assignEach [.Subscript (.Name d pd) (.Name x px2) sp] X.env).map (·.2)=[assign (.Subscript (.Name d pd) (.Name x px2) sp) X.env]:=by rfl)
  (hfs:∀x,foldedSetIterable (.Name l pl) X.env x=pure x:=by intro _;rfl) :
  SD C X (.For (.Name x px) (.Name l pl) [.Assign [.Subscript (.Name d pd) (.Name x px2) sp] (.Constant (.bool true) j cp) pos2] [] pos) (nY il ix idd) :=
 aW (lf hp hc (AY hl) hg (cz (qN Cw (uE hd hx (vI hu) ha) hs hw h1)) hfs) λDn O H zz2=>by
  obtain⟨_,H0,⟨U,rfl,r⟩,q⟩:=zz2;unfold nY at q;split at q
  ·rename_i xs kvs el ed;split at q
   ·rename_i kvsf em;have hix:ix<U.rho.length:=by
     by_cases hix:ix<U.rho.length
     ·exact hix
     ·rw[if_neg hix]at q;exact q.elim
    rw[if_pos hix]at q;obtain⟨a,vs,ea,haA,eH,hL⟩:=r.at_ il _ el;have hdl:idd<U.rho.length:=(List.getElem?_eq_some_iff.mp ed).1;refine⟨_,ea,a,rfl,⟨_,SqL.of eH⟩,nX (K:=X.K) (a:=a) (xs:=vs) (λi σ' H'=>∃kvs' β,β.rho=(U.rho.set ix none).set idd (some (.dic kvs'))/\bP C X H0 β σ' H'/\a∈β.ad il/\σ'[il]?=some (some (.ref a))/\H' a=some (.lst vs)/\tx (xs.drop i) kvs'=some kvsf) ⟨kvs,U.del ix,?_,r.forget ix,by rw[kJ (Ne.symm n1)];exact haA,ea,eH,em⟩ (λi σ' H' _ ⟨kvs',β,eb,r',hb,e1,e2,e3⟩=>SqL.of e2) ?_ ?_⟩
    ·have e1:(U.rho.set ix none)[idd]?=some (some (.dic kvs)):=by rw[List.getElem?_set_ne n2];exact ed
     show U.rho.set ix none=_;apply List.ext_getElem?;intro m;by_cases hm:idd=m
     ·subst hm;rw[List.getElem?_set_self (List.getElem?_eq_some_iff.mp e1).1,e1]
     ·rw[List.getElem?_set_ne hm]
    ·rintro i v σ' H' hi ⟨kvs',β,eβ,r',hbA,e1,e2,e3⟩;have l1:β.rho[il]?=some (some (.own xs)):=by
      rw[eβ,List.getElem?_set_ne (Ne.symm n3),List.getElem?_set_ne n1];exact el
     obtain⟨a',vs',g1,ga,g2,g3⟩:=r'.at_ il _ l1;rw[e1]at g1;cases g1;rw[e2]at g2;cases g2;obtain⟨x0,hx0,hv0⟩:=g3.get' hi;have hlt:i<xs.length:=(List.getElem?_eq_some_iff.mp hx0).1;have edr:xs.drop i=x0::xs.drop (i+1):=by
      rw[List.drop_eq_getElem_cons hlt];have:=(List.getElem?_eq_some_iff.mp hx0).2;rw[this]
     rw[edr]at e3;unfold tx at e3;split at e3
     ·rename_i kk ekk;split at e3
      ·rename_i hlen;have rs:=r'.setShr (i:=ix) hv0;have ed':(β.put ix (.shr x0) []).rho[idd]?=some (some (.dic kvs')):=by
        show(β.rho.set ix _)[idd]?=_;rw[List.getElem?_set_ne n2,eβ,List.getElem?_set_self (by simpa using hdl)]
       obtain⟨b,eb,hbb,ys,eY,nd,hpd⟩:=rs.at_ idd _ ed';rw[kh (Ne.symm n2)]at hbb;obtain⟨kb,rfl,hkey⟩:=q9 ekk hv0;have hxl:ix<σ'.length:=by have:=r'.len;rw[eβ]at this;simp at this;omega
       have ex2:(σ'.set ix (some (V.ref kb)))[ix]?=some (some (.ref kb)):=List.getElem?_set_self hxl;have hkey2:KeyIn (msk (β.put ix (.shr x0) []) (σ'.set ix (some (V.ref kb))) H') kk kb:=hkey.mono mE;refine⟨_,eb,_,ex2,b,ys,kb,kk,rfl,rfl,eY,λz hz=>(i9 hpd z hz).mono msk_sub,nd,hkey.mono msk_sub,by rw[<- nl hpd];exact hlen,λu ru nd'=>?_⟩;have r2:=(rs.putDic ed' eb nd' (wx ru (.bl true) hkey2 hpd)).forget ix;refine⟨nQ kvs' kk (.bl true),_,?_,r2,?_,?_,?_,e3⟩
       ·show(((β.rho.set ix (some (.shr x0))).set idd (some (.dic (nQ kvs' kk (.bl true))))).set ix none)=_;rw[eβ];apply List.ext_getElem?;intro m;simp only[List.getElem?_set,List.length_set];by_cases h1:ix=m
        ·subst h1;simp[Ne.symm n2]
        ·by_cases h2:idd=m
         ·subst h2;simp[h1]
         ·simp[h1,h2]
       ·rw[kJ (Ne.symm n1),kh n3,kh (Ne.symm n1)];exact hbA
       ·rw[List.getElem?_set_ne n1];exact e1
       ·have:a≠b:=λz=>n3 (r'.inj il idd a hbA (z▸hbb));rw[aw this];exact e2
      ·cases e3
     ·cases e3
    ·rintro σ' H' ⟨kvs',β,eβ,r',_,e1,e2,e3⟩;have:vs.length=xs.length:=hL.len;rw[this,List.drop_length]at e3;cases e3;exact q _ _ ⟨β,eβ,r'⟩
   ·exact q.elim
  ·exact q.elim
end
section
variable {K:Frag} {C:Addr} {H:Hp} {x C' dx:Addr} {fs:List (Str×V)} {o':HO}
theorem lh {o:HO} (hx:H x=some (.ins C' dx fs)) (h:H a=some o) (ho:∀c d f,o=.ins c d f->f.length=3) (hl:fs.length<3):a≠x:=λz=>by
 subst z;rw[hx]at h;cases h;have:=ho _ _ _ rfl;omega
mutual
theorem Has.upd_ins (hx:H x=some (.ins C' dx fs)) (hl:fs.length<3):∀{v:V} {d:D},Has K C H v d->Has K C (upd H x o') v d
 | _,_,.non=>.non
 | _,_,.bl b=>.bl b
 | _,_,.int i=>.int i
 | _,_,.lst q h=>.lst (by rw[aw (lh hx q (λ_ _ _ z=>by cases z) hl)];exact q) (HasL.upd_ins hx hl h)
 | _,_,.tup q h=>.tup (by rw[aw (lh hx q (λ_ _ _ z=>by cases z) hl)];exact q) (HasL.upd_ins hx hl h)
 | _,_,.scr q=>.scr (by
   rcases q with(h|⟨o,h⟩)|h
   ·exact .inl (.inl (by rw[aw (lh hx h (λ_ _ _ z=>by cases z) hl)];exact h))
   ·exact .inl (.inr ⟨o,by rw[aw (lh hx h (λ_ _ _ z=>by cases z) hl)];exact h⟩)
   ·exact .inr h)
 | _,_,.exn q=>.exn (by rw[aw (lh hx q (λ_ _ _ z=>by cases z) hl)];exact q)
 | _,_,.ob q a b c=>.ob (by rw[aw (lh hx q (λ_ _ _ z=>by cases z;rfl) hl)];exact q) (Has.upd_ins hx hl a) (Has.upd_ins hx hl b) (Has.upd_ins hx hl c)
theorem HasL.upd_ins (hx:H x=some (.ins C' dx fs)) (hl:fs.length<3):∀{vs:List V} {ds:List D},HasL K C H vs ds->HasL K C (upd H x o') vs ds
 | _,_,.nil=>.nil
 | _,_,.cons a b=>.cons (Has.upd_ins hx hl a) (HasL.upd_ins hx hl b)
end
end
theorem tG (f:Str) (v:V):∀fs:List (Str×V),(ie f v fs).length<=fs.length+1
 | []=>Nat.le_refl _
 | (g,x)::r=>by
  unfold ie;split
  ·simp
  ·simpa using tG f v r
def xF:List (Rho->R D)->Rho->R Unit
 | [],_=>.val ()
 | c::cs,U=>(c U).bind λ_=>xF cs U
def B3 (cs:List (Rho->R D)) (f1 f2 f3:Rho->R (List D)):Rho->R D:=λU=>(xF cs U).bind λ_=>(f1 U).bind λes=>(f2 U).bind λrs=>(f3 U).bind λts=>.val (.ob (.lst es) (.lst rs) (.lst ts))
def jE (e r t:D):Rho:=[none,some (.shr e),some (.shr r),some (.shr t)]
def spI (K:Frag) (C:Addr) (den:Rho->R D):Sp:=λvs H Q _=>∃x dx ve vr vt e r t,vs=[.ref x,ve,vr,vt]/\H x=some (.ins C dx [])/\Has K C H ve e/\Has K C H vr r/\Has K C H vt t/\match den (jE e r t)with
 | .val d=>∀H',(∀b o,H b=some o->b≠x->H' b=some o)->Has K C H' (.ref x) d->Q .non H'
 | _=>False
variable {o:Expr} {rest:List Stmt} {F:Rho->R D} {K:Frag}
section
variable {C:Addr} {X:Cx}
variable (C X) in
def tCk:List (Rho->R D)->TS->TS
 | [],t=>t
 | c::cs,t=>Au (jK (teB C X c)) (tCk cs t)
theorem jZ {c:Rho->R D} {cs:List (Rho->R D)} {t:TS} (h1:PS X st (jK (teB C X c))) (h2:PSs X rest (tCk C X cs t)):PSs X (st::rest) (tCk C X (c::cs) t):=dz h1 h2
theorem ng {e:Expr} (he:EB C X e F) (hs:swapsWith e none pos.line X.env=pure false:=by rfl):PS X (.Expr e pos) (jK (teB C X F)):=gw he hs
theorem wL {U:RB} {t:TS} {Dn:iR} {O:St}:∀{cs:List (Rho->R D)} {H H0:Hp},bP C X H0 U O H->xF cs U=.val ()->(∀H1,Same H H1->t Dn O H1)->tCk C X cs t Dn O H
 | [],H,H0,r,_,k=>k H (Same.refl _)
 | c::cs,H,H0,r,e,k=>by
  unfold xF at e;cases ec:c U with
  | val d =>
   rw[ec]at e;show teB C X c O H _;refine⟨U,⟨H0,r⟩,?_⟩;rw[ec];exact λv H1 s1 _=>wL (r.mono s1) e λH2 s2=>k H2 (s1.trans s2)
  | exc c=>rw[ec]at e;cases e
  | bad=>rw[ec]at e;cases e
variable (C X) in
def tI (f1 f2 f3:Rho->R (List D)):TS:=Au (qH X.K (df 0) (teF C X f1) "ends") (Au (qH X.K (df 0) (teF C X f2) "rests") (qH X.K (df 0) (teF C X f3) "table"))
theorem Fe {s1 s2 s3:Stmt} {f1 f2 f3:Rho->R (List D)} (h1:PS X s1 (qH X.K (df 0) (teF C X f1) "ends")) (h2:PS X s2 (qH X.K (df 0) (teF C X f2) "rests")) (h3:PS X s3 (qH X.K (df 0) (teF C X f3) "table")):PSs X [s1,s2,s3] (tCk C X [] (tI C X f1 f2 f3)):=by
 have h:=dz h1 (dz h2 (cz h3));exact h
theorem yw {value:Expr} {f:Str} {pos':Pos} {F:Rho->R (List D)} (ho:PE X o (df i)) (hv:FD C X value F) (hs:swapsWith value (some (.Attribute o f pos')) pos.line X.env=pure false:=by rfl):PS X (.Assign [.Attribute o f pos'] value pos) (qH X.K (df i) (teF C X F) f):=Dr ho hv hs
def rb3 (e r t:D):RB:=⟨jE e r t,λ_=>[]⟩
theorem EV {x:Addr} {ve vr vt:V} {e r t:D} (h1:Has K C H ve e) (h2:Has K C H vr r) (h3:Has K C H vt t):Rel K C H (rb3 e r t) [some (.ref x),some ve,some vr,some vt] H:=by
 have sub:Same H (msk (rb3 e r t) [some (.ref x),some ve,some vr,some vt] H):=λb o eb=>msk_some.mpr ⟨λ⟨_,z⟩=>(List.not_mem_nil z).elim,eb⟩;refine⟨rfl,sub,λi sl h=>?_,λi j a z=>(List.not_mem_nil z).elim,λi a z=>(List.not_mem_nil z).elim,λi a z=>(List.not_mem_nil z).elim⟩
 match i,h with
 | 0,h=>cases h
 | 1,h=>cases h;exact⟨ve,rfl,h1.mono sub⟩
 | 2,h=>cases h;exact⟨vr,rfl,h2.mono sub⟩
 | 3,h=>cases h;exact⟨vt,rfl,h3.mono sub⟩
 | n+4,h=>unfold rb3 jE at h;simp at h
theorem nZ {F:Rho->R (List D)} {f:Str} {Dn:iR} {x dx:Addr} {fs:List (Str×V)} {ve vr vt:V} {e r t:D} (hx:H x=some (.ins C dx fs)) (hl:fs.length<3) (c:Cls X.K C) (n:NoAttr X.K C f) (h1:Has X.K C H ve e) (h2:Has X.K C H vr r) (h3:Has X.K C H vt t)
  (eF:F (jE e r t)=.val xs)
  (k:∀l H',H' x=some (.ins C dx (ie f (.ref l) fs))->(∀b o,H b=some o->b≠x->H' b=some o)->(∀v d,Has X.K C H v d->Has X.K C H' v d)->Has X.K C H' (.ref l) (.lst xs)->Dn.nx [some (.ref x),some ve,some vr,some vt] H') :
  qH X.K (df 0) (teF C X F) f Dn [some (.ref x),some ve,some vr,some vt] H:=by
 refine⟨rb3 e r t,⟨H,EV h1 h2 h3⟩,?_⟩;show pF _ (F (jE e r t)) _ _ _;rw[eF];intro l vs H1 s1 hn hv;have hv':HasL X.K C H1 vs xs:=hv.mono msk_sub;have nx:l≠x:=λz=>by subst z;rw[s1 _ _ hx]at hn;cases hn
 have hx2:(upd H1 l (.lst vs)) x=some (.ins C dx fs):=by rw[aw (Ne.symm nx)];exact s1 _ _ hx
 refine⟨_,rfl,x,C,dx,fs,rfl,hx2,c,n,by omega,k l _ aF (λb o eb nb=>?_) (λv d hd=>?_) ?_⟩
 ·rw[aw nb];exact aA hn _ _ (s1 _ _ eb)
 ·exact((hd.mono s1).mono (aA hn)).upd_ins hx2 hl
 ·exact Has.upd_ins hx2 hl (.lst aF (hv'.mono (aA hn)))
end
section
variable {P:Program} {w:World} {K:Frag} {mg:Str->Option Value} {base:Heap} {C:Addr}
theorem Bx {cs:List (Rho->R D)} {f1 f2 f3:Rho->R (List D)} (F:Fun K "__init__" "Hall.__init__" st f fd) (sc:ay ["self","ends","rests","table"] ["self","ends","rests","table"] (aj st))
  (cl:Cls K C) (nE:NoAttr K C "ends") (nR:NoAttr K C "rests") (nT:NoAttr K C "table")
  (hb:∀(cdv:Value) (A:Around) (outer:List Env) (s:Shared) (H:Hp) (E:XK),Room k (A.deeper (envOfC "Hall.__init__" (aj st) s.heap.objs.size f cdv)) ->
   PSs (gi CX0 P w K mg base ["self","ends","rests","table"] "Hall.__init__" (aj st) f cdv A outer s H E).nox (bY st) (tCk C (gi CX0 P w K mg base ["self","ends","rests","table"] "Hall.__init__" (aj st) f cdv A outer s H E).nox cs (tI C (gi CX0 P w K mg base ["self","ends","rests","table"] "Hall.__init__" (aj st) f cdv A outer s H E).nox f1 f2 f3))) :
  FnOk P w K mg base CX0 (k+1) f fd ["self","ends","rests","table"] (spI K C (B3 cs f1 f2 f3)):=by
 refine F.ok sc (λvs H Q E h=>?_) (λcdv A outer s H vs Q E hr h=>⟨_,hb cdv A outer s H E hr,?_⟩)
 ·obtain⟨x,dx,ve,vr,vt,e,r,t,rfl,_⟩:=h;rfl
 obtain⟨x,dx,ve,vr,vt,e,r,t,rfl,hx,h1,h2,h3,q⟩:=h;unfold B3 at q;cases ec:xF cs (jE e r t)with
 | exc c=>rw[ec]at q;exact q.elim
 | bad=>rw[ec]at q;exact q.elim
 | val u =>
  rw[ec]at q;cases e1:f1 (jE e r t)with
  | exc c=>dsimp only[DL.R.bind]at q;rw[e1]at q;exact q.elim
  | bad=>dsimp only[DL.R.bind]at q;rw[e1]at q;exact q.elim
  | val es =>
   cases e2:f2 (jE e r t)with
   | exc c=>dsimp only[DL.R.bind]at q;rw[e1,e2]at q;exact q.elim
   | bad=>dsimp only[DL.R.bind]at q;rw[e1,e2]at q;exact q.elim
   | val rs =>
    cases e3:f3 (jE e r t)with
    | exc c=>dsimp only[DL.R.bind]at q;rw[e1,e2,e3]at q;exact q.elim
    | bad=>dsimp only[DL.R.bind]at q;rw[e1,e2,e3]at q;exact q.elim
    | val ts =>
     dsimp only[DL.R.bind]at q;rw[e1,e2,e3]at q;dsimp only[DL.R.bind]at q;refine wL (H0:=H) (U:=rb3 e r t) (EV h1 h2 h3) ec λH1 s1=>?_;refine nZ (s1 _ _ hx) (by decide) cl nE (h1.mono s1) (h2.mono s1) (h3.mono s1) e1 λl1 Ha xa fa ka ha=>?_;refine nZ xa (by show 1<3;decide) cl nR (ka _ _ (h1.mono s1)) (ka _ _ (h2.mono s1)) (ka _ _ (h3.mono s1)) e2 λl2 Hb xb fb kb hb2=>?_;refine nZ xb (Nat.lt_of_le_of_lt (tG _ _ _) (by show 2<3;decide)) cl nT (kb _ _ (ka _ _ (h1.mono s1))) (kb _ _ (ka _ _ (h2.mono s1))) (kb _ _ (ka _ _ (h3.mono s1))) e3 λl3 Hc xc fc kc hc=>?_;refine q Hc (λb o eb nb=>fc _ _ (fb _ _ (fa _ _ (s1 _ _ eb) nb) nb) nb) ?_;exact .ob (dx:=dx) (ve:=.ref l1) (vr:=.ref l2) (vt:=.ref l3) xc (kc _ _ (kb _ _ ha)) (kc _ _ hb2) hc
end
def FnH (P:Program) (w:World) (K:Frag) (mg:Str->Option Value) (base:Heap) (C:Addr) (k:Nat) (den:Rho->R D):Prop :=
 ∃f fd,Mk K C f/\FnOk P w K mg base CX0 k f fd ["self","ends","rests","table"] (spI K C den)/\mg "Hall"=some (.ref C)/\Binds K fd ["self","ends","rests","table"] []
variable {es:List Expr} {Fa:Rho->R (List D)}
section
variable {C:Addr} {X:Cx}
def mkH (den:Rho->R D) (Fa:Rho->R (List D)):Rho->R D:=λU=>(Fa U).bind λds=>match ds with
 | [e,r,t]=>noex (den (jE e r t))
 | _=>.bad
theorem BZ {den:Rho->R D} {e:Expr} (F:FnH X.prog X.w X.K X.mg X.base C k den) (hr:Room (k+1) X.A) (hg:Gl X "Hall") (ha:AD C X (e::es) Fa) (hx:X.xe=λ_ _=>False)
  (he:starEach (e::es) X.env=(false,eval e X.env)::starEach es X.env:=by rfl) (hpl:(backTo pos (starEach es X.env)).any (·.1)=false:=by rfl):ED C X (.Call (.Name "Hall" p) (e::es) [] pos) (mkH den Fa):=by
 obtain⟨f,fd,hM,hF,hm,hb⟩:=F;rintro pins s O H Q I ⟨U,⟨H0,r0⟩,q⟩;refine wpAny_Call_Name_kw (gx I hg hm ?_ (by decide));refine callWith_K (h₀:=X.base) I.ok.mod.kin hM.kp (thn (ha pos pins s O H (λvs H1=>∃a b c d,Same H H1/\iN C X U O H1 vs [a,b,c]/\den (jE a b c)=.val d/\∀v H',Same H H'->dC C X U O H' v d->Q v H') I
  ⟨U,⟨H0,r0⟩,dF (P:=λz H=>pV X (dC C X U O) z O H Q) (λ_ h=>h) (λh=>h) q λds vs H1 s1 h1 q1=>?_⟩) λus s1 ⟨vs,H1,I1,rv,a,b,c,d,s1',h1,e1,q1⟩=>⟨I1.kIn,?_⟩) he hpl
 ·split at q1
  ·rename_i a b c;cases e1:den (jE a b c)with
   | val d=>rw[e1]at q1;exact⟨a,b,c,d,s1,h1,e1,q1⟩
   | exc c=>rw[e1]at q1;exact q1.elim
   | bad=>rw[e1]at q1;exact q1.elim
  ·exact q1.elim
 ·have r1:=r0.mono s1';have Z:=Rel.hid r1 I1;have J:=I1.hide Z;refine thn (yh (E:=E0) (Q:=λv M'=>Same (cut (dv U O) H1) M'/\Has X.K C M' v d) hM hF hr hb .nil nj J rv λx dx nx ndx nex=>?_) λu s2 ⟨v,M',J2,ru,sm,hv⟩=>?_
  ·rw[List.append_nil];have h1:HasL X.K C (msk U O H1) vs [a,b,c]:=h1;rw[im r0.bnd]at h1;have s0:Same (cut (dv U O) H1) (upd (upd (cut (dv U O) H1) dx (.own x)) x (.ins C dx [])):=λb o eb=>by
    rw[aw (ba eb nx),aw (ba eb ndx)];exact eb
   cases h1 with
   | @cons va _ _ _ ga h1=>cases h1 with
    | @cons vb _ _ _ gb h1=>cases h1 with
     | @cons vc _ _ _ gc h1 =>
      cases h1;refine⟨x,dx,va,vb,vc,a,b,c,rfl,aF,ga.mono s0,gb.mono s0,gc.mono s0,?_⟩;rw[e1];exact λH' fr hH=>⟨rfl,λb o eb=>fr b o (s0 _ _ eb) (ba eb nx),hH⟩
  ·obtain⟨I2,mz⟩:=I1.show' Z J2;have sj:Same H1 (jn (dv U O) H1 M'):=λb o eb=>by
    by_cases hb:b∈dv U O
    ·rw[jM hb];exact eb
    ·rw[b0 hb];exact sm b o (cut_some.mpr ⟨hb,eb⟩)
   have em:msk U O (jn (dv U O) H1 M')=M':=by
    rw[im r0.bnd]
    funext b
    by_cases hb:b∈dv U O
    ·rw[gj hb,mz b hb]
    ·unfold cut;rw[if_neg hb,b0 hb]
   exact⟨v,_,I2,ru,q1 v _ (s1'.trans sj) (by show Has _ _ (msk U O _) v d;rw[em];exact hv)⟩
structure IsH (K:Frag) (C:Addr):Prop where
 cl:Cls K C
 ha:findIn K (.ref C) "__class__"=some (some (.builtin "object.__class__"))
 hn:PySem.W.specialIn K (.builtin "object.__class__") "__get__"=some (some (.builtin "getset_descriptor.__get__"))
 htk:PySem.W.takesIn K (.builtin "object.__class__")=some true
 hm:PySem.W.mroIn K C (.type "object")=some true
end
section
variable {P:Program} {w:World} {K:Frag} {mg:Str->Option Value} {base:Heap} {C:Addr}
end
section
variable {C:Addr} {X:Cx}
end
section
variable {C:Addr} {X:Cx}
end
section
variable {prog:Program} {w:World} {A:Around} {E:Value->Shared->Prop} {K:Frag} {h:Heap} {g:Array GenState} {d:Drawn} {t:Nat} {os:OsState} {x Cc:Addr} {ox:Obj}
end
variable {p2:Pos}
section
variable {C:Addr} {X:Cx}
theorem DA {e:Expr} {T:Str} {T':String} {te:TE} (hg:Gl X "isinstance") (hm:X.mg "isinstance"=none) (hgT:Gl X T) (hmT:X.mg T=none) (hbT:bootBuiltins T=some (.type T')) (he:PE X e te) (hst:starEach [e,.Name T p2] X.env=(false,eval e X.env)::starEach [.Name T p2] X.env)
  (hn:T ≠ "__name__":=by decide) (hdb:(T==("__debug__":Str))=false:=by decide) :
  PE X (.Call (.Name "isinstance" p) [e,.Name T p2] [] pos) (λO H Q=>te O H λv H1=>∃b,(∀(pins:List (Addr×Obj)) (s:Shared) (u:Value) (Q':Value->Shared->Prop) (E':Value->Shared->Prop),Inv X pins O H1 s->RelV v u->(∀tk,Q' (.bool b) { s with toks:=tk })->wpAny (model X.prog X.w) X.A (call (.builtin "isinstance") [u,.type T']) Q' E' s)/\Q (.bl b) H1):=by
 intro pins s O H Q I h;refine wpAny_Call_Name_kw (i5 I hg hm boot_isinstance ?_);refine PyProof.Rows.callWith_builtin1 ?_ hst (am aa av);rw[hst];refine Calls.spliced_cons (thn (he pins s O H _ I h) λu s1 zz0=>?_);obtain⟨v,H1,I1,rv,b,hb,q⟩:=zz0;rw[aa];refine Calls.spliced_cons (i5 I1 hgT hmT hbT ?_ hn hdb);refine Calls.spliced_nil ?_;exact hb pins s1 u _ _ I1 rv λtk=>⟨.bl b,H1,I1.tok _,rfl,q⟩
def ji:List D->Option (List Bool)
 | []=>some []
 | .bl b::r=>(ji r).map (b :: ·)
 | _=>none
theorem nW {K:Frag} {M:Hp}:∀{xs:List D} {l:List Bool} {vs:List V},ji xs=some l->HasL K C M vs xs->vs=l.map V.bl
 | [],l,vs,e,h=>by cases e;cases h;rfl
 | x::r,l,vs,e,h=>by
  cases x with
  | bl i =>
   rw[ji]at e;cases z:ji r with
   | none=>rw[z]at e;cases e
   | some l' =>
    rw[z]at e;cases e;cases h with
    | cons a b=>cases a;rw[nW z b];rfl
  | _=>cases e
theorem mV:∀{bs:List Bool} {us:List Value},Vals (bs.map V.bl) us->us=bs.map Value.bool
 | [],_,.nil=>rfl
 | b::bs,_,.cons r t=>by rw[mV t];cases(show _=Value.bool b from r);rfl
end
section
variable {X:Cx} {pins pins':List (Addr×Obj)} {O:St} {H:Hp} {s:Shared} {A:Around} {cm:Bool} {xe:Value->Shared->Prop}
end
section
variable {P:Program} {w:World} {K:Frag} {mg:Str->Option Value} {base:Heap} {C:Addr}
end
section
variable {C:Addr} {X:Cx}
end
structure KTy (K:Frag) (T:String):Prop where
 i:kitOne K (.type "int") (.type T)=some (decide (T="int"))
 b:kitOne K (.type "bool") (.type T)=some (decide (T="int")||decide (T="bool"))
 n:kitOne K (.type "NoneType") (.type T)=some false
 l:kitOne K (.type "list") (.type T)=some (decide (T="list"))
 t:kitOne K (.type "tuple") (.type T)=some (decide (T="tuple"))
def jJ (T:String):D->R D
 | .int _=>.val (.bl (decide (T="int")))
 | .bl _=>.val (.bl (decide (T="int")||decide (T="bool")))
 | .non=>.val (.bl false)
 | .lst _=>.val (.bl (decide (T="list")))
 | .tup _=>.val (.bl (decide (T="tuple")))
 | _=>.bad
section
variable {C:Addr} {X:Cx}
theorem ou {e:Expr} {T:Str} {T':String} (KT:KTy X.K T') (hg:Gl X "isinstance") (hm:X.mg "isinstance"=none) (hgT:Gl X T) (hmT:X.mg T=none) (hbT:bootBuiltins T=some (.type T')) (he:EB C X e F) (hst:starEach [e,.Name T p2] X.env=(false,eval e X.env)::starEach [.Name T p2] X.env)
    (hn:T ≠ "__name__":=by decide) (hdb:(T==("__debug__":Str))=false:=by decide):ED C X (.Call (.Name "isinstance" p) [e,.Name T p2] [] pos) (una (jJ T') F) :=
  aD (DA hg hm hgT hmT hbT he hst hn hdb) λO H Q yy1=>by
   obtain⟨U,r0,q⟩:=yy1;exact⟨U,r0,aQ (P:=λz H=>pV X (dC C X U O) z O H Q) (λ_ h=>h) (λh=>h) q λy v H1 s1 h1 q1=>by
    have go:∀{t:Value} {b:Bool},lH X.K H1 v t->kitOne X.K t (.type T')=some b->(∀v H',Same H H'->dC C X U O H' v (.bl b)->Q v H')->∃b,(∀(pins:List (Addr×Obj)) (s:Shared) (u:Value) (Q':Value->Shared->Prop) (E':Value->Shared->Prop),Inv X pins O H1 s->RelV v u->(∀tk,Q' (.bool b) { s with toks:=tk })->wpAny (model X.prog X.w) X.A (call (.builtin "isinstance") [u,.type T']) Q' E' s)/\Q (.bl b) H1 :=
      λ{t b} ty ek kq=>⟨b,λpins s u Q' E' I rv hQ=>xp I rv ty ek hQ,kq _ H1 s1 (.bl b)⟩
    cases y with
    | int i=>obtain rfl:=h1.int;exact go (.int i) KT.i q1
    | bl i=>obtain rfl:=h1.bl;exact go (.bl i) KT.b q1
    | non =>
      have hv:v=.non:=by cases h1 with|cl h=>cases h;rfl
      subst hv;exact go .non KT.n q1
    | lst xs =>
      obtain⟨a,vs,rfl,e1,_⟩:=h1.lst msk_sub;exact go (.lst e1) KT.l q1
    | tup xs =>
      obtain⟨a,vs,rfl,e1,_⟩:=h1.tup msk_sub;exact go (.tup e1) KT.t q1
    | _=>exact q1.elim⟩
theorem oH:bootBuiltins "list"=some (.type "list"):=by decide +kernel
end
def uW:D->R D
 | .lst xs=>match ji xs with
  | some bs=>.val (.bl (bs.all id))
  | none=>.bad
 | _=>.bad
def zp:List D->List D->List D
 | x::xs,y::ys=>.tup [x,y]::zp xs ys
 | _,_=>[]
def CL:List D->R (List D)
 | [.lst xs,.lst ys]=>.val (zp xs ys)
 | _=>.bad
def lz (F:Rho->R (List D)):Rho->R (List D):=λU=>(F U).bind CL
def yX:List D->R (List D)
 | [.int j]=>if -(2 ^ 62)<=j/\j<=100000 then .val (rng 0 j.toNat)else .bad
 | _=>.bad
def zC (F:Rho->R (List D)):Rho->R (List D):=λU=>(F U).bind yX
variable {vs ws:List V}
section
variable {C:Addr} {X:Cx}
def Gu:List V->Hp->VK->Prop:=λvs H Q=>∃(l:Addr) (bs:List Bool),vs=[.ref l]/\H l=some (.lst (bs.map V.bl))/\Q (.bl (bs.all id)) H
theorem xE (bs:List Bool):(List.range bs.length).all (λi=>bs.getD i false)=bs.all id:=by
 rw[Bool.eq_iff_iff,List.all_eq_true,List.all_eq_true];constructor
 ·intro h b hb;obtain⟨i,hi,rfl⟩:=List.mem_iff_getElem.mp hb;have:=h i (List.mem_range.mpr hi);rw[List.getD_eq_getElem?_getD,List.getElem?_eq_getElem hi]at this;exact this
 ·intro h i hi;have hi:=List.mem_range.mp hi;rw[List.getD_eq_getElem?_getD,List.getElem?_eq_getElem hi];exact h _ (List.getElem_mem hi)
theorem z5 (hc:X.calm=true):jU X (.builtin "all") Gu:=by
 intro pins s O H xs us Q I rv h;obtain⟨l,bs,rfl,e,q⟩:=h;obtain⟨u,rfl,ru⟩:=mW rv;obtain rfl:=(show u=Value.ref l from ru);obtain⟨z,its,m,r,hl,eo⟩:=I.lstM e;obtain rfl:=mV r;have hL:s.heap.IsList l (bs.map Value.bool).toArray:=⟨_,eo,rfl,m,rfl⟩;have hne:l≠s.heap.objs.size:=Nat.ne_of_lt (Heap.lt_size eo);have W:=Walks.list (prog:=X.prog) (w:=X.w) (A:=X.A.in1) (I.ok.hd hc) s.heap.objs.size l hne (bs.map Value.bool).toArray;refine call_all_walk (wpAny_pyIter_list hL ⟨_,_,_,_,_,_,λi=>bs.getD i false,rfl,W,⟨⟨_,Heap.get?_push_size _ rfl,rfl,rfl⟩,hL.push _⟩,λi v s2 Q2 E2 hP hQ=>?_,λh' tk hk=>?_⟩)
 ·have hP':(bs.map Value.bool)[i]?=some v:=by simpa using hP
  rw[List.getElem?_map]at hP';cases z2:bs[i]? with
  | none=>rw[z2]at hP';cases hP'
  | some b =>
   rw[z2]at hP';cases hP';have hb:bs.getD i false=b:=by rw[List.getD_eq_getElem?_getD,z2];rfl
   dsimp only at hQ;rw[hb]at hQ;exact wpAny_truthy_bool hQ
 ·have hz:(bs.map Value.bool).toArray.size=bs.length:=by simp
  rw[hz,xE];refine⟨.bl (bs.all id),H,I.kept λb o eo2=>hk b o (λhm=>?_) (Heap.get?_push_of_some _ eo2),rfl,q⟩;have:=Heap.lt_size eo2;rw[List.mem_singleton.mp hm]at this;exact Nat.lt_irrefl _ this
theorem u9 {e:Expr} (hc:X.calm=true) (hg:Gl X "all") (hm:X.mg "all"=none) (hst:starEach [e] X.env=(false,eval e X.env)::starEach [] X.env) (he:EB C X e F) :
    ED C X (.Call (.Name "all" p) [e] [] pos) (una uW F) :=
  aD (d7 (z5 hc) hg hm boot_all (bu he bU hst) (he:=hst) (hpl:=av)) λO H Q yy0=>by
   obtain⟨U,r0,q⟩:=yy0;exact⟨U,r0,aQ (P:=λz H=>pV X (dC C X U O) z O H Q) (λ_ h=>h) (λh=>h) q λy v H1 s1 h1 q1=>by
    cases y with
    | lst xs =>
      unfold uW at q1;dsimp only at q1;cases eb:ji xs with
      | none=>rw[eb]at q1;exact q1.elim
      | some bs =>
        rw[eb]at q1;obtain⟨a,vs,rfl,e1,h2⟩:=h1.lst msk_sub;obtain rfl:=nW eb h2;exact⟨a,bs,rfl,e1,q1 _ H1 s1 (.bl _)⟩
    | _=>exact q1.elim⟩
def Itz (K:Frag) (a b:Addr):It :=
 ⟨λi H=>∃xs ys x y,SqL K H a xs/\SqL K H b ys/\xs[i]?=some x/\ys[i]?=some y,λi H v H'=>∃p x y,H p=none/\v=.ref p/\H'=upd H p (.tup [x,y])/\(∀xs,SqL K H a xs->xs[i]?=some x)/\∀ys,SqL K H b ys->ys[i]?=some y,λi H=>∃xs ys,SqL K H a xs/\SqL K H b ys/\(xs.length<=i\/ys.length<=i)⟩
theorem xQ {P:Program} {w:World} (a b z TI TO i1 i2:Addr) (D:ZipApart z TI TO i1 i2 a b) :
  vo P w K (.Tuple es k pos) (Itz K a b) [z,TI,TO,i1,i2] z (λi h=>IsZip h z TI TO .none/\IsPair h TI (.ref i1) (.ref i2)/\(∃x y,IsPair h TO x y)/\h.IsListIter i1 a i/\h.IsListIter i2 b i) where
 mem:=by simp
 obj:=λi h st c hc=>by
  obtain⟨hz,hTI,⟨x,y,hTO⟩,⟨o1,e1,c1,d1⟩,o2,e2,c2,d2⟩:=st;have hc:c=z\/c=TI\/c=TO\/c=i1\/c=i2:=by simpa using hc
  rcases hc with rfl|rfl|rfl|rfl|rfl
  ·exact⟨_,hz,λv q=>by have q':Data.fields _=Data.cell v:=q;cases q'⟩
  ·exact⟨_,hTI,λv q=>by have q':Data.seq _ _=Data.cell v:=q;cases q'⟩
  ·exact⟨_,hTO,λv q=>by have q':Data.seq _ _=Data.cell v:=q;cases q'⟩
  ·exact⟨o1,e1,λv q=>by rw[d1]at q;cases q⟩
  ·exact⟨o2,e2,λv q=>by rw[d2]at q;cases q⟩
 keep:=λi h h' st kk=>by
  obtain⟨hz,hTI,⟨x,y,hTO⟩,h1,h2⟩:=st;exact⟨kk z (by simp) _ hz,kk TI (by simp) _ hTI,⟨x,y,kk TO (by simp) _ hTO⟩,h1.at λo q=>kk i1 (by simp) o q,h2.at λo q=>kk i2 (by simp) o q⟩
 item:=by
  intro X hP hw hK hc i pins s O H E I hf st hg;subst hP hw hK;obtain⟨hz,hTI,⟨x0,y0,hTO⟩,h1,h2⟩:=st;obtain⟨xs,ys,x,y,hq1,hq2,hx,hy⟩:=hg;obtain⟨its1,rv1,p1,hz1⟩:=I.list hq1;obtain⟨its2,rv2,p2,hz2⟩:=I.list hq2;obtain⟨u1,hu1,ru1⟩:=rv1.get hx;obtain⟨u2,hu2,ru2⟩:=rv2.get hy;refine wpAny_pyNext_zip_item D hz hTI hTO h1 h2 p1.isList p2.isList (x:=u1) (y:=u2) (by simpa using hu1) (by simpa using hu2) λh' a1 a2 a3 a4 a5 a6 hk=>?_;refine⟨_,rfl,wpAny_letOwnedTupleGo_zip a1 λh'' hz'' sb=>?_⟩;have fr:=I.fresh;have hk2:∀c o,c≠z->c≠TO->c≠i1->c≠i2->s.heap.get? c=some o->h''.get? c=some o:=λc o n1 n2 n3 n4 eo=>(sb.2 c n1).trans (hk c o n1 n2 n3 n4 eo);have hse:s.heap.objs.size≠z:=Nat.ne_of_gt (Heap.lt_size hz);have ht2:h''.get? s.heap.objs.size=some { cls:=.type "tuple",data:=.seq #[u1,u2] }:=(sb.2 _ hse).trans a5;have ne':∀c,H c≠none->c≠z/\c≠TO/\c≠i1/\c≠i2:=λc hb=>⟨λq=>hb (by rw[q];exact(hf z (by simp)).1),λq=>hb (by rw[q];exact(hf TO (by simp)).1),λq=>hb (by rw[q];exact(hf i1 (by simp)).1),λq=>hb (by rw[q];exact(hf i2 (by simp)).1)⟩;have out:∀c,c∉[z,TO,i1,i2]->c≠z/\c≠TO/\c≠i1/\c≠i2:=λc h=>⟨λq=>h (by simp[q]),λq=>h (by simp[q]),λq=>h (by simp[q]),λq=>h (by simp[q])⟩;have hk3:∀c o,c∉[z,TO,i1,i2]->s.heap.get? c=some o->h''.get? c=some o:=λc o h eo=>by
   obtain⟨n1,n2,n3,n4⟩:=out c h;exact hk2 c o n1 n2 n3 n4 eo
  have I1:Inv X pins O (upd H s.heap.objs.size (.tup [x,y])) { s with heap:=h'' }:=by
   refine I.call' (s':={ s with heap:=h'' }) (ch:=[z,TO,i1,i2]) rfl ⟨λb o q n hfs hx=>hk3 b o hx q,λb o q n hfs hx=>⟨o.slots,hk3 b o hx q⟩,
    λb o q n hx=>?_,λb o q hx=>⟨o,hk3 b o hx q⟩,λb ys q=>?_,λb o v q=>?_,λb ps q=>?_⟩ (λb o q=>?_) I.bare λb hb=>?_
   ·rw[aw (Nat.ne_of_lt (Heap.lt_size q))];exact n
   ·rw[aw (ba q fr)];exact q
   ·rw[aw (ba q fr)];exact q
   ·exact⟨#[],by rw[aw (ba q fr),q];simp⟩
   ·by_cases hb:b=s.heap.objs.size
    ·subst hb;rw[aF]at q;cases q;exact⟨by show 2<=sizeLine;decide,[u1,u2],.cons ru1 (.cons ru2 .nil),⟨_,ht2,rfl,_,rfl⟩⟩
    ·rw[aw hb]at q;refine(I.hok b o q).stay (λc v hc qv=>?_) (λc qc=>by rw[aw (ba qc fr)];exact qc) λc ys qc=>by rw[aw (ba qc fr)];exact qc
     have hcn:H c≠none:=by
      rcases hc with q|q
      ·rw[q,‹H b=some o›];simp
      ·rw[q];simp
     obtain⟨n1,n2,n3,n4⟩:=ne' c hcn;exact hk2 c v n1 n2 n3 n4 qv
   ·have hb':b∈[z,TI,TO,i1,i2]:=by
     have hb:b=z\/b=TO\/b=i1\/b=i2:=by simpa using hb
     rcases hb with q|q|q|q<;>simp[q]
    obtain⟨g0,g1,g2,g3,g4,g5⟩:=hf b hb';exact⟨g3,g1,g4,g5⟩
  have lt1:i1<s.heap.objs.size:=by obtain⟨o,eo,_⟩:=h1;exact Heap.lt_size eo
  have lt2:i2<s.heap.objs.size:=by obtain⟨o,eo,_⟩:=h2;exact Heap.lt_size eo
  refine⟨.ref s.heap.objs.size,_,I1,rfl,⟨_,x,y,fr,rfl,rfl,λzs hz=>by rw[I.list_inj hz hq1];exact hx,λzs hz=>by rw[I.list_inj hz hq2];exact hy⟩,⟨hz'',(sb.2 _ D.TIz).trans (hk _ _ D.TIz D.TITO D.TIi1 D.TIi2 hTI),⟨_,_,(sb.2 _ D.TOz).trans a2⟩,a3.at λo q=>(sb.2 _ D.i1z).trans q,a4.at λo q=>(sb.2 _ D.i2z).trans q⟩,λc hc=>?_⟩;have hb':=(hf c hc).1;have hlt:c<s.heap.objs.size:=by
   have hc:c=z\/c=TI\/c=TO\/c=i1\/c=i2:=by simpa using hc
   rcases hc with rfl|rfl|rfl|rfl|rfl
   ·exact Heap.lt_size hz
   ·exact Heap.lt_size hTI
   ·exact Heap.lt_size hTO
   ·exact lt1
   ·exact lt2
  rw[aw (Nat.ne_of_lt hlt)];exact hb'
 done:=by
  intro X hP hw hK hc i pins s O H E I hf st hg;subst hP hw hK;obtain⟨hz,hTI,⟨x0,y0,hTO⟩,h1,h2⟩:=st;obtain⟨xs,ys,hq1,hq2,hx⟩:=hg;obtain⟨its1,rv1,p1,hz1⟩:=I.list hq1;obtain⟨its2,rv2,p2,hz2⟩:=I.list hq2;have l1:=rv1.length;have l2:=rv2.length;refine wpAny_pyNext_zip_end (I.ok.hd hc) D hz hTI hTO h1 h2 p1.isList p2.isList ?_ λh' hk=>⟨rfl,?_⟩
  ·rcases hx with h|h
   ·exact .inl (by simp;omega)
   ·exact .inr (by simp;omega)
  ·have out:∀c,c∉[z,TO,i1,i2]->c≠z/\c≠TO/\c≠i1/\c≠i2:=λc h=>⟨λq=>h (by simp[q]),λq=>h (by simp[q]),λq=>h (by simp[q]),λq=>h (by simp[q])⟩;have hk3:∀c o,c∉[z,TO,i1,i2]->s.heap.get? c=some o->h'.get? c=some o:=λc o h eo=>by
    obtain⟨n1,n2,n3,n4⟩:=out c h;exact hk c o n1 n2 n3 n4 eo
   have ne':∀c,H c≠none->c≠z/\c≠TO/\c≠i1/\c≠i2:=λc hb=>⟨λq=>hb (by rw[q];exact(hf z (by simp)).1),λq=>hb (by rw[q];exact(hf TO (by simp)).1),λq=>hb (by rw[q];exact(hf i1 (by simp)).1),λq=>hb (by rw[q];exact(hf i2 (by simp)).1)⟩;refine I.call' (s':={ s with heap:=h' }) (ch:=[z,TO,i1,i2]) rfl ⟨λb o q n hfs hx=>hk3 b o hx q,λb o q n hfs hx=>⟨o.slots,hk3 b o hx q⟩,
    λb o q n hx=>n,λb o q hx=>⟨o,hk3 b o hx q⟩,λb ys q=>q,λb o v q=>q,λb ps q=>⟨#[],by rw[q];simp⟩⟩ (λb o q=>?_) I.bare λb hb=>?_
   ·refine(I.hok b o q).stay (λc v hc qv=>?_) (λc qc=>qc) λc ys qc=>qc;have hcn:H c≠none:=by
     rcases hc with q|q
     ·rw[q,‹H b=some o›];simp
     ·rw[q];simp
    obtain⟨n1,n2,n3,n4⟩:=ne' c hcn;exact hk c v n1 n2 n3 n4 qv
   ·have hb':b∈[z,TI,TO,i1,i2]:=by
     have hb:b=z\/b=TO\/b=i1\/b=i2:=by simpa using hb
     rcases hb with q|q|q|q<;>simp[q]
    obtain⟨g0,g1,g2,g3,g4,g5⟩:=hf b hb';exact⟨g3,g1,g4,g5⟩
 self:=λ_ _ _ _ _ st h=>wpAny_pyIter_zip st.1 h
theorem xJ:∀{xs ys:List D} {i:Nat} {d:D},(zp xs ys)[i]?=some d->∃x y,xs[i]?=some x/\ys[i]?=some y/\d=.tup [x,y]
 | [],_,_,_,e=>by unfold zp at e;simp at e
 | _::_,[],_,_,e=>by unfold zp at e;simp at e
 | x::xs,y::ys,0,d,e=>by
  unfold zp at e;rw[List.getElem?_cons_zero]at e;cases e;exact⟨x,y,rfl,rfl,rfl⟩
 | x::xs,y::ys,i+1,d,e=>by
  unfold zp at e;rw[List.getElem?_cons_succ]at e;obtain⟨x',y',h1,h2,h3⟩:=xJ e;exact⟨x',y',by rw[List.getElem?_cons_succ];exact h1,by rw[List.getElem?_cons_succ];exact h2,h3⟩
theorem xK:∀(xs ys:List D),xs.length<=(zp xs ys).length\/ys.length<=(zp xs ys).length
 | [],_=>.inl (Nat.zero_le _)
 | _::_,[]=>.inr (Nat.zero_le _)
 | x::xs,y::ys=>by
  unfold zp;rw[List.length_cons,List.length_cons,List.length_cons];rcases xK xs ys with h|h
  ·exact .inl (Nat.succ_le_succ h)
  ·exact .inr (Nat.succ_le_succ h)
theorem xM {b:Addr} {ys:List D} {M:Hp} (e:M a=some (.lst vs)) (h:HasL K C M vs xs) (e':M b=some (.lst ws)) (h':HasL K C M ws ys):rY K C (Itz K a b) (zp xs ys) M where
 go:=λi d H2 s hy=>by
  obtain⟨x,y,hx,hy',rfl⟩:=xJ hy;obtain⟨v,e1,h1⟩:=h.get hx;obtain⟨v',e1',h1'⟩:=h'.get hy';refine⟨⟨vs,ws,v,v',SqL.of (s _ _ e),SqL.of (s _ _ e'),e1,e1'⟩,λu H3 q=>?_⟩;obtain⟨p,x',y',hp,rfl,rfl,q1,q2⟩:=q;have e2:=q1 vs (SqL.of (s _ _ e));rw[e1]at e2;cases e2;have e3:=q2 ws (SqL.of (s _ _ e'));rw[e1']at e3;cases e3;refine⟨aA hp,λU O hown m=>?_⟩;have em:msk U O (upd H2 p (.tup [v,v'])) p=some (.tup [v,v']):=msk_some.mpr ⟨λz=>hown p z hp,aF⟩;exact .tup em (.cons (h1.mono (m.trans (aO (aA hp)))) (.cons (h1'.mono (m.trans (aO (aA hp)))) .nil))
 stop:=λH2 s=>⟨vs,ws,SqL.of (s _ _ e),SqL.of (s _ _ e'),by rw[h.len,h'.len];exact xK xs ys⟩
theorem Dt {tp:Pos} {l m:Expr} {ta:TA} (hg:Gl X "zip") (hm:X.mg "zip"=none) (ha:PA X [l,m] ta) (he:starEach [l,m] X.env=(false,eval l X.env)::starEach [m] X.env) (hpl:(backTo pos (starEach [m] X.env)).any (·.1)=false) :
  PI X (.Tuple es k tp) (.Call (.Name "zip" p) [l,m] [] pos) (λO H R=>ta O H λvs H1=>∃a b xs ys,vs=[.ref a,.ref b]/\SqL X.K H1 a xs/\SqL X.K H1 b ys/\R (Itz X.K a b) H1):=by
 intro pins s O H R I h;refine Call_ (i5 I hg hm boot_zip (PyProof.Rows.callWith_type1 (thn (ha pos pins s O H _ I h) λus s1 zz0=>?_) he hpl));obtain⟨vs,H1,I1,r1,q1⟩:=zz0;obtain⟨a,b,xs,ys,e,hq,hq',q⟩:=q1;subst e;cases r1 with
 | cons r rr =>
  cases rr with
  | cons r' rr =>
   cases rr;cases r;cases r';obtain⟨its,rv,pl,hz⟩:=I1.list hq;obtain⟨its',rv',pl',hz'⟩:=I1.list hq';have la:a<s1.heap.objs.size:=by obtain⟨_,e,_⟩:=pl.isList;exact Heap.lt_size e
   have lb:b<s1.heap.objs.size:=by obtain⟨_,e,_⟩:=pl'.isList;exact Heap.lt_size e
   refine call_zip_2 pl.isList pl'.isList λh' iz iTI iTO i1 i2 hsz kp=>?_;have I2:Inv X pins O H1 { s1 with heap:=h' }:=I1.kept (t':=s1.toks) kp;refine wpAny_pyIter_zip iz ?_;refine⟨s1.heap.objs.size+4,[s1.heap.objs.size+4,s1.heap.objs.size+2,s1.heap.objs.size+3,s1.heap.objs.size,s1.heap.objs.size+1],_,_,H1,rfl,I2,xQ a b _ _ _ _ _ (zipApart_new la lb),⟨iz,iTI,⟨_,_,iTO⟩,i1,i2⟩,λc hc=>?_,q⟩;have hle:s1.heap.objs.size<=c:=by
    have hc:c=s1.heap.objs.size+4\/c=s1.heap.objs.size+2\/c=s1.heap.objs.size+3\/c=s1.heap.objs.size\/c=s1.heap.objs.size+1:=by simpa using hc
    rcases hc with z|z|z|z|z<;>rw[z]
    ·exact Nat.le_add_right _ _
    ·exact Nat.le_add_right _ _
    ·exact Nat.le_add_right _ _
    ·exact Nat.le_refl _
    ·exact Nat.le_add_right _ _
   exact I1.fpOk hle (I1.hok.fresh hle)
theorem nV {tp:Pos} {l m:Expr} {F:Rho->R (List D)} (hg:Gl X "zip") (hm:X.mg "zip"=none) (ha:AD C X [l,m] F) (he:starEach [l,m] X.env=(false,eval l X.env)::starEach [m] X.env) (hpl:(backTo pos (starEach [m] X.env)).any (·.1)=false) :
    ID C X (.Tuple es k tp) (.Call (.Name "zip" p) [l,m] [] pos) (lz F):=mC (Dt hg hm ha he hpl) λO H R yy0=>by
     obtain⟨U,⟨H0,r⟩,q⟩:=yy0;refine⟨U,⟨H0,r⟩,?_⟩;unfold lz at q;cases e:F U with
     | val ds =>
       rw[e]at q;intro vs H1 s1 h1;dsimp only[DL.R.bind]at q;cases h1 with
       | nil=>exact q.elim
       | @cons v1 d1 vs1 ds1 a1 h1 =>
         cases h1 with
         | nil=>cases d1<;>exact q.elim
         | @cons v2 d2 vs2 ds2 a2 h1 =>
           cases h1 with
           | cons _ _=>cases d1<;>cases d2<;>exact q.elim
           | nil =>
             cases a1 with
             | lst e1 g1 =>
               cases a2 with
               | lst e2 g2=>exact⟨_,_,_,_,rfl,SqL.of (msk_sub _ _ e1),SqL.of (msk_sub _ _ e2),q _ H1 s1 (xM e1 g1 e2 g2)⟩
               | _=>exact q.elim
             | _=>cases d2<;>exact q.elim
     | exc c=>rw[e]at q;exact q
     | bad=>rw[e]at q;exact q
def Dh:List V->Hp->VK->Prop:=λxs H Q=>∃r j,xs=[.ref r]/\H r=some (.rng 0 j)/\-(2 ^ 62)<=j/\j<=100000/\∀p,H p=none->Q (.ref p) (upd H p (.lst ((List.range j.toNat).map λ(k:Nat)=>V.int (0+(k:Int)))))
theorem t7 (hc:X.calm=true):jU X (.type "list") Dh:=by
 intro pins s O H xs us Q I r h;obtain⟨ra,j,rfl,hq,hj0,hj,q⟩:=h;obtain⟨u,rfl,rx⟩:=mW r;cases rx;obtain⟨t,u',v',e⟩:=I.hok ra _ hq;have hn:Builtin.Range.rangeSize 0 j 1=(j.toNat:Nat):=by rw[rangeSize_one];split<;>omega
 have hsm:Builtin.Range.small 0 j 1=true:=small_one (by decide) (by decide) hj0 (by omega);refine call_list_range (n:=j.toNat) (I.ok.hd hc) e hsm hn (by omega) λh' tk acc c hk hacc hit=>?_;have hv:Vals ((List.range j.toNat).map λ(k:Nat)=>V.int (0+(k:Int))) acc.toList:=mU (by simpa using hit.1) λi v q=>hit.2 i v (by simpa using q);have I2:Inv X pins O (upd H s.heap.objs.size (.lst ((List.range j.toNat).map λ(k:Nat)=>V.int (0+(k:Int))))) { s with heap:=h',toks:=tk } :=
  I.laid (t':=tk) (λb o e=>hk b o e) (Nat.le_refl _) (show ObjOk X.prog X.w _ _ _ (.lst _)from⟨by rw[List.length_map,List.length_range];exact Nat.le_trans (show j.toNat<=100000 by omega) (by decide),acc.toList,c,hv,by simpa using hacc⟩)
 exact⟨.ref s.heap.objs.size,_,I2,rfl,q _ I.fresh⟩
theorem Ee {a : Expr} {pos2 : Pos} {F : Rho -> R (List D)} (hc : X.calm = true) (ha : AD C X [a] F) (hgr : Gl X "range") (hmr : X.mg "range" = none) (hgt : Gl X "list") (hmt : X.mg "list" = none)
    (hs : starEach [a] X.env = [(false, eval a X.env)]) : FD C X (.Call (.Name "list" p) [.Call (.Name "range" p2) [a] [] pos2] [] pos) (zC F) :=
  aD (cA (t7 hc) hgt hmt boot_list (bu (yF hgr hmr ha hs) bU ax) (he := ax) (hpl := av)) fun O H Q yy0 => by
   obtain ⟨U, ⟨H0, r⟩, q⟩ := yy0
   exact ⟨U, ⟨H0, r⟩, dF (P := fun z H => pF (X := X) (iN C X U O) z O H Q) (fun _ h => h) (fun h => h) q fun ds vs H1 s1 h1 q1 => by
    cases h1 with
    | nil => exact q1.elim
    | @cons v1 d1 vs1 ds1 a1 h1 =>
      cases h1 with
      | cons _ _ => cases d1 <;> exact q1.elim
      | nil =>
        cases a1 with
        | int j =>
          unfold yX at q1
          dsimp only at q1
          by_cases hj : -(2 ^ 62) <= j /\ j <= 100000
          · rw [if_pos hj] at q1
            exact ⟨j, rfl, hj.1, by omega, fun ra hra => ⟨ra, j, rfl, aF, hj.1, hj.2, fun pa hpa => q1 pa _ _ (s1.trans (aA hra)) hpa (tK _)⟩⟩
          · rw [if_neg hj] at q1; exact q1.elim
        | _ => exact q1.elim⟩
end
section
variable (C:Addr) (X:Cx)
abbrev Ez (H:Hp) (v:V) (d:D):Prop:=Has X.K C H v d
abbrev wQ (H:Hp) (v:List V) (d:List D):Prop:=HasL X.K C H v d
def teR (F:Rho->R D):TE:=λO H Q=>∃U:RB,(∃H0,bP C X H0 U O H)/\pV X (Ez C X) (F U) O H Q
def taR (F:Rho->R (List D)):TA:=λO H Q=>∃U:RB,(∃H0,bP C X H0 U O H)/\pL X (wQ C X) (F U) O H Q
def ER (e:Expr) (F:Rho->R D):Prop:=PE X e (teR C X F)
def AR (es:List Expr) (F:Rho->R (List D)):Prop:=PA X es (taR C X F)
end
section
variable {C:Addr} {X:Cx} {U:RB} {O:St} {H H':Hp}
theorem CF {e:Expr} (h:EB C X e F):ER C X e F:=aD h λO H Q ⟨U,r,q⟩=>⟨U,r,by
 cases z:F U with
 | val d=>rw[z]at q;exact λv H' s h=>q v H' s (h.has msk_sub)
 | exc c=>rw[z]at q;exact q
 | bad=>rw[z]at q;exact q⟩
def va (i:Nat):Rho->R D:=λU=>match U[i]? with
 | some (some (.shr d))=>.val d
 | some (some (.own xs))=>.val (.lst xs)
 | some (some (.tre _ d))=>.val d
 | _=>.bad
theorem u3 (h:PE X (.Name x pos) (df i)):ER C X (.Name x pos) (va i):=by
 refine aD h λO H Q zz1=>?_;obtain⟨U,⟨H0,r⟩,q⟩:=zz1;unfold va at q;split at q
 ·rename_i d e;obtain⟨v,e1,h1⟩:=r.at_ i _ e;exact⟨v,e1,q v H (Same.refl _) (h1.mono msk_sub)⟩
 ·rename_i xs e;obtain⟨a,vs,e1,_,h1,h2⟩:=r.at_ i _ e;exact⟨_,e1,q _ H (Same.refl _) (.lst h1 (h2.mono msk_sub))⟩
 ·rename_i k d e;obtain⟨v,B,e1,_,h1⟩:=r.at_ i _ e;exact⟨_,e1,q _ H (Same.refl _) (h1.has msk_sub)⟩
 ·exact q.elim
def flF (F:Rho->R D):Rho->R D:=λU=>(F U).bind λd=>match d with
 | .int i=>.val (.int i)
 | .bl b=>.val (.bl b)
 | .non=>.val .non
 | _=>.bad
theorem wB {e:Expr} (h:ER C X e F):ED C X e (flF F):=aD h λO H Q ⟨U,r,q⟩=>⟨U,r,by
 unfold flF at q;cases z:F U with
 | val d =>
  rw[z]at q;intro v H' s h;cases d with
  | int i=>cases h;exact q _ H' s (.int i)
  | bl i=>cases h;exact q _ H' s (.bl i)
  | non=>cases h;exact q _ H' s .non
  | _=>exact q.elim
 | exc c=>rw[z]at q;exact q
 | bad=>rw[z]at q;exact q⟩
theorem Ad:AR C X [] aN:=ju bU λO H Q ⟨U,r0,q⟩=>q [] H (Same.refl _) .nil
theorem mR {e:Expr} {Fa:Rho->R D} {Fr:Rho->R (List D)} (ha:ER C X e Fa) (hr:AR C X es Fr) (hs:starEach (e::es) X.env=(false,eval e X.env)::starEach es X.env:=by rfl):AR C X (e::es) (aC Fa Fr) :=
 ju (bu ha hr hs) λO H Q ⟨U,⟨H0,r0⟩,q⟩=>⟨U,⟨H0,r0⟩,aQ (P:=λz H=>pL X (wQ C X) z O H Q) (λ_ h=>h) (λh=>h) q λx v H1 s1 h1 q1 =>
  ⟨U,⟨H0,r0.mono s1⟩,dF (P:=λz H=>pL X (wQ C X) z O H Q) (λ_ h=>h) (λh=>h) (q1.mono s1) λxs vs H2 s2 h2 q2=>q2 _ H2 s2 (.cons (h1.mono s2) h2)⟩⟩
theorem Ei {e:Expr} (h:ER C X e F) (hg:Gl X "len") (hm:X.mg "len"=none) (hst:starEach [e] X.env=(false,eval e X.env)::starEach [] X.env:=by rfl)
  (hs:∀t:TA,PA X [e] t->PE X (.Call (.Name "len" p) [e] [] pos) (tCB (λxs H Q=>∃p ys,xs=[.ref p]/\(SqL X.K H p ys\/SqT X.K H p ys)/\Q (.int ys.length) H) t):=by
   exact λt ha=>d7 fL (by assumption) (by assumption) PySem.boot_len ha):ED C X (.Call (.Name "len" p) [e] [] pos) (una aM F) :=
 aD (hs _ (bu h bU hst)) λO H Q ⟨U,r0,q⟩=>⟨U,r0,aQ (P:=λz H=>pV X (dC C X U O) z O H Q) (λ_ h=>h) (λh=>h) q λx v H1 s1 h1 q1=>by
  cases h1 with
  | lst e1 h2=>exact⟨_,_,rfl,.inl (SqL.of e1),q1 _ H1 s1 (by rw[h2.len];exact .int _)⟩
  | tup e1 h2=>exact⟨_,_,rfl,.inr (SqT.of e1),q1 _ H1 s1 (by rw[h2.len];exact .int _)⟩
  | scr e1=>exact⟨_,_,rfl,.inl e1,q1 _ H1 s1 (by rw[List.length_map];exact .int _)⟩
  | _=>exact q1.elim⟩
theorem CG {n:Nat} {e:Expr} (F:Fn X.prog X.w X.K X.mg X.base C k x n den) (hr:Room k X.A) (hg:Gl X x) (ha:AR C X (e::es) Fa)
  (hdb:(x==("__debug__":Str))=false:=by decide) (he:starEach (e::es) X.env=(false,eval e X.env)::starEach es X.env:=by rfl) (hpl:(backTo pos (starEach es X.env)).any (·.1)=false:=by rfl) :
  ER C X (.Call (.Name x p) (e::es) [] pos) (cal n den Fa):=by
 obtain⟨f,fd,ps,F,hm,hk,hb⟩:=F;rintro pins s O H Q I ⟨U,⟨H0,r0⟩,q⟩;refine wpAny_Call_Name_kw (gx I hg hm ?_ hdb);refine callWith_K (h₀:=X.base) I.ok.mod.kin hk (thn (ha pos pins s O H (λvs H1=>∃ds d,ds.length=n/\Same H H1/\wQ C X H1 vs ds/\den ds=.val d/\∀v H',Same H H'->Ez C X H' v d->Q v H') I
  ⟨U,⟨H0,r0⟩,dF (P:=λz H=>pV X (Ez C X) z O H Q) (λ_ h=>h) (λh=>h) q λds vs H1 s1 h1 q1=>?_⟩) λus s1 ⟨vs,H1,I1,rv,ds,d,hl,s1',h1,e1,q1⟩=>⟨I1.kIn,?_⟩) he hpl
 ·split at q1
  ·rename_i hl;cases e1:den ds with
   | val d=>rw[e1]at q1;exact⟨ds,d,hl,s1,h1,e1,q1⟩
   | exc c=>rw[e1]at q1;exact q1.elim
   | bad=>rw[e1]at q1;exact q1.elim
  ·exact q1.elim
 ·refine thn (kZ (E:=E0) (Q:=λv M'=>Same H1 M'/\Has X.K C M' v d) F hr hb .nil nj I1 rv ?_) λu s2 ⟨v,M',J2,ru,sm,hv⟩=>⟨v,M',J2,ru,q1 v M' (s1'.trans sm) hv⟩;rw[List.append_nil];refine⟨h1.len.trans hl,ds,h1,?_⟩;rw[e1];exact λv H' s2 h2=>⟨s2,h2⟩
end
def spK (K:Frag) (C:Addr) (n:Nat) (kr:OK) (den:List D->R D):Sp:=λvs H Q _=>vs.length=n/\∃ds,HasL K C H vs ds/\match den ds with
 | .val d=>∀v H' A,Same H H'->(∀a∈A,H a=none)->Tre K C (cut A H') H' kr v d A->Q v H'
 | _=>False
def FnK (P:Program) (w:World) (K:Frag) (mg:Str->Option Value) (base:Heap) (C:Addr) (k:Nat) (x:Str) (n:Nat) (kr:OK) (den:List D->R D):Prop :=
 ∃f fd ps,FnOk P w K mg base CX0 k f fd ps (spK K C n kr den)/\mg x=some (.ref f)/\keepIn K (.ref f)=true/\Binds K fd ps []
section
variable (C:Addr) (X:Cx)
def pR (kr:OK) (r:R D) (H0:Hp) (Q:VK):Prop:=match r with
 | .val d=>∀v H' A,Same H0 H'->(∀a∈A,H0 a=none)->Tre X.K C (cut A H') H' kr v d A->Q v H'
 | _=>False
def tsK (kr:OK) (F:Rho->R D):TS:=λDn O H=>∃U H0,iQ C X H0 U O H/\pR C X kr (F U) H0 Dn.rt
def mq (kr:OK) (st:List Stmt) (F:Rho->R D):Prop:=PSs X st (tsK C X kr F)
end
def sqK (F:Rho->R Out) (G:Rho->R D):Rho->R D:=λU=>match F U with
 | .val (.nx U')=>G U'
 | _=>.bad
def ifK (t:Rho->R Bool) (a b:Rho->R D):Rho->R D:=λU=>(t U).bind λc=>if c=true then a U else b U
def rtK (i:Nat) (kr:OK):Rho->R D:=λU=>match U[i]? with
 | some (some (.tre k d))=>if k=kr then .val d else .bad
 | _=>.bad
variable {kr:OK} {Fb:Rho->R D}
section
variable {C:Addr} {X:Cx}
theorem iV {F:Rho->R Out} {G:Rho->R D} (h1:SD C X st F) (h2:mq C X kr rest G):mq C X kr (st::rest) (sqK F G) :=
 bJ (dz h1 h2) λD O H ⟨U,H0,r,q⟩=>by
  refine⟨U,H0,r,?_⟩;unfold sqK at q;cases e:F U with
  | val o =>
   rw[e]at q;cases o with
   | nx U'=>exact λσ' H' r'=>⟨U',H0,r',q⟩
   | rt d=>exact q.elim
   | bk U'=>exact q.elim
   | ct U'=>exact q.elim
  | exc c=>rw[e]at q;exact q.elim
  | bad=>rw[e]at q;exact q.elim
theorem AC {e:Expr} (he:KD C X kr e F):mq C X kr [.Return (some e) pos] F :=
 bJ (cz (j3 he)) λD O H ⟨_,H0,⟨U,er,r⟩,q⟩=>by
  subst er;refine⟨U,⟨H0,r⟩,?_⟩;cases z:F U with
  | val d =>
   rw[z]at q;exact λv H' A s hA h=>q v H' A ((r.keep.trans msk_sub).trans s) (λa ha=>bR (r.keep.trans msk_sub) (hA a ha)) (h.stay (λb o e=>cut_some.mpr ⟨(cut_some.mp e).1,(msk_some.mp (cut_some.mp e).2).2⟩) (.of (Same.refl _)))
  | exc c=>rw[z]at q;exact q.elim
  | bad=>rw[z]at q;exact q.elim
theorem x8 (hv:PE X (.Name x p) (df i)):mq C X kr [.Return (some (.Name x p)) pos] (rtK i kr) :=
 bJ (cz (j3 hv)) λD O H ⟨_,H0,⟨U,er,r⟩,q⟩=>by
  subst er;unfold rtK at q;split at q
  ·rename_i k d e;split at q
   ·rename_i ek;subst ek;obtain⟨v,B,e1,hB,h⟩:=r.at_ i _ e;refine⟨v,e1,q v H B (r.keep.trans msk_sub) (λa ha=>?_) (h.stay (λb o eb=>cut_some.mpr ⟨λhb=>(msk_some.mp eb).1 ⟨i,hB b hb⟩,(msk_some.mp eb).2⟩) (.of (Same.refl _)))⟩;cases z:H0 a with
    | none=>rfl
    | some o=>exact absurd ⟨i,hB a ha⟩ (msk_some.mp (r.keep a o z)).1
   ·exact q.elim
  ·exact q.elim
theorem C9 {c:Expr} {a:List Stmt} {Ft:Rho->R Bool} {Fa:Rho->R D} (hc:TD C X c Ft) (ha:mq C X kr a Fa) (hb:mq C X kr rest Fb):mq C X kr (.If c a [] pos::rest) (ifK Ft Fa Fb) :=
 bJ (dz (sK hc ha mB) hb) λD O H ⟨_,H0,⟨U,er,r⟩,q⟩=>by
  subst er;refine⟨U,⟨H0,r⟩,?_⟩;unfold ifK at q;cases z:Ft U with
  | val c =>
   rw[z]at q;intro H1 s1;cases c with
   | true=>exact rb ⟨U,H0,(r.mono s1).e,q⟩
   | false=>exact rh ⟨U,H0,(r.mono s1).e,q⟩
  | exc c=>rw[z]at q;exact q.elim
  | bad=>rw[z]at q;exact q.elim
theorem y8 {n:Nat} {e:Expr} (F:FnK X.prog X.w X.K X.mg X.base C k x n kr den) (hr:Room k X.A) (hg:Gl X x) (ha:AD C X (e::es) Fa)
  (hdb:(x==("__debug__":Str))=false:=by decide) (he:starEach (e::es) X.env=(false,eval e X.env)::starEach es X.env:=by rfl) (hpl:(backTo pos (starEach es X.env)).any (·.1)=false:=by rfl) :
  KD C X kr (.Call (.Name x p) (e::es) [] pos) (cal n den Fa):=by
 obtain⟨f,fd,ps,F,hm,hk,hb⟩:=F;rintro pins s O H Q I ⟨U,⟨H0,r0⟩,q⟩;refine wpAny_Call_Name_kw (gx I hg hm ?_ hdb);refine callWith_K (h₀:=X.base) I.ok.mod.kin hk (thn (ha pos pins s O H (λvs H1=>∃ds d,ds.length=n/\Same H H1/\iN C X U O H1 vs ds/\den ds=.val d/\∀v H' A,Same H H'->(∀a∈A,H a=none)->Tre X.K C (cut A (msk U O H')) H' kr v d A->Q v H') I
  ⟨U,⟨H0,r0⟩,dF (P:=λz H=>pK C X kr U z O H Q) (λ_ h=>h) (λh=>h) q λds vs H1 s1 h1 q1=>?_⟩) λus s1 ⟨vs,H1,I1,rv,ds,d,hl,s1',h1,e1,q1⟩=>⟨I1.kIn,?_⟩) he hpl
 ·split at q1
  ·rename_i hl;cases e1:den ds with
   | val d=>rw[e1]at q1;exact⟨ds,d,hl,s1,h1,e1,q1⟩
   | exc c=>rw[e1]at q1;exact q1.elim
   | bad=>rw[e1]at q1;exact q1.elim
  ·exact q1.elim
 ·have r1:=r0.mono s1';have Z:=Rel.hid r1 I1;have J:=I1.hide Z;refine thn (kZ (E:=E0) (Q:=λv M'=>∃A,Same (cut (dv U O) H1) M'/\(∀a∈A,cut (dv U O) H1 a=none)/\Tre X.K C (cut A M') M' kr v d A) F hr hb .nil nj J rv ?_) λu s2 ⟨v,M',J2,ru,A,sm,hA,hv⟩=>?_
  ·rw[List.append_nil];refine⟨h1.len.trans hl,ds,by rw[<- im r0.bnd];exact h1,?_⟩;rw[e1];exact λv H' A s2 hA h2=>⟨A,s2,hA,h2⟩
  ·obtain⟨I2,mz⟩:=I1.show' Z J2;have sj:Same H1 (jn (dv U O) H1 M'):=λb o eb=>by
    by_cases hb:b∈dv U O
    ·rw[jM hb];exact eb
    ·rw[b0 hb];exact sm b o (cut_some.mpr ⟨hb,eb⟩)
   have em:msk U O (jn (dv U O) H1 M')=M':=by
    rw[im r0.bnd]
    funext b
    by_cases hb:b∈dv U O
    ·rw[gj hb,mz b hb]
    ·unfold cut;rw[if_neg hb,b0 hb]
   have nz:∀b o,M' b=some o->jn (dv U O) H1 M' b=some o:=λb o eb=>by
    rw[b0 λhb=>by rw[mz b hb]at eb;cases eb];exact eb
   refine⟨v,_,I2,ru,q1 v _ A (s1'.trans sj) (λa ha=>?_) (by rw[em];exact hv.stay (Same.refl _) (.of nz))⟩;obtain⟨us,ea⟩:=hv.lists a ha;have na:a∉dv U O:=λhb=>by rw[mz a hb]at ea;cases ea
   have:=hA a ha;unfold cut at this;rw[if_neg na]at this;exact bR s1' this
def CC:D->Bool
 | .int _=>true
 | .bl _=>true
 | .non=>true
 | _=>false
def cn:OK->D->Bool
 | .s,d=>CC d
 | .l k,.lst xs=>xs.all (cn k)
 | .p j k,.tup [a,b]=>cn j a&&cn k b
 | _,_=>false
def tN:List OK->List D->Bool
 | k::ks,d::ds=>cn k d&&tN ks ds
 | [],[]=>true
 | _,_=>false
theorem qf {k:OK} {Y:Type}:∀{vs:List Y} {ds:List D},vs.length=ds.length->ds.all (cn k)=true->tN (vs.map λ_=>k) ds=true
 | [],[],_,_=>rfl
 | _::vs,d::ds,hl,h=>by
  rw[List.all_cons,Bool.and_eq_true]at h;show(cn k d&&tN _ ds)=true;rw[h.1,qf (Nat.succ.inj hl) h.2];rfl
 | [],_::_,hl,_=>by cases hl
 | _::_,[],hl,_=>by cases hl
mutual
theorem Tre.remask {K:Frag} {M M' H:Hp}:∀{k:OK} {v:V} {d:D} {A:List Addr},Tre K C M H k v d A->cn k d=true->Tre K C M' H k v d A
 | _,_,d,_,.s h,f=>by
  unfold cn at f;cases h with
  | int i=>exact .s (.int i)
  | bl i=>exact .s (.bl i)
  | non=>exact .s .non
  | _=>cases f
 | _,_,_,_,.l (k:=k) e h n,f=>by
  unfold cn at f;exact .l e (TreP.remask h (qf h.len.1 f)) n
 | _,_,_,_,.p (j:=j) (k:=k) e h,f=>by
  refine .p e (TreP.remask h ?_);cases h with
  | cons h1 t _=>cases t with
   | cons h2 t _=>cases t with
    | nil =>
     unfold cn at f;rw[Bool.and_eq_true]at f;show(cn j _&&(cn k _&&true))=true;rw[f.1,f.2];rfl
theorem TreP.remask {K:Frag} {M M' H:Hp}:∀{ks:List OK} {vs:List V} {ds:List D} {A:List Addr},TreP K C M H ks vs ds A->tN ks ds=true->TreP K C M' H ks vs ds A
 | _,_,_,_,.nil,_=>.nil
 | _,_,_,_,.cons h t n,f=>by
  have f:(cn _ _&&tN _ _)=true:=f;rw[Bool.and_eq_true]at f;exact .cons (Tre.remask h f.1) (TreP.remask t f.2) n
end
end
section
variable {P:Program} {w:World} {K:Frag} {mg:Str->Option Value} {base:Heap} {C:Addr}
theorem wH {qual:Str} {ps:List Str} {den:Rho->R D} (F:Fun K x qual st f fd) (sc:ay N ps (aj st))
  (hb:∀(cdv:Value) (A:Around) (outer:List Env) (s:Shared) (H:Hp) (E:XK),Room k (A.deeper (envOfC qual (aj st) s.heap.objs.size f cdv)) ->
   mq C (gi CX0 P w K mg base N qual (aj st) f cdv A outer s H E).nox kr (bY st) den) :
  FnOk P w K mg base CX0 (k+1) f fd ps (spK K C ps.length kr λds=>den (st0 N ds)):=by
 refine F.ok sc (λvs H Q E h=>h.1) (λcdv A outer s H vs Q E hr h=>⟨_,hb cdv A outer s H E hr,?_⟩);obtain⟨_,ds,h,q⟩:=h;exact⟨st0 N ds,H,k_ h,q⟩
end
def gn:D->List Nat->Option D
 | d,[]=>some d
 | .lst xs,j::p=>match xs[j]? with
  | some d=>gn d p
  | none=>none
 | .tup xs,j::p=>match xs[j]? with
  | some d=>gn d p
  | none=>none
 | _,_::_=>none
def fR:D->List Nat->D->D
 | _,[],e=>e
 | .lst xs,j::p,e=>match xs[j]? with
  | some d=>.lst (xs.set j (fR d p e))
  | none=>.lst xs
 | .tup xs,j::p,e=>match xs[j]? with
  | some d=>.tup (xs.set j (fR d p e))
  | none=>.tup xs
 | d,_::_,_=>d
def gF:OK->List Nat->Option OK
 | k,[]=>some k
 | .l k,_::p=>gF k p
 | .p j _,0::p=>gF j p
 | .p _ k,1::p=>gF k p
 | _,_::_=>none
inductive Reach (H:Hp):V->List Nat->V->Prop where
 | nil {v:V}:Reach H v [] v
 | lst {a:Addr} {vs:List V} {j:Nat} {p:List Nat} {v w:V}:H a=some (.lst vs)->vs[j]?=some v->Reach H v p w->Reach H (.ref a) (j::p) w
 | tup {a:Addr} {vs:List V} {j:Nat} {p:List Nat} {v w:V}:H a=some (.tup vs)->vs[j]?=some v->Reach H v p w->Reach H (.ref a) (j::p) w
variable {w v:V} {k':OK}
section
variable {K:Frag} {C:Addr} {M M' H H':Hp}
theorem Reach.mono (s:Same H H') {p:List Nat} (h:Reach H v p w):Reach H' v p w:=by
 induction h with
 | nil=>exact .nil
 | lst e q _ ih=>exact .lst (s _ _ e) q ih
 | tup e q _ ih=>exact .tup (s _ _ e) q ih
structure FT (A B:List Addr) (H H':Hp):Prop where
 at_:∀a∈A,a∉B->∀o,H a=some o->H' a=some o
 tup:∀a vs,H a=some (.tup vs)->H' a=some (.tup vs)
theorem TreP.pick:∀{ks:List OK} {vs:List V} {ds:List D} {A:List Addr} {j:Nat} {d:D},TreP K C M H ks vs ds A->ds[j]?=some d->∃k v A1,ks[j]?=some k/\vs[j]?=some v/\Tre K C M H k v d A1/\(∀a∈A1,a∈A) /\
  ∀{M' H':Hp} {d':D} {A2:List Addr},Same M M'->FT A A1 H H'->Tre K C M' H' k v d' A2->(∀a∈A2,a∈A1\/a∉A)->∃A',TreP K C M' H' ks vs (ds.set j d') A'/\∀a∈A',a∈A\/a∈A2
 | _,_,_,_,_,_,.nil,e=>by simp at e
 | _,_,_,_,0,d,.cons (k:=k) (v:=v) (A:=A1) (B:=A3) h t n,e=>by
  rw[List.getElem?_cons_zero]at e;cases e;refine⟨k,v,A1,rfl,rfl,h,λa ha=>List.mem_append_left _ ha,λ{M' H' d' A2} s w h2 f=>⟨A2++A3,.cons h2 (t.stay s ⟨λa ha o q=>w.at_ a (List.mem_append_right _ ha) (λz=>n a z ha) o q,w.tup⟩) λa ha hb=>?_,λa ha=>?_⟩⟩
  ·rcases f a ha with z|z
   ·exact n a z hb
   ·exact z (List.mem_append_right _ hb)
  ·rcases List.mem_append.mp ha with z|z
   ·exact .inr z
   ·exact .inl (List.mem_append_right _ z)
 | _,_,_,_,j+1,d,.cons (k:=k0) (v:=v0) (d:=d0) (A:=A0) (B:=A3) h t n,e=>by
  rw[List.getElem?_cons_succ]at e;obtain⟨k,v,A1,e1,e2,h1,s1,up⟩:=TreP.pick t e;refine⟨k,v,A1,e1,e2,h1,λa ha=>List.mem_append_right _ (s1 a ha),λ{M' H' d' A2} s w h2 f=>?_⟩;obtain⟨A',h3,s3⟩:=up (M':=M') (H':=H') s ⟨λa ha na o q=>w.at_ a (List.mem_append_right _ ha) na o q,w.tup⟩ h2 λa ha=>(f a ha).imp id λz y=>z (List.mem_append_right _ y);refine⟨A0++A',.cons (h.stay s ⟨λa ha o q=>w.at_ a (List.mem_append_left _ ha) (λz=>n a ha (s1 a z)) o q,w.tup⟩) h3 λa ha hb=>?_,λa ha=>?_⟩
  ·rcases s3 a hb with z|z
   ·exact n a ha z
   ·rcases f a z with y|y
    ·exact n a ha (s1 a y)
    ·exact y (List.mem_append_left _ ha)
  ·rcases List.mem_append.mp ha with z|z
   ·exact .inl (List.mem_append_left _ z)
   ·exact(s3 a z).imp (λy=>List.mem_append_right _ y) id
theorem Bs {Y:Type} {k:OK} {vs:List Y} (h:(vs.map λ_=>k)[j]?=some k'):k'=k:=by
 rw[List.getElem?_map]at h;cases e:vs[j]? with
 | none=>rw[e]at h;cases h
 | some v=>rw[e]at h;exact(Option.some.inj h).symm
theorem Tre.path:∀{pp:List Nat} {k k':OK} {v:V} {d d':D} {A:List Addr},Tre K C M H k v d A->gn d pp=some d'->gF k pp=some k'->∃v' A1,Tre K C M H k' v' d' A1/\(∀a∈A1,a∈A)/\Reach H v pp v' /\
  ∀{M' H':Hp} {e:D} {A2:List Addr},Same M M'->FT A A1 H H'->Tre K C M' H' k' v' e A2->(∀a∈A2,a∈A1\/a∉A)->∃A',Tre K C M' H' k v (fR d pp e) A'/\∀a∈A',a∈A\/a∈A2
 | [],k,k',v,d,d',A,h,ed,ek=>by
  unfold gn at ed;unfold gF at ek;cases ed;cases ek;exact⟨v,A,h,λa ha=>ha,.nil,λ{M' H' e A2} _ _ h2 _=>⟨A2,by unfold fR;exact h2,λa ha=>.inr ha⟩⟩
 | j::pp,_,k',_,_,d',_,.s h,ed,ek=>by unfold gF at ek;cases ek
 | j::pp,_,k',_,_,d',_,.l (k:=k) (a:=a) (vs:=vs) (xs:=xs) (A:=A) ha hp hn,ed,ek=>by
  unfold gn at ed;unfold gF at ek;split at ed
  ·rename_i d0 e0;obtain⟨k0,v0,A0,q1,q2,h0,s0,up0⟩:=hp.pick e0;have:=Bs q1;subst this;obtain⟨v',A1,h1,s1,rc,up1⟩:=Tre.path h0 ed ek;refine⟨v',A1,h1,λb hb=>List.mem_cons_of_mem _ (s0 b (s1 b hb)),.lst ha q2 rc,λ{M' H' e A2} s w h2 f=>?_⟩;obtain⟨A3,h3,s3⟩:=up1 (M':=M') (H':=H') s ⟨λb hb nb o q=>w.at_ b (List.mem_cons_of_mem _ (s0 b hb)) nb o q,w.tup⟩ h2 λb hb=>(f b hb).imp id λz y=>z (List.mem_cons_of_mem _ (s0 b y));have f3:∀b∈A3,b∈A0\/b∉A:=λb hb=>by
    rcases s3 b hb with z|z
    ·exact .inl z
    ·rcases f b z with y|y
     ·exact .inl (s1 b y)
     ·exact .inr λx=>y (List.mem_cons_of_mem _ x)
   obtain⟨A4,h4,s4⟩:=up0 (M':=M') (H':=H') s ⟨λb hb nb o q=>w.at_ b (List.mem_cons_of_mem _ hb) (λz=>nb (s1 b z)) o q,w.tup⟩ h3 f3;have na:a∉A2:=λz=>by
    rcases f a z with y|y
    ·exact hn (s0 a (s1 a y))
    ·exact y List.mem_cons_self
   refine⟨a::A4,?_,λb hb=>?_⟩
   ·unfold fR;rw[e0];refine .l (w.at_ a List.mem_cons_self (λz=>hn (s0 a (s1 a z))) _ ha) h4 λz=>?_;rcases s4 a z with y|y
    ·exact hn y
    ·rcases s3 a y with x|x
     ·exact hn (s0 a x)
     ·exact na x
   ·rcases List.mem_cons.mp hb with rfl|hb
    ·exact .inl List.mem_cons_self
    ·rcases s4 b hb with y|y
     ·exact .inl (List.mem_cons_of_mem _ y)
     ·exact(s3 b y).imp (λx=>List.mem_cons_of_mem _ (s0 b x)) id
  ·cases ed
 | j::pp,_,k',_,_,d',_,.p (j:=k1) (k:=k2) (a:=a) (vs:=vs) (xs:=xs) (A:=A) ha hp,ed,ek=>by
  unfold gn at ed;split at ed
  ·rename_i d0 e0;obtain⟨k0,v0,A0,q1,q2,h0,s0,up0⟩:=hp.pick e0;have ek0:gF k0 pp=some k':=by
    match j,q1,ek with
    | 0,q1,ek=>cases q1;unfold gF at ek;exact ek
    | 1,q1,ek=>cases q1;unfold gF at ek;exact ek
    | n+2,q1,ek=>cases q1
   obtain⟨v',A1,h1,s1,rc,up1⟩:=Tre.path h0 ed ek0;refine⟨v',A1,h1,λb hb=>s0 b (s1 b hb),.tup ha q2 rc,λ{M' H' e A2} s w h2 f=>?_⟩;obtain⟨A3,h3,s3⟩:=up1 (M':=M') (H':=H') s ⟨λb hb nb o q=>w.at_ b (s0 b hb) nb o q,w.tup⟩ h2 λb hb=>(f b hb).imp id λz y=>z (s0 b y);have f3:∀b∈A3,b∈A0\/b∉A:=λb hb=>by
    rcases s3 b hb with z|z
    ·exact .inl z
    ·rcases f b z with y|y
     ·exact .inl (s1 b y)
     ·exact .inr y
   obtain⟨A4,h4,s4⟩:=up0 (M':=M') (H':=H') s ⟨λb hb nb o q=>w.at_ b hb (λz=>nb (s1 b z)) o q,w.tup⟩ h3 f3;refine⟨A4,?_,λb hb=>?_⟩
   ·unfold fR;rw[e0];exact .p (w.tup _ _ ha) h4
   ·rcases s4 b hb with y|y
    ·exact .inl y
    ·exact(s3 b y).imp (λx=>s0 b x) id
  ·cases ed
end
variable {pp:List Nat}
section
variable {K:Frag} {C:Addr} {H0 H:Hp} {U:RB} {O:St}
theorem Rel.node (r:Rel K C H0 U O H) {k:OK} {d:D} (e:U.rho[i]?=some (some (.tre k d))) (ek:gF k pp=some (.l k')) (ed:gn d pp=some (.lst xs)) :
  ∃v a vs A0,O[i]?=some (some v)/\Reach H v pp (.ref a)/\H a=some (.lst vs)/\TreP K C (msk U O H) H (vs.map λ_=>k') vs xs A0/\a∉A0 /\
   ∀{H2:Hp} {ws:List V} {ys:List D} {N B:List Addr},Same H H2->(∀b∈N,H b=none)->TreP K C (cut N (msk U O H2)) (upd H2 a (.lst ws)) (ws.map λ_=>k') ws ys B->(∀b∈B,b∈A0\/b∈N) ->
    Rel K C H0 (U.put i (.tre k (fR d pp (.lst ys))) (U.ad i++B)) O (upd H2 a (.lst ws)):=by
 obtain⟨v,Bt,e1,hB,h⟩:=r.at_ i _ e;obtain⟨v',A1,h1,s1,rc,up⟩:=h.path ed ek;cases h1 with
 | @l _ a vs _ A0 ha hp hn =>
  have aI:a∈U.ad i:=hB a (s1 a List.mem_cons_self);have A0I:∀b∈A0,b∈U.ad i:=λb hb=>hB b (s1 b (List.mem_cons_of_mem _ hb));refine⟨v,a,vs,A0,e1,rc,ha,hp,hn,λ{H2 ws ys N B} s hN ht hs=>?_⟩;have nN:∀b,b∈U.ad i->b∉N:=λb hb z=>by
   have:=r.ownAt (O:=O) ⟨i,hb⟩;exact this (hN b z)
  have ne:∀b vs',H b=some (.tup vs')->b≠a:=λb vs' q z=>by rw[z,ha]at q;cases q
  refine r.put rfl (λj _=>rfl) (λb hb=>?_) (λj hj=>⟨λb hb o q=>?_,λb vs' q=>?_⟩) (λb o q=>?_) (λb hb=>?_) λhi sub=>?_
  ·rcases List.mem_append.mp hb with hb|hb
   ·exact .inl hb
   ·rcases hs b hb with z|z
    ·exact .inl (A0I b z)
    ·exact .inr (hN b z)
  ·rw[aw λ(z:b=a)=>hj (r.inj j i b hb (z▸aI))];exact s b o q
  ·rw[aw (ne b vs' q)];exact s b _ q
  ·obtain⟨g1,g2⟩:=msk_some.mp q;rw[aw λ(z:b=a)=>g1 ⟨i,z▸aI⟩];exact s b o g2
  ·by_cases z:b=a
   ·exact .inl ⟨ws,by rw[z];exact aF⟩
   ·rcases List.mem_append.mp hb with hb|hb
    ·rw[aw z];exact(r.kin i b hb).imp (λ⟨us,q⟩=>⟨us,s _ _ q⟩) λ⟨us,q⟩=>⟨us,s _ _ q⟩
    ·exact .inl (ht.lists b hb)
  ·have aB:a∉B:=λz=>by
    rcases hs a z with y|y
    ·exact hn y
    ·exact nN a aI y
   obtain⟨A',h3,s3⟩:=up (M':=msk (U.put i (.tre k (fR d pp (.lst ys))) (U.ad i++B)) O (upd H2 a (.lst ws))) (H':=upd H2 a (.lst ws)) sub ⟨λb hb nb o q=>by rw[aw λ(z:b=a)=>nb (z▸List.mem_cons_self)];exact s b o q,λb vs' q=>by rw[aw (ne b vs' q)];exact s b _ q⟩
    (.l (k:=k') aF (ht.stay (λb o q=>by
     obtain⟨g1,g2⟩:=cut_some.mp q;obtain⟨g3,g4⟩:=msk_some.mp g2;refine msk_some.mpr ⟨λ⟨j,z⟩=>?_,by rw[aw λ(z:b=a)=>g3 ⟨i,z▸aI⟩];exact g4⟩;rcases fk z with⟨_,_,z⟩|⟨_,z⟩
     ·rcases List.mem_append.mp z with z|z
      ·exact g3 ⟨i,z⟩
      ·rcases hs b z with y|y
       ·exact g3 ⟨i,A0I b y⟩
       ·exact g1 y
     ·exact g3 ⟨j,z⟩) (.of (Same.refl _))) aB) (λb hb=>by
     rcases List.mem_cons.mp hb with z|z
     ·exact .inl (z▸List.mem_cons_self)
     ·rcases hs b z with y|y
      ·exact .inl (List.mem_cons_of_mem _ y)
      ·exact .inr λx=>nN b (hB b x) y)
   refine⟨v,A',e1,λb hb=>?_,h3⟩;rcases s3 b hb with z|z
   ·exact List.mem_append_left _ (hB b z)
   ·rcases List.mem_cons.mp z with z|z
    ·exact List.mem_append_left _ (z▸aI)
    ·exact List.mem_append_right _ z
theorem Reach.det {w':V} (h:Reach H v pp w) (h':Reach H v pp w'):w=w':=by
 induction h with
 | nil=>cases h';rfl
 | lst e q _ ih =>
  cases h' with
  | lst e' q' h'=>rw[e]at e';cases e';rw[q]at q';cases q';exact ih h'
  | tup e' q' h'=>rw[e]at e';cases e'
 | tup e q _ ih =>
  cases h' with
  | lst e' q' h'=>rw[e]at e';cases e'
  | tup e' q' h'=>rw[e]at e';cases e';rw[q]at q';cases q';exact ih h'
theorem Reach.snocL {u:V} (h:Reach H v pp w) (ew:w=.ref a) (e:H a=some (.lst vs)) (q:vs[j]?=some u):Reach H v (pp++[j]) u:=by
 induction h with
 | nil=>subst ew;exact .lst e q .nil
 | lst e' q' _ ih=>exact .lst e' q' (ih ew)
 | tup e' q' _ ih=>exact .tup e' q' (ih ew)
theorem Reach.snocT {u:V} (h:Reach H v pp w) (ew:w=.ref a) (e:H a=some (.tup vs)) (q:vs[j]?=some u):Reach H v (pp++[j]) u:=by
 induction h with
 | nil=>subst ew;exact .tup e q .nil
 | lst e' q' _ ih=>exact .lst e' q' (ih ew)
 | tup e' q' _ ih=>exact .tup e' q' (ih ew)
end
variable {P:Rho->R (List Nat)}
section
variable {C:Addr} {X:Cx}
def pN0 (i:Nat):Rho->R (List Nat):=λU=>match U[i]? with
 | some (some (.tre _ _))=>.val []
 | _=>.bad
def pIx (k:OK) (d:D) (pp:List Nat) (n:Int):R (List Nat):=match gF k pp,gn d pp with
 | some (.l _),some (.lst xs)=>match ixN xs.length n with
  | some j=>.val (pp++[j])
  | none=>.bad
 | some (.p _ _),some (.tup xs)=>match ixN xs.length n with
  | some j=>.val (pp++[j])
  | none=>.bad
 | _,_=>.bad
def pN (i:Nat) (P:Rho->R (List Nat)) (b:Rho->R D):Rho->R (List Nat):=λU=>(P U).bind λpp=>(b U).bind λn=>match U[i]?,n with
 | some (some (.tre k d)),.int n=>pIx k d pp n
 | _,_=>.bad
variable (C X) in
def teN (i:Nat) (P:Rho->R (List Nat)):TE:=λO H Q=>∃U:RB,(∃H0,bP C X H0 U O H)/\match P U with
 | .val pp=>∀v w H',O[i]?=some (some v)->Same H H'->Reach H' v pp w->Q w H'
 | .exc c=>XE X c O H
 | .bad=>False
variable (C X) in
def ND (i:Nat) (o:Expr) (P:Rho->R (List Nat)):Prop:=PE X o (teN C X i P)
theorem jw (h:PE X (.Name x pos) (df i)):ND C X i (.Name x pos) (pN0 i):=by
 refine aD h λO H Q ⟨U,⟨H0,r⟩,q⟩=>?_;unfold pN0 at q;split at q
 ·rename_i e;split at e
  ·rename_i k d e0;cases e;obtain⟨v,B,e1,_,_⟩:=r.at_ i _ e0;exact⟨v,e1,q v v H e1 (Same.refl _) .nil⟩
  ·cases e
 ·rename_i e;split at e<;>cases e
 ·exact q.elim
theorem Ab {Y:Type} {vs:List Y} {n:Int} (e:ixN vs.length n=some j):atI vs n=vs[j]?:=by
 unfold atI;rw[e];rfl
theorem y_ {m:Nat} {n:Int} (e:ixN m n=some j):j<m:=by
 unfold ixN at e;split at e
 ·split at e
  ·cases e;omega
  ·cases e
 ·split at e
  ·cases e;omega
  ·cases e
theorem sV {b:Expr} (ho:ND C X i o P) (hb:ED C X b Fb) (hs:kM b:=by exact λ_ _=>rfl):ND C X i (.Subscript o b pos) (pN i P Fb) :=
 aD (yG y9 ho hb hs) λO H Q ⟨U,⟨H0,r⟩,q⟩=>by
  refine⟨U,⟨H0,r⟩,?_⟩;unfold pN at q;cases eP:P U with
  | exc c=>rw[eP]at q;exact q
  | bad=>rw[eP]at q;exact q
  | val pp =>
   rw[eP]at q;dsimp only[DL.R.bind]at q;intro v w H1 e1 s1 rc;refine⟨U,⟨H0,r.mono s1⟩,?_⟩;cases eb:Fb U with
   | exc c=>rw[eb]at q;exact XE.mono s1 q
   | bad=>rw[eb]at q;exact q
   | val n =>
    rw[eb]at q;dsimp only at q;intro y H2 s2 hy;split at q
    ·rename_i pq e0;split at e0
     ·rename_i k d n' er;cases hy;unfold pIx at e0;obtain⟨v0,B,e2,_,h⟩:=r.at_ i _ er;rw[e1]at e2;cases e2;split at e0
      ·rename_i k1 xs ek ed;split at e0
       ·rename_i j ej;cases e0;obtain⟨v',A1,h1,_,rc',_⟩:=h.path ed ek;have:=Reach.det (rc'.mono s1) rc;subst this;cases h1 with
        | @l _ a vs _ A0 ha hp hn =>
         have ha2:=s2 _ _ (s1 _ _ ha);have hl:vs.length=xs.length:=hp.len.1;have hj:j<vs.length:=by rw[hl];exact y_ ej
         exact .inl ⟨a,vs,n',vs[j],rfl,rfl,SqL.of ha2,by rw[Ab (j:=j) (by rw[hl];exact ej)];exact List.getElem?_eq_getElem hj,q v _ H2 e1 (s1.trans s2) ((rc.mono s2).snocL rfl ha2 (List.getElem?_eq_getElem hj))⟩
       ·cases e0
      ·rename_i k1 k2 xs ek ed;split at e0
       ·rename_i j ej;cases e0;obtain⟨v',A1,h1,_,rc',_⟩:=h.path ed ek;have:=Reach.det (rc'.mono s1) rc;subst this;cases h1 with
        | @p _ _ a vs _ A0 ha hp =>
         have ha2:=s2 _ _ (s1 _ _ ha);have hl:vs.length=xs.length:=hp.len.1;have hj:j<vs.length:=by rw[hl];exact y_ ej
         exact .inr (.inl ⟨a,vs,n',vs[j],rfl,rfl,SqT.of ha2,by rw[Ab (j:=j) (by rw[hl];exact ej)];exact List.getElem?_eq_getElem hj,q v _ H2 e1 (s1.trans s2) ((rc.mono s2).snocT rfl ha2 (List.getElem?_eq_getElem hj))⟩)
       ·cases e0
      ·cases e0
     ·cases e0
    ·rename_i c e0;exfalso;split at e0
     ·unfold pIx at e0;split at e0
      ·split at e0<;>cases e0
      ·split at e0<;>cases e0
      ·cases e0
     ·cases e0
    ·exact q.elim
end
section
variable (C:Addr) (X:Cx)
def pI (O:St) (z:R Rho) (H0:Hp) (Dn:iR):Prop:=match z with
 | .val U'=>∀H',iQ C X H0 U' O H'->Dn.nx O H'
 | .exc c=>XS X c H0
 | .bad=>False
def tsI (F:Rho->R Rho):TS:=λDn O H=>∃U H0,iQ C X H0 U O H/\pI C X O (F U) H0 Dn
def SDi (st:Stmt) (F:Rho->R Rho):Prop:=PS X st (tsI C X F)
end
section
variable {K:Frag} {C:Addr} {M H:Hp}
theorem TreP.setK {k:OK} {v:V} {d:D} {B:List Addr} (h:Tre K C M H k v d B):∀{ks:List OK} {vs:List V} {ds:List D} {A:List Addr} (j:Nat),TreP K C M H ks vs ds A->(∀a∈A,a∉B)->∃A',(∀a∈A',a∈A\/a∈B)/\TreP K C M H (ks.set j k) (vs.set j v) (ds.set j d) A'
 | _,_,_,_,_,.nil,_=>⟨[],λa ha=>.inl ha,.nil⟩
 | _,_,_,_,0,.cons (A:=A1) (B:=A2) g t n,f=>⟨B++A2,λa ha=>(List.mem_append.mp ha).elim .inr λz=>.inl (List.mem_append_right _ z),.cons h t λa ha hb=>f a (List.mem_append_right _ hb) ha⟩
 | _,_,_,_,j+1,.cons (A:=A1) (B:=A2) g t n,f=>by
  obtain⟨A',h1,h2⟩:=TreP.setK h j t λa ha=>f a (List.mem_append_right _ ha);refine⟨A1++A',λa ha=>?_,.cons g h2 λa ha hb=>?_⟩
  ·rcases List.mem_append.mp ha with z|z
   ·exact .inl (List.mem_append_left _ z)
   ·exact(h1 a z).imp (λy=>List.mem_append_right _ y) id
  ·rcases h1 a hb with z|z
   ·exact n a ha z
   ·exact f a (List.mem_append_left _ ha) z
end
def sd (i:Nat) (k':OK) (pp:List Nat) (f:List D->R (List D)):Rho->R Rho:=λU=>match U[i]? with
 | some (some (.tre k d))=>if gF k pp=some (.l k')then(match gn d pp with
  | some (.lst xs)=>(f xs).bind λys=>.val (U.set i (some (.tre k (fR d pp (.lst ys)))))
  | _=>.bad)else .bad
 | _=>.bad
def apF (x:D) (xs:List D):R (List D):=if xs.length<LIM then .val (xs++[x])else .bad
def stF (n:D) (x:D) (xs:List D):R (List D):=match n with
 | .int n=>match ixN xs.length n with
  | some j=>.val (xs.set j x)
  | none=>.bad
 | _=>.bad
theorem Eu {x:D}:∀xs c,apF x xs ≠ .exc c:=λxs c e=>by unfold apF at e;split at e<;>cases e
theorem C5 {n x:D}:∀xs c,stF n x xs ≠ .exc c:=λxs c e=>by
 unfold stF at e;split at e
 ·split at e<;>cases e
 ·cases e
def apP (i:Nat) (k':OK) (P:Rho->R (List Nat)) (e:Rho->R D):Rho->R Rho:=λU=>(P U).bind λpp=>(noE (e U)).bind λx=>sd i k' pp (apF x) U
def stP (i:Nat) (k':OK) (P:Rho->R (List Nat)) (b e:Rho->R D):Rho->R Rho:=λU=>(e U).bind λx=>(P U).bind λpp=>(b U).bind λn=>sd i k' pp (stF n x) U
variable {H0:Hp} {U:RB} {O:St}
section
variable {C:Addr} {X:Cx}
def asO (F:Rho->R Rho):Rho->R Out:=λU=>(F U).bind λU'=>.val (.nx U')
theorem Db {F:Rho->R Rho} (h:SDi C X st F):SD C X st (asO F):=aW h λD O H ⟨U,H0,r,q⟩=>⟨U,H0,r,by
 unfold asO at q;cases e:F U with
 | val U'=>rw[e]at q;exact λH' r'=>q O H' r'
 | exc c=>rw[e]at q;exact q
 | bad=>rw[e]at q;exact q⟩
theorem qQ {Dn:iR} {c:Nat} (r:bP C X H0 U O H) (h:pI C X O (.exc c) H0 Dn):XE X c O H:=XS.xe (r.keep.trans msk_sub) h
theorem r_ {f:List D->R (List D)} {D:iR} (hf:∀xs c,f xs ≠ .exc c) (r:bP C X H0 U O H) (q:pI C X O (sd i k' pp f U) H0 D) :
  ∃xs ys v a vs A0,f xs=.val ys/\O[i]?=some (some v)/\Reach H v pp (.ref a)/\H a=some (.lst vs)/\TreP X.K C (msk U O H) H (vs.map λ_=>k') vs xs A0/\a∉A0 /\
   ∀{H2:Hp} {ws:List V} {N B:List Addr},Same H H2->(∀b∈N,H b=none)->TreP X.K C (cut N (msk U O H2)) (upd H2 a (.lst ws)) (ws.map λ_=>k') ws ys B->(∀b∈B,b∈A0\/b∈N)->D.nx O (upd H2 a (.lst ws)):=by
 unfold sd at q;split at q
 ·rename_i k d er;by_cases ek:gF k pp=some (.l k')
  ·rw[if_pos ek]at q;split at q
   ·rename_i xs ed;cases ef:f xs with
    | val ys =>
     rw[ef]at q;obtain⟨v,a,vs,A0,e1,rc,ha,hp,hn,up⟩:=r.node er ek ed;exact⟨xs,ys,v,a,vs,A0,ef,e1,rc,ha,hp,hn,λ{H2 ws N B} s hN ht hs=>q _ ⟨_,rfl,up s hN ht hs⟩⟩
    | exc c=>exact(hf xs c ef).elim
    | bad=>rw[ef]at q;exact q.elim
   ·exact q.elim
  ·rw[if_neg ek]at q;exact q.elim
 ·exact q.elim
theorem pZ {H2:Hp} {A0 N:List Addr} (r:bP C X H0 U O H) (s:Same H H2) (ha:H a=some (.lst vs)) (hn:a∉A0) (hN:∀b∈N,H b=none) (hp:TreP X.K C (msk U O H) H (vs.map λ_=>k') vs xs A0) :
  TreP X.K C (cut N (msk U O H2)) (upd H2 a (.lst ws)) (vs.map λ_=>k') vs xs A0 :=
 hp.stay (λb o e=>cut_some.mpr ⟨λz=>Option.some_ne_none _ ((msk_some.mp e).2.symm.trans (hN b z)),aO s b o e⟩)
  ⟨λb hb o e=>by rw[aw λ(z:b=a)=>hn (z▸hb)];exact s b o e,λb us e=>by rw[aw λ(z:b=a)=>by rw[z,ha]at e;cases e];exact s b _ e⟩
theorem sU {H1 H2:Hp} {y:V} {x:D} {N:List Addr} (ha:H a=some (.lst vs)) (s1:Same H H1) (s2:Same H1 H2) (hN:∀b∈N,H b=none) (h:Tre X.K C (cut N (msk U O H1)) H1 k' y x N) :
  Tre X.K C (cut N (msk U O H2)) (upd H2 a (.lst ws)) k' y x N :=
 h.stay (λb o e=>cut_some.mpr ⟨(cut_some.mp e).1,aO s2 b o (cut_some.mp e).2⟩)
  ⟨λb hb o e=>by rw[aw λ(z:b=a)=>Option.some_ne_none _ (ha.symm.trans (z▸hN b hb))];exact s2 b o e,λb us e=>by rw[aw λ(z:b=a)=>by rw[z,s1 _ _ ha]at e;cases e];exact s2 b _ e⟩
theorem qt {A0 N:List Addr} (hN:∀b∈N,H b=none) (hp:TreP X.K C (msk U O H) H (vs.map λ_=>k') vs xs A0):∀b∈A0,b∉N:=λb hb z=>by
 obtain⟨us,e⟩:=hp.lists b hb;rw[hN b z]at e;cases e
theorem m4 {e:Expr} {ap:Pos} (ho:ND C X i o P) (he:KD C X k' e F)
  (hs:∀{to:TE} {t:TA},PE X o to->PA X [e] t->PS X (.Expr (.Call (.Attribute o "append" ap) [e] [] cp) pos) (jK (tBM X.K "list" kg to t)):=by
   exact λho ha=>gw (nh PySem.F.plainAttrs_list PySem.F.slot_list_append PySem.F.type_list_append gT ho ha))
  (hst:starEach [e] X.env=(false,eval e X.env)::starEach [] X.env:=by rfl) :
  SDi C X (.Expr (.Call (.Attribute o "append" ap) [e] [] cp) pos) (apP i k' P F) :=
 aW (hs ho (bu he bU hst)) λD O H ⟨_,H0,⟨U,er,r⟩,q⟩=>by
  subst er;refine⟨U,⟨H0,r⟩,?_⟩;unfold apP at q;cases eP:P U with
  | exc c=>rw[eP]at q;exact qQ r q
  | bad=>rw[eP]at q;exact q.elim
  | val pp =>
   rw[eP]at q;dsimp only[DL.R.bind]at q;intro v w H1 e1 s1 rc;cases eF:F U with
   | exc c=>rw[eF]at q;exact q.elim
   | bad=>rw[eF]at q;exact q.elim
   | val x =>
    rw[eF]at q;obtain⟨xs,ys,v0,a,vs,A0,ef,e2,rc0,ha,hp,hn,up⟩:=r_ Eu r q;rw[e1]at e2;cases e2;have:=Reach.det (rc0.mono s1) rc;subst this;unfold apF at ef;by_cases hl:xs.length<LIM
    ·rw[if_pos hl]at ef;cases ef;refine⟨.inl ⟨rfl,_,SqL.of (s1 _ _ ha)⟩,U,⟨H0,r.mono s1⟩,?_⟩;rw[eF];intro y H2 N s2 hN hy;have hN':∀b∈N,H b=none:=λb hb=>bR s1 (hN b hb);refine⟨a,vs,y,rfl,rfl,s2 _ _ (s1 _ _ ha),by rw[hp.len.1];exact Nat.lt_of_lt_of_le hl (by decide),?_⟩;obtain⟨B,hB,h3⟩:=TreP.app (sU (ws:=vs++[y]) ha (s1.trans s2) (Same.refl _) hN' hy) (pZ (ws:=vs++[y]) r (s1.trans s2) ha hn hN' hp) (qt hN' hp);exact up (s1.trans s2) hN' (by rw[List.map_append];exact h3) λb hb=>(hB b).mp hb
    ·rw[if_neg hl]at ef;cases ef
theorem AE {b e:Expr} {sp:Pos} (ho:ND C X i o P) (hb:ED C X b Fb) (he:KD C X k' e F)
  (ha:∀v,assign (.Subscript o b sp) X.env v=(do
   let ov <- holding [v] (eval o X.env)
   let iv <- holding [v,ov] (eval b X.env)
   standAt sp
   holding [v,ov,iv] (setItem ov iv v)
   release [v,ov,iv] []):=by intro _;rfl)
  (hs:swapsWithSole [.Subscript o b sp] e pos.line X.env=pure false:=by rfl) (hw:swappedStores [.Subscript o b sp] e X.env=pure none:=by rfl)
  (h1:(assignEach [.Subscript o b sp] X.env).map (·.2)=[assign (.Subscript o b sp) X.env]:=by rfl) :
  SDi C X (.Assign [.Subscript o b sp] e pos) (stP i k' P Fb F) :=
 aW (qN he (uE ho hb xW ha) hs hw h1) λD O H ⟨_,H0,⟨U,er,r⟩,q⟩=>by
  subst er;refine⟨U,⟨H0,r⟩,?_⟩;unfold stP at q;cases eF:F U with
  | exc c=>rw[eF]at q;exact qQ r q
  | bad=>rw[eF]at q;exact q.elim
  | val x =>
   rw[eF]at q;dsimp only[DL.R.bind]at q;intro y H1 N s1 hN hy;refine⟨U,⟨H0,r.mono s1⟩,?_⟩;cases eP:P U with
   | exc c=>rw[eP]at q;exact qQ (r.mono s1) q
   | bad=>rw[eP]at q;exact q.elim
   | val pp =>
    rw[eP]at q;dsimp only at q;intro v w H2 e1 s2 rc;refine⟨U,⟨H0,(r.mono s1).mono s2⟩,?_⟩;cases eb:Fb U with
    | exc c=>rw[eb]at q;exact qQ ((r.mono s1).mono s2) q
    | bad=>rw[eb]at q;exact q.elim
    | val n =>
     rw[eb]at q;dsimp only at q;intro iv H3 s3 hiv;obtain⟨xs,ys,v0,a,vs,A0,ef,e2,rc0,hA,hp,hn,up⟩:=r_ C5 r q;rw[e1]at e2;cases e2;have:=Reach.det (rc0.mono (s1.trans s2)) rc;subst this;unfold stF at ef;cases n with
     | int n =>
      cases hiv;dsimp only at ef;cases ej:ixN xs.length n with
      | none=>rw[ej]at ef;cases ef
      | some j =>
       rw[ej]at ef;cases ef;have s:Same H H3:=(s1.trans s2).trans s3;refine⟨a,vs,n,j,rfl,rfl,s _ _ hA,by rw[hp.len.1];exact ej,?_⟩;obtain⟨B,hB,h3⟩:=TreP.setK (sU (ws:=vs.set j y) hA s1 (s2.trans s3) hN hy) j (pZ (ws:=vs.set j y) r s hA hn hN hp) (qt hN hp);exact up s hN (by rw[List.map_set];exact h3) hB
     | _=>cases ef
end
section
variable {K:Frag} {C:Addr} {M M' H:Hp}
theorem TreP.each:∀{ks:List OK} {vs:List V} {ds:List D} {A:List Addr},TreP K C M H ks vs ds A->∃f:Nat->List Addr,(∀(j:Nat) k d,ks[j]?=some k->ds[j]?=some d->∃v,vs[j]?=some v/\Tre K C M H k v d (f j))/\(∀j a,a∈f j->a∈A/\j<ks.length)/\(∀i j a,a∈f i->a∈f j->i=j)/\∀a∈A,∃j,a∈f j
 | _,_,_,_,.nil=>⟨λ_=>[],λj k d e=>by simp at e,λj a h=>(List.not_mem_nil h).elim,λi j a h=>(List.not_mem_nil h).elim,λa h=>(List.not_mem_nil h).elim⟩
 | _,_,_,_,.cons (v:=v) (A:=A1) (B:=A2) h t n=>by
  obtain⟨f,h1,h2,h3,h4⟩:=TreP.each t;refine⟨λj=>match j with|0=>A1|j+1=>f j,λj k d e1 e2=>?_,λj a ha=>?_,λi j a x y=>?_,λa ha=>?_⟩
  ·cases j with
   | zero=>cases e1;cases e2;exact⟨v,rfl,h⟩
   | succ j=>exact h1 j k d e1 e2
  ·cases j with
   | zero=>exact⟨List.mem_append_left _ ha,Nat.succ_pos _⟩
   | succ j=>exact⟨List.mem_append_right _ (h2 j a ha).1,Nat.succ_lt_succ (h2 j a ha).2⟩
  ·cases i with
   | zero=>cases j with
    | zero=>rfl
    | succ j=>exact absurd (h2 j a y).1 (n a x)
   | succ i=>cases j with
    | zero=>exact absurd (h2 i a x).1 (n a y)
    | succ j=>exact congrArg Nat.succ (h3 i j a x y)
  ·rcases List.mem_append.mp ha with z|z
   ·exact⟨0,z⟩
   ·obtain⟨j,z⟩:=h4 a z;exact⟨j+1,z⟩
theorem TreP.join:∀{ks:List OK} {vs:List V} {ds:List D} (f:Nat->List Addr),ks.length=ds.length->vs.length=ds.length->(∀(j:Nat) k v d,ks[j]?=some k->vs[j]?=some v->ds[j]?=some d->∃B,(∀a∈B,a∈f j)/\Tre K C M H k v d B)->(∀i j a,a∈f i->a∈f j->i=j)->∃A,(∀a∈A,∃j,a∈f j)/\TreP K C M H ks vs ds A
 | [],[],[],f,_,_,_,_=>⟨[],λa h=>(List.not_mem_nil h).elim,.nil⟩
 | k::ks,v::vs,d::ds,f,l1,l2,h,dj=>by
  obtain⟨B,b1,b2⟩:=h 0 k v d rfl rfl rfl;obtain⟨A,a1,a2⟩:=TreP.join (ks:=ks) (vs:=vs) (ds:=ds) (λj=>f (j+1)) (Nat.succ.inj l1) (Nat.succ.inj l2) (λj k v d e1 e2 e3=>h (j+1) k v d e1 e2 e3) λi j a x y=>Nat.succ.inj (dj (i+1) (j+1) a x y);refine⟨B++A,λa ha=>?_,.cons b2 a2 λa ha hb=>?_⟩
  ·rcases List.mem_append.mp ha with z|z
   ·exact⟨0,b1 a z⟩
   ·obtain⟨j,z⟩:=a1 a z;exact⟨j+1,z⟩
  ·obtain⟨j,z⟩:=a1 a hb;cases dj 0 (j+1) a (b1 a ha) z
 | [],_::_,[],_,_,l2,_,_=>by cases l2
 | [],_,_::_,_,l1,_,_,_=>by cases l1
 | _::_,_,[],_,l1,_,_,_=>by cases l1
 | _::_,[],_::_,_,_,l2,_,_=>by cases l2
end
def stM (N:List Str) (ks:List OK) (ds es:List D):Rho:=(List.zipWith (λk d=>some (Slt.tre k d)) ks ds)++(es.map (λd=>some (Slt.shr d))++List.replicate (N.length-ds.length-es.length) none)
theorem C4 {ks:List OK} {ds es:List D} (hl:ks.length=ds.length) (h:(stM N ks ds es)[i]?=some (some sl)):(∃k d,ks[i]?=some k/\ds[i]?=some d/\sl=.tre k d)\/∃j d,i=ds.length+j/\es[j]?=some d/\sl=.shr d:=by
 unfold stM at h;have zl:(List.zipWith (λk d=>some (Slt.tre k d)) ks ds).length=ds.length:=by rw[List.length_zipWith,hl,Nat.min_self]
 by_cases hi:i<ds.length
 ·rw[List.getElem?_append_left (by rw[zl];exact hi),List.getElem?_zipWith]at h;rw[List.getElem?_eq_getElem (by rw[hl];exact hi),List.getElem?_eq_getElem hi]at h;cases h;exact .inl ⟨_,_,List.getElem?_eq_getElem (by rw[hl];exact hi),List.getElem?_eq_getElem hi,rfl⟩
 ·rw[List.getElem?_append_right (by rw[zl];omega),zl]at h;by_cases hj:i-ds.length<es.length
  ·rw[List.getElem?_append_left (by rw[List.length_map];exact hj),List.getElem?_map,List.getElem?_eq_getElem hj]at h;cases h;exact .inr ⟨i-ds.length,_,by omega,List.getElem?_eq_getElem hj,rfl⟩
  ·rw[List.getElem?_append_right (by rw[List.length_map];omega),List.getElem?_replicate]at h;split at h<;>cases h
def nn:List OK->Rho->R (List D)
 | [],_=>.val []
 | k::ks,some (.tre k' d)::U=>if k'=k then(nn ks U).bind λds=>.val (d::ds)else .bad
 | _::_,_=>.bad
theorem sO:∀{ks:List OK} {U:Rho} {ds:List D},nn ks U=.val ds->ks.length=ds.length/\∀(j:Nat) k d,ks[j]?=some k->ds[j]?=some d->U[j]?=some (some (.tre k d))
 | [],U,ds,h=>by unfold nn at h;cases h;exact⟨rfl,λj k d e=>by simp at e⟩
 | k::ks,[],ds,h=>by unfold nn at h;cases h
 | k::ks,o::U,ds,h=>by
  cases o with
  | none=>unfold nn at h;cases h
  | some sl =>
   cases sl with
   | tre k' d =>
    unfold nn at h;by_cases ek:k'=k
    ·rw[if_pos ek]at h;cases e:nn ks U with
     | val ds2 =>
      rw[e]at h;cases h;obtain⟨h1,h2⟩:=sO e;refine⟨congrArg Nat.succ h1,λj k2 d2 e1 e2=>?_⟩;cases j with
      | zero=>cases e1;cases e2;rw[ek];rfl
      | succ j=>exact h2 j k2 d2 e1 e2
     | exc c=>rw[e]at h;cases h
     | bad=>rw[e]at h;cases h
    ·rw[if_neg ek]at h;cases h
   | _=>unfold nn at h;cases h
section
variable (C:Addr) (X:Cx)
def pJ (m:Nat) (O:St) (z:R Rho) (H0:Hp) (Dn:iR):Prop:=match z with
 | .val U'=>∀σ' H',(∀i:Nat,i<m->σ'[i]?=O[i]?)->iQ C X H0 U' σ' H'->Dn.nx σ' H'
 | _=>False
def tsJ (m:Nat) (F:Rho->R Rho):TS:=λDn O H=>∃U H0,iQ C X H0 U O H/\pJ C X m O (F U) H0 Dn
def SDj (m:Nat) (st:Stmt) (F:Rho->R Rho):Prop:=PS X st (tsJ C X m F)
def Ai (m:Nat) (st:List Stmt) (F:Rho->R Rho):Prop:=PSs X st (tsJ C X m F)
end
def ifJ (t:Rho->R Bool) (a b:Rho->R Rho):Rho->R Rho:=λU=>(t U).bind λc=>if c=true then a U else b U
def nxJ:Rho->R Rho:=λU=>.val U
section
variable {C:Addr} {X:Cx} {m:Nat}
theorem EU {F:Rho->R Rho} (h:SDi C X st F):SDj C X m st F:=aW h λD O H ⟨U,H0,r,q⟩=>⟨U,H0,r,by
 cases e:F U with
 | val U'=>rw[e]at q;exact λH' r'=>q O H' (λ_ _=>rfl) r'
 | exc c=>rw[e]at q;exact q.elim
 | bad=>rw[e]at q;exact q⟩
theorem ya:Ai C X m [] nxJ:=bJ mB λD O H ⟨U,H0,r,q⟩=>q O H (λ_ _=>rfl) r
theorem x_ {F:Rho->R Rho} (h:SDj C X m st F):Ai C X m [st] F:=cz h
theorem C_ {c:Expr} {a b:List Stmt} {Ft:Rho->R Bool} {Fa Fb:Rho->R Rho} (hc:TD C X c Ft) (ha:Ai C X m a Fa) (hb:Ai C X m b Fb):SDj C X m (.If c a b pos) (ifJ Ft Fa Fb) :=
 aW (sK hc ha hb) λD O H ⟨_,H0,⟨U,er,r⟩,q⟩=>by
  subst er;refine⟨U,⟨H0,r⟩,?_⟩;unfold ifJ at q;cases e:Ft U with
  | val c =>
   rw[e]at q;intro H1 s1;cases c with
   | true=>exact rb ⟨U,H0,(r.mono s1).e,q⟩
   | false=>exact rh ⟨U,H0,(r.mono s1).e,q⟩
  | exc c=>rw[e]at q;exact q.elim
  | bad=>rw[e]at q;exact q.elim
end
section
variable {P:Program} {w:World} {K:Frag} {mg:Str->Option Value} {base:Heap} {C:Addr}
theorem uv {ks:List OK} {us:List V} {ds es:List D} {A:List Addr} (h1:TreP K C (cut A H) H ks us ds A) (h2:HasL K C (cut A H) ws es) (hl:ds.length+es.length<=N.length):vq K C (cut A H) (stM N ks ds es) (L2.start N (us++ws)) H:=by
 obtain⟨f,f1,f2,f3,f4⟩:=h1.each;obtain⟨l1,l2⟩:=h1.len;have zl:(List.zipWith (λk d=>some (Slt.tre k d)) ks ds).length=ds.length:=by rw[List.length_zipWith,l2,Nat.min_self]
 have st:∀{i:Nat} {v:V},(us++ws)[i]?=some v->(L2.start N (us++ws))[i]?=some (some v):=λ{i v} e=>by
  have hi:i<(us++ws).length:=(List.getElem?_eq_some_iff.mp e).1;unfold L2.start;rw[List.getElem?_append_left (by simpa using hi),List.getElem?_map,e];rfl
 have sub:Same (cut A H) (msk ⟨stM N ks ds es,f⟩ (L2.start N (us++ws)) H):=λb o e=>by
  obtain⟨g1,g2⟩:=cut_some.mp e;exact msk_some.mpr ⟨λ⟨j,z⟩=>g1 (f2 j b z).1,g2⟩
 refine⟨⟨stM N ks ds es,f⟩,rfl,?_,sub,λi sl e=>?_,f3,λi a z=>.inl (h1.lists a (f2 i a z).1),λi a z=>?_⟩
 ·show(stM N ks ds es).length=_;unfold stM L2.start;rw[List.length_append,zl,List.length_append,List.length_map,List.length_replicate,List.length_append,List.length_map,List.length_append,List.length_replicate,l1,h2.len];omega
 ·rcases C4 l2 e with⟨k,d,e1,e2,rfl⟩|⟨j,d,rfl,e2,rfl⟩
  ·obtain⟨v,e3,h3⟩:=f1 i k d e1 e2;exact⟨v,f i,st (by rw[List.getElem?_append_left (List.getElem?_eq_some_iff.mp e3).1];exact e3),λa ha=>ha,h3.stay sub (.of (Same.refl _))⟩
  ·obtain⟨v,e3,h3⟩:=h2.get e2;exact⟨v,st (by rw[List.getElem?_append_right (by omega),l1,Nat.add_sub_cancel_left];exact e3),h3.mono sub⟩
 ·show i<(stM N ks ds es).length;unfold stM;rw[List.length_append,zl,<- l2];exact Nat.lt_of_lt_of_le (f2 i a z).2 (Nat.le_add_right _ _)
end
section
variable {C:Addr} {X:Cx}
end
def ku:List Int->Int
 | []=>0
 | [i]=>i
 | i::j::r=>max i (ku (j::r))
theorem tE:∀{l:List Int},l≠[]->ku l∈l
 | [i],_=>List.mem_singleton.mpr rfl
 | i::j::r,_=>by
  unfold ku;rcases Int.le_total i (ku (j::r))with h|h
  ·rw[Int.max_eq_right h];exact List.mem_cons_of_mem _ (tE (by simp))
  ·rw[Int.max_eq_left h];exact List.mem_cons_self
theorem wb:∀{l:List Int} {a:Int},a∈l->a<=ku l
 | [i],a,h=>by rw[List.mem_singleton.mp h];exact Int.le_refl _
 | i::j::r,a,h=>by
  unfold ku;rcases List.mem_cons.mp h with rfl|h
  ·exact Int.le_max_left _ _
  ·exact Int.le_trans (wb h) (Int.le_max_right _ _)
theorem xn {l:List Int} {m:Int} (h1:m∈l) (h2:∀a∈l,a<=m):m=ku l :=
 Int.le_antisymm (wb h1) (h2 _ (tE (List.ne_nil_of_mem h1)))
def qe:D->R D
 | .lst xs=>match gY xs with
  | some is=>if 0<is.length then .val (.int (ku is))else .bad
  | none=>.bad
 | _=>.bad
section
variable {C:Addr} {X:Cx}
def EZ:List V->Hp->VK->Prop:=λvs H Q=>∃(l:Addr) (is:List Int),vs=[.ref l]/\H l=some (.lst (is.map V.int))/\0<is.length/\Q (.int (ku is)) H
theorem xB (hc:X.calm=true):jU X (.builtin "max") EZ:=by
 intro pins s O H xs us Q I rv h;obtain⟨l,is,rfl,e,hl0,q⟩:=h;obtain⟨u,rfl,ru⟩:=mW rv;obtain rfl:=(show u=Value.ref l from ru);obtain⟨z,its,m,r,hl,eo⟩:=I.lstM e;have hi:=nU r;obtain⟨ys,ey⟩:=hi.allInts.items;have hns:is=ys.toList.map (·.1):=by rw[<- hi.numsOf,<- nums_intItems,<- ey]
 have hsz:0<ys.size:=by have h3:=hl0;rw[hns,List.length_map,Array.length_toList]at h3;exact h3
 have hL:s.heap.IsList l (intItems ys):=by rw[<- ey];exact⟨_,eo,rfl,m,rfl⟩
 refine max_intList (I.ok.hd hc) hL hsz λv h' tk hv hk=>?_;obtain⟨t,rfl⟩:=intItems_at hv;obtain⟨h1,h2⟩:=argBest_gt (numAt ys) (ys.size-1);refine⟨.int (ku is),H,I.kept (t':=tk) hk,⟨t,?_⟩,q⟩;have:numAt ys (argBest (λi j=>decide (numAt ys i>numAt ys j)) (ys.size-1))=ku is:=by
  refine xn ?_ λa ha=>?_
  ·rw[hns,numAt_eq];exact getD_mem (by rw[List.length_map,Array.length_toList];omega)
  ·rw[hns]at ha;obtain⟨j,hj,rfl⟩:=mem_getD ha;rw[List.length_map,Array.length_toList]at hj;rw[<- numAt_eq];exact h2 j (by omega)
 rw[this]
theorem BY {e:Expr} (hc:X.calm=true) (hg:Gl X "max") (hm:X.mg "max"=none) (hst:starEach [e] X.env=(false,eval e X.env)::starEach [] X.env) (he:EB C X e F) :
  ED C X (.Call (.Name "max" p) [e] [] pos) (una qe F) :=
 aD (d7 (xB hc) hg hm boot_max (bu he bU hst) (he:=hst) (hpl:=av)) λO H Q ⟨U,r0,q⟩=>⟨U,r0,aQ (P:=λz H=>pV X (dC C X U O) z O H Q) (λ_ h=>h) (λh=>h) q λy v H1 s1 h1 q1=>by
  cases y with
  | lst xs =>
   unfold qe at q1;dsimp only at q1;split at q1
   ·rename_i is eb;obtain⟨a,vs,rfl,e1,h2⟩:=h1.lst msk_sub;obtain rfl:=jx eb h2;by_cases hl:0<is.length
    ·rw[if_pos hl]at q1;exact⟨a,is,rfl,e1,hl,q1 _ H1 s1 (.int _)⟩
    ·rw[if_neg hl]at q1;exact q1.elim
   ·exact q1.elim
  | _=>exact q1.elim⟩
def isN (t:Int):Value->Bool
 | .int a _=>a==t
 | _=>false
def Cr:V->List V->Hp->VK->Prop:=λx vs H Q=>∃(l:Addr) (is:List Int) (t:Int) (j:Nat),x=.ref l/\vs=[.int t]/\H l=some (.lst (is.map V.int))/\is.length<=100000/\is.findIdx? (· == t)=some j/\Q (.int (j:Int)) H
theorem iS:∀{is:List Int} {us:List Value} {m:Nat} {y:Value},Vals (is.map V.int) us->us[m]?=some y->∃i t,is[m]?=some i/\y=.int i t
 | [],_,_,_,.nil,e=>by simp at e
 | i::is,_,0,y,.cons r t,e=>by
  rw[List.getElem?_cons_zero]at e;cases e;obtain⟨tk,rfl⟩:=(show ∃t,_=Value.int i t from r);exact⟨i,tk,rfl,rfl⟩
 | i::is,_,m+1,y,.cons r t,e=>by
  rw[List.getElem?_cons_succ]at e;obtain⟨i',t',e1,e2⟩:=iS t e;exact⟨i',t',by rw[List.getElem?_cons_succ];exact e1,e2⟩
theorem xj:MtM X "list.index" Cr:=by
 intro pins s O H x vs v us Q I rx rv h;obtain⟨l,is,t,j,rfl,rfl,hH,hlen,hj,q⟩:=h;cases rx;obtain⟨u1,rfl,r1⟩:=rv.one;obtain⟨tk,rfl⟩:=(show ∃tk,u1=Value.int t tk from r1);obtain⟨z,its,n,r,hl,e⟩:=I.lstM hH;obtain⟨hjl,hjt,hjn⟩:=List.findIdx?_eq_some_iff_getElem.mp hj;have hil:its.length=is.length:=by have:=r.length;rw[List.length_map]at this;exact this.symm
 have at_:∀(m:Nat) (hm:m<its.length),isN t its[m]=(is[m]'(by omega)==t):=λm hm=>by
  obtain⟨i,tk',e1,e2⟩:=iS r (List.getElem?_eq_getElem hm);have hm2:m<is.length:=by omega
  rw[List.getElem?_eq_getElem hm2]at e1;rw[e2,<- Option.some.inj e1];rfl
 refine call_meets PySem.F.slot_list_index ⟨_,e,rfl⟩ PySem.F.entry_list_index (PySem.F.args_list_index_2 _ _) (SeqAt.list_indexAt l _ n none #[] (.int t tk) (isN t) j (by simp;omega) (by omega) (by
  have:=at_ j (by omega);simp only[List.getElem_toArray];rw[this];simpa using hjt) (λm hm hlt=>by
  have hm':m<its.length:=by simpa using hm
  have:=at_ m hm';simp only[List.getElem_toArray];rw[this];have:=hjn m hlt;simpa using this)) ⟨e,λy hy=>?_,?_⟩
 ·have hy:y∈its:=by simpa using hy
  obtain⟨m,hm⟩:=List.getElem?_of_mem hy;obtain⟨i,tk',_,rfl⟩:=iS r hm;exact SeqAt.EqAt.int_int i tk' t tk
 ·exact⟨.int _,H,I.tok _,⟨_,rfl⟩,q⟩
def zx:D->D->R D
 | .lst xs,.int t=>match gY xs with
  | some is=>if is.length<=100000 then match is.findIdx? (· == t)with
   | some j=>.val (.int (j:Int))
   | none=>.bad
   else .bad
  | none=>.bad
 | _,_=>.bad
def xr (Fo F:Rho->R D):Rho->R D:=λU=>(Fo U).bind λx=>match x with
 | .lst xs=>(F U).bind (zx (.lst xs))
 | _=>.bad
theorem zP {e:Expr} {ap:Pos} {Fo:Rho->R D} (ho:EB C X o Fo) (he:ED C X e F) (hst:starEach [e] X.env=(false,eval e X.env)::starEach [] X.env)
  (hs:∀{to:TE} {t:TA},PE X o to->PA X [e] t->PE X (.Call (.Attribute o "index" ap) [e] [] cp) (tBM X.K "list" Cr to t):=by
   exact λho ha=>nh PySem.F.plainAttrs_list PySem.F.slot_list_index PySem.F.type_list_index xj ho ha) :
  ED C X (.Call (.Attribute o "index" ap) [e] [] cp) (xr Fo F) :=
 aD (hs ho (bu he bU hst)) λO H Q ⟨U,⟨H0,r0⟩,q⟩=>⟨U,⟨H0,r0⟩,aQ (P:=λz H=>pV X (dC C X U O) z O H Q) (λ_ h=>h) (λh=>h) q λy v H1 s1 h1 q1=>by
  cases y with
  | lst xs =>
   obtain⟨a,vs,rfl,e1,h2⟩:=h1.lst msk_sub;refine⟨.inl ⟨rfl,_,SqL.of e1⟩,U,⟨H0,r0.mono s1⟩,aQ (P:=λz H=>pV X (dC C X U O) z O H Q) (λ_ h=>h) (λh=>h) (q1.mono s1) λy w H2 s2 h3 q2=>?_⟩;cases y with
   | int t =>
    cases h3;unfold zx at q2;dsimp only at q2;split at q2
    ·rename_i is eb;obtain rfl:=jx eb h2;by_cases hl:is.length<=100000
     ·rw[if_pos hl]at q2;split at q2
      ·rename_i j ej;exact⟨a,is,t,j,rfl,rfl,s2 _ _ e1,hl,ej,q2 _ H2 s2 (.int _)⟩
      ·exact q2.elim
     ·rw[if_neg hl]at q2;exact q2.elim
    ·exact q2.elim
   | _=>exact q2.elim
  | _=>exact q1.elim⟩
end
section
variable {C:Addr} {X:Cx}
def pFR (C:Addr) (X:Cx) (r:R (List D)) (O:St) (H:Hp) (Q:VK):Prop:=match r with
 | .val xs=>∀a vs H1,Same H H1->H1 a=none->HasL X.K C H1 vs xs->Q (.ref a) (upd H1 a (.lst vs))
 | .exc c=>XE X c O H
 | .bad=>False
variable (C X) in
def Ga (F:Rho->R (List D)):TE:=λO H Q=>∃U:RB,(∃H0,bP C X H0 U O H)/\pFR C X (F U) O H Q
variable (C X) in
def FR (e:Expr) (F:Rho->R (List D)):Prop:=PE X e (Ga C X F)
theorem FH {e:Expr} {F:Rho->R (List D)} (h:FR C X e F):ER C X e (eLs F):=aD h λO H Q ⟨U,r0,q⟩=>⟨U,r0,by
 unfold eLs at q;cases z:F U with
 | val xs=>rw[z]at q;exact λa vs H1 s1 hn h1=>q _ _ (s1.trans (aA hn)) (.lst aF (h1.mono (aA hn)))
 | exc c=>rw[z]at q;exact q
 | bad=>rw[z]at q;exact q⟩
def vd (xs:List D) (lo hi:Option Int):List D:=(xs.drop (HT.sIx xs.length 0 lo)).take (HT.sIx xs.length xs.length hi-HT.sIx xs.length 0 lo)
theorem HasL.cut {lo hi:Option Int} (h:HasL K C H vs xs):HasL K C H (xA vs lo hi) (vd xs lo hi):=by
 unfold xA vd;rw[h.len];exact(h.drop _).take _
variable (C X) in
def toP (F:Rho->R (Option Int)):TO:=λO H Q=>∃U:RB,(∃H0,bP C X H0 U O H)/\match F U with
 | .val o=>∀H',Same H H'->Q o H'
 | .exc c=>XE X c O H
 | .bad=>False
variable (C X) in
def PD (e:Option Expr) (F:Rho->R (Option Int)):Prop:=PO X e (toP C X F)
def oN:Rho->R (Option Int):=λ_=>.val none
def oS (F:Rho->R D):Rho->R (Option Int):=λU=>(F U).bind λd=>match d with
 | .int i=>.val (some i)
 | _=>.bad
theorem vX:PD C X none oN:=λpins s O H Q I ⟨U,r,q⟩=>AU pins s O H Q I (q H (Same.refl _))
theorem vW {e:Expr} (h:ED C X e F):PD C X (some e) (oS F):=λpins s O H Q I ⟨U,r,q⟩=>AT h pins s O H Q I ⟨U,r,by
 unfold oS at q;cases z:F U with
 | val d =>
  rw[z]at q;intro v H' s' hv;cases d with
  | int i=>cases hv;exact⟨i,rfl,q H' s'⟩
  | _=>exact q.elim
 | exc c=>rw[z]at q;exact q
 | bad=>rw[z]at q;exact q⟩
def fSl (F:Rho->R D) (Fl Fh:Rho->R (Option Int)):Rho->R (List D):=λU=>(F U).bind λx=>(Fl U).bind λl=>(Fh U).bind λh=>match x with
 | .lst xs=>.val (vd xs l h)
 | _=>.bad
theorem zA {e:Expr} {lo hi:Option Expr} {Fl Fh:Rho->R (Option Int)} (he:EB C X e F) (hl:PD C X lo Fl) (hh:PD C X hi Fh):FD C X (.Subscript e (.Slice lo hi none p2) pos) (fSl F Fl Fh) :=
 aD (sN vF he hl hh) λO H Q ⟨U,⟨H0,r0⟩,q⟩=>⟨U,⟨H0,r0⟩,aQ (P:=λz H=>pF (X:=X) (iN C X U O) z O H Q) (λ_ h=>h) (λh=>h) q λx v H1 s1 h1 q1=>by
  refine⟨U,⟨H0,r0.mono s1⟩,?_⟩;cases zl:Fl U with
  | exc c=>rw[zl]at q1;exact XE.mono s1 q1
  | bad=>rw[zl]at q1;exact q1
  | val l =>
   rw[zl]at q1;dsimp only[DL.R.bind]at q1;intro H2 s2;refine⟨U,⟨H0,(r0.mono s1).mono s2⟩,?_⟩;cases zh:Fh U with
   | exc c=>rw[zh]at q1;exact XE.mono (s1.trans s2) q1
   | bad=>rw[zh]at q1;exact q1
   | val h =>
    rw[zh]at q1;dsimp only at q1;intro H3 s3;cases x with
    | lst xs =>
     obtain⟨a,vs,rfl,e1,h2⟩:=h1.lst msk_sub;exact⟨a,vs,rfl,SqL.of (s3 _ _ (s2 _ _ e1)),λp hp=>q1 p _ H3 ((s1.trans s2).trans s3) hp (HasL.cut (h2.mono (aO (s2.trans s3))))⟩
    | _=>exact q1.elim⟩
theorem ze {e:Expr} {lo hi:Option Expr} {Fl Fh:Rho->R (Option Int)} (he:ER C X e F) (hl:PD C X lo Fl) (hh:PD C X hi Fh):FR C X (.Subscript e (.Slice lo hi none p2) pos) (fSl F Fl Fh) :=
 aD (sN vF he hl hh) λO H Q ⟨U,⟨H0,r0⟩,q⟩=>⟨U,⟨H0,r0⟩,aQ (P:=λz H=>pFR C X z O H Q) (λ_ h=>h) (λh=>h) q λx v H1 s1 h1 q1=>by
  refine⟨U,⟨H0,r0.mono s1⟩,?_⟩;cases zl:Fl U with
  | exc c=>rw[zl]at q1;exact XE.mono s1 q1
  | bad=>rw[zl]at q1;exact q1
  | val l =>
   rw[zl]at q1;dsimp only[DL.R.bind]at q1;intro H2 s2;refine⟨U,⟨H0,(r0.mono s1).mono s2⟩,?_⟩;cases zh:Fh U with
   | exc c=>rw[zh]at q1;exact XE.mono (s1.trans s2) q1
   | bad=>rw[zh]at q1;exact q1
   | val h =>
    rw[zh]at q1;dsimp only at q1;intro H3 s3;cases h1 with
    | lst e1 h2=>exact⟨_,_,rfl,SqL.of (s3 _ _ (s2 _ _ e1)),λp hp=>q1 p _ H3 ((s1.trans s2).trans s3) hp (HasL.cut (h2.mono (s2.trans s3)))⟩
    | _=>exact q1.elim⟩
end
theorem Ca:bootBuiltins "int"=some (.type "int"):=by decide +kernel
theorem z8:bootBuiltins "bool"=some (.type "bool"):=by decide +kernel
section
variable {C:Addr} {X:Cx}
def eL1 (F:Rho->R D):Rho->R D:=λU=>(F U).bind λd=>.val (.lst [d])
theorem Bv {k:OK} {e:Expr} (h:KD C X k e F) (hst:starEach [e] X.env=(false,eval e X.env)::starEach [] X.env:=by rfl):KD C X (.l k) (.List [e] pos) (eL1 F) :=
 aD (lg (bu h bU hst)) λO H Q yy=>by
  obtain⟨U,⟨H0,r0⟩,q⟩:=yy;refine⟨U,⟨H0,r0⟩,?_⟩;unfold eL1 at q;cases z:F U with
  | exc c=>rw[z]at q;exact q
  | bad=>rw[z]at q;exact q
  | val d =>
   rw[z]at q;intro v H1 A s1 hA ht;refine⟨(show 1<=sizeLine by decide),λp hp=>?_⟩;have np:p∉A:=λhm=>by
    obtain⟨us,e⟩:=ht.lists p hm;rw[hp]at e;cases e
   refine q (.ref p) (upd H1 p (.lst [v])) (p::(A++[])) (s1.trans (aA hp)) (λb hb=>?_) (.l aF (.cons (ht.stay (λb o e=>?_) (.of (aA hp))) .nil λa _=>List.not_mem_nil) (by rw[List.append_nil];exact np))
   ·rcases List.mem_cons.mp hb with rfl|hb
    ·exact bR s1 hp
    ·rw[List.append_nil]at hb;exact hA b hb
   ·obtain⟨e1,e2⟩:=cut_some.mp e;refine cut_some.mpr ⟨λhb=>?_,aO (aA hp) b o e2⟩;rcases List.mem_cons.mp hb with rfl|hb
    ·rw[(msk_some.mp e2).2]at hp;cases hp
    ·rw[List.append_nil]at hb;exact e1 hb
end
section
variable {K:Frag} {C:Addr} {H0 H M:Hp} {U:RB} {O:St}
end
section
variable {K:Frag} {C:Addr} {H0 H M:Hp} {U:RB} {O:St}
end
section
variable {C:Addr} {X:Cx}
end
section
variable {C:Addr} {X:Cx}
theorem uR {k:OK}:KD C X (.l k) (.List [] pos) (eLs (eE aN)) :=
 aD (lg bU) λO H Q yy=>by
  obtain⟨U,⟨H0,r0⟩,q⟩:=yy;exact⟨(show 0<=sizeLine by decide),λp hp=>q (.ref p) (upd H p (.lst [])) [p] (aA hp) (λb hb=>by cases List.mem_singleton.mp hb;exact hp) (.l aF .nil List.not_mem_nil)⟩
end
end DL
namespace DL
end DL
namespace DL
open PySem.W PyProof.Rows
section
variable {n:Nat} {r:Nat->Nat}
end
end DL
namespace DL
open PySem PySem.Spec PyProof.Rows L2
open PySem.MeetsSeq3 in
open PySem.AutoSeq1 (wpAny_loadPart') in
open PySem.MeetsSeq3 in
open PySem.AutoSeq1 (wpAny_loadPart') in
section
variable {prog:Program} {w:World} {A:Around} {E:Value->Shared->Prop} {s:Shared}
end
section
variable {prog:Program} {w:World} {A:Around} {E:Value->Shared->Prop} {s:Shared}
end
section
variable {C:Addr} {X:Cx}
end
section
variable (C:Addr) (X:Cx)
end
section
variable {C:Addr} {X:Cx}
end
section
variable {K:Frag} {C:Addr} {H0 H:Hp} {U:RB} {O:St}
end
section
variable {C:Addr} {X:Cx}
end
section
variable {C:Addr} {X:Cx}
end
section
variable {C:Addr} {X:Cx}
end
section
variable {prog:Program} {w:World} {A:Around} {R:Result->Shared->Prop} {I:Addr} {fp wr:List Addr} {n:Nat} {P:Nat->Value->Prop} {St:Nat->Heap->Prop}
end
section
variable {C:Addr} {X:Cx}
end
section
variable {C:Addr} {X:Cx}
end
section
variable {C:Addr} {X:Cx}
end
section
variable {C:Addr} {X:Cx}
end
section
variable {C:Addr} {X:Cx} {tg elt iter:Expr} {scope:Scope} {pos:Pos} {N':List Str} {ix:List Nat} {T:D->Rho->Option Rho} {e:Rho->R D} {n:Nat} {src:Rho->R (List D)}
end
section
variable {C:Addr} {X:Cx}
end
variable {j:Nat} {d:D}
section
variable {C:Addr} {X:Cx}
section
variable {B:Hp} {Nw:Addr->Prop} {i n:Nat} {F:Rho->R Out}
theorem Cn {U:Rho} (h:vr j U=.val d):U[j]?=some (some (.shr d)):=by
 unfold vr at h;split at h
 ·cases h;assumption
 ·cases h
theorem vH {Y:Type} {l:List (Option Y)} {i:Nat} {a b:Y} (h:(l.set i (some a))[i]?=some (some b)):b=a:=by
 rw[List.getElem?_set]at h;simp only[if_true]at h;split at h
 ·cases h;rfl
 ·cases h
end
end
section
variable {K:Frag} {C:Addr} {M M' H H':Hp} {k:OK} {v:V} {d:D} {A:List Addr}
end
section
variable (C:Addr) (X:Cx)
end
variable {K:Frag} {H H':Hp}
section
variable {C:Addr} {X:Cx}
theorem zu {v:V} (h:Has K C H v d) (f:CC d=true):Has K C H' v d:=by
 cases h with
 | int i=>exact .int i
 | bl i=>exact .bl i
 | non=>exact .non
 | _=>cases f
theorem jy {K:Frag} {H H':Hp}:∀{vs:List V} {ds:List D},HasL K C H vs ds->ds.all (cn .s)=true->HasL K C H' vs ds
 | _,_,.nil,_=>.nil
 | _,_,.cons h t,f=>by
  rw[List.all_cons,Bool.and_eq_true]at f;exact .cons (zu h f.1) (jy t f.2)
end
section
variable {P:Program} {w:World} {K:Frag} {mg:Str->Option Value} {base:Heap} {C:Addr}
end
def ET (K:Frag) (C:Addr) (ks:List OK) (n:Nat) (den:List D->List D->R (D×List D)):Sp:=λvs H Q _=>∃us ds ws es A,vs=us++ws/\ws.length=n/\TreP K C (cut A H) H ks us ds A/\HasL K C (cut A H) ws es/\match den ds es with
 | .val x=>∀v H' A',Same (cut A H) H'->(∀a∈A',a∈A\/cut A H a=none)->TreP K C (cut A' H') H' ks us x.2 A'->Has K C H' v x.1->Q v H'
 | _=>False
def MvB (P:Program) (w:World) (K:Frag) (mg:Str->Option Value) (base:Heap) (C:Addr) (k:Nat) (x:Str) (ks:List OK) (n:Nat) (den:List D->List D->R (D×List D)):Prop :=
 ∃f fd ps,FnOk P w K mg base CX0 k f fd ps (ET K C ks n den)/\mg x=some (.ref f)/\keepIn K (.ref f)=true/\Binds K fd ps []
section
variable (C:Addr) (X:Cx)
def pJB (m:Nat) (O:St) (z:R (D×Rho)) (H0:Hp) (Dn:iR):Prop:=match z with
 | .val x=>∀v σ' H',(∀i:Nat,i<m->σ'[i]?=O[i]?)->iQ C X H0 x.2 σ' H'->Has X.K C H' v x.1->Dn.rt v H'
 | _=>False
def qw (m:Nat) (st:List Stmt) (F:Rho->R (D×Rho)):Prop:=PSs X st (λDn O H=>∃U H0,iQ C X H0 U O H/\pJB C X m O (F U) H0 Dn)
end
def sqB (F:Rho->R Rho) (G:Rho->R (D×Rho)):Rho->R (D×Rho):=λU=>(F U).bind G
def rtB (F:Rho->R D):Rho->R (D×Rho):=λU=>(F U).bind λd=>.val (d,U)
variable {st:Stmt} {pos:Pos}
section
variable {C:Addr} {X:Cx} {m:Nat}
theorem wY {rest:List Stmt} {F:Rho->R Rho} {G:Rho->R (D×Rho)} (h1:SDj C X m st F) (h2:qw C X m rest G):qw C X m (st::rest) (sqB F G) :=
 bJ (dz h1 h2) λD O H yy=>by
  obtain⟨U,H0,r,q⟩:=yy;refine⟨U,H0,r,?_⟩;unfold sqB at q;cases e:F U with
  | val U' =>
   rw[e]at q;intro σ' H' hσ r';refine⟨U',H0,r',?_⟩;have q:pJB C X m O (G U') H0 D:=q;cases e2:G U' with
   | val x=>rw[e2]at q;exact λv O2 H2 h2 r2 hv=>q v O2 H2 (λi hi=>(h2 i hi).trans (hσ i hi)) r2 hv
   | exc c=>rw[e2]at q;exact q.elim
   | bad=>rw[e2]at q;exact q.elim
  | exc c=>rw[e]at q;exact q.elim
  | bad=>rw[e]at q;exact q.elim
theorem yb {e:Expr} {F:Rho->R D} (he:ED C X e F):qw C X m [.Return (some e) pos] (rtB F) :=
 bJ (cz (j3 he)) λD O H yy=>by
  obtain⟨_,H0,⟨U,rfl,r⟩,q⟩:=yy;refine⟨U,⟨H0,r⟩,?_⟩;unfold rtB at q;cases z:F U with
  | val d =>
   rw[z]at q;exact λv H' s h=>q v O H' (λ_ _=>rfl) (r.mono s).e (h.mono msk_sub)
  | exc c=>rw[z]at q;exact q.elim
  | bad=>rw[z]at q;exact q.elim
end
variable {x:Str} {n:Nat}
section
variable {P:Program} {w:World} {K:Frag} {mg:Str->Option Value} {base:Heap} {C:Addr}
def sP (ks:List OK) (x:D×Rho):R (D×List D):=(nn ks x.2).bind λds=>.val (x.1,ds)
theorem DR {qual:Str} {f:Addr} {fd:FuncData} {N ps:List Str} {k:Nat} {ks:List OK} {den:Rho->R (D×Rho)} (F:Fun K x qual st f fd) (sc:ay N ps (aj st)) (hp:ps.length=ks.length+n) (hN:ks.length+n<=N.length)
  (hb:∀(cdv:Value) (A:Around) (outer:List Env) (s:Shared) (H:Hp) (E:XK),Room k (A.deeper (envOfC qual (aj st) s.heap.objs.size f cdv)) ->
   qw C (gi CX0 P w K mg base N qual (aj st) f cdv A outer s H E).nox ks.length (bY st) den) :
  FnOk P w K mg base CX0 (k+1) f fd ps (ET K C ks n λds es=>(den (stM N ks ds es)).bind (sP ks)):=by
 refine F.ok sc (λvs H Q E h=>?_) (λcdv A outer s H vs Q E hr h=>⟨_,hb cdv A outer s H E hr,?_⟩)
 ·obtain⟨us,ds,ws,es,A,rfl,hn,h1,_⟩:=h;rw[List.length_append,hn,h1.len.1,<- h1.len.2,hp]
 obtain⟨us,ds,ws,es,A,rfl,hn,h1,h2,q⟩:=h;have l1:=h1.len;have l2:=h2.len;refine⟨stM N ks ds es,cut A H,uv h1 h2 (by omega),?_⟩;dsimp only at q;cases e:den (stM N ks ds es)with
 | exc c=>rw[e]at q;exact q.elim
 | bad=>rw[e]at q;exact q.elim
 | val y =>
  obtain⟨d,U'⟩:=y;rw[e]at q;have q:(match(nn ks U').bind λds=>R.val (d,ds)with | .val x=>_|_=>False):=q;cases eo:nn ks U' with
  | exc c=>rw[eo]at q;exact q.elim
  | bad=>rw[eo]at q;exact q.elim
  | val ds' =>
   rw[eo]at q;obtain⟨ol,oa⟩:=sO eo;rintro v σ' H' hσ ⟨β,eβ,r⟩ hv;have eβ:β.rho=U':=eβ;have atS:∀(j:Nat) v,us[j]?=some v->σ'[j]?=some (some v):=λj v ev=>by
    have hj:j<us.length:=(List.getElem?_eq_some_iff.mp ev).1;rw[hσ j (by omega)];unfold L2.start;rw[List.getElem?_append_left (by rw[List.length_map,List.length_append];omega),List.getElem?_map,List.getElem?_append_left hj,ev];rfl
   obtain⟨A',a1,a2⟩:=TreP.join (K:=K) (C:=C) (M:=msk β σ' H') (H:=H') (ks:=ks) (vs:=us) (ds:=ds') β.ad ol (by omega) (λj k v d e1 e2 e3=>by
    have:=oa j k d e1 e3;rw[<- eβ]at this;obtain⟨v2,B,g1,g2,g3⟩:=r.at_ j _ this;rw[atS j v e2]at g1;cases g1;exact⟨B,g2,g3⟩) r.inj
   refine q v H' A' (r.keep.trans msk_sub) (λa ha=>?_) (a2.stay (λb o eb=>cut_some.mpr ⟨λz=>(msk_some.mp eb).1 (a1 b z),(msk_some.mp eb).2⟩) (.of (Same.refl _))) hv;by_cases hA:a∈A
   ·exact .inl hA
   ·right;cases z:cut A H a with
    | none=>rfl
    | some o=>exact absurd (a1 a ha) (msk_some.mp (r.keep a o z)).1
end
section
variable (C:Addr) (X:Cx)
def pM {Y:Type} (O:St) (z:R (Y×Rho)) (H0:Hp) (Q:Y->Hp->Prop):Prop:=match z with
 | .val x=>∀H',iQ C X H0 x.2 O H'->Q x.1 H'
 | _=>False
def KDm (e:Expr) (F:Rho->R (D×Rho)):Prop:=PE X e (λO H Q=>∃U H0,iQ C X H0 U O H/\pM C X O (F U) H0 λd H'=>∀v,Has X.K C H' v d->Q v H')
def TDm (e:Expr) (F:Rho->R (Bool×Rho)):Prop:=PT X e (λO H Q=>∃U H0,iQ C X H0 U O H/\pM C X O (F U) H0 Q)
end
def tsM (F:Rho->R (D×Rho)):Rho->R (Bool×Rho):=λU=>(F U).bind λx=>(asB x.1).bind λb=>.val (b,x.2)
def noM (F:Rho->R (Bool×Rho)):Rho->R (Bool×Rho):=λU=>(F U).bind λx=>.val (!x.1,x.2)
def anM (Ft:Rho->R Bool) (F:Rho->R (Bool×Rho)):Rho->R (Bool×Rho):=λU=>match Ft U with
 | .val true=>F U
 | .val false=>.val (false,U)
 | _=>.bad
def ifM (Ft:Rho->R (Bool×Rho)) (Fa Fb:Rho->R Out):Rho->R Out:=λU=>match Ft U with
 | .val x=>if x.1=true then Fa x.2 else Fb x.2
 | _=>.bad
variable {a:Expr}
section
variable {C:Addr} {X:Cx}
theorem CS {e:Expr} {F:Rho->R (D×Rho)} (h:KDm C X e F) (he:∀whole,isTrue e X.env whole=(do let v <- whole;standAt e.pos;holding [v] (truthy v)):=by intro _;rfl):TDm C X e (tsM F) :=
 eZ (yp h he) λO H Q yy=>by
  obtain⟨U,H0,r,q⟩:=yy;refine⟨U,H0,r,?_⟩;unfold tsM at q;cases z:F U with
  | exc c=>rw[z]at q;exact q.elim
  | bad=>rw[z]at q;exact q.elim
  | val x =>
   obtain⟨d,U'⟩:=x;rw[z]at q;cases d with
   | bl b =>
    intro H' r' v hv;cases hv;exact⟨b,rfl,q H' r'⟩
   | _=>exact q.elim
theorem CT {F:Rho->R (Bool×Rho)} (h:TDm C X a F):TDm C X (.UnaryOp .Not a pos) (noM F) :=
 eZ (yq h) λO H Q yy=>by
  obtain⟨U,H0,r,q⟩:=yy;refine⟨U,H0,r,?_⟩;unfold noM at q;cases z:F U with
  | exc c=>rw[z]at q;exact q.elim
  | bad=>rw[z]at q;exact q.elim
  | val x=>rw[z]at q;exact q
theorem CU {b:Expr} {Fa:Rho->R Bool} {Fb:Rho->R (Bool×Rho)} (ha:TD C X a Fa) (hb:TDm C X b Fb):TDm C X (.BoolOp .And [a,b] pos) (anM Fa Fb) :=
 eZ (yo ha (vQ hb)).pt λO H Q yy=>by
  obtain⟨_,H0,⟨U,rfl,r⟩,q⟩:=yy;refine⟨U,⟨H0,r⟩,?_⟩;unfold anM at q;cases z:Fa U with
  | exc c=>rw[z]at q;exact q.elim
  | bad=>rw[z]at q;exact q.elim
  | val c =>
   rw[z]at q;intro H1 s1;cases c with
   | true=>exact rb ⟨U,H0,(r.mono s1).e,q⟩
   | false=>exact rh (q H1 (r.mono s1).e)
end
def mvP (i:Nat) (P:Rho->R (List Nat)) (den:List D->List D->R (D×List D)) (n:Nat) (Fa:Rho->R (List D)):Rho->R (D×Rho):=λU=>match P U,U[i]?,Fa U with
 | .val pp,some (some (.tre k d)),.val ds=>(match gn d pp with
  | some (.lst xs)=>if gF k pp=some (.l .s)/\xs.all (cn .s)=true/\ds.all (cn .s)=true/\ds.length=n then(match den [.lst xs] ds with
   | .val (b,[.lst ys])=>if ys.all (cn .s)=true then .val (b,U.set i (some (.tre k (fR d pp (.lst ys)))))else .bad
   | _=>.bad)else .bad
  | _=>.bad)
 | _,_,_=>.bad
variable {i:Nat} {P:Rho->R (List Nat)}
theorem Bl {den:List D->List D->R (D×List D)} {Fa:Rho->R (List D)} {U:Rho} {y:D×Rho} (h:mvP i P den n Fa U=.val y):∃pp k d ds xs ys,P U=.val pp/\U[i]?=some (some (.tre k d))/\Fa U=.val ds/\gn d pp=some (.lst xs)/\gF k pp=some (.l .s)/\xs.all (cn .s)=true/\ds.all (cn .s)=true/\ds.length=n/\den [.lst xs] ds=.val (y.1,[.lst ys])/\ys.all (cn .s)=true/\y.2=U.set i (some (.tre k (fR d pp (.lst ys)))):=by
 unfold mvP at h;split at h
 ·rename_i pp k d ds e1 e2 e3;split at h
  ·rename_i xs e4;split at h
   ·rename_i e5;split at h
    ·rename_i b ys e6;split at h
     ·rename_i e7;cases h;exact⟨pp,k,d,ds,xs,ys,e1,e2,e3,e4,e5.1,e5.2.1,e5.2.2.1,e5.2.2.2,e6,e7,rfl⟩
     ·cases h
    ·cases h
   ·cases h
  ·cases h
 ·cases h
variable {p:Pos} {es:List Expr}
section
variable {C:Addr} {X:Cx}
theorem Bu {k:Nat} {o:Expr} {den:List D->List D->R (D×List D)} {Fa:Rho->R (List D)} (F:MvB X.prog X.w X.K X.mg X.base C k x [.l .s] n den) (hr:Room k X.A) (hg:Gl X x) (ho:ND C X i o P) (ha:AD C X es Fa)
  (he:starEach (o::es) X.env=(false,eval o X.env)::starEach es X.env) (hpl:(backTo pos (starEach es X.env)).any (·.1)=false) (hdb:(x==("__debug__":Str))=false:=by decide):KDm C X (.Call (.Name x p) (o::es) [] pos) (mvP i P den n Fa):=by
 obtain⟨f,fd,ps,hF,hm,hk,hb⟩:=F;rintro pins s O H Q I ⟨_,H0,⟨U,rfl,r⟩,q⟩;cases ez:mvP i P den n Fa U.rho with
 | exc c=>rw[ez]at q;exact q.elim
 | bad=>rw[ez]at q;exact q.elim
 | val y =>
  rw[ez]at q;obtain⟨pp,k',d,ds,xs,ys,eP,er,eF,ed,ek,fx,fd',hl,eden,fy,ey⟩:=Bl ez;obtain⟨v,a,vs,A0,e1,rc,hHa,tp,hn,up⟩:=r.node er ek ed;obtain⟨rfl,hvs⟩:=tp.flat;refine wpAny_Call_Name_kw (gx I hg hm ?_ hdb);refine callWith_K (h₀:=X.base) I.ok.mod.kin hk (thn ((bu ho ha he) pos pins s O H (λws H1=>∃vr,ws=.ref a::vr/\Same H H1/\iN C X U O H1 vr ds) I ⟨U,⟨H0,r⟩,by
   rw[eP];intro v' w H' ev s' rc';rw[e1]at ev;cases ev;have:=Reach.det (rc.mono s') rc';subst this;refine⟨U,⟨H0,r.mono s'⟩,?_⟩;rw[eF];exact λvr H1 s1 h1=>⟨vr,rfl,s'.trans s1,h1⟩⟩) λus s1 yy=>?_) he hpl
  obtain⟨ws,H1,I1,rv,vr,rfl,sm,hvr⟩:=yy;refine⟨I1.kIn,?_⟩;have hH1:H1 a=some (.lst vs):=sm _ _ hHa;refine thn (kZ (E:=E0) (Q:=λu M'=>Has X.K C M' u y.1/\Same (cut [a] H1) M'/\∃ws,M' a=some (.lst ws)/\HasL X.K C M' ws ys) hF hr hb .nil nj I1 rv ?_) λu s2 yy=>?_
  ·rw[List.append_nil];refine⟨[.ref a],[.lst xs],vr,ds,[a],rfl,hvr.len.trans hl,.cons (A:=[a]) (B:=[]) (.l hH1 (TreP.of (jy hvs fx)) List.not_mem_nil) .nil (λ_ _=>List.not_mem_nil),jy hvr fd',?_⟩;rw[eden];intro u H' A' g1 g2 g3 g4;refine⟨g4,g1,?_⟩;cases g3 with
   | cons t1 t2 _ =>
    cases t2;cases t1 with
    | l e9 t9 _=>exact⟨_,e9,(t9.flat).2.mono mM⟩
  ·obtain⟨u',M',J2,ru,hu,sM,ws,eM,hws⟩:=yy;refine⟨u',M',J2,ru,q M' ?_ u' hu⟩;have eu:upd (upd M' a (.lst vs)) a (.lst ws)=M':=by
    funext b
    by_cases hb:b=a
    ·subst hb;rw[aF,eM]
    ·rw[aw hb,aw hb]
   have s2:Same H (upd M' a (.lst vs)):=λb o eb=>by
    by_cases hb:b=a
    ·subst hb;rw[hHa]at eb;cases eb;exact aF
    ·rw[aw hb];exact sM b o (cut_some.mpr ⟨λz=>hb (List.mem_singleton.mp z),sm _ _ eb⟩)
   have rl:=up (H2:=upd M' a (.lst vs)) (ws:=ws) (ys:=ys) (N:=[]) (B:=[]) s2 (λb hb=>by cases hb) (TreP.of (jy hws fy)) (λb hb=>by cases hb);rw[eu]at rl;rw[ey];exact⟨_,rfl,rl⟩
end
def uU:D->D->R D
 | .lst xs,.int k=>if 0<=k/\k<=1000/\xs.length<=10 then .val (.lst (List.replicate k.toNat xs).flatten)else .bad
 | _,_=>.bad
def ext (i:Nat) (e:Rho->R D):Rho->R Out:=λU=>match U[i]? with
 | some (some (.own xs))=>(e U).bind λd=>match d with
  | .lst ys=>if xs.length+ys.length<LIM then .val (.nx (U.set i (some (.own (xs++ys)))))else .bad
  | _=>.bad
 | _=>.bad
section
variable {C:Addr} {X:Cx}
theorem HasL.rep {K:Frag} {H:Hp} {vs:List V} {xs:List D} (h:HasL K C H vs xs):∀k:Nat,HasL K C H (List.replicate k vs).flatten (List.replicate k xs).flatten
 | 0=>.nil
 | k+1=>by
  rw[List.replicate_succ,List.replicate_succ,List.flatten_cons,List.flatten_cons];exact h.app (h.rep k)
end
section
variable (C:Addr) (X:Cx)
def pSr (kr:OK) (o:R Out) (H0:Hp) (Dn:iR):Prop:=match o with
 | .val (.nx U')=>∀σ' H',iQ C X H0 U' σ' H'->Dn.nx σ' H'
 | .val (.bk U')=>∀σ' H',iQ C X H0 U' σ' H'->Dn.bk σ' H'
 | .val (.ct U')=>∀σ' H',iQ C X H0 U' σ' H'->Dn.ct σ' H'
 | .val (.rt d)=>∀v H' A,Same H0 H'->(∀a∈A,H0 a=none)->Tre X.K C (cut A H') H' kr v d A->Dn.rt v H'
 | _=>False
def tsR (kr:OK) (F:Rho->R Out):TS:=λDn O H=>∃U H0,iQ C X H0 U O H/\pSr C X kr (F U) H0 Dn
def SDr (kr:OK) (st:Stmt) (F:Rho->R Out):Prop:=PS X st (tsR C X kr F)
def vp (kr:OK) (st:List Stmt) (F:Rho->R Out):Prop:=PSs X st (tsR C X kr F)
end
def sqR (F:Rho->R Out) (G:Rho->R D):Rho->R D:=λU=>match F U with
 | .val (.nx U')=>G U'
 | .val (.rt d)=>.val d
 | _=>.bad
def rt1 (i:Nat) (k:OK):Rho->R D:=λU=>match U[i]? with
 | some (some (.tre k' d))=>if k'=k then .val (.lst [d])else .bad
 | _=>.bad
variable {U:RB} {F:Rho->R Out} {k:OK} {body:List Stmt} {O:St}
section
variable {C:Addr} {X:Cx} {kr:OK}
theorem xZ:vp C X kr [] nxt:=bJ mB λD O H yy=>by
 obtain⟨U,H0,r,q⟩:=yy;exact q O H r
theorem xY (h:SDr C X kr st F):vp C X kr [st] F:=cz h
theorem xX {e:Expr} {F:Rho->R D} (he:KD C X kr e F):vp C X kr [.Return (some e) pos] (ret F) :=
 bJ (cz (j3 he)) λD O H yy=>by
  obtain⟨_,H0,⟨U,rfl,r⟩,q⟩:=yy;refine⟨U,⟨H0,r⟩,?_⟩;unfold ret at q;cases z:F U with
  | val d =>
   rw[z]at q;exact λv H' A s hA h=>q v H' A ((r.keep.trans msk_sub).trans s) (λa ha=>bR (r.keep.trans msk_sub) (hA a ha)) (h.stay (λb o e=>cut_some.mpr ⟨(cut_some.mp e).1,(msk_some.mp (cut_some.mp e).2).2⟩) (.of (Same.refl _)))
  | exc c=>rw[z]at q;exact q.elim
  | bad=>rw[z]at q;exact q.elim
theorem AA {c:Expr} {a b:List Stmt} {Ft:Rho->R (Bool×Rho)} {Fa Fb:Rho->R Out} (hc:TDm C X c Ft) (ha:vp C X kr a Fa) (hb:vp C X kr b Fb):SDr C X kr (.If c a b pos) (ifM Ft Fa Fb) :=
 aW (sK hc ha hb) λD O H yy=>by
  obtain⟨U,H0,r,q⟩:=yy;refine⟨U,H0,r,?_⟩;unfold ifM at q;cases z:Ft U with
  | exc c=>rw[z]at q;exact q.elim
  | bad=>rw[z]at q;exact q.elim
  | val x =>
   obtain⟨c,U'⟩:=x;rw[z]at q;intro H' r';cases c with
   | true=>exact rb ⟨U',H0,r',q⟩
   | false=>exact rh ⟨U',H0,r',q⟩
theorem AB {tg iter:Expr} {ix:List Nat} {src:Rho->R (List D)} {T:D->Rho->Option Rho} (hp:PassesOwn (model X.prog X.w) X.A X.env X.xe) (hc:X.calm=true) (hi:ID C X tg iter src) (hg:GD C X tg ix T) (hb:vp C X kr body F)
  (hs:∀x,foldedSetIterable iter X.env x=pure x:=by intro _;rfl):SDr C X kr (.For tg iter body [] pos) (aY src T F) :=
 aW (lf hp hc hi hg hb hs) λD O H yy=>by
  obtain⟨_,H0,⟨U,rfl,r⟩,q⟩:=yy;refine⟨U,⟨H0,r⟩,?_⟩;unfold aY at q;cases e:src U with
  | exc c=>rw[e]at q;exact q.elim
  | bad=>rw[e]at q;exact q
  | val xs =>
   rw[e]at q;intro J H1 s1 wk;have r1:=r.mono s1;have hM:Same H0 (msk U O H1):=r1.keep;refine⟨λi m σ' H'=>m=xs.length-i/\i<=xs.length/\∃U':RB,bP C X (msk U O H1) U' σ' H'/\pSr C X kr (aX T F (xs.drop i) U') H0 D,⟨xs.length,rfl,Nat.zero_le _,U,r1.rebase,q⟩,?_⟩;rintro i m σ' H' ⟨rfl,hi,U',r',q'⟩;have sm:Same (msk U O H1) H':=r'.keep.trans msk_sub;by_cases hlt:i<xs.length
   ·have ex:xs[i]?=some xs[i]:=by simp[hlt]
    have ed:xs.drop i=xs[i]::xs.drop (i+1):=List.drop_eq_getElem_cons hlt;rw[ed]at q';obtain⟨go,yld⟩:=wk.go i _ H' sm ex;refine .inr ⟨go,λO2 H2=>∃U2:RB,bP C X (msk U O H1) U2 O2 H2/\pSr C X kr (aX T F (xs.drop (i+1)) U2) H0 D,λO2 H2 z=>by obtain⟨U2,r2,q2⟩:=z;exact⟨xs.length-(i+1),by omega,rfl,hlt,U2,r2,q2⟩,λv H3 y=>?_⟩;obtain⟨s3,hv⟩:=yld v H3 y;have hv':=hv U' σ' (λb ob=>r'.ownAt ob) r'.keep;unfold aX at q';split at q'
    ·rename_i U1 e1;refine⟨U',_,xs[i],U1,r'.mono s3,hv',e1,λO2 β eb _ r2 _=>⟨U1,_,⟨β,eb,r2⟩,?_⟩⟩;cases eF:F U1 with
     | val o =>
      rw[eF]at q';cases o with
      | nx U2=>exact λO4 H4 z=>by obtain⟨β4,e4,r4⟩:=z;exact⟨β4,r4,by rw[e4];exact q'⟩
      | ct U2=>exact λO4 H4 z=>by obtain⟨β4,e4,r4⟩:=z;exact⟨β4,r4,by rw[e4];exact q'⟩
      | bk U2=>exact λO4 H4 z=>by obtain⟨β4,e4,r4⟩:=z;exact q' O4 H4 ⟨β4,e4,r4.base hM⟩
      | rt d=>exact λv4 H4 A4 s4 hA h4=>q' v4 H4 A4 (hM.trans s4) (λa ha=>bR hM (hA a ha)) h4
     | exc c=>rw[eF]at q';exact q'.elim
     | bad=>rw[eF]at q';exact q'
    ·exact q'.elim
   ·have ei:i=xs.length:=by omega
    subst ei;rw[List.drop_length]at q';exact .inl ⟨wk.stop H' sm,q' σ' H' (r'.base hM).e⟩
theorem wX {rest:List Stmt} {G:Rho->R D} (h1:SDr C X kr st F) (h2:mq C X kr rest G):mq C X kr (st::rest) (sqR F G) :=
 bJ (dz h1 h2) λD O H yy=>by
  obtain⟨U,H0,r,q⟩:=yy;refine⟨U,H0,r,?_⟩;unfold sqR at q;cases e:F U with
  | val o =>
   rw[e]at q;cases o with
   | nx U'=>exact λσ' H' r'=>⟨U',H0,r',q⟩
   | rt d=>exact q
   | bk U'=>exact q.elim
   | ct U'=>exact q.elim
  | exc c=>rw[e]at q;exact q.elim
  | bad=>rw[e]at q;exact q.elim
theorem x9 {lp:Pos} (hv:PE X (.Name x p) (df i)) (hst:starEach [.Name x p] X.env=(false,eval (.Name x p) X.env)::starEach [] X.env:=by rfl):mq C X (.l k) [.Return (some (.List [.Name x p] lp)) pos] (rt1 i k) :=
 bJ (cz (j3 (lg (bu hv bU hst)))) λD O H yy=>by
  obtain⟨_,H0,⟨U,rfl,r⟩,q⟩:=yy;unfold rt1 at q;split at q
  ·rename_i k' d e;split at q
   ·rename_i ek;subst ek;obtain⟨v,B,e1,hB,h⟩:=r.at_ i _ e;refine⟨v,e1,(show 1<=sizeLine by decide),λp hp=>?_⟩;have np:p∉B:=λhm=>by
     obtain⟨us,z⟩:=h.lists p hm;rw[hp]at z;cases z
    have sk:Same H0 H:=r.keep.trans msk_sub;refine q (.ref p) _ (p::B) (sk.trans (aA hp)) (λa ha=>?_) (.l aF ?_ np)
    ·rcases List.mem_cons.mp ha with rfl|ha
     ·exact bR sk hp
     ·cases z:H0 a with
      | none=>rfl
      | some o=>exact absurd ⟨i,hB a ha⟩ (msk_some.mp (r.keep a o z)).1
    ·have h':=h.stay (M':=cut (p::B) (upd H p (.lst [v]))) (H':=upd H p (.lst [v])) (λb o eb=>by
      obtain⟨g1,g2⟩:=msk_some.mp eb;refine cut_some.mpr ⟨λhb=>?_,aA hp b o g2⟩;rcases List.mem_cons.mp hb with rfl|hb
      ·rw[hp]at g2;cases g2
      ·exact g1 ⟨i,hB b hb⟩) (.of (aA hp))
     have:=TreP.cons h' TreP.nil (λa _=>List.not_mem_nil);rw[List.append_nil]at this;exact this
   ·exact q.elim
  ·exact q.elim
theorem pK.mono {z:R D} {Q:VK} (s:Same H H') (h:pK C X k U z O H Q):pK C X k U z O H' Q:=by
 cases z with
 | val d=>exact λv H2 A s2 hA t=>h v H2 A (s.trans s2) (λa ha=>bR s (hA a ha)) t
 | exc c=>exact XE.mono s h
 | bad=>exact h
theorem D2 {b:Expr} {Fa Fb:Rho->R D} (ha:EB C X a Fa) (hb:EB C X b Fb):KD C X (.l .s) (.BinOp a .Mult b pos) (bin uU Fa Fb):=by
 refine aD (Cv DJ ha hb) λO H Q yy=>?_;obtain⟨U,⟨H0,r0⟩,q⟩:=yy;refine⟨U,⟨H0,r0⟩,aQ (P:=λz H=>pK C X (.l .s) U z O H Q) (λ_ h=>h) (λh=>h) q λx v H1 s1 h1 q1=>?_⟩;refine⟨U,⟨H0,r0.mono s1⟩,aQ (P:=λz H=>pK C X (.l .s) U z O H Q) (λ_ h=>h) (λh=>h) (pK.mono s1 q1) λy w H2 s2 h2 q2=>?_⟩;have hx:=h1.mono (aO s2) s2;have r:=(r0.mono s1).mono s2;cases e:uU x y with
 | exc c =>
  unfold uU at e;split at e
  ·split at e<;>cases e
  ·cases e
 | bad=>rw[e]at q2;exact q2.elim
 | val z =>
  rw[e]at q2;unfold uU at e;split at e
  ·rename_i xs n;split at e
   ·rename_i qq;cases e;obtain⟨l,vs,rfl,e1,h3⟩:=hx.lst msk_sub;have hl:=h3.len;have hz:vs.length*n.toNat<=sizeLine:=by
     have a1:vs.length<=10:=by omega
     have a2:n.toNat<=1000:=by omega
     refine Nat.le_trans (Nat.mul_le_mul a1 a2) ?_;decide
    refine⟨l,n,vs,rfl,h2.int,e1,by omega,by omega,hz,λp hp=>q2 (.ref p) _ [p] (s2.trans (aA hp)) (λa ha=>?_) (.l aF (TreP.of ((h3.rep n.toNat).mono λb o eb=>?_)) List.not_mem_nil)⟩
    ·rw[List.mem_singleton.mp ha];exact bR s2 hp
    ·obtain⟨g1,g2⟩:=msk_some.mp eb;refine cut_some.mpr ⟨λhb=>?_,msk_some.mpr ⟨g1,aA hp b o g2⟩⟩;rw[List.mem_singleton.mp hb,hp]at g2;cases g2
   ·cases e
  ·cases e
end
section
variable {K:Frag} {C:Addr} {H H' M M':Hp}
theorem TreP.cat {ks':List OK} {vs':List V} {ds':List D} {A':List Addr} (t':TreP K C M H ks' vs' ds' A'):∀{ks:List OK} {vs:List V} {ds:List D} {A:List Addr},TreP K C M H ks vs ds A->(∀a∈A,a∉A')->TreP K C M H (ks++ks') (vs++vs') (ds++ds') (A++A')
 | _,_,_,_,.nil,_=>t'
 | _,_,_,_,.cons (A:=A1) (B:=A2) h t n,f=>by
  rw[List.append_assoc];refine .cons h (TreP.cat t' t λa ha=>f a (List.mem_append_right _ ha)) λa ha hb=>?_;rcases List.mem_append.mp hb with hb|hb
  ·exact n a ha hb
  ·exact f a (List.mem_append_left _ ha) hb
end
def spW (K:Frag) (C:Addr) (n p:Nat) (k:OK) (den:List D->R D):Sp:=λvs H Q _=>vs.length=n/\∃ds v d A,HasL K C H vs ds/\vs[p]?=some v/\ds[p]?=some d/\Tre K C H H (.l k) v d A/\match den ds with
 | .val x=>∀v' H' A',Same H H'->(∀a∈A',a∈A\/H a=none)->Tre K C H' H' (.l k) v' x A'->Q v' H'
 | _=>False
def FnW (P:Program) (w:World) (K:Frag) (mg:Str->Option Value) (base:Heap) (C:Addr) (lv:Nat) (x:Str) (n p:Nat) (k:OK) (den:List D->R D):Prop :=
 ∃f fd ps,FnOk P w K mg base CX0 lv f fd ps (spW K C n p k den)/\mg x=some (.ref f)/\keepIn K (.ref f)=true/\Binds K fd ps []
def Lat (K:Frag) (C:Addr) (il:Nat) (k:OK) (P:Addr->Prop) (U:RB) (O:St) (H:Hp):Prop:=∃xs a us Al,U.rho[il]?=some (some (.own xs))/\O[il]?=some (some (.ref a))/\H a=some (.lst us)/\a∈U.ad il/\TreP K C (msk U O H) (msk U O H) (us.map λ_=>k) us xs Al/\∀x∈Al,P x
section
variable (C:Addr) (X:Cx)
def pLt (il:Nat) (k:OK) (P:Addr->Prop) (o:R Out) (H0:Hp) (Dn:iR):Prop:=match o with
 | .val (.nx U')=>∀σ' H' (β:RB),β.rho=U'->bP C X H0 β σ' H'->Lat X.K C il k P β σ' H'->Dn.nx σ' H'
 | .val (.bk U')=>∀σ' H' (β:RB),β.rho=U'->bP C X H0 β σ' H'->Lat X.K C il k P β σ' H'->Dn.bk σ' H'
 | .val (.ct U')=>∀σ' H' (β:RB),β.rho=U'->bP C X H0 β σ' H'->Lat X.K C il k P β σ' H'->Dn.ct σ' H'
 | _=>False
def tsL (il:Nat) (k:OK) (F:Rho->R Out):TS:=λDn O H=>∃(B H0:Hp) (P:Addr->Prop) (U:RB),(∀x,B x=none->P x)/\Same B H0/\bP C X H0 U O H/\Lat X.K C il k P U O H/\pLt C X il k P (F U) H0 Dn
def tsC (il ic:Nat) (k:OK) (F:Rho->R Out):TS:=λDn O H=>∃(B H0:Hp) (P:Addr->Prop) (U:RB) (Ac:List Addr),(∀x,B x=none->P x)/\Same B H0/\bP C X H0 U O H/\Lat X.K C il k P U O H /\
 (∀v d,O[ic]?=some (some v)->U.rho[ic]?=some (some (.shr d))->Tre X.K C B B k v d Ac)/\(∀x∈Ac,¬ P x)/\pLt C X il k (λx=>P x\/x∈Ac) (F U) H0 Dn
end
variable {H0:Hp} {ap cp:Pos}
section
variable {C:Addr} {X:Cx} {il ic:Nat} {k:OK} {F:Rho->R Out}
theorem Lat.mono {P P':Addr->Prop} (h:Lat K C il k P U O H) (s:∀x,P x->P' x):Lat K C il k P' U O H:=by
 obtain⟨xs,a,us,Al,e1,e2,e3,e4,e5,e6⟩:=h;exact⟨xs,a,us,Al,e1,e2,e3,e4,e5,λx hx=>s x (e6 x hx)⟩
theorem Lat.grow {P:Addr->Prop} (h:Lat K C il k P U O H) (s:Same H H'):Lat K C il k P U O H':=by
 obtain⟨xs,a,us,Al,e1,e2,e3,e4,e5,e6⟩:=h;exact⟨xs,a,us,Al,e1,e2,s _ _ e3,e4,e5.stay (aO s) (.of (aO s)),e6⟩
theorem xl {a:Addr} {sl:Slt} {o:HO} (ha:a∈U.ad i):Same (msk U O H) (msk (U.put i sl [a]) O (upd H a o)):=λb u e=>by
 obtain⟨h1,h2⟩:=msk_some.mp e;have ne:b≠a:=λz=>h1 ⟨i,z▸ha⟩;refine msk_some.mpr ⟨λz=>?_,by rw[aw ne];exact h2⟩;obtain⟨j,z⟩:=z;rcases fk z with⟨_,_,z⟩|⟨_,z⟩
 ·exact ne (List.mem_singleton.mp z)
 ·exact h1 ⟨j,z⟩
theorem Lat.more {P':Addr->Prop} (r:Rel K C H0 U O H) {xs ys:List D} {a:Addr} {us ws:List V} {Al A2:List Addr} (e1:U.rho[il]?=some (some (.own xs))) (e2:O[il]?=some (some (.ref a))) (e3:H a=some (.lst us)) (e4:a∈U.ad il)
  (e5:TreP K C (msk U O H) (msk U O H) (us.map λ_=>k) us xs Al) (h:TreP K C (msk U O H) (msk U O H) (ws.map λ_=>k) ws ys A2) (hd:∀x∈Al,x∉A2) (p1:∀x∈Al,P' x) (p2:∀x∈A2,P' x) :
  Rel K C H0 (U.put il (.own (xs++ys)) [a]) O (upd H a (.lst (us++ws)))/\Lat K C il k P' (U.put il (.own (xs++ys)) [a]) O (upd H a (.lst (us++ws))):=by
 have t:=TreP.cat h e5 hd;have hi:il<U.rho.length:=(List.getElem?_eq_some_iff.mp e1).1;have m:Same (msk U O H) (msk (U.put il (.own (xs++ys)) [a]) O (upd H a (.lst (us++ws)))):=xl e4;refine⟨r.write e1 e2 (t.has (Same.refl _)),xs++ys,a,us++ws,Al++A2,?_,e2,aF,?_,?_,λx hx=>?_⟩
 ·show(U.rho.set il _)[il]?=_;rw[List.getElem?_set_self hi]
 ·rw[uB (a:=0) hi];exact List.mem_singleton.mpr rfl
 ·rw[List.map_append];exact t.stay m (.of m)
 ·rcases List.mem_append.mp hx with hx|hx
  ·exact p1 x hx
  ·exact p2 x hx
theorem CW {e:Expr} {G:Rho->R D} (hv:PE X (.Name x p) (df il)) (he:KD C X (.l k) e G)
  (hs:∀{to:TE} {t:TA},PE X (.Name x p) to->PA X [e] t->PS X (.Expr (.Call (.Attribute (.Name x p) "extend" ap) [e] [] cp) pos) (jK (tBM X.K "list" vO to t)):=by
   exact λho ha=>gw (nh PySem.F.plainAttrs_list PySem.F.slot_list_extend PySem.F.type_list_extend xk ho ha))
  (hst:starEach [e] X.env=(false,eval e X.env)::starEach [] X.env:=by rfl) :
  PS X (.Expr (.Call (.Attribute (.Name x p) "extend" ap) [e] [] cp) pos) (tsL C X il k (ext il G)) :=
 aW (hs hv (bu he bU hst)) λD O H zz=>by
  obtain⟨B,H0,P,U,hP,sB,r,lt,q⟩:=zz;obtain⟨xs,a,us,Al,e1,e2,e3,e4,e5,e6⟩:=lt;unfold ext at q;rw[e1]at q;dsimp only at q;refine⟨_,e2,.inl ⟨rfl,_,SqL.of e3⟩,U,⟨H0,r⟩,?_⟩;cases eG:G U.rho with
  | exc c=>rw[eG]at q;exact q.elim
  | bad=>rw[eG]at q;exact q.elim
  | val d =>
   rw[eG]at q;cases d with
   | lst ys =>
    dsimp only[DL.R.bind]at q;by_cases hl:xs.length+ys.length<LIM
    ·rw[if_pos hl]at q;intro v H1 A s1 hA ht;cases ht with
     | @l _ p1 ws _ A2 g1 g2 g3 =>
      have r1:=r.mono s1;have nw:∀x∈p1::A2,¬ Own U O x:=λx hx ow=>r.ownAt ow (hA x hx);have t2:TreP X.K C (msk U O H1) (msk U O H1) (ws.map λ_=>k) ws ys A2:=g2.stay (λb o z=>(cut_some.mp z).2) ⟨λb hb o z=>msk_some.mpr ⟨nw b (List.mem_cons_of_mem _ hb),z⟩,λb vs z=>msk_some.mpr ⟨r1.tups z,z⟩⟩;have e5':=e5.stay (aO s1) (.of (aO s1));have hnone:∀x∈A2,H x=none:=λx hx=>hA x (List.mem_cons_of_mem _ hx);obtain⟨q1,q2⟩:=Lat.more (P':=P) r1 e1 e2 (s1 _ _ e3) e4 e5' t2 (λx hx hx2=>by
       obtain⟨vs,z⟩:=e5.lists x hx;have:=(msk_some.mp z).2;rw[hnone x hx2]at this;cases this) e6 λx hx=>hP x (bR ((sB.trans r.keep).trans msk_sub) (hnone x hx))
      refine⟨a,p1,us,ws,rfl,rfl,s1 _ _ e3,g1,by rw[e5.len.1,g2.len.1];exact Nat.le_of_lt (Nat.lt_of_lt_of_le hl (by decide)),?_⟩;exact q O _ _ rfl q1 q2
    ·rw[if_neg hl]at q;exact q.elim
   | _=>exact q.elim
theorem C0 {y:Str} {p':Pos} (hv:PE X (.Name x p) (df il)) (hy:PE X (.Name y p') (df ic))
  (hs:∀{to:TE} {t:TA},PE X (.Name x p) to->PA X [.Name y p'] t->PS X (.Expr (.Call (.Attribute (.Name x p) "append" ap) [.Name y p'] [] cp) pos) (jK (tBM X.K "list" kg to t)):=by
   exact λho ha=>gw (nh PySem.F.plainAttrs_list PySem.F.slot_list_append PySem.F.type_list_append gT ho ha))
  (hst:starEach [.Name y p'] X.env=(false,eval (.Name y p') X.env)::starEach [] X.env:=by rfl) :
  PSs X [.Expr (.Call (.Attribute (.Name x p) "append" ap) [.Name y p'] [] cp) pos] (tsC C X il ic k (app il (vr ic))) :=
 bJ (cz (hs hv (bu hy bU hst))) λD O H zz=>by
  obtain⟨B,H0,P,U,Ac,hP,sB,r,lt,f3,f4,q⟩:=zz;obtain⟨xs,a,us,Al,e1,e2,e3,e4,e5,e6⟩:=lt;unfold app at q;rw[e1]at q;dsimp only at q;cases ev:vr ic U.rho with
  | exc c=>rw[ev]at q;exact q.elim
  | bad=>rw[ev]at q;exact q.elim
  | val d =>
  rw[ev]at q;dsimp only[DL.R.bind]at q;obtain⟨v,f1,_⟩:=r.at_ ic _ (Cn ev);have f3:=f3 v d f1 (Cn ev);by_cases hl:xs.length<LIM
  ·rw[if_pos hl]at q;have m:Same B (msk U O H):=sB.trans r.keep;have t2:TreP X.K C (msk U O H) (msk U O H) ([v].map λ_=>k) [v] [d] (Ac++[]):=.cons (f3.stay m (.of m)) .nil λ_ _=>List.not_mem_nil;rw[List.append_nil]at t2;obtain⟨q1,q2⟩:=Lat.more (P':=λx=>P x\/x∈Ac) r e1 e2 e3 e4 e5 t2 (λx hx hx2=>f4 x hx2 (e6 x hx)) (λx hx=>.inl (e6 x hx)) λx hx=>.inr hx;refine⟨_,e2,.inl ⟨rfl,_,SqL.of e3⟩,v,f1,a,us,v,rfl,rfl,e3,by rw[e5.len.1];exact Nat.lt_of_lt_of_le hl (by decide),?_⟩;exact q O _ _ rfl q1 q2
  ·rw[if_neg hl]at q;exact q.elim
theorem EJ {c:Expr} {a b:List Stmt} {Ft:Rho->R Bool} {Fa Fb:Rho->R Out} (hc:TD C X c Ft) (ha:PSs X a (tsC C X il ic k Fa)) (hb:PSs X b (tsL C X il k Fb)):PSs X [.If c a b pos] (tsC C X il ic k (iff Ft Fa Fb)) :=
 bJ (cz (sK hc ha hb)) λD O H zz=>by
  obtain⟨B,H0,P,U,Ac,hP,sB,r,lt,f3,f4,q⟩:=zz;refine⟨U,⟨H0,r⟩,?_⟩;unfold iff at q;cases z:Ft U with
  | exc c=>rw[z]at q;exact q.elim
  | bad=>rw[z]at q;exact q.elim
  | val c =>
   rw[z]at q;intro H1 s1;cases c with
   | true=>exact rb ⟨B,H0,P,U,Ac,hP,sB,r.mono s1,lt.grow s1,f3,f4,q⟩
   | false =>
    refine rh ⟨B,H0,P,U,hP,sB,r.mono s1,lt.grow s1,?_⟩;have q:pLt C X il k (λx=>P x\/x∈Ac) (Fb U) H0 D:=q;show pLt C X il k P (Fb U) H0 D;cases eF:Fb U.rho with
    | exc c=>rw[eF]at q;exact q.elim
    | bad=>rw[eF]at q;exact q.elim
    | val o =>
     rw[eF]at q;cases o with
     | nx U'=>exact λσ' H' β e1 r' l'=>q σ' H' β e1 r' (l'.mono λx hx=>.inl hx)
     | bk U'=>exact λσ' H' β e1 r' l'=>q σ' H' β e1 r' (l'.mono λx hx=>.inl hx)
     | ct U'=>exact λσ' H' β e1 r' l'=>q σ' H' β e1 r' (l'.mono λx hx=>.inl hx)
     | rt _=>exact q.elim
theorem CV {tg iter:Expr} {ix:List Nat} {src:Rho->R (List D)} {T:D->Rho->Option Rho} (hp:PassesOwn (model X.prog X.w) X.A X.env X.xe) (hc:X.calm=true) (hi:ID C X tg iter src) (hg:GD C X tg ix T) (hx:il∉ix) (hT:∀d U U',T d U=some U'->U'[il]?=U[il]?) (hb:PSs X body (tsL C X il k F))
  (hs:∀x,foldedSetIterable iter X.env x=pure x:=by intro _;rfl):PS X (.For tg iter body [] pos) (tsL C X il k (aY src T F)) :=
 aW (lf hp hc hi hg hb hs) λD O H zz=>by
  obtain⟨B,H0,P,U,hP,sB,r,lt,q⟩:=zz;refine⟨U,⟨H0,r⟩,?_⟩;unfold aY at q;cases e:src U with
  | exc c=>rw[e]at q;exact q.elim
  | bad=>rw[e]at q;exact q
  | val xs =>
   rw[e]at q;intro J H1 s1 wk;have r1:=r.mono s1;have hM:Same H0 (msk U O H1):=r1.keep;refine⟨λi m σ' H'=>m=xs.length-i/\i<=xs.length/\∃U':RB,bP C X (msk U O H1) U' σ' H'/\Lat X.K C il k P U' σ' H'/\pLt C X il k P (aX T F (xs.drop i) U') H0 D,⟨xs.length,rfl,Nat.zero_le _,U,r1.rebase,lt.grow s1,q⟩,?_⟩;rintro i m σ' H' ⟨rfl,hi,U',r',l',q'⟩;have sm:Same (msk U O H1) H':=r'.keep.trans msk_sub;by_cases hlt:i<xs.length
   ·have ex:xs[i]?=some xs[i]:=by simp[hlt]
    have ed:xs.drop i=xs[i]::xs.drop (i+1):=List.drop_eq_getElem_cons hlt;rw[ed]at q';obtain⟨go,yld⟩:=wk.go i _ H' sm ex;refine .inr ⟨go,λO2 H2=>∃U2:RB,bP C X (msk U O H1) U2 O2 H2/\Lat X.K C il k P U2 O2 H2/\pLt C X il k P (aX T F (xs.drop (i+1)) U2) H0 D,λO2 H2 z=>by obtain⟨U2,r2,l2,q2⟩:=z;exact⟨xs.length-(i+1),by omega,rfl,hlt,U2,r2,l2,q2⟩,λv H3 y=>?_⟩;obtain⟨s3,hv⟩:=yld v H3 y;have hv':=hv U' σ' (λb ob=>r'.ownAt ob) r'.keep;unfold aX at q';split at q'
    ·rename_i U1 e1;refine⟨U',_,xs[i],U1,r'.mono s3,hv',e1,λO2 β eb ea r2 es=>⟨B,_,P,β,hP,sB.trans hM,r2,?_,?_⟩⟩
     ·obtain⟨zs,a,us,Al,g1,g2,g3,g4,g5,g6⟩:=l'.grow s3;have mm:Same (msk U' σ' H3) (msk β O2 H3):=λb o z=>by
       obtain⟨z1,z2⟩:=msk_some.mp z;refine msk_some.mpr ⟨λw=>?_,z2⟩;obtain⟨j,w⟩:=w;rw[ea j]at w;by_cases hj:j∈ix
       ·rw[if_pos hj]at w;cases w
       ·rw[if_neg hj]at w;exact z1 ⟨j,w⟩
      exact⟨zs,a,us,Al,by rw[eb,hT _ _ _ e1];exact g1,by rw[es il hx];exact g2,g3,by rw[ea il,if_neg hx];exact g4,g5.stay mm (.of mm),g6⟩
     ·rw[eb];cases eF:F U1 with
      | val o =>
       rw[eF]at q';cases o with
       | nx U2=>exact λO4 H4 β4 e4 r4 l4=>⟨β4,r4,l4,by rw[e4];exact q'⟩
       | ct U2=>exact λO4 H4 β4 e4 r4 l4=>⟨β4,r4,l4,by rw[e4];exact q'⟩
       | bk U2=>exact λO4 H4 β4 e4 r4 l4=>q' O4 H4 β4 e4 (r4.base hM) l4
       | rt d=>exact q'.elim
      | exc c=>rw[eF]at q';exact q'.elim
      | bad=>rw[eF]at q';exact q'
    ·exact q'.elim
   ·have ei:i=xs.length:=by omega
    subst ei;rw[List.drop_length]at q';exact .inl ⟨wk.stop H' sm,q' σ' H' _ rfl (r'.base hM) l'⟩
end
def nxO (F:Rho->R Out):Rho->R Out:=λU=>match F U with
 | .val (.nx U')=>.val (.nx U')
 | _=>.bad
section
variable (C:Addr) (X:Cx)
def tsB (il ib:Nat) (k:OK) (F:Rho->R Out):TS:=λDn O H=>∃(B H0:Hp) (U:RB) (b:Addr) (ds:List D) (A:List Addr),Same B H0/\bP C X H0 U O H/\Lat X.K C il k (λx=>B x=none) U O H/\U.rho[ib]?=some (some (.shr (.lst ds)))/\O[ib]?=some (some (.ref b))/\Tre X.K C B B (.l k) (.ref b) (.lst ds) A /\
 pLt C X il k (λx=>B x=none\/x∈A) (F U) H0 Dn
def tsW (il ib:Nat) (k:OK) (F:Rho->R Out):TS:=λDn O H=>∃(U:RB) (b:Addr) (ds:List D) (A:List Addr),bP C X H U O H/\il<U.rho.length/\U.rho[ib]?=some (some (.shr (.lst ds)))/\O[ib]?=some (some (.ref b))/\Tre X.K C H H (.l k) (.ref b) (.lst ds) A/\match fin (F U)with
 | .val x=>∀v' H' A',Same H H'->(∀a∈A',a∈A\/H a=none)->Tre X.K C H' H' (.l k) v' x A'->Dn.rt v' H'
 | _=>False
end
section
variable {C:Addr} {X:Cx} {il ib ic:Nat} {k:OK} {F:Rho->R Out}
theorem Lat.setShr {P:Addr->Prop} {v:V} (h:Lat K C il k P U O H) (ne:il≠ic):Lat K C il k P (U.put ic (.shr d) []) (O.set ic (some v)) H:=by
 obtain⟨xs,a,us,Al,e1,e2,e3,e4,e5,e6⟩:=h;refine⟨xs,a,us,Al,?_,?_,e3,?_,e5.stay mE (.of mE),e6⟩
 ·show(U.rho.set ic _)[il]?=_;rw[List.getElem?_set_ne λz=>ne z.symm];exact e1
 ·rw[List.getElem?_set_ne λz=>ne z.symm];exact e2
 ·rw[kh ne];exact e4
theorem CQ {a s:Str} {pa ps:Pos} (ne:il≠ic) (hp:PassesOwn (model X.prog X.w) X.A X.env X.xe) (hc:X.calm=true) (hl:PE X (.Name s ps) (df ib)) (hg:PG X (.Name a pa) (gy ic)) (hb:PSs X body (tsC C X il ic k F))
  (hs:∀x,foldedSetIterable (.Name s ps) X.env x=pure x:=by intro _;rfl):PS X (.For (.Name a pa) (.Name s ps) body [] pos) (tsB C X il ib k (aY (fIt (vr ib)) (tgN ic) F)) :=
 aW (lf hp hc (uD hl) hg hb hs) λD O H yy=>by
  obtain⟨B,H0,U,b,ds,A,sB,r,lt,eb,es,tr,q⟩:=yy;have e0:fIt (vr ib) U.rho=.val ds:=by
   unfold fIt vr;rw[eb];rfl
  unfold aY at q;rw[e0]at q;dsimp only[DL.R.bind]at q;cases tr with
  | @l _ _ vs _ A1 hB tp nb =>
   obtain⟨f,f1,f2,f3,f4⟩:=tp.each;have hl2:=tp.len;have st:∀{U':RB} {σ':St} {H':Hp},bP C X H0 U' σ' H'->SqL X.K H' b vs:=λr'=>SqL.of (msk_sub _ _ (r'.keep b _ (sB b _ hB)));refine⟨.ref b,es,b,rfl,.inl ⟨⟨vs,st r⟩,?_⟩⟩;refine nX (λj σ' H'=>∃U':RB,bP C X H0 U' σ' H'/\Lat X.K C il k (λx=>B x=none\/∃i,i<j/\x∈f i) U' σ' H'/\pLt C X il k (λx=>B x=none\/x∈b::A1) (aX (tgN ic) F (ds.drop j) U') H0 D) ⟨U,r,lt.mono λx hx=>.inl hx,q⟩ (λj σ' H' _ z=>st z.choose_spec.1) (λj x σ' H' hx z=>?_) (λσ' H' z=>?_)
   ·obtain⟨U',r',l',q'⟩:=z;have hj:j<ds.length:=by
     have:=(List.getElem?_eq_some_iff.mp hx).1;omega
    have ed:ds[j]?=some ds[j]:=List.getElem?_eq_getElem hj;obtain⟨v,ev,tv⟩:=f1 j k ds[j] (by rw[List.getElem?_map,hx];rfl) ed;rw[hx]at ev;cases ev;rw[List.drop_eq_getElem_cons hj]at q';unfold aX tgN at q';dsimp only at q';have hd:Has X.K C (msk U' σ' H') x ds[j]:=(tv.has (Same.refl _)).mono (sB.trans r'.keep);refine⟨B,H0,_,U'.put ic (.shr ds[j]) [],f j,λx hx=>.inl hx,sB,r'.setShr hd,l'.setShr ne,λv d z1 z2=>?_,λy hy=>?_,?_⟩
    ·cases vH z1;cases vH z2;exact tv
    ·rintro(z|⟨i,hi,z⟩)
     ·obtain⟨us,w⟩:=tv.lists y hy;rw[z]at w;cases w
     ·have:=f3 i j y z hy;omega
    ·show pLt C X il k _ (F (U'.rho.set ic (some (.shr ds[j])))) H0 _;have up:∀x,((B x=none\/∃i,i<j/\x∈f i)\/x∈f j)->(B x=none\/∃i,i<j+1/\x∈f i):=λx hx=>by
      rcases hx with(z|⟨i,hi,z⟩)|z
      ·exact .inl z
      ·exact .inr ⟨i,by omega,z⟩
      ·exact .inr ⟨j,by omega,z⟩
     cases eF:F (U'.rho.set ic (some (.shr ds[j])))with
     | exc c=>rw[eF]at q';exact q'.elim
     | bad=>rw[eF]at q';exact q'.elim
     | val o =>
      rw[eF]at q';cases o with
      | nx U2=>exact λO4 H4 β e4 r4 l4=>⟨β,r4,l4.mono up,by rw[e4];exact q'⟩
      | ct U2=>exact λO4 H4 β e4 r4 l4=>⟨β,r4,l4.mono up,by rw[e4];exact q'⟩
      | bk U2=>exact λO4 H4 β e4 r4 l4=>q' O4 H4 β e4 r4 (l4.mono λx hx=>by
        rcases up x hx with z|⟨i,_,z⟩
        ·exact .inl z
        ·exact .inr (List.mem_cons_of_mem _ (f2 i x z).1))
      | rt d=>exact q'.elim
   ·obtain⟨U',r',l',q'⟩:=z;rw[hl2.1,List.drop_length]at q';exact q' σ' H' U' rfl r' (l'.mono λx hx=>by
     rcases hx with z|⟨i,_,z⟩
     ·exact .inl z
     ·exact .inr (List.mem_cons_of_mem _ (f2 i x z).1))
theorem Ao {p1 lp pos1:Pos} (n1:il≠ib) (hN:X.N.Nodup) (hi:X.N[il]?=some x) (hx:Loc X.env.scope x) (hv:PE X (.Name x p) (df il)) (hF:PS X st (tsB C X il ib k F))
  (hsw:swapsWith (.List [] lp) (some (.Name x p1)) pos.line X.env=pure false:=by rfl)
  (hf:X.fn x=true\/X.env.scope.names.lookup x=some .local:=by first|exact .inl rfl|exact .inr rfl|assumption) :
  PSs X [.Assign [.Name x p1] (.List [] lp) pos,st,.Return (some (.Name x p)) pos1] (tsW C X il ib k (sq (own il (eE aN)) (sq (nxO F) (fz il (ret (vr il)))))) :=
 bJ (dz (j0 hN hi hx (lg bU) hsw hf) (dz hF (cz (j3 hv)))) λD O H yy=>by
  obtain⟨U,b,ds,A,r,hil,eb,es,tr,q⟩:=yy;refine⟨(show 0<=sizeLine by decide),λpp hp=>?_⟩;have r1:bP C X H (U.put il (.own []) [pp]) (O.set il (some (.ref pp))) (upd H pp (.lst [])):=r.setOwn hp .nil;have own1:own il (eE aN) U.rho=.val (.nx (U.rho.set il (some (.own [])))):=Eq.trans rfl rfl;have q:(match fin (sq (own il (eE aN)) (sq (nxO F) (fz il (ret (vr il)))) U.rho)with | .val x=>∀v' H' A',Same H H'->(∀a∈A',a∈A\/H a=none)->Tre X.K C H' H' (.l k) v' x A'->D.rt v' H'|_=>False):=q;unfold sq at q;rw[own1]at q;dsimp only[DL.R.bind]at q;unfold nxO at q
  ·refine⟨H,H,U.put il (.own []) [pp],b,ds,A,Same.refl _,r1,?_,?_,?_,tr,?_⟩
   ·refine⟨[],pp,[],[],?_,jW (by rw[<- r.len];exact hil),aF,?_,.nil,λx hx=>by cases hx⟩
    ·show(U.rho.set il _)[il]?=_;rw[List.getElem?_set_self hil]
    ·rw[uB (a:=0) hil];exact List.mem_singleton.mpr rfl
   ·show(U.rho.set il _)[ib]?=_;rw[List.getElem?_set_ne n1];exact eb
   ·rw[List.getElem?_set_ne n1];exact es
   ·show pLt C X il k _ (F (U.rho.set il (some (.own [])))) H _;cases eF:F (U.rho.set il (some (.own [])))with
    | exc c=>rw[eF]at q;exact q.elim
    | bad=>rw[eF]at q;exact q.elim
    | val o =>
     rw[eF]at q;cases o with
     | nx U2 =>
      intro σ' H' β e2 r2 l2;obtain⟨xs,a,us,Al,g1,g2,g3,g4,g5,g6⟩:=l2;have fr:frz il U2=U2.set il (some (.shr (.lst xs))):=by
       unfold frz;rw[<- e2,g1]
      have hl2:il<U2.length:=by
       rw[<- e2];exact(List.getElem?_eq_some_iff.mp g1).1
      have q3:fz il (ret (vr il)) U2=.val (.rt (.lst xs)):=by
       unfold fz ret vr;rw[fr,List.getElem?_set_self hl2];rfl
      dsimp only at q;rw[q3]at q;refine⟨.ref a,g2,q (.ref a) H' (a::Al) (r2.keep.trans msk_sub) (λx hx=>?_) (.l g3 (g5.stay msk_sub (.of msk_sub)) λhm=>?_)⟩
      ·rcases List.mem_cons.mp hx with rfl|hx
       ·right;cases z:H x with
        | none=>rfl
        | some o=>exact absurd ⟨il,g4⟩ (msk_some.mp (r2.keep x o z)).1
       ·exact(g6 x hx).symm
      ·obtain⟨vs,z⟩:=g5.lists a hm;exact(msk_some.mp z).1 ⟨il,g4⟩
     | _=>exact q.elim
end
section
variable {P:Program} {w:World} {K:Frag} {mg:Str->Option Value} {base:Heap} {C:Addr}
theorem B4 {qual:Str} {f:Addr} {fd:FuncData} {N ps:List Str} {lv il ib:Nat} {den:Rho->R Out} (F:Fun K x qual st f fd) (sc:ay N ps (aj st)) (hil:il<N.length) (hib:ib<ps.length)
  (hb:∀(cdv:Value) (A:Around) (outer:List Env) (s:Shared) (H:Hp) (E:XK),Room lv (A.deeper (envOfC qual (aj st) s.heap.objs.size f cdv)) ->
   PSs (gi CX0 P w K mg base N qual (aj st) f cdv A outer s H E).nox (bY st) (tsW C (gi CX0 P w K mg base N qual (aj st) f cdv A outer s H E).nox il ib k den)) :
  FnOk P w K mg base CX0 (lv+1) f fd ps (spW K C ps.length ib k λds=>fin (den (st0 N ds))):=by
 refine F.ok sc (λvs H Q E h=>h.1) (λcdv A outer s H vs Q E hr h=>⟨_,hb cdv A outer s H E hr,?_⟩);obtain⟨hl,ds,v,d,A1,h,e1,e2,tr,q⟩:=h;obtain⟨β,eβ,r⟩:=k_ (N:=N) h;cases tr with
 | @l _ b us xs A2 g1 g2 g3 =>
  refine⟨β,b,xs,b::A2,r,?_,?_,?_,.l g1 g2 g3,by rw[eβ];exact q⟩
  ·rw[eβ];unfold st0;rw[List.length_append,List.length_map,List.length_replicate];omega
  ·rw[eβ];unfold st0;have hi:=(List.getElem?_eq_some_iff.mp e2).1;rw[List.getElem?_append_left (by simpa using hi),List.getElem?_map,e2];rfl
  ·unfold L2.start;have hi:=(List.getElem?_eq_some_iff.mp e1).1;rw[List.getElem?_append_left (by simpa using hi),List.getElem?_map,e1];rfl
end
def rdA:List Nat->Rho->R (List D)
 | []=>aN
 | j::js=>aC (va j) (rdA js)
theorem yk:∀{js:List Nat} {U:Rho} {ds:List D} {m j:Nat},rdA js U=.val ds->js[m]?=some j->∃d,va j U=.val d/\ds[m]?=some d
 | [],U,ds,m,j,_,e=>by simp at e
 | j'::js,U,ds,m,j,h,e=>by
  unfold rdA aC at h;cases ev:va j' U with
  | exc c=>rw[ev]at h;cases h
  | bad=>rw[ev]at h;cases h
  | val d =>
   cases eF:rdA js U with
   | exc c=>rw[ev,eF]at h;cases h
   | bad=>rw[ev,eF]at h;cases h
   | val ds' =>
    rw[ev,eF]at h;cases h;cases m with
    | zero=>cases e;exact⟨d,ev,rfl⟩
    | succ m=>exact yk (js:=js) (ds:=ds') (m:=m) eF e
section
variable (C:Addr) (X:Cx)
def AW (es:List Expr) (js:List Nat):Prop:=PA X es (λO H Q=>∃U:RB,(∃H0,bP C X H0 U O H)/\match rdA js U with
 | .val ds=>∀vs,HasL X.K C H vs ds->vs.length=js.length->(∀(m j:Nat),js[m]?=some j->∃v,O[j]?=some (some v)/\vs[m]?=some v)->Q vs H
 | _=>False)
end
section
variable {C:Addr} {X:Cx}
theorem CM (r:bP C X H0 U O H) (h:va j U.rho=.val d):∃v,O[j]?=some (some v)/\Has X.K C H v d:=by
 unfold va at h;split at h
 ·rename_i d' e;cases h;obtain⟨v,e1,h1⟩:=r.at_ j _ e;exact⟨v,e1,h1.mono msk_sub⟩
 ·rename_i xs e;cases h;obtain⟨a,vs,e1,_,h1,h2⟩:=r.at_ j _ e;exact⟨_,e1,.lst h1 (h2.mono msk_sub)⟩
 ·rename_i k' d' e;cases h;obtain⟨v,B,e1,_,h1⟩:=r.at_ j _ e;exact⟨v,e1,h1.has msk_sub⟩
 ·cases h
theorem Et:AW C X [] []:=ju bU λO H Q yy=>by
 obtain⟨U,r,q⟩:=yy;exact q [] .nil rfl λm j e=>by simp at e
theorem jC {js:List Nat} (hv:PE X (.Name x p) (df j)) (h:AW C X es js) (hst:starEach (.Name x p::es) X.env=(false,eval (.Name x p) X.env)::starEach es X.env:=by rfl):AW C X (.Name x p::es) (j::js) :=
 ju (bu hv h hst) λO H Q yy=>by
  obtain⟨U,⟨H0,r⟩,q⟩:=yy;unfold rdA aC at q;cases ev:va j U.rho with
  | exc c=>rw[ev]at q;exact q.elim
  | bad=>rw[ev]at q;exact q.elim
  | val d =>
   rw[ev]at q;obtain⟨v,e1,h1⟩:=CM r ev;refine⟨v,e1,U,⟨H0,r⟩,?_⟩;cases eF:rdA js U.rho with
   | exc c=>rw[eF]at q;exact q.elim
   | bad=>rw[eF]at q;exact q.elim
   | val ds =>
    rw[eF]at q;intro vs hs hl hj;refine q (v::vs) (.cons h1 hs) (by rw[List.length_cons,List.length_cons,hl]) λm j' e=>?_;cases m with
    | zero=>cases e;exact⟨v,e1,rfl⟩
    | succ m=>exact hj m j' e
end
def mvW (i p n:Nat) (k:OK) (js:List Nat) (den:List D->R D):Rho->R Out:=λU=>match U[i]?,rdA js U with
 | some (some (.tre k' d)),.val ds=>if k'=.l k/\js[p]?=some i/\ds.length=n then(match den ds with
  | .val x=>if cn (.l k) x=true then .val (.nx (U.set i (some (.tre (.l k) x))))else .bad
  | _=>.bad)else .bad
 | _,_=>.bad
section
variable {C:Addr} {X:Cx}
theorem AF {p lv:Nat} {y:Str} {py pos':Pos} {e:Expr} {js:List Nat} {den:List D->R D} (F:FnW X.prog X.w X.K X.mg X.base C lv y n p k den) (hr:Room lv X.A) (hg:Gl X y) (hN:X.N.Nodup) (hi:X.N[i]?=some x) (hx:Loc X.env.scope x) (ha:AW C X (e::es) js)
  (hdb:(y==("__debug__":Str))=false:=by decide) (he:starEach (e::es) X.env=(false,eval e X.env)::starEach es X.env:=by rfl) (hpl:(backTo cp (starEach es X.env)).any (·.1)=false:=by rfl)
  (hsw:swapsWith (.Call (.Name y py) (e::es) [] cp) (some (.Name x pos')) pos.line X.env=pure false:=by rfl)
  (hf:X.fn x=true\/X.env.scope.names.lookup x=some .local:=by first|exact .inl rfl|exact .inr rfl|assumption) :
  SD C X (.Assign [.Name x pos'] (.Call (.Name y py) (e::es) [] cp) pos) (mvW i p n k js den):=by
 obtain⟨f,fd,ps,hF,hm,hk,hb⟩:=F;have call:PE X (.Call (.Name y py) (e::es) [] cp) (λO H Q=>∃(U:RB) (H0:Hp),bP C X H0 U O H/\∃ds d xd,U.rho[i]?=some (some (.tre (.l k) d))/\rdA js U.rho=.val ds/\js[p]?=some i/\ds[p]?=some d/\ds.length=n/\den ds=.val xd/\∀v H' A',Same H H'->(∀a∈A',a∈U.ad i\/H a=none)->Tre X.K C H' H' (.l k) v xd A'->Q v H'):=by
  rintro pins s O H Q I ⟨U,H0,r,ds,d,xd,ei,eF,ej,ed,hl,eden,q⟩;refine wpAny_Call_Name_kw (gx I hg hm ?_ hdb);refine callWith_K (h₀:=X.base) I.ok.mod.kin hk (thn (ha cp pins s O H (λvs H1=>H1=H/\HasL X.K C H vs ds/\vs.length=js.length/\∀(m j:Nat),js[m]?=some j->∃v,O[j]?=some (some v)/\vs[m]?=some v) I ⟨U,⟨H0,r⟩,by
   rw[eF];exact λvs h1 h2 h3=>⟨rfl,h1,h2,h3⟩⟩) λus s1 yy=>?_) he hpl
  obtain⟨vs,H1,I1,rv,rfl,h1,h2,h3⟩:=yy;refine⟨I1.kIn,?_⟩;obtain⟨v0,B0,g1,g2,g3⟩:=r.at_ i _ ei;obtain⟨v1,g4,g5⟩:=h3 p i ej;rw[g1]at g4;cases g4;refine thn (kZ (E:=E0) (Q:=λu M'=>∃A',Same H1 M'/\(∀a∈A',a∈U.ad i\/H1 a=none)/\Tre X.K C M' M' (.l k) u xd A') hF hr hb .nil nj I1 rv ?_) λu s2 yy=>?_
  ·rw[List.append_nil];refine⟨h1.len.trans hl,ds,v0,d,B0,h1,g5,ed,g3.stay msk_sub (.of (Same.refl _)),?_⟩;rw[eden];exact λv' H' A' s' hA ht=>⟨A',s',λa hm=>(hA a hm).imp (g2 a) id,ht⟩
  ·obtain⟨u',M',J2,ru,A',s',hA,ht⟩:=yy;exact⟨u',M',J2,ru,q u' M' A' s' hA ht⟩
 refine aW (j0 hN hi hx call hsw hf) λD O H yy=>?_;obtain⟨_,H0,⟨U,rfl,r⟩,q⟩:=yy;unfold mvW at q;split at q
 ·rename_i k' d ds ei eF;split at q
  ·rename_i hc;obtain⟨rfl,ej,hl⟩:=hc;have ed:ds[p]?=some d:=by
    obtain⟨d',z1,z2⟩:=yk eF ej;unfold va at z1;rw[ei]at z1;cases z1;exact z2
   split at q
   ·rename_i xd eden;split at q
    ·rename_i hfl;refine⟨U,H0,r,ds,d,xd,ei,eF,ej,ed,hl,eden,λv H' A' s hA ht=>q _ _ ⟨U.put i (.tre (.l k) xd) A',rfl,?_⟩⟩;exact r.put (sl:=.tre (.l k) xd) (A:=A') j9 (λj hj=>List.getElem?_set_ne λz=>hj z.symm) hA (λj _=>.of s) (λb o z=>s b o (msk_some.mp z).2) (λa ha=>.inl (ht.lists a ha)) λhi2 _=>⟨v,A',jW (by rw[<- r.len];exact hi2),λa ha=>ha,ht.remask hfl⟩
    ·exact q.elim
   ·exact q.elim
  ·exact q.elim
 ·exact q.elim
end
def sH (c:Int):D->D
 | .lst xs=>.lst (xs++[.int c])
 | d=>d
def rOk:D->Bool
 | .lst xs=>decide (xs.length<LIM)
 | _=>false
def rwA (i j:Nat) (c:Int) (P:Rho->R (List Nat)):Rho->R Out:=λU=>(P U).bind λpp=>match U[i]? with
 | some (some (.tre k d))=>if i≠j/\j<U.length/\gF k pp=some (.l (.l .s))then(match gn d pp with
  | some (.lst rows)=>if rows.all rOk=true then .val (.nx ((U.set j none).set i (some (.tre k (fR d pp (.lst (rows.map (sH c))))))))else .bad
  | _=>.bad)else .bad
 | _=>.bad
def apH (S:List Addr) (x:V) (H:Hp):Hp:=λb=>if b∈S then(match H b with
 | some (.lst vs)=>some (.lst (vs++[x]))
 | o=>o)else H b
variable {S:List Addr}
section
variable {K:Frag} {C:Addr} {H H' M M':Hp}
theorem mS {x:V} {b:Addr} (h:b∉S):apH S x H b=H b:=by unfold apH;rw[if_neg h]
theorem vm {x:V} {b:Addr} {vs:List V} (h:b∈S) (e:H b=some (.lst vs)):apH S x H b=some (.lst (vs++[x])):=by
 unfold apH;rw[if_pos h,e]
theorem Af {x:V} {a:Addr} {vs:List V} (h:a∉S) (e:H a=some (.lst vs)):upd (apH S x H) a (.lst (vs++[x]))=apH (S++[a]) x H:=by
 funext b
 by_cases hb:b=a
 ·subst hb;rw[aF,vm (by simp) e]
 ·rw[aw hb];unfold apH;by_cases hs:b∈S
  ·rw[if_pos hs,if_pos (List.mem_append_left _ hs)]
  ·rw[if_neg hs,if_neg λz=>by
    rcases List.mem_append.mp z with z|z
    ·exact hs z
    ·exact hb (List.mem_singleton.mp z)]
theorem sg:∀{cs:List V} {rows:List D} {A:List Addr},TreP K C M H (cs.map λ_=>OK.l .s) cs rows A->cs=A.map V.ref/\A.Nodup/\∀(m:Nat) a,A[m]?=some a->∃vs xs,H a=some (.lst vs)/\rows[m]?=some (.lst xs)/\vs.length=xs.length
 | [],_,_,h=>by cases h;exact⟨rfl,List.nodup_nil,λm a e=>by simp at e⟩
 | v::cs,_,_,h=>by
  cases h with
  | @cons _ _ _ _ d ds A1 A2 h t n =>
   cases h with
   | @l _ a vs xs A3 e1 hp ne =>
    obtain⟨rfl,hh⟩:=hp.flat;obtain⟨r1,r2,r3⟩:=sg t;refine⟨by rw[r1];rfl,List.nodup_cons.mpr ⟨λz=>n a (by simp) z,r2⟩,λm a' e=>?_⟩;cases m with
    | zero=>cases e;exact⟨vs,xs,e1,rfl,hh.len⟩
    | succ m=>exact r3 m a' e
theorem vx {c:Int} (hM:Same M M'):∀{cs:List V} {rows:List D} {A:List Addr},TreP K C M H (cs.map λ_=>OK.l .s) cs rows A->(∀a∈A,∀vs,H a=some (.lst vs)->H' a=some (.lst (vs++[.int c])))->TreP K C M' H' (cs.map λ_=>OK.l .s) cs (rows.map (sH c)) A
 | [],_,_,h,_=>by cases h;exact .nil
 | v::cs,_,_,h,hH=>by
  cases h with
  | @cons _ _ _ _ d ds A1 A2 h t n =>
   cases h with
   | @l _ a vs xs A3 e1 hp ne =>
    obtain⟨rfl,hh⟩:=hp.flat;refine .cons (A:=[a]) (B:=A2) (.l (hH a (by simp) vs e1) (TreP.of ((hh.mono hM).app (.cons (.int c) .nil))) List.not_mem_nil) (vx hM t λb hb=>hH b (List.mem_append_right _ hb)) n
theorem Rel.anyS {σ':St} (r:Rel K C H0 (U.del j) O H) (hl:σ'.length=O.length) (ho:∀l:Nat,l≠j->σ'[l]?=O[l]?):Rel K C H0 (U.del j) σ' H:=by
 refine⟨r.len.trans hl.symm,r.keep,λm sl e=>?_,r.inj,r.kin,r.bnd⟩;have hm:m≠j:=λz=>by
  subst z;have e:(U.rho.set m none)[m]?=some (some sl):=e;rw[List.getElem?_set]at e;simp only[if_true]at e;split at e<;>cases e
 rw[ho m hm];exact r.at_ m sl e
end
section
variable {C:Addr} {X:Cx}
theorem AI {c:Int} {o:Expr} {row:Str} {pr cpos fpos:Pos} {cj} (hp:PassesOwn (model X.prog X.w) X.A X.env X.xe) (hc:X.calm=true) (ho:ND C X i o P) (hg:PG X (.Name row pr) (gy j)) (hv:PE X (.Name row p) (df j))
  (hs:∀{to:TE} {t:TA},PE X (.Name row p) to->PA X [.Constant (.int c) cj cpos] t->PS X (.Expr (.Call (.Attribute (.Name row p) "append" ap) [.Constant (.int c) cj cpos] [] cp) pos) (jK (tBM X.K "list" kg to t)):=by
   exact λho ha=>gw (nh PySem.F.plainAttrs_list PySem.F.slot_list_append PySem.F.type_list_append gT ho ha))
  (hst:starEach [.Constant (.int c) cj cpos] X.env=(false,eval (.Constant (.int c) cj cpos) X.env)::starEach [] X.env:=by rfl)
  (hsf:∀x,foldedSetIterable o X.env x=pure x:=by intro _;rfl) :
  SD C X (.For (.Name row pr) o [.Expr (.Call (.Attribute (.Name row p) "append" ap) [.Constant (.int c) cj cpos] [] cp) pos] [] fpos) (rwA i j c P) :=
 aW (lf hp hc (uD ho) hg (cz (hs hv (bu yH bU hst))) hsf) λD O H yy=>by
  obtain⟨_,H0,⟨U,rfl,r⟩,q⟩:=yy;refine⟨U,⟨H0,r⟩,?_⟩;unfold rwA at q;cases eP:P U.rho with
  | exc c=>rw[eP]at q;exact cW r q
  | bad=>rw[eP]at q;exact q.elim
  | val pp =>
   rw[eP]at q;dsimp only[DL.R.bind]at q;intro v w H1 e1 s1 rc;split at q
   ·rename_i k d ei;split at q
    ·rename_i hcnd;obtain⟨hij,hjl,ek⟩:=hcnd;split at q
     ·rename_i rows ed;split at q
      ·rename_i hok;have r1:=r.mono s1;obtain⟨v0,B,e2,hB,ht⟩:=r1.at_ i _ ei;rw[e1]at e2;cases e2;obtain⟨v',A1,h1,sA,rc0,up⟩:=ht.path ed ek;have:=Reach.det rc0 rc;subst this;cases h1 with
       | @l _ b cs _ A0 hb tp nb =>
        obtain⟨t1,t2,t3⟩:=sg tp;have jσ:j<O.length:=by rw[<- r.len];exact hjl
        have inI:∀x∈b::A0,x∈U.ad i:=λx hx=>hB x (sA x hx);have lenA:cs.length=A0.length:=by rw[t1,List.length_map]
        refine⟨b,rfl,.inl ⟨⟨cs,SqL.of hb⟩,?_⟩⟩;refine nX (xs:=cs) (λm σ' H'=>H'=apH (A0.take m) (.int c) H1/\σ'.length=O.length/\∀l:Nat,l≠j->σ'[l]?=O[l]?) ⟨?_,rfl,λ_ _=>rfl⟩ (λm σ' H' _ z=>?_) (λm x σ' H' hx z=>?_) (λσ' H' z=>?_)
        ·rw[List.take_zero]
         funext a
         rw[mS List.not_mem_nil]
        ·rw[z.1];exact SqL.of (by rw[mS λhm=>nb (List.mem_of_mem_take hm)];exact hb)
        ·obtain⟨rfl,z2,z3⟩:=z;have hm:m<A0.length:=by
          have:=(List.getElem?_eq_some_iff.mp hx).1;omega
         have ea:A0[m]?=some A0[m]:=List.getElem?_eq_getElem hm;obtain⟨vs,xs,g1,g2,g3⟩:=t3 m _ ea;have ex:x=.ref A0[m]:=by
          rw[t1,List.getElem?_map,ea]at hx;exact(Option.some.inj hx).symm
         subst ex;have nm:A0[m]∉A0.take m:=λz=>by
          obtain⟨l,hl,e⟩:=List.mem_iff_getElem.mp z;rw[List.getElem_take]at e;have hl':l<m:=by
           rw[List.length_take]at hl;omega
          have lt:l<A0.length:=by omega
          have:=List.pairwise_iff_getElem.mp t2 l m lt hm hl';exact this e
         have hH:apH (A0.take m) (.int c) H1 A0[m]=some (.lst vs):=by rw[mS nm];exact g1
         have rl:xs.length<LIM:=by
          have:=List.all_eq_true.mp hok _ (List.mem_of_getElem? g2);exact of_decide_eq_true this
         refine⟨.ref A0[m],jW (by rw[z2];exact jσ),.inl ⟨rfl,_,SqL.of hH⟩,A0[m],vs,.int c,rfl,rfl,hH,by rw[g3];exact Nat.lt_of_lt_of_le rl (by decide),?_,by rw[List.length_set];exact z2,λl hl=>?_⟩
         ·rw[Af nm g1,List.take_succ,ea];rfl
         ·rw[List.getElem?_set_ne λz=>hl z.symm];exact z3 l hl
        ·obtain⟨rfl,z2,z3⟩:=z;rw[lenA,List.take_length];refine q _ _ ⟨(U.del j).put i (.tre k (fR d pp (.lst (rows.map (sH c))))) (U.ad i),rfl,?_⟩;have rd:=(r1.forget j).anyS z2 z3;have keepS:∀a,a∉A0->apH A0 (.int c) H1 a=H1 a:=λa ha=>mS ha;have adi:(U.del j).ad i=U.ad i:=kJ λz=>hij z;refine rd.put (i:=i) (sl:=.tre k (fR d pp (.lst (rows.map (sH c))))) (A:=U.ad i) rfl (λ_ _=>rfl) (λa ha=>.inl (by rw[adi];exact ha)) (λl hl=>⟨λa ha o e=>?_,λa us e=>?_⟩) (λa o e=>?_) (λa ha=>?_) λhi sub=>?_
         ·rw[keepS a λhm=>hl (rd.inj l i a ha (by rw[adi];exact inI a (List.mem_cons_of_mem _ hm)))];exact e
         ·rw[keepS a λhm=>?_]
          ·exact e
          ·obtain⟨us',z⟩:=tp.lists a hm;rw[e]at z;cases z
         ·obtain⟨g1,g2⟩:=msk_some.mp e;rw[keepS a λhm=>g1 ⟨i,by rw[adi];exact inI a (List.mem_cons_of_mem _ hm)⟩];exact g2
         ·by_cases hm:a∈A0
          ·obtain⟨us,z⟩:=tp.lists a hm;exact .inl ⟨_,vm hm z⟩
          ·rw[keepS a hm];exact r1.kin i a ha
         ·have mm:Same (msk U O H1) (msk ((U.del j).put i (.tre k (fR d pp (.lst (rows.map (sH c))))) (U.ad i)) σ' (apH A0 (.int c) H1)):=λa o e=>sub a o (msk_some.mpr ⟨λw=>by
           obtain⟨l,w⟩:=w;exact(msk_some.mp e).1 ⟨l,(je w).2⟩,(msk_some.mp e).2⟩)
          obtain⟨A',h3,s3⟩:=up (e:=.lst (rows.map (sH c))) (A2:=b::A0) mm ⟨λa ha na o e=>by rw[keepS a λhm=>na (List.mem_cons_of_mem _ hm)];exact e,λa us e=>by
           rw[keepS a λhm=>?_]
           ·exact e
           ·obtain⟨us',z⟩:=tp.lists a hm;rw[e]at z;cases z⟩ (.l (by rw[keepS b nb];exact hb) (vx mm tp λa ha vs e=>vm ha e) nb) λa ha=>.inl ha
          refine⟨v,A',?_,λa ha=>?_,h3⟩
          ·rw[z3 i hij];exact e1
          ·rcases s3 a ha with z|z
           ·exact hB a z
           ·exact inI a z
      ·exact q.elim
     ·exact q.elim
    ·exact q.elim
   ·exact q.elim
end
abbrev sh (d:D):Option Slt:=some (.shr d)
end DL
namespace DL
theorem Ap {i il:Nat} (h:i≠il):∀(d:D) (U U':Rho),tgN i d U=some U'->U'[il]?=U[il]?:=λd U U' e=>by
 unfold tgN at e;cases e;exact List.getElem?_set_ne h
end DL
namespace Ar
abbrev Arr:=Nat×Nat×List Nat
def Ok (sz:List Nat) (x:Arr):Prop:=∃n m,sz[x.1]?=some n/\sz[x.2.1]?=some m/\x.2.2.length=n/\∀y∈x.2.2,y<m
def comp (x y:Arr):Arr:=(x.1,y.2.1,x.2.2.map λi=>y.2.2.getD i 0)
def idm (sz:List Nat) (b:Nat):Arr:=(b,b,List.range (sz.getD b 0))
def funs:Nat->Nat->List (List Nat)
 | 0,_=>[[]]
 | n+1,m=>(List.range m).flatMap λy=>(funs n m).map λl=>y::l
theorem tD:∀{l:List Nat} {m:Nat},(∀y∈l,y<m)->l∈funs l.length m
 | [],m,_=>by simp[funs]
 | y::l,m,h=>by
  have h1:y<m:=h y (by simp);have h2:l∈funs l.length m:=tD λz hz=>h z (by simp[hz]);show y::l∈funs (l.length+1) m;simp only[funs,List.mem_flatMap,List.mem_map,List.mem_range];exact⟨y,h1,l,h2,rfl⟩
def CN (sz:List Nat):List Arr:=(List.range sz.length).flatMap λa=>(List.range sz.length).flatMap λb=>(funs (sz.getD a 0) (sz.getD b 0)).map λf=>(a,b,f)
theorem tz {sz:List Nat} {x:Arr} (h:Ok sz x):x∈CN sz:=by
 obtain⟨a,b,f⟩:=x;obtain⟨n,m,h1,h2,h3,h4⟩:=h;have ha:a<sz.length:=(List.getElem?_eq_some_iff.mp h1).1;have hb:b<sz.length:=(List.getElem?_eq_some_iff.mp h2).1;simp only[CN,List.mem_flatMap,List.mem_map,List.mem_range];refine⟨a,ha,b,hb,f,?_,rfl⟩;have e1:sz.getD a 0=n:=by simp only[List.getD,h1];rfl
 have e2:sz.getD b 0=m:=by simp only[List.getD,h2];rfl
 rw[e1,e2,<- h3];exact tD h4
theorem gH {Y:Type} [DecidableEq Y]:∀{l u:List Y},l.Nodup->(∀x∈l,x∈u)->l.length<=u.length
 | [],_,_,_=>by simp
 | x::l,u,nd,h=>by
  obtain⟨h1,h2⟩:=List.nodup_cons.mp nd;have hx:x∈u:=h x (by simp);have hl:l.length<=(u.erase x).length:=gH h2 λy hy=>by
   have:y≠x:=λe=>h1 (e▸hy);exact(List.mem_erase_of_ne this).mpr (h y (by simp[hy]))
  rw[List.length_erase_of_mem hx]at hl;have:0<u.length:=List.length_pos_of_mem hx;simp only[List.length_cons];omega
def szs:List (List Nat):=[[1],[1,1],[1,1,1],[1,1,1,1],[1,2],[2,1],[2,2],[0,2],[2],[3],[1,1,2],[0,1,2],[1,2,2],[2,1,0]]
theorem so:∀sz∈szs,(CN sz).length<=27:=by decide +kernel
theorem fB:∀sz∈szs,1<=sz.length/\sz.length<=4/\∀n∈sz,n<=3:=by decide +kernel
def pH (kn:List Arr) (x:Arr):List Arr:=if x∈kn then kn else kn++[x]
def iT (kn:List Arr) (f s:Arr):List Arr:=if f.2.1=s.1 then pH kn (comp f s)else kn
def kT (k:Arr) (kn:List Arr) (o:Arr):List Arr:=iT (iT kn k o) o k
def qP (k:Arr) (kn snap:List Arr):List Arr:=snap.foldl (kT k) kn
theorem ub (kn:List Arr) (x:Arr):kn <+: pH kn x:=by
 unfold pH;split
 ·exact List.prefix_refl _
 ·exact List.prefix_append _ _
theorem Ag (kn:List Arr) (x:Arr):x∈pH kn x:=by
 unfold pH;split
 ·assumption
 ·simp
theorem kW (kn:List Arr) (f s:Arr):kn <+: iT kn f s:=by
 unfold iT;split
 ·exact ub _ _
 ·exact List.prefix_refl _
theorem se (k:Arr) (kn:List Arr) (o:Arr):kn <+: kT k kn o:=(kW kn k o).trans (kW _ o k)
theorem iW (k:Arr):∀(snap kn:List Arr),kn <+: qP k kn snap
 | [],kn=>List.prefix_refl _
 | o::r,kn=>(se k kn o).trans (iW k r _)
structure Kn (sz:List Nat) (kn:List Arr):Prop where
 nd:kn.Nodup
 ok:∀x∈kn,Ok sz x
theorem B7 {sz:List Nat} {x y:Arr} (hx:Ok sz x) (hy:Ok sz y) (e:x.2.1=y.1):Ok sz (comp x y):=by
 obtain⟨n,m,h1,h2,h3,h4⟩:=hx;obtain⟨n',m',g1,g2,g3,g4⟩:=hy;refine⟨n,m',h1,g2,by simp[comp,h3],λz hz=>?_⟩;simp only[comp,List.mem_map]at hz;obtain⟨i,hi,rfl⟩:=hz;have hm:m=n':=by rw[e]at h2;rw[h2]at g1;exact Option.some.inj g1
 have:i<y.2.2.length:=by rw[g3,<- hm];exact h4 i hi
 have e3:y.2.2.getD i 0=y.2.2[i]:=by simp[List.getD,List.getElem?_eq_getElem this]
 rw[e3];exact g4 _ (List.getElem_mem this)
theorem wP {sz kn x} (h:Kn sz kn) (hx:Ok sz x):Kn sz (pH kn x):=by
 unfold pH;split
 ·exact h
 ·rename_i hn;refine⟨?_,λy hy=>?_⟩
  ·rw[List.nodup_append];refine⟨h.nd,by simp,λa ha b hb=>?_⟩;simp at hb;subst hb;exact λe=>hn (e▸ha)
  ·rcases List.mem_append.mp hy with q|q
   ·exact h.ok y q
   ·simp at q;subst q;exact hx
theorem mZ {sz kn f s} (h:Kn sz kn) (hf:Ok sz f) (hs:Ok sz s):Kn sz (iT kn f s):=by
 unfold iT;split
 ·exact wP h (B7 hf hs ‹_›)
 ·exact h
theorem vw {sz k kn o} (h:Kn sz kn) (hk:Ok sz k) (ho:Ok sz o):Kn sz (kT k kn o):=mZ (mZ h hk ho) ho hk
theorem vY {sz k} (hk:Ok sz k):∀{snap kn:List Arr},Kn sz kn->(∀o∈snap,Ok sz o)->Kn sz (qP k kn snap)
 | [],kn,h,_=>h
 | o::r,kn,h,hs=>vY hk (snap:=r) (vw h hk (hs o (by simp))) λq hq=>hs q (by simp[hq])
theorem pU {kn f s} (e:f.2.1=s.1):comp f s∈iT kn f s:=by
 unfold iT;rw[if_pos e];exact Ag _ _
theorem xR {k kn o}:(k.2.1=o.1->comp k o∈kT k kn o)/\(o.2.1=k.1->comp o k∈kT k kn o) :=
 ⟨λe=>(kW _ o k).subset (pU e),λe=>pU e⟩
theorem ni {k}:∀{snap kn:List Arr} {o:Arr},o∈snap->(k.2.1=o.1->comp k o∈qP k kn snap)/\(o.2.1=k.1->comp o k∈qP k kn snap)
 | q::r,kn,o,h=>by
  rcases List.mem_cons.mp h with e|h
  ·subst e;have t:=xR (k:=k) (kn:=kn) (o:=o);exact⟨λe=>(iW k r _).subset (t.1 e),λe=>(iW k r _).subset (t.2 e)⟩
  ·exact ni (snap:=r) (kn:=kT k kn q) h
def Cl (kn:List Arr) (n:Nat):Prop:=∀i j x y,i<n->j<n->kn[i]?=some x->kn[j]?=some y->x.2.1=y.1->comp x y∈kn
theorem vS {Y:Type} {l l':List Y} (h:l <+: l') {i:Nat} {x:Y} (e:l[i]?=some x):l'[i]?=some x:=by
 obtain⟨t,rfl⟩:=h;rw[List.getElem?_append_left (List.getElem?_eq_some_iff.mp e).1];exact e
theorem A_ {kn:List Arr} {n:Nat} {k:Arr} (h:Cl kn n) (hk:kn[n]?=some k):Cl (qP k kn kn) (n+1):=by
 have pre:=iW k kn kn;have hn:n<kn.length:=(List.getElem?_eq_some_iff.mp hk).1;have back:∀{i x},i<n+1->(qP k kn kn)[i]?=some x->kn[i]?=some x:=λ{i x} hi e=>by
  have hl:i<kn.length:=by omega
  have:kn[i]?=some kn[i]:=by simp[hl]
  rw[vS pre this]at e;rw[this];exact e
 intro i j x y hi hj hx hy e;have hx':=back hi hx;have hy':=back hj hy;by_cases ei:i=n
 ·subst ei;rw[hk]at hx';cases hx';exact(ni (List.mem_of_getElem? hy')).1 e
 ·by_cases ej:j=n
  ·subst ej;rw[hk]at hy';cases hy';exact(ni (List.mem_of_getElem? hx')).2 e
  ·exact pre.subset (h i j x y (by omega) (by omega) hx' hy' e)
theorem Ep {kn:List Arr} (h:Cl kn kn.length):∀x∈kn,∀y∈kn,x.2.1=y.1->comp x y∈kn:=by
 intro x hx y hy e;obtain⟨i,hi,rfl⟩:=List.mem_iff_getElem.mp hx;obtain⟨j,hj,rfl⟩:=List.mem_iff_getElem.mp hy;exact h i j _ _ hi hj (by simp[hi]) (by simp[hj]) e
structure Good (sz:List Nat) (kn:List Arr):Prop where
 szm:sz∈szs
 nd:kn.Nodup
 ok:∀x∈kn,Ok sz x
 rest:∀b,b<sz.length->idm sz b∈kn
 cl:∀x∈kn,∀y∈kn,x.2.1=y.1->comp x y∈kn
theorem Good.few {sz kn} (g:Good sz kn):kn.length<=27 :=
 Nat.le_trans (gH g.nd λx hx=>tz (g.ok x hx)) (so sz g.szm)
theorem Good.perm {sz kn kn'} (g:Good sz kn) (p:kn'.Perm kn):Good sz kn' :=
 ⟨g.szm,p.nodup_iff.mpr g.nd,λx hx=>g.ok x (p.mem_iff.mp hx),λb hb=>p.mem_iff.mpr (g.rest b hb),λx hx y hy e=>p.mem_iff.mpr (g.cl x (p.mem_iff.mp hx) y (p.mem_iff.mp hy) e)⟩
end Ar
namespace Ar
theorem ar {Y:Type} {l:List Y} {i:Nat} {d:Y} (h:i<l.length):l.getD i d=l[i]:=by
 rw[List.getD_eq_getElem?_getD,List.getElem?_eq_getElem h];rfl
structure a_ (en:List (Nat×Nat)) (re:List Nat) (tb:List (List Int)):Prop where
 nb1:1<=re.length
 nb6:re.length<=6
 na1:1<=en.length
 na40:en.length<=40
 eb:∀i,i<en.length->(en.getD i (0,0)).1<re.length/\(en.getD i (0,0)).2<re.length
 rs:∀b,b<re.length->re.getD b 0<en.length/\en.getD (re.getD b 0) (0,0)=(b,b)
 tl:tb.length=en.length
 rl:∀i,i<en.length->(tb.getD i []).length=en.length
 tp:∀i j,i<en.length->j<en.length->(en.getD i (0,0)).2=(en.getD j (0,0)).1 ->
  ∃k,k<en.length/\(tb.getD i []).getD j (-1)=(k:Int)/\en.getD k (0,0)=((en.getD i (0,0)).1,(en.getD j (0,0)).2)
 tn:∀i j,i<en.length->j<en.length->(en.getD i (0,0)).2≠(en.getD j (0,0)).1->(tb.getD i []).getD j (-1)=-1
 ul:∀i,i<en.length->(tb.getD (re.getD (en.getD i (0,0)).1 0) []).getD i (-1)=(i:Int)
 ur:∀i,i<en.length->(tb.getD i []).getD (re.getD (en.getD i (0,0)).2 0) (-1)=(i:Int)
 as:∀i j k x y:Nat,i<en.length->j<en.length->k<en.length->(tb.getD i []).getD j (-1)=(x:Int)->(tb.getD j []).getD k (-1)=(y:Int) ->
  (tb.getD x []).getD k (-1)=(tb.getD i []).getD y (-1)
def bV (kn:List Arr):List (Nat×Nat):=kn.map λx=>(x.1,x.2.1)
def bS (sz:List Nat) (kn:List Arr):List Nat:=(List.range sz.length).map λb=>kn.idxOf (idm sz b)
def mk (kn:List Arr) (x y:Arr):Int:=if x.2.1=y.1 then(kn.idxOf (comp x y):Int)else -1
def dX (kn:List Arr):List (List Int):=kn.map λx=>kn.map λy=>mk kn x y
theorem vg {sz:List Nat} {x y z:Arr} (hx:Ok sz x) (hy:Ok sz y) (hz:Ok sz z) (e:x.2.1=y.1) (e':y.2.1=z.1):comp (comp x y) z=comp x (comp y z):=by
 obtain⟨n,m,h1,h2,h3,h4⟩:=hx;obtain⟨n',m',g1,g2,g3,g4⟩:=hy;have hm:m=n':=by rw[e]at h2;rw[h2]at g1;exact Option.some.inj g1
 simp only[comp,List.map_map,Prod.mk.injEq,true_and];refine List.map_congr_left λi hi=>?_;have hl:i<y.2.2.length:=by rw[g3,<- hm];exact h4 i hi
 simp only[Function.comp,List.getD_eq_getElem?_getD,List.getElem?_map];rw[List.getElem?_eq_getElem hl];simp
theorem nL (l:List Nat):(List.range l.length).map (λi=>l.getD i 0)=l:=by
 apply List.ext_getElem
 ·simp
 ·intro i h1 h2;simp only[List.getElem_map,List.getElem_range];exact ar h2
theorem zZ {sz:List Nat} {x:Arr} (hx:Ok sz x):comp (idm sz x.1) x=x:=by
 obtain⟨n,m,h1,h2,h3,h4⟩:=hx;have e:sz.getD x.1 0=x.2.2.length:=by rw[List.getD_eq_getElem?_getD,h1,h3];rfl
 simp only[comp,idm,e,nL]
theorem zY {sz:List Nat} {x:Arr} (hx:Ok sz x):comp x (idm sz x.2.1)=x:=by
 obtain⟨n,m,h1,h2,h3,h4⟩:=hx;have e:sz.getD x.2.1 0=m:=by rw[List.getD_eq_getElem?_getD,h2];rfl
 have:(x.2.2.map λi=>(List.range m).getD i 0)=x.2.2:=by
  conv=>rhs;rw[<- List.map_id x.2.2]
  refine List.map_congr_left λi hi=>?_;have:=h4 i hi;rw[ar (by simpa using this)];simp
 simp only[comp,idm,e,this]
section
variable {sz:List Nat} {kn:List Arr}
theorem cL:(bV kn).length=kn.length:=by simp[bV]
theorem gG:(bS sz kn).length=sz.length:=by simp[bS]
theorem fW {i:Nat} (h:i<kn.length):(bV kn).getD i (0,0)=(kn[i].1,kn[i].2.1):=by
 rw[ar (by rw[cL];exact h)];simp[bV]
theorem xT {i:Nat} (h:i<kn.length):(dX kn).getD i []=kn.map λy=>mk kn kn[i] y:=by
 rw[ar (by simp[dX];exact h)];simp[dX]
theorem j8 {i j:Nat} (h:i<kn.length) (h':j<kn.length):((dX kn).getD i []).getD j (-1)=mk kn kn[i] kn[j]:=by
 rw[xT h,ar (by simpa using h')];simp
theorem vN {b:Nat} (h:b<sz.length):(bS sz kn).getD b 0=kn.idxOf (idm sz b):=by
 rw[ar (by rw[gG];exact h)];simp[bS]
theorem sQ {x:Arr} (h:Ok sz x):x.1<sz.length/\x.2.1<sz.length:=by
 obtain⟨n,m,h1,h2,_⟩:=h;exact⟨(List.getElem?_eq_some_iff.mp h1).1,(List.getElem?_eq_some_iff.mp h2).1⟩
theorem i6 {x:Arr} (h:x∈kn):∃hl:kn.idxOf x<kn.length,kn[kn.idxOf x]=x :=
 ⟨List.idxOf_lt_length_of_mem h,List.getElem_idxOf _⟩
theorem uI {x y:Arr} {k:Nat} (h:mk kn x y=(k:Int)):x.2.1=y.1/\k=kn.idxOf (comp x y):=by
 unfold mk at h;split at h
 ·exact⟨‹_›,by omega⟩
 ·omega
theorem rq (g:Good sz kn):a_ (bV kn) (bS sz kn) (dX kn):=by
 have few:=g.few;obtain⟨s1,s4,_⟩:=fB sz g.szm;have okat:∀{i} (h:i<kn.length),Ok sz kn[i]:=λh=>g.ok _ (List.getElem_mem h);have n1:1<=kn.length:=List.length_pos_of_mem (g.rest 0 (by omega));have idn:∀{i} (h:i<kn.length),kn.idxOf kn[i]=i:=λ{i} h=>g.nd.idxOf_getElem i h;refine⟨by rw[gG];exact s1,by rw[gG];omega,by rw[cL];exact n1,by rw[cL];omega,?_,?_,?_,?_,?_,?_,?_,?_,?_⟩
 ·intro i h;rw[cL]at h;rw[fW h,gG];exact sQ (okat h)
 ·intro b h;rw[gG]at h;obtain⟨hl,e⟩:=i6 (g.rest b h);rw[vN h,cL,fW hl,e];exact⟨hl,rfl⟩
 ·simp[dX,cL]
 ·intro i h;rw[cL]at h;rw[xT h,cL];simp
 ·intro i j hi hj e;rw[cL]at hi hj;rw[fW hi,fW hj]at e;obtain⟨hl,ek⟩:=i6 (g.cl _ (List.getElem_mem hi) _ (List.getElem_mem hj) e);refine⟨kn.idxOf (comp kn[i] kn[j]),by rw[cL];exact hl,?_,?_⟩
  ·rw[j8 hi hj,mk,if_pos e]
  ·rw[fW hl,ek,fW hi,fW hj];rfl
 ·intro i j hi hj e;rw[cL]at hi hj;rw[fW hi,fW hj]at e;rw[j8 hi hj,mk,if_neg e]
 ·intro i h;rw[cL]at h;have o:=okat h;obtain⟨hl,e⟩:=i6 (g.rest _ (sQ o).1);rw[fW h,vN (sQ o).1,j8 hl h,e,mk,if_pos (show(idm sz kn[i].1).2.1=kn[i].1 from rfl),zZ o,idn h]
 ·intro i h;rw[cL]at h;have o:=okat h;obtain⟨hl,e⟩:=i6 (g.rest _ (sQ o).2);rw[fW h,vN (sQ o).2,j8 h hl,e,mk,if_pos (show kn[i].2.1=(idm sz kn[i].2.1).1 from rfl),zY o,idn h]
 ·intro i j k x y hi hj hk hx hy;rw[cL]at hi hj hk;rw[j8 hi hj]at hx;rw[j8 hj hk]at hy;obtain⟨e1,rfl⟩:=uI hx;obtain⟨e2,rfl⟩:=uI hy;obtain⟨l1,q1⟩:=i6 (g.cl _ (List.getElem_mem hi) _ (List.getElem_mem hj) e1);obtain⟨l2,q2⟩:=i6 (g.cl _ (List.getElem_mem hj) _ (List.getElem_mem hk) e2);rw[j8 l1 hk,j8 hi l2,q1,q2];have a1:(comp kn[i] kn[j]).2.1=kn[k].1:=e2;have a2:kn[i].2.1=(comp kn[j] kn[k]).1:=e1;rw[mk,mk,if_pos a1,if_pos a2,vg (okat hi) (okat hj) (okat hk) e1 e2]
end
end Ar
namespace Ar
section
variable {en:List (Nat×Nat)} {re:List Nat} {tb:List (List Int)}
end
end Ar
namespace DL
open L2
section
variable {Y β:Type}
@[simp] theorem ac (a:Y) (f:Y->R β):(R.val a).bind f=f a:=Eq.trans rfl rfl
@[simp] theorem mD (a:Y):noE (R.val a)=.val a:=Eq.trans rfl rfl
@[simp] theorem Fj (a:D):noex (R.val a)=.val a:=Eq.trans rfl rfl
end
variable {i j:Int}
section
variable (U:Rho)
@[simp] theorem aL (a b:Rho->R Out):sq a b U=(a U).bind λo=>match o with
 | .nx U'=>b U'
 | o=>.val o:=Eq.trans rfl rfl
@[simp] theorem iX:nxt U=.val (.nx U):=Eq.trans rfl rfl
@[simp] theorem eD (i:Nat) (e:Rho->R D):asg i e U=(e U).bind λd=>.val (.nx (U.set i (some (.shr d)))):=Eq.trans rfl rfl
@[simp] theorem DE (i:Nat) (e:Rho->R (List D)):own i e U=(e U).bind λd=>.val (.nx (U.set i (some (.own d)))):=Eq.trans rfl rfl
@[simp] theorem cK (e:Rho->R D):ret e U=(e U).bind λd=>.val (.rt d):=Eq.trans rfl rfl
@[simp] theorem Eo (e:Rho->R D):drp e U=(e U).bind λ_=>.val (.nx U):=Eq.trans rfl rfl
@[simp] theorem bB (t:Rho->R Bool) (a b:Rho->R Out):DL.iff t a b U=(t U).bind λc=>if c=true then a U else b U:=Eq.trans rfl rfl
@[simp] theorem dW (F:Rho->R D):tst F U=(F U).bind asB:=Eq.trans rfl rfl
@[simp] theorem GW (b:Bool):asB (.bl b)=.val b:=Eq.trans rfl rfl
@[simp] theorem F_ (a b:Rho->R Bool):xD a b U=(a U).bind λx=>if x=true then b U else .val false:=Eq.trans rfl rfl
@[simp] theorem j4 (a b:Rho->R Bool):orB a b U=(a U).bind λx=>if x=true then .val true else b U:=Eq.trans rfl rfl
@[simp] theorem e_ (a:Rho->R Bool):cX a U=(a U).bind λx=>.val (!x):=Eq.trans rfl rfl
@[simp] theorem EF (i:Nat):vr i U=match U[i]? with
 | some (some (.shr d))=>.val d
 | _=>.bad:=Eq.trans rfl rfl
@[simp] theorem EG (i:Nat):vb i U=match U[i]? with
 | some (some (.shr d))=>.val d
 | some (some (.own xs))=>.val (.lst xs)
 | some (some (.tre (.l .s) (.lst xs)))=>.val (.lst xs)
 | _=>.bad:=Eq.trans rfl rfl
@[simp] theorem p8 (d:D):kd d U=.val d:=Eq.trans rfl rfl
@[simp] theorem ca (f:D->D->R D) (a b:Rho->R D):bin f a b U=(a U).bind λx=>(b U).bind λy=>f x y:=Eq.trans rfl rfl
@[simp] theorem fO (f:D->R D) (a:Rho->R D):una f a U=(a U).bind f:=Eq.trans rfl rfl
@[simp] theorem qu:aN U=.val []:=Eq.trans rfl rfl
@[simp] theorem bZ (a:Rho->R D) (r:Rho->R (List D)):aC a r U=(a U).bind λx=>(r U).bind λxs=>.val (x::xs):=Eq.trans rfl rfl
@[simp] theorem jN (a:Rho->R (List D)):eT a U=(a U).bind mkT:=Eq.trans rfl rfl
@[simp] theorem FP (a:Rho->R (List D)):eL a U=(a U).bind mkL:=Eq.trans rfl rfl
@[simp] theorem G4 (a b:D):mkT [a,b]=.val (.tup [a,b]):=Eq.trans rfl rfl
@[simp] theorem G3 (a b c:D):mkT [a,b,c]=.val (.tup [a,b,c]):=Eq.trans rfl rfl
@[simp] theorem G2 (a b c d e:D):mkT [a,b,c,d,e]=.val (.tup [a,b,c,d,e]):=Eq.trans rfl rfl
@[simp] theorem G5 (a b:D):mkL [a,b]=.val (.lst [a,b]):=Eq.trans rfl rfl
@[simp] theorem bK (F:Rho->R (List D)):eLs F U=(F U).bind λxs=>.val (.lst xs):=Eq.trans rfl rfl
@[simp] theorem FG:eE aN U=.val []:=Eq.trans rfl rfl
@[simp] theorem GQ (F:Rho->R D):fIt F U=(F U).bind itD:=Eq.trans rfl rfl
@[simp] theorem FW (xs:List D):itD (.lst xs)=.val xs:=Eq.trans rfl rfl
@[simp] theorem FV (xs:List D):itD (.tup xs)=.val xs:=Eq.trans rfl rfl
@[simp] theorem z6 (n:Nat) (den:List D->R D) (a:Rho->R (List D)):cal n den a U=(a U).bind λds=>if ds.length=n then noex (den ds)else .bad:=Eq.trans rfl rfl
@[simp] theorem wm (i:Nat) (F:Rho->R Out):fz i F U=F (frz i U):=Eq.trans rfl rfl
@[simp] theorem bA (src:Rho->R (List D)) (T:D->Rho->Option Rho) (F:Rho->R Out):aY src T F U=(src U).bind λxs=>aX T F xs U:=Eq.trans rfl rfl
@[simp] theorem mL (F:Rho->R (List D)):bq F U=(F U).bind o4:=Eq.trans rfl rfl
@[simp] theorem rB (F:Rho->R (List D)):fJ F U=(F U).bind u5:=Eq.trans rfl rfl
@[simp] theorem rD (xs:List D):u5 [.lst xs]=.val (enu 0 xs):=Eq.trans rfl rfl
@[simp] theorem EE (F:Rho->R (List D)):i_ F U=(F U).bind rgT:=Eq.trans rfl rfl
@[simp] theorem wD (F:Rho->R (List D)):u_ F U=(F U).bind BF:=Eq.trans rfl rfl
@[simp] theorem BE (i j:Int):BF [.int i,.int j]=.val (.int (if j>i then j else i)):=Eq.trans rfl rfl
@[simp] theorem GN (d:D):fin (.val (.rt d))=.val d:=Eq.trans rfl rfl
@[simp] theorem GO (U:Rho):fin (.val (.nx U))=.val .non:=Eq.trans rfl rfl
@[simp] theorem DV (den:Rho->R D) (Fa:Rho->R (List D)):mkH den Fa U=(Fa U).bind λds=>match ds with
 | [e,r,t]=>noex (den (jE e r t))
 | _=>.bad:=Eq.trans rfl rfl
@[simp] theorem GG (xs:List D):aM (.lst xs)=.val (.int xs.length):=Eq.trans rfl rfl
@[simp] theorem GE (xs:List D):jH (.lst xs)=.val (.tup xs):=Eq.trans rfl rfl
@[simp] theorem FX (i:Int):jI (.int i)=.val (.int (-i)):=Eq.trans rfl rfl
@[simp] theorem qa (f:Int->Int->R D) (i j:Int):iI f (.int i) (.int j)=f i j:=Eq.trans rfl rfl
@[simp] theorem GF (i j:Int):flt i j=.val (.bl (decide (i<j))):=Eq.trans rfl rfl
@[simp] theorem GH (i j:Int):fle i j=.val (.bl (decide (i<=j))):=Eq.trans rfl rfl
@[simp] theorem GP (i j:Int):fgt i j=.val (.bl (decide (j<i))):=Eq.trans rfl rfl
@[simp] theorem wq (i j:Int):bo (.int i) (.int j)=.val (.int (i+j)):=Eq.trans rfl rfl
theorem dG (h:0<j):bm i j=.val (.int (i%j)):=if_pos h
theorem wp (h:0<j/\j<1073741824):dU i j=.val (.int (i/j)):=if_pos h
theorem kz (h:-(2 ^ 64)<j/\j<2 ^ 64):fV i j=.val (.int (i*j)):=if_pos (.inr h)
@[simp] theorem GS (f g:Int->Int->Bool) (a b c:Rho->R D):chn f g a b c U=(a U).bind λx=>(b U).bind λy=>match x,y with
 | .int i,.int j=>if f i j=true then(c U).bind λz=>match z with
   | .int k=>.val (.bl (g j k))
   | _=>.bad
  else .val (.bl false)
 | _,_=>.bad:=Eq.trans rfl rfl
end
theorem rV {Y:Type} (xs:List Y) (i:Nat):atI xs (i:Int)=xs[i]?:=by
 unfold atI ixN;rw[if_pos (Int.natCast_nonneg i)];by_cases h:i<xs.length
 ·rw[if_pos (by exact_mod_cast h)];simp
 ·rw[if_neg (by intro z;exact h (by exact_mod_cast z))];simp at h;simp[List.getElem?_eq_none h]
variable {xs:List D}
theorem i8 {i:Nat} {d:D} (h:xs[i]?=some d):fix (.lst xs) (.int (i:Int))=.val d:=by
 show(match atI xs (i:Int)with|some d=>R.val d|none=>.bad)=_;rw[rV,h]
theorem wn {i:Nat} {d:D} (h:xs[i]?=some d):fix (.tup xs) (.int (i:Int))=.val d:=by
 show(match atI xs (i:Int)with|some d=>R.val d|none=>.bad)=_;rw[rV,h]
theorem CD {xs:List Int} {i:Nat} {d:Int} (h:xs[i]?=some d):fix (.scr xs) (.int (i:Int))=.val (.int d):=by
 show(match atI xs (i:Int)with|some d=>R.val (D.int d)|none=>R.bad)=_;rw[rV,h]
@[simp] theorem zw (a:D) (r:List D):fix (.tup (a::r)) (.int 0)=.val a:=wn (i:=0) rfl
@[simp] theorem zv (a b:D) (r:List D):fix (.tup (a::b::r)) (.int 1)=.val b:=wn (i:=1) rfl
@[simp] theorem Eb (a b c:D) (r:List D):fix (.tup (a::b::c::r)) (.int 2)=.val c:=wn (i:=2) rfl
theorem tZ {T:D->Rho->Option Rho} {e:Rho->R D} {g:D->D} {U:Rho}:∀{xs:List D},(∀x∈xs,∃U1,T x U=some U1/\e U1=.val (g x))->jg T tT e xs U=.val (xs.map g)
 | [],_=>rfl
 | x::r,h=>by
  obtain⟨U1,h1,h2⟩:=h x (by simp);have ih:=tZ (T:=T) (e:=e) (g:=g) (U:=U) (xs:=r) λy hy=>h y (by simp[hy]);unfold jg;rw[h1];show(noE (tT U1)).bind _=_;simp[tT,h2,ih]
theorem fM {T:D->Rho->Option Rho} {F:Rho->R Out} (I:Nat->Rho->Prop) (step:∀(i:Nat) x U,xs[i]?=some x->I i U->∃U1 U2,T x U=some U1/\F U1=.val (.nx U2)/\I (i+1) U2) {U:Rho} (h:I 0 U):∃U',aX T F xs U=.val (.nx U')/\I xs.length U':=by
 suffices ∀(n k:Nat) (U:Rho),k+n=xs.length->I k U->∃U',aX T F (xs.drop k) U=.val (.nx U')/\I xs.length U' by
  have:=this xs.length 0 U (by omega) h;rwa[List.drop_zero]at this
 intro n
 induction n with
 | zero =>
  intro k U hk hI;have hk:k=xs.length:=by omega
  subst hk;rw[List.drop_length];exact⟨U,rfl,hI⟩
 | succ n ih =>
  intro k U hk hI;have hlt:k<xs.length:=by omega
  obtain⟨U1,U2,h1,h2,h3⟩:=step k xs[k] U (by simp[hlt]) hI;rw[List.drop_eq_getElem_cons hlt];unfold aX;rw[h1];show ∃U',(F U1).bind _=_/\_;rw[h2];exact ih (k+1) U2 (by omega) h3
end DL
namespace DL
open L2 Ar
def pln:Nat->D->Bool
 | _,.non=>true
 | _,.int _=>true
 | n+1,.lst xs=>xs.all (pln n)
 | n+1,.tup xs=>xs.all (pln n)
 | _,_=>false
theorem e8:∀{n:Nat} {x:D},pln n x=true->eqb n x=true:=by
 intro n
 induction n with
 | zero =>
  intro x h;cases x with
  | non=>rfl
  | int _=>rfl
  | _=>cases h
 | succ n ih =>
  intro x h;cases x with
  | non=>rfl
  | int _=>rfl
  | lst xs=>exact List.all_eq_true.mpr λy hy=>ih (List.all_eq_true.mp h y hy)
  | tup xs=>exact List.all_eq_true.mpr λy hy=>ih (List.all_eq_true.mp h y hy)
  | _=>cases h
variable {n:Nat} {xs:List D}
theorem sJ (ih:∀{x y:D},pln n x=true->pln n y=true->(pyq n x y=true↔x=y)) {ys:List D} (hx:xs.all (pln n)=true) (hy:ys.all (pln n)=true) :
  (decide (xs.length=ys.length)&&(List.range xs.length).all λj=>pyq n (xs.getD j .non) (ys.getD j .non))=true↔xs=ys:=by
 rw[Bool.and_eq_true,decide_eq_true_iff,List.all_eq_true];rw[List.all_eq_true]at hx hy;constructor
 ·rintro⟨hl,h⟩;apply List.ext_getElem hl;intro j h1 h2;have:=h j (List.mem_range.mpr h1);rw[ar h1,ar h2]at this;exact(ih (hx _ (List.getElem_mem h1)) (hy _ (List.getElem_mem h2))).mp this
 ·rintro rfl;refine⟨rfl,λj hj=>?_⟩;have h1:=List.mem_range.mp hj;rw[ar h1];exact(ih (hx _ (List.getElem_mem h1)) (hx _ (List.getElem_mem h1))).mpr rfl
theorem d8 {p q:Prop} (h:¬ p) (g:¬ q):p↔q:=⟨λx=>absurd x h,λx=>absurd x g⟩
theorem wg {a b:Int}:(a==b)=true↔D.int a=D.int b:=beq_iff_eq.trans ⟨congrArg D.int,λh=>by cases h;rfl⟩
theorem jq:∀(n:Nat) {x y:D},pln n x=true->pln n y=true->(pyq n x y=true↔x=y):=by
 intro n
 induction n with
 | zero =>
  intro x y hx hy;cases x with
  | non =>
   cases y with
   | non=>exact⟨λ_=>rfl,λ_=>rfl⟩
   | int b=>exact d8 Bool.false_ne_true (λh=>by cases h)
   | _=>cases hy
  | int a =>
   cases y with
   | int b=>exact wg
   | non=>exact d8 Bool.false_ne_true (λh=>by cases h)
   | _=>cases hy
  | _=>cases hx
 | succ n ih =>
  intro x y hx hy;cases x with
  | lst xs =>
   cases y with
   | lst ys=>rw[qL,sJ ih hx hy];exact⟨congrArg D.lst,λh=>by cases h;rfl⟩
   | non=>exact d8 Bool.false_ne_true (λh=>by cases h)
   | int _=>exact d8 Bool.false_ne_true (λh=>by cases h)
   | tup _=>exact d8 Bool.false_ne_true (λh=>by cases h)
   | _=>cases hy
  | tup xs =>
   cases y with
   | tup ys=>rw[qK,sJ ih hx hy];exact⟨congrArg D.tup,λh=>by cases h;rfl⟩
   | non=>exact d8 Bool.false_ne_true (λh=>by cases h)
   | int _=>exact d8 Bool.false_ne_true (λh=>by cases h)
   | lst _=>exact d8 Bool.false_ne_true (λh=>by cases h)
   | _=>cases hy
  | non =>
   cases y with
   | non=>exact⟨λ_=>rfl,λ_=>rfl⟩
   | int b=>exact d8 Bool.false_ne_true (λh=>by cases h)
   | lst _=>exact d8 Bool.false_ne_true (λh=>by cases h)
   | tup _=>exact d8 Bool.false_ne_true (λh=>by cases h)
   | _=>cases hy
  | int a =>
   cases y with
   | int b=>exact wg
   | non=>exact d8 Bool.false_ne_true (λh=>by cases h)
   | lst _=>exact d8 Bool.false_ne_true (λh=>by cases h)
   | tup _=>exact d8 Bool.false_ne_true (λh=>by cases h)
   | _=>cases hy
  | _=>cases hx
variable {x:D}
theorem kB (h:pln 9 x=true):feq x x=.val (.bl true):=by
 unfold feq;rw[if_pos ⟨e8 h,e8 h⟩,(jq 9 h h).mpr rfl]
theorem kC {y:D} (h:pln 9 x=true) (h':pln 9 y=true) (e:x≠y):feq x y=.val (.bl false):=by
 unfold feq;rw[if_pos ⟨e8 h,e8 h'⟩];cases q:pyq 9 x y with
 | false=>rfl
 | true=>exact absurd ((jq 9 h h').mp q) e
theorem i7 (h:pln 9 x=true):fne x x=.val (.bl false):=by
 unfold fne;rw[if_pos ⟨e8 h,e8 h⟩,(jq 9 h h).mpr rfl];rfl
theorem tM {y:D} (h:pln 9 x=true) (h':pln 9 y=true) (e:x≠y):fne x y=.val (.bl true):=by
 unfold fne;rw[if_pos ⟨e8 h,e8 h'⟩];cases q:pyq 9 x y with
 | false=>rfl
 | true=>exact absurd ((jq 9 h h').mp q) e
@[simp] theorem zy (a b:Int):feq (.int a) (.int b)=.val (.bl (decide (a=b))):=by
 by_cases h:a=b
 ·subst h;rw[kB rfl];simp
 ·rw[kC rfl rfl (by simpa using h)];simp[h]
@[simp] theorem zk (a b:Int):fne (.int a) (.int b)=.val (.bl (decide (a≠b))):=by
 by_cases h:a=b
 ·subst h;rw[i7 rfl];simp
 ·rw[tM rfl rfl (by simpa using h)];simp[h]
abbrev nD (n:Nat):D:=.int (n:Int)
def aq (x:Arr):D:=.tup [nD x.1,nD x.2.1,.tup (x.2.2.map nD)]
def cx (p:Nat×Nat):D:=.tup [nD p.1,nD p.2]
def aV (en:List (Nat×Nat)):D:=.lst (en.map cx)
def aJ (re:List Nat):D:=.lst (re.map nD)
def ao (r:List Int):D:=.lst (r.map D.int)
def af (tb:List (List Int)):D:=.lst (tb.map ao)
theorem nD_inj {a b:Nat}:nD a=nD b↔a=b:=by
 simp only[nD,D.int.injEq];omega
theorem endD_inj {p q:Nat×Nat}:cx p=cx q↔p=q:=by
 obtain⟨a,b⟩:=p;obtain⟨c,d⟩:=q;simp only[cx,nD,D.tup.injEq,List.cons.injEq,D.int.injEq,and_true,Prod.mk.injEq];omega
theorem qZ {Y:Type} {f:Y->D} (hf:∀a b,f a=f b->a=b):∀{l m:List Y},l.map f=m.map f->l=m
 | [],[],_=>rfl
 | [],_::_,h=>by simp at h
 | _::_,[],h=>by simp at h
 | a::l,b::m,h=>by
  simp only[List.map_cons,List.cons.injEq]at h;rw[hf _ _ h.1,qZ hf h.2]
theorem arrD_inj {x y:Arr}:aq x=aq y↔x=y:=by
 obtain⟨a,b,l⟩:=x;obtain⟨c,d,m⟩:=y;constructor
 ·intro h;simp only[aq,nD,D.tup.injEq,List.cons.injEq,D.int.injEq,Int.natCast_inj,and_true]at h;obtain⟨h1,h2,h3⟩:=h;rw[h1,h2,qZ (λa b e=>nD_inj.mp e) h3]
 ·rintro h;rw[h]
variable {Y:Type}
theorem all_map {f:Y->D} (h:∀a,pln n (f a)=true) (l:List Y):(l.map f).all (pln n)=true:=by
 rw[List.all_eq_true];intro y hy;obtain⟨a,_,rfl⟩:=List.mem_map.mp hy;exact h a
variable {k:Nat}
theorem yz (n:Nat):pln k (nD n)=true:=by unfold nD pln;rfl
theorem vU (n:Int):pln k (.int n)=true:=by cases k<;>rfl
theorem ki (h:xs.all (pln k)=true):pln (k+1) (.tup xs)=true:=h
theorem qO (h:xs.all (pln k)=true):pln (k+1) (.lst xs)=true:=h
theorem kj (p:Nat×Nat):pln (k+1) (cx p)=true:=ki (by simp[yz])
theorem jt (x:Arr):pln (k+2) (aq x)=true:=ki (by simp[yz];exact ki (all_map (λa=>yz a) _))
theorem fI (r:List Int):pln (k+1) (ao r)=true:=qO (all_map (λp=>vU p) _)
theorem vT (tb:List (List Int)):pln (k+2) (af tb)=true:=qO (all_map (λp=>fI p) _)
variable {i:Nat}
theorem dH {f:Y->D} {l:List Y} {d:Y} (h:i<l.length):(l.map f)[i]?=some (f (l.getD i d)):=by
 rw[ar h];simp[h]
theorem ff {en:List (Nat×Nat)} (h:i<en.length):fix (aV en) (.int (i:Int))=.val (cx (en.getD i (0,0))):=i8 (dH h)
theorem rz {re:List Nat} (h:i<re.length):fix (aJ re) (.int (i:Int))=.val (nD (re.getD i 0)):=i8 (dH h)
theorem bX {tb:List (List Int)} (h:i<tb.length):fix (af tb) (.int (i:Int))=.val (ao (tb.getD i [])):=i8 (dH h)
theorem bv {r:List Int} (h:i<r.length):fix (ao r) (.int (i:Int))=.val (.int (r.getD i (-1))):=i8 (dH h)
@[simp] theorem GJ (p:Nat×Nat):fix (cx p) (.int 0)=.val (nD p.1):=zw _ _
@[simp] theorem GI (p:Nat×Nat):fix (cx p) (.int 1)=.val (nD p.2):=zv _ _ _
@[simp] theorem GM (x:Arr):fix (aq x) (.int 0)=.val (nD x.1):=zw _ _
@[simp] theorem GL (x:Arr):fix (aq x) (.int 1)=.val (nD x.2.1):=zv _ _ _
@[simp] theorem GK (x:Arr):fix (aq x) (.int 2)=.val (.tup (x.2.2.map nD)):=Eb _ _ _ _
@[simp] theorem zt (en:List (Nat×Nat)):aM (aV en)=.val (.int en.length):=by unfold aV;simp
@[simp] theorem zq (re:List Nat):aM (aJ re)=.val (.int re.length):=by unfold aJ;simp
@[simp] theorem zo (r:List Int):aM (ao r)=.val (.int r.length):=by unfold ao;simp
@[simp] theorem FB (r:List (List Int)):aM (af r)=.val (.int r.length):=by unfold af;simp
@[simp] theorem FC (p:Nat×Nat):aM (cx p)=.val (.int 2):=Eq.trans rfl rfl
variable {U:Rho}
theorem nM {F:Rho->R Out} {j:Nat} (I:Rho->Prop) (step:∀(k:Nat) x U,xs[k]?=some x->I U->∃U2,F ((U.set i (some (.shr (.int (k:Int))))).set j (some (.shr x)))=.val (.nx U2)/\I U2) (h:I U) :
  ∃U',aX (tg2 i j) F (enu 0 xs) U=.val (.nx U')/\I U':=by
 refine fM (λ_=>I) (λk y U e hI=>?_) h;obtain⟨x,e1,rfl⟩:=u4 e;rw[Nat.zero_add];obtain⟨U2,h1,h2⟩:=step k x U e1 hI;exact⟨_,U2,rfl,h1,h2⟩
theorem dA {F:Rho->R Out} (I:Nat->Rho->Prop) (step:∀(k:Nat) U,k<n->I k U->∃U2,F (U.set i (some (.shr (.int (k:Int)))))=.val (.nx U2)/\I (k+1) U2) (h:I 0 U) :
  ∃U',aX (tgN i) F (rng 0 n) U=.val (.nx U')/\I n U':=by
 have hl:(rng 0 n).length=n:=by unfold rng;simp
 obtain⟨U',h1,h2⟩:=fM (T:=tgN i) (F:=F) I (xs:=rng 0 n) (λk y U e hI=>by
  have hk:k<n:=by rw[<- hl];exact(List.getElem?_eq_some_iff.mp e).1
  have:y=.int (k:Int):=by
   unfold rng at e;rw[List.getElem?_map,List.getElem?_range hk]at e;simp at e;exact e.symm
  subst this;obtain⟨U2,h1,h2⟩:=step k U hk hI;exact⟨_,U2,rfl,h1,h2⟩) h
 exact⟨U',h1,by rw[hl]at h2;exact h2⟩
theorem gR (h:n<=100000):o4 [.int (n:Int)]=.val (rng 0 n):=by
 have:-(2 ^ 62)<=(n:Int)/\(n:Int)<2 ^ 62:=by constructor<;>omega
 unfold o4;dsimp only;rw[if_pos this,Int.toNat_natCast]
theorem kf {z:Int} (h:0<=z) (h':z<=100000):o4 [.int z]=.val (rng 0 z.toNat):=by
 have:-(2 ^ 62)<=z/\z<2 ^ 62:=by constructor<;>omega
 unfold o4;dsimp only;rw[if_pos this]
theorem AN (n:Nat):(rng 0 n).length=n:=by unfold rng;simp
theorem Bo (h:x∈rng 0 n):∃k:Nat,k<n/\x=.int (k:Int):=by
 unfold rng at h;obtain⟨k,hk,rfl⟩:=List.mem_map.mp h;exact⟨k,List.mem_range.mp hk,by simp⟩
theorem n9 {src:Rho->R (List D)} {m:Nat} {e:Rho->R D} {g:Nat->D} (hs:src U=.val (rng 0 m)) (hl:m<=100000) (h:∀k:Nat,k<m->e ((U++List.replicate n none).set i (some (.shr (.int (k:Int)))))=.val (g k)) :
  be src n (tgN i) tT e U=.val ((List.range m).map g):=by
 unfold be;rw[hs,ac,if_pos (show(rng 0 m).length<=LIM by rw[AN];exact hl)];have:jg (tgN i) tT e (rng 0 m) (U++List.replicate n none)=.val ((rng 0 m).map λx=>match x with | .int z=>g z.toNat|_=>.non):=tZ λx hx=>by
  obtain⟨k,hk,rfl⟩:=Bo hx;exact⟨_,rfl,by rw[h k hk];simp⟩
 rw[this,mD];unfold rng;rw[List.map_map]
 congr 1
 apply List.map_congr_left;intro k hk;simp
theorem bw {src:Rho->R (List D)} {e:Rho->R D} {f g:Y->D} {l:List Y} (hs:src U=.val (l.map f)) (hl:l.length<=100000) (h:∀a∈l,e ((U++List.replicate n none).set i (some (.shr (f a))))=.val (g a)) :
  be src n (tgN i) tT e U=.val (l.map g):=by
 unfold be;rw[hs,ac,if_pos (show(l.map f).length<=LIM by rw[List.length_map];exact hl)]
 suffices ∀l:List Y,(∀a∈l,e ((U++List.replicate n none).set i (some (.shr (f a))))=.val (g a))->jg (tgN i) tT e (l.map f) (U++List.replicate n none)=.val (l.map g) by
  rw[this l h];rfl
 intro l
 induction l with
 | nil=>intro _;rfl
 | cons a r ih =>
  intro h;have h1:=h a (by simp);have h2:=ih λb hb=>h b (by simp[hb]);rw[List.map_cons];unfold jg;show(noE (tT _)).bind _=_;rw[h2];simp only[tT,mD,ac,if_true];rw[h1];rfl
end DL
namespace DL
open PySem PySem.Spec PyProof.Rows L2
structure Txt (K:Frag) (mg:Str->Option Value) (C:Addr):Prop where
 cl:Cls K C
 nE:NoAttr K C "ends"
 nR:NoAttr K C "rests"
 nT:NoAttr K C "table"
 len:mg "len"=none
 list:mg "list"=none
 tuple:mg "tuple"=none
 range:mg "range"=none
 enumerate:mg "enumerate"=none
 max:mg "max"=none
 isinstance:mg "isinstance"=none
 all:mg "all"=none
 zip:mg "zip"=none
 int:mg "int"=none
 bool:mg "bool"=none
 ih:IsH K C
 hall:mg "Hall"=some (.ref C)
 most_boxes:∃t,mg "MOST_BOXES"=some (.int 6 t)
 most_arrows:∃t,mg "MOST_ARROWS"=some (.int 40 t)
 most_things:∃t,mg "MOST_THINGS"=some (.int 40 t)
 kt_int:KTy K "int"
 kt_bool:KTy K "bool"
 kt_list:KTy K "list"
abbrev sAt (i:Nat):Stmt:=PySem.Challenge.pw_arrowhall_k11_all_changes.main.body.getD i (.Pass ⟨0,0,0,0⟩)
section
variable {C:Addr} {X:Cx} {e:Expr} {p pos:Pos} {F:Rho->R D}
theorem edl (h:EB C X e F) (hg:Gl X "len") (hm:X.mg "len"=none) (hst:starEach [e] X.env=(false,eval e X.env)::starEach [] X.env):ED C X (.Call (.Name "len" p) [e] [] pos) (una aM F):=Em h hg hm hst (λt ha=>d7 fL hg hm PySem.boot_len ha (he:=hst) (hpl:=av))
theorem erl (h:ER C X e F) (hg:Gl X "len") (hm:X.mg "len"=none) (hst:starEach [e] X.env=(false,eval e X.env)::starEach [] X.env):ED C X (.Call (.Name "len" p) [e] [] pos) (una aM F):=Ei h hg hm hst (λt ha=>d7 fL hg hm PySem.boot_len ha (he:=hst) (hpl:=av))
theorem fdl (h:EB C X e F) (hg:Gl X "list") (hm:X.mg "list"=none) (hst:starEach [e] X.env=(false,eval e X.env)::starEach [] X.env):FD C X (.Call (.Name "list" p) [e] [] pos) (fIt F):=BK h hg hm hst (λt ha=>cA kL hg hm boot_list ha (he:=hst) (hpl:=av))
end
section
variable {C:Addr} {X:Cx} {x:Str} {p pos pos':Pos} {e:Expr} {es:List Expr} {k n m:Nat} {kr:OK} {den:List D->R D} {F:Rho->R D} {Fa:Rho->R (List D)}
theorem vB (i:Nat) (hN:X.N[i]?=some x:=by rfl) (hv:Vis X.env.scope x:=by first|exact Or.inl rfl|exact Or.inr (Or.inl rfl)|exact Or.inr (Or.inr rfl)) (hd:(x==("__debug__":Str))=false:=by decide) (hcd:(x==("__classdict__":Str))=false:=by decide):EB C X (.Name x pos) (vb i):=En (pv i hN hv hd hcd)
theorem vE (i:Nat) (hN:X.N[i]?=some x:=by rfl) (hv:Vis X.env.scope x:=by first|exact Or.inl rfl|exact Or.inr (Or.inl rfl)|exact Or.inr (Or.inr rfl)) (hd:(x==("__debug__":Str))=false:=by decide) (hcd:(x==("__classdict__":Str))=false:=by decide):ED C X (.Name x pos) (vr i):=Ek (pv i hN hv hd hcd)
theorem bI {i j}:EB C X (.Constant (.int i) j pos) (kd (.int i)):=EB.of aU
theorem sS (i:Nat) (hN:X.N.Nodup) (he:ED C X e F) (hi:X.N[i]?=some x:=by rfl) (hx:Loc X.env.scope x:=by first|exact Or.inl rfl|exact Or.inr rfl) (hs:swapsWith e (some (.Name x pos')) pos.line X.env=pure false:=by rfl) (hf:X.fn x=true\/X.env.scope.names.lookup x=some .local:=by first|exact .inl rfl|exact .inr rfl):SD C X (.Assign [.Name x pos'] e pos) (asg i F):=Da hN hi hx he hs hf
theorem gN (i:Nat) (hN:X.N.Nodup) (hi:X.N[i]?=some x:=by rfl) (hx:Loc X.env.scope x:=by first|exact Or.inl rfl|exact Or.inr rfl) (hf:X.fn x=true\/X.env.scope.names.lookup x=some .local:=by first|exact .inl rfl|exact .inr rfl):GD C X (.Name x pos) [i] (tgN i):=BC hN hi hx hf
theorem eF (F:Fn X.prog X.w X.K X.mg X.base C k x n den) (hr:Room m X.A) (ha:AD C X (e::es) Fa) (he:starEach (e::es) X.env=(false,eval e X.env)::starEach es X.env) (hpl:(backTo pos (starEach es X.env)).any (·.1)=false) (hk:k<=m:=by decide) (hg:Gl X x:=by exact rfl) (hx:X.xe=λ_ _=>False:=by rfl) (hdb:(x==("__debug__":Str))=false:=by decide):ED C X (.Call (.Name x p) (e::es) [] pos) (cal n den Fa):=FO F (hr.mono hk) hg ha hx hdb he hpl
end
seal ED EB TD AD FD ID GD WD uc SD SDs ER AR FR KD PD ND SDi SDj Ai mq qw KDm TDm SDr vp AW
variable {P:Program} {w:World} {K:Frag} {mg:Str->Option Value} {base:Heap} {C:Addr}
variable {f a:Addr} {fd:FuncData} (cdv:Value) (A:Around) (outer:List Env) (s:Shared) (H:Hp) (E:XK) (T:Txt K mg C)
abbrev hX:Stmt:=sAt 33
abbrev oV:List Str:=["script","k","base"]
theorem Hm:ay oV ["script","k"] (aj hX):=by constructor<;>first|rfl|decide +kernel
def iB:Rho->R Out:=(sq (iff (tst (bin (iI flt) (vb 1) (una aM (vb 0))))
 (ret (bin fix (vb 0) (vb 1)))
 nxt)
 (sq (asg 2 (kd (.int 0)))
 (sq (iff (tst (bin (iI fgt) (una aM (vb 0)) (kd (.int 0))))
 (asg 2 (bin fix (vb 0) (kd (.int 0))))
 nxt)
 (ret (bin (iI bm) (bin bo (bin (iI fV) (bin (iI bm) (vb 2) (kd (.int 65521))) (kd (.int 48271))) (bin (iI fV) (vb 1) (kd (.int 30103)))) (kd (.int 65521)))))))
def aE (ds:List D):R D:=fin (iB (st0 oV ds))
include T in
theorem tf (F:Fun K "_law_cell" "_law_cell" hX a fd) (hm:mg "_law_cell"=some (.ref a)) (hb:Binds K fd ["script","k"] []):Fn P w K mg base C 1 "_law_cell" 2 aE :=
 ⟨a,fd,_,bb (den:=iB) F Hm (λ_ _ _ _ _ _ hr=>(ai (bj (Cp (vB 1) (EB.of (edl (vB 0) rfl T.len aa)))
 (ah (aK (ak (vB 0) (vB 1))))
 aH)
 (ai (sS 2 Hm.nd aU)
 (ai (bj (vz (EB.of (edl (vB 0) rfl T.len aa)) bI)
 (ah (sS 2 Hm.nd (ak (vB 0) bI)))
 aH)
 (ah (aK (cY (EB.of (cM (EB.of (ot (EB.of (cY (vB 2) bI)) bI)) (EB.of (ot (vB 1) bI)))) bI))))))),hm,F.kp,hb⟩
abbrev gr:Stmt:=sAt 37
abbrev lQ:List Str:=["script","k","cell","way"]
theorem Hw:ay lQ ["script","k"] (aj gr):=by constructor<;>first|rfl|decide +kernel
abbrev Nc_law_sizes_0:List Str:=["script","k","cell","way","box"]
theorem nr:Nc_law_sizes_0.Nodup:=by decide +kernel
def gL:Rho->R Out:=(sq (asg 2 (cal 2 aE (aC (vr 0) (aC (vr 1) aN))))
 (sq (asg 3 (bin (iI bm) (vb 2) (kd (.int 4))))
 (sq (iff (tst (bin feq (vb 3) (kd (.int 0))))
 (ret (eLs (be (bq (aC (bin bo (kd (.int 1)) (bin (iI bm) (bin (iI dU) (vb 2) (kd (.int 4))) (kd (.int 4)))) aN)) 1 (tgN 4) tT (kd (.int 1)))))
 nxt)
 (sq (iff (tst (bin feq (vb 3) (kd (.int 1))))
 (ret (bin fix (eL (aC (eL (aC (kd (.int 1)) (aC (kd (.int 2)) aN))) (aC (eL (aC (kd (.int 2)) (aC (kd (.int 1)) aN))) (aC (eL (aC (kd (.int 2)) (aC (kd (.int 2)) aN))) (aC (eL (aC (kd (.int 0)) (aC (kd (.int 2)) aN))) (aC (eL (aC (kd (.int 2)) aN)) (aC (eL (aC (kd (.int 1)) aN)) aN))))))) (bin (iI bm) (bin (iI dU) (vb 2) (kd (.int 4))) (kd (.int 6)))))
 nxt)
 (sq (iff (tst (bin feq (vb 3) (kd (.int 2))))
 (ret (eL (aC (kd (.int 3)) aN)))
 nxt)
 (ret (bin fix (eL (aC (eL (aC (kd (.int 1)) (aC (kd (.int 1)) (aC (kd (.int 2)) aN)))) (aC (eL (aC (kd (.int 0)) (aC (kd (.int 1)) (aC (kd (.int 2)) aN)))) (aC (eL (aC (kd (.int 1)) (aC (kd (.int 2)) (aC (kd (.int 2)) aN)))) (aC (eL (aC (kd (.int 2)) (aC (kd (.int 1)) (aC (kd (.int 0)) aN)))) (aC (eL (aC (kd (.int 2)) (aC (kd (.int 2)) aN))) aN)))))) (bin (iI bm) (bin (iI dU) (vb 2) (kd (.int 4))) (kd (.int 5))))))))))
def dm (ds:List D):R D:=fin (gL (st0 lQ ds))
variable (f24:Fn P w K mg base C 1 "_law_cell" 2 aE)
include T f24 in
theorem qW (F:Fun K "_law_sizes" "_law_sizes" gr a fd) (hm:mg "_law_sizes"=some (.ref a)) (hb:Binds K fd ["script","k"] []):Fn P w K mg base C 2 "_law_sizes" 2 dm :=
 ⟨a,fd,_,bb (den:=gL) F Hw (λ_ _ _ _ _ _ hr=>(ai (sS 2 Hw.nd (eF f24 hr (ab (vE 0) (ab (vE 1) ag aa) aa) aa (am aa av)))
 (ai (sS 3 Hw.nd (cY (vB 2) bI))
 (ai (bj (gQ (br hr) (vB 3) bI)
 (ah (aK (bE (bn (N':=Nc_law_sizes_0) (n:=1) rfl rfl rfl (eK 4) bO (bt rfl T.range (ab (cM bI (EB.of (cY (EB.of (gA (vB 2) bI)) bI))) ag bi) (bc bi)) (λL cs s H fp=>(gN 4 nr)) (λL cs s H fp=>bf) (λL cs s H fp=>aU)))))
 aH)
 (ai (bj (gQ (br hr) (vB 3) bI)
 (ah (aK (ak (EB.of (bx (ab (bx (ab aU (ab aU ag au) au)) (ab (bx (ab aU (ab aU ag au) au)) (ab (bx (ab aU (ab aU ag au) au)) (ab (bx (ab aU (ab aU ag au) au)) (ab (bx (ab aU ag au)) (ab (bx (ab aU ag au)) ag cI) cI) cI) cI) cI) cI))) (EB.of (cY (EB.of (gA (vB 2) bI)) bI)))))
 aH)
 (ai (bj (gQ (br hr) (vB 3) bI)
 (ah (aK (bx (ab aU ag au))))
 aH)
 (ah (aK (ak (EB.of (bx (ab (bx (ab aU (ab aU (ab aU ag au) au) au)) (ab (bx (ab aU (ab aU (ab aU ag au) au) au)) (ab (bx (ab aU (ab aU (ab aU ag au) au) au)) (ab (bx (ab aU (ab aU (ab aU ag au) au) au)) (ab (bx (ab aU (ab aU ag au) au)) ag cI) cI) cI) cI) cI))) (EB.of (cY (EB.of (gA (vB 2) bI)) bI))))))))))),hm,F.kp,hb⟩
abbrev hJ:Stmt:=sAt 36
abbrev oP:List Str:=["step"]
theorem sv:ay oP ["step"] (aj hJ):=by constructor<;>first|rfl|decide +kernel
def iu:Rho->R Out:=(ret (bin (iI bm) (bin bo (bin (iI fV) (vb 0) (kd (.int 48271))) (kd (.int 11))) (kd (.int 2147483647))))
def aP (ds:List D):R D:=fin (iu (st0 oP ds))
include T in
theorem sY (F:Fun K "_law_next" "_law_next" hJ a fd) (hm:mg "_law_next"=some (.ref a)) (hb:Binds K fd ["step"] []):Fn P w K mg base C 1 "_law_next" 1 aP :=
 ⟨a,fd,_,bb (den:=iu) F sv (λ_ _ _ _ _ _ hr=>(ah (aK (cY (EB.of (cM (EB.of (ot (vB 0) bI)) bI)) bI)))),hm,F.kp,hb⟩
abbrev cJ:Stmt:=sAt 38
abbrev iH:List Str:=["known","met","arrow","at","other","first","second","made"]
theorem Hn:ay iH ["known"] (aj cJ):=by constructor<;>first|rfl|decide +kernel
abbrev Nc_law_closed_0:List Str:=["known","met","arrow","at","other","first","second","made","x"]
theorem lV:Nc_law_closed_0.Nodup:=by decide +kernel
def fZ:Rho->R Out:=(sq (zW 1)
 (sq (nY 0 2 1)
 (sq (asg 3 (kd (.int 0)))
 (sq (whD (tst (bin (iI flt) (vb 3) (una aM (vb 0))))
 (sq (aY (fIt (eLs (fIt (vb 0)))) (tgN 4)
 (aY (fIt (eL (aC (eT (aC (bin fix (vb 0) (vb 3)) (aC (vr 4) aN))) (aC (eT (aC (vr 4) (aC (bin fix (vb 0) (vb 3)) aN))) aN)))) (tg2 5 6)
 (iff (tst (bin feq (bin fix (vb 5) (kd (.int 1))) (bin fix (vb 6) (kd (.int 0)))))
 (sq (asg 7 (eT (aC (bin fix (vb 5) (kd (.int 0))) (aC (bin fix (vb 6) (kd (.int 1))) (aC (una jH (eLs (be (fIt (bin fix (vb 5) (kd (.int 2)))) 1 (tgN 8) tT (bin fix (bin fix (vb 6) (kd (.int 2))) (vb 8))))) aN)))))
 (iff (zV 1 (vr 7))
 (sq (rF 1 (vr 7) (kd (.bl true)))
 (app 0 (vr 7)))
 nxt))
 nxt)))
 (asg 3 (bin bo (vb 3) (kd (.int 1))))) 30)
 (fz 0 (ret (vr 0)))))))
def cw (xs:List D):R D:=fin (fZ (st1 iH xs))
include T in
theorem mo (hr:Room 0 (A.deeper (envOfC "_law_closed" (aj cJ) s.heap.objs.size f cdv))) :
  SDs C (gi CX0 P w K mg base iH "_law_closed" (aj cJ) f cdv A outer s H E).nox (bY cJ) fZ :=
 (ai (vK (i:=1) Hn.nd rfl (Or.inl rfl))
 (ai (wZ (pX hr) PassesOwn.never rfl (pv 0) (az (i:=2) Hn.nd rfl (Or.inl rfl)) (pv 1) (pv 2))
 (ai (sS 3 Hn.nd aU)
 (ai (yc 30 PassesOwn.never (Cp (vB 3) (EB.of (edl (vB 0) rfl T.len aa)))
 (ai (bh PassesOwn.never rfl (bz (bE (fdl (vB 0) rfl T.list aa))) (gN 4 Hn.nd)
 (ah (bh PassesOwn.never rfl (bz (bx (ab (cB (ab (ak (vB 0) (vB 3)) (ab (vE 4) ag aa) ae)) (ab (cB (ab (vE 4) (ab (ak (vB 0) (vB 3)) ag ae) aa)) ag iU) iU))) (b_ rfl (az (i:=5) Hn.nd rfl (Or.inl rfl)) (az (i:=6) Hn.nd rfl (Or.inr rfl)))
 (ah (bj (gQ (br hr) (EB.of (ak (vB 5) bI)) (EB.of (ak (vB 6) bI)))
 (ai (sS 7 Hn.nd (cB (ab (ak (vB 5) bI) (ab (ak (vB 6) bI) (ab (kI (EB.of (bE (bn (N':=Nc_law_closed_0) (n:=1) rfl rfl rfl (eK 8) bO (bz (ak (vB 5) bI)) (λL cs s H fp=>(gN 8 lV)) (λL cs s H fp=>bf) (λL cs s H fp=>(ak (EB.of (ak (vB 6) bI)) (vB 8)))))) rfl T.tuple aR (λt ha=>cA dB rfl T.tuple boot_tuple ha (he:=aR) (hpl:=av))) ag ax) ae) ae)))
 (ah (bj (As (pX hr) (pv 1) (vE 7))
 (ai (vJ (pX hr) (pv 1) (vE 7) dq)
 (ah (jY (pv 0) (vE 7) (hst:=aa))))
 aH)))
 aH)))))
 (ah (sS 3 Hn.nd (cM (vB 3) bI)))))
 (jX 0 (ah (aK (vE 0))))))))
include T in
theorem pb (F:Fun K "_law_closed" "_law_closed" cJ a fd) (hm:mg "_law_closed"=some (.ref a)) (hb:Binds K fd ["known"] []):Mv P w K mg base C 1 "_law_closed" cw :=
 ⟨a,fd,_,Fp F Hn (λcdv A outer s H E hr=>mo cdv A outer s H E T hr),hm,F.kp,hb⟩
abbrev fE:Stmt:=sAt 39
abbrev kP:List Str:=["script","k","sizes","known","step","turn","one","other","row","x","mixed","arrow"]
theorem Hk:ay kP ["script","k","sizes"] (aj fE):=by constructor<;>first|rfl|decide +kernel
abbrev Nc_law_arrows_0:List Str:=["script","k","sizes","known","step","turn","one","other","row","x","mixed","arrow","box"]
theorem lX:Nc_law_arrows_0.Nodup:=by decide +kernel
def gd:Rho->R Out:=(sq (own 3 (be (bq (aC (una aM (vb 2)) aN)) 1 (tgN 12) tT (eT (aC (vr 12) (aC (vr 12) (aC (i_ (aC (bin fix (vb 2) (vb 12)) aN)) aN))))))
 (sq (asg 4 (cal 1 aP (aC (bin bo (bin (iI bm) (bin (iI fV) (cal 2 aE (aC (vr 0) (aC (vr 1) aN))) (kd (.int 1000003))) (kd (.int 2147483647))) (kd (.int 17))) aN)))
 (sq (aY (bq (aC (bin (iI bm) (cal 2 aE (aC (vr 0) (aC (bin bo (vb 1) (kd (.int 1))) aN))) (kd (.int 5))) aN)) (tgN 5)
 (sq (asg 4 (cal 1 aP (aC (vr 4) aN)))
 (sq (asg 6 (bin (iI bm) (bin (iI dU) (vb 4) (kd (.int 64))) (una aM (vb 2))))
 (sq (asg 4 (cal 1 aP (aC (vr 4) aN)))
 (sq (asg 7 (bin (iI bm) (bin (iI dU) (vb 4) (kd (.int 64))) (una aM (vb 2))))
 (sq (own 8 (eE aN))
 (sq (aY (bq (aC (bin fix (vb 2) (vb 6)) aN)) (tgN 9)
 (sq (asg 4 (cal 1 aP (aC (vr 4) aN)))
 (iff (tst (bin feq (bin fix (vb 2) (vb 6)) (kd (.int 3))))
 (ins 8 (bin (iI bm) (bin (iI dU) (vb 4) (kd (.int 64))) (bin bo (vb 9) (kd (.int 1)))) (vr 9))
 (app 8 (bin (iI bm) (bin (iI dU) (vb 4) (kd (.int 64))) (u_ (aC (kd (.int 1)) (aC (bin fix (vb 2) (vb 7)) aN))))))))
 (iff (orB (tst (bin feq (bin fix (vb 2) (vb 6)) (kd (.int 0)))) (tst (bin (iI fgt) (bin fix (vb 2) (vb 7)) (kd (.int 0)))))
 (iff (tst (bin (mh true) (eT (aC (vr 6) (aC (vr 7) (aC (una jH (vb 8)) aN)))) (vb 3)))
 (app 3 (eT (aC (vr 6) (aC (vr 7) (aC (una jH (vb 8)) aN)))))
 nxt)
 nxt))))))))
 (sq (Bm 3 cw)
 (sq (own 10 (eE aN))
 (fz 3 (sq (aY (fIt (vr 3)) (tgN 11)
 (sq (asg 4 (cal 1 aP (aC (vr 4) aN)))
 (ins 10 (bin (iI bm) (bin (iI dU) (vb 4) (kd (.int 64))) (bin bo (una aM (vb 10)) (kd (.int 1)))) (vr 11))))
 (fz 10 (ret (vr 10))))))))))
def cr (ds:List D):R D:=fin (gd (st0 kP ds))
variable (f41:Mv P w K mg base C 1 "_law_closed" cw)
variable (f31:Fn P w K mg base C 1 "_law_next" 1 aP)
include T f24 f41 f31 in
theorem pf (F:Fun K "_law_arrows" "_law_arrows" fE a fd) (hm:mg "_law_arrows"=some (.ref a)) (hb:Binds K fd ["script","k","sizes"] []):Fn P w K mg base C 2 "_law_arrows" 3 cr :=
 ⟨a,fd,_,bb (den:=gd) F Hk (λ_ _ _ _ _ _ hr=>(ai (AJ (nc (i:=3) (az (i:=3) Hk.nd rfl (Or.inl rfl)) (N':=Nc_law_arrows_0) (n:=1) rfl rfl rfl (eK 12) bO (bt rfl T.range (ab (edl (vB 2) rfl T.len aa) ag ax) (bc ax)) (λL cs s H fp=>(gN 12 lX)) (λL cs s H fp=>bf) (λL cs s H fp=>(cB (ab (vE 12) (ab (vE 12) (ab (tW rfl (ab (ak (vB 2) (vB 12)) ag ae) rfl T.range rfl T.tuple (bc ae) ax (λt ha=>cA (jh rfl) rfl T.tuple boot_tuple ha (he:=ax) (hpl:=av))) ag ax) aa) aa))) rfl))
 (ai (sS 4 Hk.nd (eF f31 hr (ab (cM (EB.of (cY (EB.of (ot (EB.of (eF f24 hr (ab (vE 0) (ab (vE 1) ag aa) aa) aa (am aa av))) bI)) bI)) bI) ag bi) bi av))
 (ai (bh PassesOwn.never rfl (bt rfl T.range (ab (cY (EB.of (eF f24 hr (ab (vE 0) (ab (cM (vB 1) bI) ag bi) aa) aa (am bi av))) bI) ag bi) (bc bi)) (gN 5 Hk.nd)
 (ai (sS 4 Hk.nd (eF f31 hr (ab (vE 4) ag aa) aa av))
 (ai (sS 6 Hk.nd (cY (EB.of (gA (vB 4) bI)) (EB.of (edl (vB 2) rfl T.len aa))))
 (ai (sS 4 Hk.nd (eF f31 hr (ab (vE 4) ag aa) aa av))
 (ai (sS 7 Hk.nd (cY (EB.of (gA (vB 4) bI)) (EB.of (edl (vB 2) rfl T.len aa))))
 (ai (kX (i:=8) Hk.nd rfl (Or.inl rfl) (j6 ag))
 (ai (bh PassesOwn.never rfl (bt rfl T.range (ab (ak (vB 2) (vB 6)) ag ae) (bc ae)) (gN 9 Hk.nd)
 (ai (sS 4 Hk.nd (eF f31 hr (ab (vE 4) ag aa) aa av))
 (ah (bj (gQ (br hr) (EB.of (ak (vB 2) (vB 6))) bI)
 (ah (ye (pv 8) (cY (EB.of (gA (vB 4) bI)) (EB.of (cM (vB 9) bI))) (vE 9) (hst:=bi) (hst2:=aa)))
 (ah (jY (pv 8) (cY (EB.of (gA (vB 4) bI)) (EB.of (zO rfl (ab aU (ab (ak (vB 2) (vB 7)) ag ae) au) rfl T.max (λt ha=>d7 (lF rfl) rfl T.max boot_max ha (he:=au) (hpl:=(am ae av)))))) (hst:=bi)))))))
 (ah (bj (jV (fN (gQ (br hr) (EB.of (ak (vB 2) (vB 6))) bI) (eI (vz (EB.of (ak (vB 2) (vB 7))) bI))))
 (ah (bj (CY (br hr) (EB.of (cB (ab (vE 6) (ab (vE 7) (ab (kI (vB 8) rfl T.tuple aa (λt ha=>cA dB rfl T.tuple boot_tuple ha (he:=aa) (hpl:=av))) ag ax) aa) aa))) (vB 3))
 (ah (jY (pv 3) (cB (ab (vE 6) (ab (vE 7) (ab (kI (vB 8) rfl T.tuple aa (λt ha=>cA dB rfl T.tuple boot_tuple ha (he:=aa) (hpl:=av))) ag ax) aa) aa)) (hst:=iU)))
 aH))
 aH)))))))))
 (ai (AK f41 (hr.mono (by decide)) rfl (pv 3) (i:=3) Hk.nd rfl (Or.inl rfl) rfl)
 (ai (kX (i:=10) Hk.nd rfl (Or.inl rfl) (j6 ag))
 (jX 3 (ai (bh PassesOwn.never rfl (bz (vE 3)) (gN 11 Hk.nd)
 (ai (sS 4 Hk.nd (eF f31 hr (ab (vE 4) ag aa) aa av))
 (ah (ye (pv 10) (cY (EB.of (gA (vB 4) bI)) (EB.of (cM (EB.of (edl (vB 10) rfl T.len aa)) bI))) (vE 11) (hst:=bi) (hst2:=aa)))))
 (jX 10 (ah (aK (vE 10)))))))))))),hm,F.kp,hb⟩
abbrev gt:Stmt:=sAt 40
abbrev lR:List Str:=["script","k","sizes","known","place","at","table","first","row","second","made","rests"]
theorem Hu:ay lR ["script","k"] (aj gt):=by constructor<;>first|rfl|decide +kernel
abbrev Nc_law_parts_0:List Str:=["script","k","sizes","known","place","at","table","first","row","second","made","rests","x"]
theorem nv:Nc_law_parts_0.Nodup:=by decide +kernel
abbrev Nc_law_parts_1:List Str:=["script","k","sizes","known","place","at","table","first","row","second","made","rests","box"]
theorem nu:Nc_law_parts_1.Nodup:=by decide +kernel
abbrev Nc_law_parts_2:List Str:=["script","k","sizes","known","place","at","table","first","row","second","made","rests","arrow"]
theorem nt:Nc_law_parts_2.Nodup:=by decide +kernel
def gM:Rho->R Out:=(sq (asg 2 (cal 2 dm (aC (vr 0) (aC (vr 1) aN))))
 (sq (asg 3 (cal 3 cr (aC (vr 0) (aC (bin bo (vb 1) (kd (.int 1))) (aC (vr 2) aN)))))
 (sq (zW 4)
 (sq (aY (bq (aC (una aM (vb 3)) aN)) (tgN 5)
 (rF 4 (bin fix (vb 3) (vb 5)) (vr 5)))
 (sq (own 6 (eE aN))
 (sq (aY (fIt (vr 3)) (tgN 7)
 (sq (own 8 (eE aN))
 (sq (aY (fIt (vr 3)) (tgN 9)
 (sq (asg 10 (una jI (kd (.int 1))))
 (sq (iff (tst (bin feq (bin fix (vb 7) (kd (.int 1))) (bin fix (vb 9) (kd (.int 0)))))
 (asg 10 (rH 4 (eT (aC (bin fix (vb 7) (kd (.int 0))) (aC (bin fix (vb 9) (kd (.int 1))) (aC (una jH (eLs (be (fIt (bin fix (vb 7) (kd (.int 2)))) 1 (tgN 12) tT (bin fix (bin fix (vb 9) (kd (.int 2))) (vb 12))))) aN))))))
 nxt)
 (app 8 (vr 10)))))
 (fz 8 (app 6 (vr 8))))))
 (sq (asg 11 (eLs (be (bq (aC (una aM (vb 2)) aN)) 1 (tgN 12) tT (rH 4 (eT (aC (vr 12) (aC (vr 12) (aC (i_ (aC (bin fix (vb 2) (vb 12)) aN)) aN))))))))
 (fz 6 (ret (eT (aC (eLs (be (fIt (vr 3)) 1 (tgN 12) tT (eT (aC (bin fix (vb 12) (kd (.int 0))) (aC (bin fix (vb 12) (kd (.int 1))) aN))))) (aC (vr 11) (aC (vr 6) (aC (vr 3) (aC (vr 2) aN)))))))))))))))
def dn (ds:List D):R D:=fin (gM (st0 lR ds))
variable (f21:Fn P w K mg base C 2 "_law_arrows" 3 cr)
variable (f36:Fn P w K mg base C 2 "_law_sizes" 2 dm)
include T f21 f36 in
theorem qX (F:Fun K "_law_parts" "_law_parts" gt a fd) (hm:mg "_law_parts"=some (.ref a)) (hb:Binds K fd ["script","k"] []):Fn P w K mg base C 3 "_law_parts" 2 dn :=
 ⟨a,fd,_,bb (den:=gM) F Hu (λ_ _ _ _ _ _ hr=>(ai (sS 2 Hu.nd (eF f36 hr (ab (vE 0) (ab (vE 1) ag aa) aa) aa (am aa av)))
 (ai (sS 3 Hu.nd (eF f21 hr (ab (vE 0) (ab (cM (vB 1) bI) (ab (vE 2) ag aa) bi) aa) aa (am bi (am aa av))))
 (ai (vK (i:=4) Hu.nd rfl (Or.inr rfl))
 (ai (bh PassesOwn.never rfl (bt rfl T.range (ab (edl (vB 3) rfl T.len aa) ag ax) (bc ax)) (gN 5 Hu.nd)
 (ah (vJ (pX hr) (pv 4) (ak (vB 3) (vB 5)) (vE 5))))
 (ai (kX (i:=6) Hu.nd rfl (Or.inl rfl) (j6 ag))
 (ai (bh PassesOwn.never rfl (bz (vE 3)) (gN 7 Hu.nd)
 (ai (kX (i:=8) Hu.nd rfl (Or.inl rfl) (j6 ag))
 (ai (bh PassesOwn.never rfl (bz (vE 3)) (gN 9 Hu.nd)
 (ai (sS 10 Hu.nd (lA bI))
 (ai (bj (gQ (br hr) (EB.of (ak (vB 7) bI)) (EB.of (ak (vB 9) bI)))
 (ah (sS 10 Hu.nd (wC (pX hr) (pv 4) (cB (ab (ak (vB 7) bI) (ab (ak (vB 9) bI) (ab (kI (EB.of (bE (bn (N':=Nc_law_parts_0) (n:=1) rfl rfl rfl (eK 12) bO (bz (ak (vB 7) bI)) (λL cs s H fp=>(gN 12 nv)) (λL cs s H fp=>bf) (λL cs s H fp=>(ak (EB.of (ak (vB 9) bI)) (vB 12)))))) rfl T.tuple aR (λt ha=>cA dB rfl T.tuple boot_tuple ha (he:=aR) (hpl:=av))) ag ax) ae) ae)))))
 aH)
 (ah (jY (pv 8) (vE 10) (hst:=aa))))))
 (jX 8 (ah (jY (pv 6) (vE 8) (hst:=aa)))))))
 (ai (AH (nc (i:=11) (az (i:=11) Hu.nd rfl (Or.inl rfl)) (N':=Nc_law_parts_1) (n:=1) rfl rfl rfl (eK 12) bO (bt rfl T.range (ab (edl (vB 2) rfl T.len aa) ag ax) (bc ax)) (λL cs s H fp=>(gN 12 nu)) (λL cs s H fp=>bf) (λL cs s H fp=>(wC (pX hr) (pv 4) (cB (ab (vE 12) (ab (vE 12) (ab (tW rfl (ab (ak (vB 2) (vB 12)) ag ae) rfl T.range rfl T.tuple (bc ae) ax (λt ha=>cA (jh rfl) rfl T.tuple boot_tuple ha (he:=ax) (hpl:=av))) ag ax) aa) aa)))) rfl))
 (jX 6 (ah (aK (cB (ab (bE (bn (N':=Nc_law_parts_2) (n:=1) rfl rfl rfl (eK 12) bO (bz (vE 3)) (λL cs s H fp=>(gN 12 nt)) (λL cs s H fp=>bf) (λL cs s H fp=>(cB (ab (ak (vB 12) bI) (ab (ak (vB 12) bI) ag ae) ae))))) (ab (vE 11) (ab (vE 6) (ab (vE 3) (ab (vE 2) ag aa) aa) aa) aa) aR))))))))))))),hm,F.kp,hb⟩
abbrev d6:Stmt:=sAt 8
abbrev jm:List Str:=["ends","rests"]
theorem lT:ay jm ["ends","rests"] (aj d6):=by constructor<;>first|rfl|decide +kernel
def eQ:Rho->R Out:=(sq (iff (cX (tst (chn (λi j=>decide (i<=j)) (λi j=>decide (i<=j)) (kd (.int 1)) (una aM (vb 1)) (kd (.int 6)))))
 bad
 nxt)
 (iff (cX (tst (chn (λi j=>decide (i<=j)) (λi j=>decide (i<=j)) (kd (.int 1)) (una aM (vb 0)) (kd (.int 40)))))
 bad
 nxt))
def cg (ds:List D):R D:=fin (eQ (st0 jm ds))
include T in
theorem l_ (F:Fun K "check_counts" "check_counts" d6 a fd) (hm:mg "check_counts"=some (.ref a)) (hb:Binds K fd ["ends","rests"] []):Fn P w K mg base C 1 "check_counts" 2 cg :=
 ⟨a,fd,_,bb (den:=eQ) F lT (λ_ _ _ _ _ _ hr=>(ai (bj (cH (si (f:=λi j=>decide (i<=j)) (g:=λi j=>decide (i<=j)) nq nq bI (EB.of (edl (vB 1) rfl T.len aa)) (EB.of (oy rfl T.most_boxes.choose_spec))))
 (ah fP)
 aH)
 (ah (bj (cH (si (f:=λi j=>decide (i<=j)) (g:=λi j=>decide (i<=j)) nq nq bI (EB.of (edl (vB 0) rfl T.len aa)) (EB.of (oy rfl T.most_arrows.choose_spec))))
 (ah fP)
 aH)))),hm,F.kp,hb⟩
abbrev hZ:Stmt:=sAt 7
abbrev oW:List Str:=["number","count"]
theorem sy:ay oW ["number","count"] (aj hZ):=by constructor<;>first|rfl|decide +kernel
def iC:Rho->R Out:=(ret (chn (λi j=>decide (i<=j)) (λi j=>decide (i<j)) (kd (.int 0)) (vb 0) (vb 1)))
def bL (ds:List D):R D:=fin (iC (st0 oW ds))
include T in
theorem tm (F:Fun K "is_below" "is_below" hZ a fd) (hm:mg "is_below"=some (.ref a)) (hb:Binds K fd ["number","count"] []):Fn P w K mg base C 1 "is_below" 2 bL :=
 ⟨a,fd,_,bb (den:=iC) F sy (λ_ _ _ _ _ _ hr=>(ah (aK (zR (f:=λi j=>decide (i<=j)) (g:=λi j=>decide (i<j)) nq Cy bI (vB 0) (vB 1))))),hm,F.kp,hb⟩
abbrev fH:Stmt:=sAt 9
abbrev kR:List Str:=["ends","boxes","arrow","pair"]
theorem G8:ay kR ["ends","boxes"] (aj fH):=by constructor<;>first|rfl|decide +kernel
def gh:Rho->R Out:=(aY (fJ (aC (vr 0) aN)) (tg2 2 3)
 (iff (orB (tst (bin fne (una aM (vb 3)) (kd (.int 2)))) (orB (cX (tst (cal 2 bL (aC (bin fix (vb 3) (kd (.int 0))) (aC (vr 1) aN))))) (cX (tst (cal 2 bL (aC (bin fix (vb 3) (kd (.int 1))) (aC (vr 1) aN)))))))
 bad
 nxt))
def cR (ds:List D):R D:=fin (gh (st0 kR ds))
variable (f16:Fn P w K mg base C 1 "is_below" 2 bL)
include T f16 in
theorem pj (F:Fun K "check_ends" "check_ends" fH a fd) (hm:mg "check_ends"=some (.ref a)) (hb:Binds K fd ["ends","boxes"] []):Fn P w K mg base C 2 "check_ends" 2 cR :=
 ⟨a,fd,_,bb (den:=gh) F G8 (λ_ _ _ _ _ _ hr=>(ah (bh PassesOwn.never rfl (cV rfl T.enumerate (ab (vE 0) ag aa) (bc aa)) (b_ rfl (az (i:=2) G8.nd rfl (Or.inl rfl)) (az (i:=3) G8.nd rfl (Or.inl rfl)))
 (ah (bj (jV (fN (cT (br hr) (EB.of (edl (vB 3) rfl T.len aa)) bI) (fN (cH (cG (eF f16 hr (ab (ak (vB 3) bI) (ab (vE 1) ag aa) ae) ae (am aa av)))) (eI (cH (cG (eF f16 hr (ab (ak (vB 3) bI) (ab (vE 1) ag aa) ae) ae (am aa av))))))))
 (ah fP)
 aH))))),hm,F.kp,hb⟩
abbrev eW:Stmt:=sAt 10
abbrev jS:List Str:=["ends","rests","box","rest"]
theorem G_:ay jS ["ends","rests"] (aj eW):=by constructor<;>first|rfl|decide +kernel
def fu:Rho->R Out:=(aY (fJ (aC (vr 1) aN)) (tg2 2 3)
 (iff (orB (cX (tst (cal 2 bL (aC (vr 3) (aC (una aM (vb 0)) aN))))) (tst (bin fne (bin fix (vb 0) (vb 3)) (eT (aC (vr 2) (aC (vr 2) aN))))))
 bad
 nxt))
def cD (ds:List D):R D:=fin (fu (st0 jS ds))
include T f16 in
theorem nH (F:Fun K "check_rests" "check_rests" eW a fd) (hm:mg "check_rests"=some (.ref a)) (hb:Binds K fd ["ends","rests"] []):Fn P w K mg base C 2 "check_rests" 2 cD :=
 ⟨a,fd,_,bb (den:=fu) F G_ (λ_ _ _ _ _ _ hr=>(ah (bh PassesOwn.never rfl (cV rfl T.enumerate (ab (vE 1) ag aa) (bc aa)) (b_ rfl (az (i:=2) G_.nd rfl (Or.inl rfl)) (az (i:=3) G_.nd rfl (Or.inl rfl)))
 (ah (bj (jV (fN (cH (cG (eF f16 hr (ab (vE 3) (ab (edl (vB 0) rfl T.len aa) ag ax) aa) aa (am ax av)))) (eI (cT (br hr) (EB.of (ak (vB 0) (vB 3))) (EB.of (cB (ab (vE 2) (ab (vE 2) ag aa) aa)))))))
 (ah fP)
 aH))))),hm,F.kp,hb⟩
abbrev fG:Stmt:=sAt 11
abbrev iJ:List Str:=["table","arrows","one","row"]
theorem G9:ay iJ ["table","arrows"] (aj fG):=by constructor<;>first|rfl|decide +kernel
def gg:Rho->R Out:=(sq (iff (tst (bin fne (una aM (vb 0)) (vb 1)))
 bad
 nxt)
 (aY (fJ (aC (vr 0) aN)) (tg2 2 3)
 (iff (tst (bin fne (una aM (vb 3)) (vb 1)))
 bad
 nxt)))
def cQ (ds:List D):R D:=fin (gg (st0 iJ ds))
include T in
theorem pi (F:Fun K "check_form" "check_form" fG a fd) (hm:mg "check_form"=some (.ref a)) (hb:Binds K fd ["table","arrows"] []):Fn P w K mg base C 1 "check_form" 2 cQ :=
 ⟨a,fd,_,bb (den:=gg) F G9 (λ_ _ _ _ _ _ hr=>(ai (bj (cT (br hr) (EB.of (edl (vB 0) rfl T.len aa)) (vB 1))
 (ah fP)
 aH)
 (ah (bh PassesOwn.never rfl (cV rfl T.enumerate (ab (vE 0) ag aa) (bc aa)) (b_ rfl (az (i:=2) G9.nd rfl (Or.inl rfl)) (az (i:=3) G9.nd rfl (Or.inl rfl)))
 (ah (bj (cT (br hr) (EB.of (edl (vB 3) rfl T.len aa)) (vB 1))
 (ah fP)
 aH)))))),hm,F.kp,hb⟩
abbrev eX:Stmt:=sAt 13
abbrev jT:List Str:=["ends","one","other","made"]
theorem m8:ay jT ["ends","one","other","made"] (aj eX):=by constructor<;>first|rfl|decide +kernel
def fv:Rho->R Out:=(iff (tst (bin fne (bin fix (bin fix (vb 0) (vb 1)) (kd (.int 1))) (bin fix (bin fix (vb 0) (vb 2)) (kd (.int 0)))))
 (iff (tst (bin fne (vb 3) (una jI (kd (.int 1)))))
 bad
 nxt)
 (iff (orB (cX (tst (cal 2 bL (aC (vr 3) (aC (una aM (vb 0)) aN))))) (tst (bin fne (bin fix (vb 0) (vb 3)) (eT (aC (bin fix (bin fix (vb 0) (vb 1)) (kd (.int 0))) (aC (bin fix (bin fix (vb 0) (vb 2)) (kd (.int 1))) aN))))))
 bad
 nxt))
def cE (ds:List D):R D:=fin (fv (st0 jT ds))
include T f16 in
theorem nI (F:Fun K "check_entry" "check_entry" eX a fd) (hm:mg "check_entry"=some (.ref a)) (hb:Binds K fd ["ends","one","other","made"] []):Fn P w K mg base C 2 "check_entry" 4 cE :=
 ⟨a,fd,_,bb (den:=fv) F m8 (λ_ _ _ _ _ _ hr=>(ah (bj (cT (br hr) (EB.of (ak (EB.of (ak (vB 0) (vB 1))) bI)) (EB.of (ak (EB.of (ak (vB 0) (vB 2))) bI)))
 (ah (bj (cT (br hr) (vB 3) (EB.of (lA bI)))
 (ah fP)
 aH))
 (ah (bj (jV (fN (cH (cG (eF f16 hr (ab (vE 3) (ab (edl (vB 0) rfl T.len aa) ag ax) aa) aa (am ax av)))) (eI (cT (br hr) (EB.of (ak (vB 0) (vB 3))) (EB.of (cB (ab (ak (EB.of (ak (vB 0) (vB 1))) bI) (ab (ak (EB.of (ak (vB 0) (vB 2))) bI) ag ae) ae)))))))
 (ah fP)
 aH))))),hm,F.kp,hb⟩
abbrev eV:Stmt:=sAt 12
abbrev jR:List Str:=["ends","table","one","row","other","made"]
theorem Hd:ay jR ["ends","table"] (aj eV):=by constructor<;>first|rfl|decide +kernel
def ft:Rho->R Out:=(aY (fJ (aC (vr 1) aN)) (tg2 2 3)
 (aY (fJ (aC (vr 3) aN)) (tg2 4 5)
 (drp (cal 4 cE (aC (vr 0) (aC (vr 2) (aC (vr 4) (aC (vr 5) aN))))))))
def cC (ds:List D):R D:=fin (ft (st0 jR ds))
variable (f6:Fn P w K mg base C 2 "check_entry" 4 cE)
include T f6 in
theorem nG (F:Fun K "check_table" "check_table" eV a fd) (hm:mg "check_table"=some (.ref a)) (hb:Binds K fd ["ends","table"] []):Fn P w K mg base C 3 "check_table" 2 cC :=
 ⟨a,fd,_,bb (den:=ft) F Hd (λ_ _ _ _ _ _ hr=>(ah (bh PassesOwn.never rfl (cV rfl T.enumerate (ab (vE 1) ag aa) (bc aa)) (b_ rfl (az (i:=2) Hd.nd rfl (Or.inl rfl)) (az (i:=3) Hd.nd rfl (Or.inl rfl)))
 (ah (bh PassesOwn.never rfl (cV rfl T.enumerate (ab (vE 3) ag aa) (bc aa)) (b_ rfl (az (i:=4) Hd.nd rfl (Or.inl rfl)) (az (i:=5) Hd.nd rfl (Or.inl rfl)))
 (ah (mt (EB.of (eF f6 hr (ab (vE 0) (ab (vE 2) (ab (vE 4) (ab (vE 5) ag aa) aa) aa) aa) aa (am aa (am aa (am aa av)))))))))))),hm,F.kp,hb⟩
abbrev ci:Stmt:=sAt 14
abbrev fj:List Str:=["ends","rests","table","arrow","pair"]
theorem G7:ay fj ["ends","rests","table"] (aj ci):=by constructor<;>first|rfl|decide +kernel
def cO:Rho->R Out:=(aY (fJ (aC (vr 0) aN)) (tg2 3 4)
 (iff (orB (tst (bin fne (bin fix (bin fix (vb 2) (bin fix (vb 1) (bin fix (vb 4) (kd (.int 0))))) (vb 3)) (vb 3))) (tst (bin fne (bin fix (bin fix (vb 2) (vb 3)) (bin fix (vb 1) (bin fix (vb 4) (kd (.int 1))))) (vb 3))))
 bad
 nxt))
def bp (ds:List D):R D:=fin (cO (st0 fj ds))
include T in
theorem iO (F:Fun K "check_beside_rests" "check_beside_rests" ci a fd) (hm:mg "check_beside_rests"=some (.ref a)) (hb:Binds K fd ["ends","rests","table"] []):Fn P w K mg base C 1 "check_beside_rests" 3 bp :=
 ⟨a,fd,_,bb (den:=cO) F G7 (λ_ _ _ _ _ _ hr=>(ah (bh PassesOwn.never rfl (cV rfl T.enumerate (ab (vE 0) ag aa) (bc aa)) (b_ rfl (az (i:=3) G7.nd rfl (Or.inl rfl)) (az (i:=4) G7.nd rfl (Or.inl rfl)))
 (ah (bj (jV (fN (cT (br hr) (EB.of (ak (EB.of (ak (vB 2) (EB.of (ak (vB 1) (EB.of (ak (vB 4) bI)))))) (vB 3))) (vB 3)) (eI (cT (br hr) (EB.of (ak (EB.of (ak (vB 2) (vB 3))) (EB.of (ak (vB 1) (EB.of (ak (vB 4) bI)))))) (vB 3)))))
 (ah fP)
 aH))))),hm,F.kp,hb⟩
abbrev d5:Stmt:=sAt 16
abbrev gk:List Str:=["table","one","other","made","third","later"]
theorem He:ay gk ["table","one","other","made"] (aj d5):=by constructor<;>first|rfl|decide +kernel
def eO:Rho->R Out:=(aY (fJ (aC (bin fix (vb 0) (vb 2)) aN)) (tg2 4 5)
 (iff (xD (tst (bin fne (vb 5) (una jI (kd (.int 1))))) (tst (bin fne (bin fix (bin fix (vb 0) (vb 3)) (vb 4)) (bin fix (bin fix (vb 0) (vb 1)) (vb 5)))))
 bad
 nxt))
def cf (ds:List D):R D:=fin (eO (st0 gk ds))
include T in
theorem lZ (F:Fun K "check_thirds" "check_thirds" d5 a fd) (hm:mg "check_thirds"=some (.ref a)) (hb:Binds K fd ["table","one","other","made"] []):Fn P w K mg base C 1 "check_thirds" 4 cf :=
 ⟨a,fd,_,bb (den:=eO) F He (λ_ _ _ _ _ _ hr=>(ah (bh PassesOwn.never rfl (cV rfl T.enumerate (ab (ak (vB 0) (vB 2)) ag ae) (bc ae)) (b_ rfl (az (i:=4) He.nd rfl (Or.inl rfl)) (az (i:=5) He.nd rfl (Or.inl rfl)))
 (ah (bj (jV (xL (cT (br hr) (vB 5) (EB.of (lA bI))) (vv (cT (br hr) (EB.of (ak (EB.of (ak (vB 0) (vB 3))) (vB 4))) (EB.of (ak (EB.of (ak (vB 0) (vB 1))) (vB 5)))))))
 (ah fP)
 aH))))),hm,F.kp,hb⟩
abbrev dZ:Stmt:=sAt 15
abbrev jl:List Str:=["table","one","row","other","made"]
theorem Hf:ay jl ["table"] (aj dZ):=by constructor<;>first|rfl|decide +kernel
def eN:Rho->R Out:=(aY (fJ (aC (vr 0) aN)) (tg2 1 2)
 (aY (fJ (aC (vr 2) aN)) (tg2 3 4)
 (iff (tst (bin fne (vb 4) (una jI (kd (.int 1)))))
 (drp (cal 4 cf (aC (vr 0) (aC (vr 1) (aC (vr 3) (aC (vr 4) aN))))))
 nxt)))
def ce (ds:List D):R D:=fin (eN (st0 jl ds))
variable (f11:Fn P w K mg base C 1 "check_thirds" 4 cf)
include T f11 in
theorem lY (F:Fun K "check_threes" "check_threes" dZ a fd) (hm:mg "check_threes"=some (.ref a)) (hb:Binds K fd ["table"] []):Fn P w K mg base C 2 "check_threes" 1 ce :=
 ⟨a,fd,_,bb (den:=eN) F Hf (λ_ _ _ _ _ _ hr=>(ah (bh PassesOwn.never rfl (cV rfl T.enumerate (ab (vE 0) ag aa) (bc aa)) (b_ rfl (az (i:=1) Hf.nd rfl (Or.inl rfl)) (az (i:=2) Hf.nd rfl (Or.inl rfl)))
 (ah (bh PassesOwn.never rfl (cV rfl T.enumerate (ab (vE 2) ag aa) (bc aa)) (b_ rfl (az (i:=3) Hf.nd rfl (Or.inl rfl)) (az (i:=4) Hf.nd rfl (Or.inl rfl)))
 (ah (bj (cT (br hr) (vB 4) (EB.of (lA bI)))
 (ah (mt (EB.of (eF f11 hr (ab (vE 0) (ab (vE 1) (ab (vE 3) (ab (vE 4) ag aa) aa) aa) aa) aa (am aa (am aa (am aa av)))))))
 aH))))))),hm,F.kp,hb⟩
abbrev bG:Stmt:=Bz (sAt 17) 0
abbrev fg:List Str:=["self","ends","rests","table"]
theorem m9:ay fg ["self","ends","rests","table"] (aj bG):=by constructor<;>first|rfl|decide +kernel
abbrev Nc_Hall___init_0:List Str:=["self","ends","rests","table","row"]
theorem lj:Nc_Hall___init_0.Nodup:=by decide +kernel
def jd:Rho->R D:=B3 [(cal 2 cg (aC (vr 1) (aC (vr 2) aN))),(cal 2 cR (aC (vr 1) (aC (una aM (vb 2)) aN))),(cal 2 cD (aC (vr 1) (aC (vr 2) aN))),(cal 2 cQ (aC (vr 3) (aC (una aM (vb 1)) aN))),(cal 2 cC (aC (vr 1) (aC (vr 3) aN))),(cal 3 bp (aC (vr 1) (aC (vr 2) (aC (vr 3) aN)))),(cal 1 ce (aC (vr 3) aN))] (fIt (vb 1)) (fIt (vb 2)) (be (fIt (vr 3)) 1 (tgN 4) tT (eLs (fIt (vb 4))))
variable (f3:Fn P w K mg base C 1 "check_beside_rests" 3 bp)
variable (f4:Fn P w K mg base C 1 "check_counts" 2 cg)
variable (f5:Fn P w K mg base C 2 "check_ends" 2 cR)
variable (f7:Fn P w K mg base C 1 "check_form" 2 cQ)
variable (f9:Fn P w K mg base C 2 "check_rests" 2 cD)
variable (f10:Fn P w K mg base C 3 "check_table" 2 cC)
variable (f12:Fn P w K mg base C 2 "check_threes" 1 ce)
include T f3 f4 f5 f7 f9 f10 f12 in
theorem lG (hr:Room 3 (A.deeper (envOfC "Hall.__init__" (aj bG) s.heap.objs.size f cdv))) :
  PSs (gi CX0 P w K mg base fg "Hall.__init__" (aj bG) f cdv A outer s H E).nox (bY bG) (tCk C (gi CX0 P w K mg base fg "Hall.__init__" (aj bG) f cdv A outer s H E).nox [(cal 2 cg (aC (vr 1) (aC (vr 2) aN))),(cal 2 cR (aC (vr 1) (aC (una aM (vb 2)) aN))),(cal 2 cD (aC (vr 1) (aC (vr 2) aN))),(cal 2 cQ (aC (vr 3) (aC (una aM (vb 1)) aN))),(cal 2 cC (aC (vr 1) (aC (vr 3) aN))),(cal 3 bp (aC (vr 1) (aC (vr 2) (aC (vr 3) aN)))),(cal 1 ce (aC (vr 3) aN))] (tI C (gi CX0 P w K mg base fg "Hall.__init__" (aj bG) f cdv A outer s H E).nox (fIt (vb 1)) (fIt (vb 2)) (be (fIt (vr 3)) 1 (tgN 4) tT (eLs (fIt (vb 4)))))) :=
 (jZ (ng (EB.of (eF f4 hr (ab (vE 1) (ab (vE 2) ag aa) aa) aa (am aa av))))
 (jZ (ng (EB.of (eF f5 hr (ab (vE 1) (ab (edl (vB 2) rfl T.len aa) ag ax) aa) aa (am ax av))))
 (jZ (ng (EB.of (eF f9 hr (ab (vE 1) (ab (vE 2) ag aa) aa) aa (am aa av))))
 (jZ (ng (EB.of (eF f7 hr (ab (vE 3) (ab (edl (vB 1) rfl T.len aa) ag ax) aa) aa (am ax av))))
 (jZ (ng (EB.of (eF f10 hr (ab (vE 1) (ab (vE 3) ag aa) aa) aa (am aa av))))
 (jZ (ng (EB.of (eF f3 hr (ab (vE 1) (ab (vE 2) (ab (vE 3) ag aa) aa) aa) aa (am aa (am aa av)))))
 (jZ (ng (EB.of (eF f12 hr (ab (vE 3) ag aa) aa av)))
 (Fe (yw (pv 0) (fdl (vB 1) rfl T.list aa)) (yw (pv 0) (fdl (vB 2) rfl T.list aa)) (yw (pv 0) (bn (N':=Nc_Hall___init_0) (n:=1) rfl rfl rfl (eK 4) bO (bz (vE 3)) (λL cs s H fp=>(gN 4 lj)) (λL cs s H fp=>bf) (λL cs s H fp=>(bE (fdl (vB 4) rfl T.list aa)))))))))))))
include T f3 f4 f5 f7 f9 f10 f12 in
theorem nJ (F:Fun K "__init__" "Hall.__init__" bG a fd) (M:Mk K C a) (hb:Binds K fd ["self","ends","rests","table"] []):FnH P w K mg base C 4 jd :=
 ⟨a,fd,M,Bx F m9 T.cl T.nE T.nR T.nT (λcdv A outer s H E hr=>lG cdv A outer s H E T f3 f4 f5 f7 f9 f10 f12 hr),T.hall,hb⟩
abbrev hV:Stmt:=sAt 42
abbrev oR:List Str:=["parts"]
theorem sw:ay oR ["parts"] (aj hV):=by constructor<;>first|rfl|decide +kernel
abbrev Nc_law_hall_0:List Str:=["parts","row"]
theorem o7:Nc_law_hall_0.Nodup:=by decide +kernel
def iy:Rho->R Out:=(ret (mkH jd (aC (eLs (fIt (bin fix (vb 0) (kd (.int 0))))) (aC (eLs (fIt (bin fix (vb 0) (kd (.int 1))))) (aC (eLs (be (fIt (bin fix (vb 0) (kd (.int 2)))) 1 (tgN 1) tT (eLs (fIt (vb 1))))) aN)))))
def dP (ds:List D):R D:=fin (iy (st0 oR ds))
variable (f0:FnH P w K mg base C 4 jd)
include T f0 in
theorem s_ (F:Fun K "_law_hall" "_law_hall" hV a fd) (hm:mg "_law_hall"=some (.ref a)) (hb:Binds K fd ["parts"] []):Fn P w K mg base C 6 "_law_hall" 1 dP :=
 ⟨a,fd,_,bb (den:=iy) F sw (λ_ _ _ _ _ _ hr=>(ah (aK (BZ f0 (hr.mono (by decide)) rfl (ab (bE (fdl (EB.of (ak (vB 0) bI)) rfl T.list ae)) (ab (bE (fdl (EB.of (ak (vB 0) bI)) rfl T.list ae)) (ab (bE (bn (N':=Nc_law_hall_0) (n:=1) rfl rfl rfl (eK 1) bO (bz (ak (vB 0) bI)) (λL cs s H fp=>(gN 1 o7)) (λL cs s H fp=>bf) (λL cs s H fp=>(bE (fdl (vB 1) rfl T.list aa))))) ag aR) ax) ax) rfl (he:=ax) (hpl:=(am ax (am aR av))))))),hm,F.kp,hb⟩
abbrev dg:Stmt:=sAt 44
abbrev g9:List Str:=["parts"]
theorem j_:ay g9 ["parts"] (aj dg):=by constructor<;>first|rfl|decide +kernel
abbrev Nc_law_reading_of_0:List Str:=["parts","size"]
theorem jG:Nc_law_reading_of_0.Nodup:=by decide +kernel
abbrev Nc_law_reading_of_1:List Str:=["parts","arrow"]
theorem jF:Nc_law_reading_of_1.Nodup:=by decide +kernel
def dJ:Rho->R Out:=(ret (eT (aC (eLs (be (fIt (bin fix (vb 0) (kd (.int 4)))) 1 (tgN 1) tT (vr 1))) (aC (eLs (be (fIt (bin fix (vb 0) (kd (.int 3)))) 1 (tgN 1) tT (eLs (fIt (bin fix (vb 1) (kd (.int 2))))))) aN))))
def bM (ds:List D):R D:=fin (dJ (st0 g9 ds))
include T in
theorem ko (F:Fun K "_law_reading_of" "_law_reading_of" dg a fd) (hm:mg "_law_reading_of"=some (.ref a)) (hb:Binds K fd ["parts"] []):Fn P w K mg base C 1 "_law_reading_of" 1 bM :=
 ⟨a,fd,_,bb (den:=dJ) F j_ (λ_ _ _ _ _ _ hr=>(ah (aK (cB (ab (bE (bn (N':=Nc_law_reading_of_0) (n:=1) rfl rfl rfl (eK 1) bO (bz (ak (vB 0) bI)) (λL cs s H fp=>(gN 1 jG)) (λL cs s H fp=>bf) (λL cs s H fp=>(vE 1)))) (ab (bE (bn (N':=Nc_law_reading_of_1) (n:=1) rfl rfl rfl (eK 1) bO (bz (ak (vB 0) bI)) (λL cs s H fp=>(gN 1 jF)) (λL cs s H fp=>bf) (λL cs s H fp=>(bE (fdl (EB.of (ak (vB 1) bI)) rfl T.list ae))))) ag aR) aR))))),hm,F.kp,hb⟩
abbrev fD:Stmt:=sAt 46
abbrev kO:List Str:=["parts","one","other","maps","arrow","more"]
theorem Hl:ay kO ["parts","one","other"] (aj fD):=by constructor<;>first|rfl|decide +kernel
abbrev Nc_law_beside_0:List Str:=["parts","one","other","maps","arrow","more","thing"]
theorem lW:Nc_law_beside_0.Nodup:=by decide +kernel
abbrev Nc_law_beside_1:List Str:=["parts","one","other","maps","arrow","more","a","b"]
theorem iK:Nc_law_beside_1.Nodup:=by decide +kernel
def f_:Rho->R Out:=(sq (own 3 (eE aN))
 (sq (aY (bq (aC (una aM (bin fix (vb 0) (kd (.int 0)))) aN)) (tgN 4)
 (sq (asg 5 (bin fix (bin fix (vb 1) (kd (.int 0))) (bin fix (bin fix (bin fix (vb 0) (kd (.int 0))) (vb 4)) (kd (.int 1)))))
 (app 3 (bin bo (bin fix (bin fix (vb 1) (kd (.int 1))) (vb 4)) (eLs (be (fIt (bin fix (bin fix (vb 2) (kd (.int 1))) (vb 4))) 1 (tgN 6) tT (bin bo (vb 6) (vb 5))))))))
 (fz 3 (ret (eT (aC (eLs (be (lz (aC (bin fix (vb 1) (kd (.int 0))) (aC (bin fix (vb 2) (kd (.int 0))) aN))) 2 (tg2 6 7) tT (bin bo (vb 6) (vb 7)))) (aC (vr 3) aN)))))))
def cP (ds:List D):R D:=fin (f_ (st0 kO ds))
include T in
theorem pc (F:Fun K "_law_beside" "_law_beside" fD a fd) (hm:mg "_law_beside"=some (.ref a)) (hb:Binds K fd ["parts","one","other"] []):Fn P w K mg base C 1 "_law_beside" 3 cP :=
 ⟨a,fd,_,bb (den:=f_) F Hl (λ_ _ _ _ _ _ hr=>(ai (kX (i:=3) Hl.nd rfl (Or.inl rfl) (j6 ag))
 (ai (bh PassesOwn.never rfl (bt rfl T.range (ab (edl (EB.of (ak (vB 0) bI)) rfl T.len ae) ag ax) (bc ax)) (gN 4 Hl.nd)
 (ai (sS 5 Hl.nd (ak (EB.of (ak (vB 1) bI)) (EB.of (ak (EB.of (ak (EB.of (ak (vB 0) bI)) (vB 4))) bI))))
 (ah (jY (pv 3) (cM (EB.of (ak (EB.of (ak (vB 1) bI)) (vB 4))) (EB.of (bE (bn (N':=Nc_law_beside_0) (n:=1) rfl rfl rfl (eK 6) bO (bz (ak (EB.of (ak (vB 2) bI)) (vB 4))) (λL cs s H fp=>(gN 6 lW)) (λL cs s H fp=>bf) (λL cs s H fp=>(cM (vB 6) (vB 5))))))) (hst:=bi)))))
 (jX 3 (ah (aK (cB (ab (bE (bn (N':=Nc_law_beside_1) (n:=2) rfl rfl rfl (D8 6) uf (nV rfl T.zip (ab (ak (vB 1) bI) (ab (ak (vB 2) bI) ag ae) ae) ae (am ae av)) (λL cs s H fp=>(b_ rfl (az (i:=6) iK rfl (Or.inl rfl)) (az (i:=7) iK rfl (Or.inl rfl)))) (λL cs s H fp=>bf) (λL cs s H fp=>(cM (vB 6) (vB 7))))) (ab (vE 3) ag aa) aR)))))))),hm,F.kp,hb⟩
abbrev eR:Stmt:=sAt 43
abbrev jO:List Str:=["parts","box","other"]
theorem m6:ay jO ["parts","box","other"] (aj eR):=by constructor<;>first|rfl|decide +kernel
abbrev Nc_law_between_0:List Str:=["parts","box","other","arrow"]
theorem li:Nc_law_between_0.Nodup:=by decide +kernel
def fm:Rho->R Out:=(ret (eLs (be (bq (aC (una aM (bin fix (vb 0) (kd (.int 0)))) aN)) 1 (tgN 3) (tst (bin feq (bin fix (bin fix (vb 0) (kd (.int 0))) (vb 3)) (eT (aC (vr 1) (aC (vr 2) aN))))) (vr 3))))
def bW (ds:List D):R D:=fin (fm (st0 jO ds))
include T in
theorem nB (F:Fun K "_law_between" "_law_between" eR a fd) (hm:mg "_law_between"=some (.ref a)) (hb:Binds K fd ["parts","box","other"] []):Fn P w K mg base C 1 "_law_between" 3 bW :=
 ⟨a,fd,_,bb (den:=fm) F m6 (λ_ _ _ _ _ _ hr=>(ah (aK (bE (bn (N':=Nc_law_between_0) (n:=1) rfl rfl rfl (eK 3) bO (bt rfl T.range (ab (edl (EB.of (ak (vB 0) bI)) rfl T.len ae) ag ax) (bc ax)) (λL cs s H fp=>(gN 3 li)) (λL cs s H fp=>(wl (gQ (br hr) (EB.of (ak (EB.of (ak (vB 0) bI)) (vB 3))) (EB.of (cB (ab (vE 1) (ab (vE 2) ag aa) aa)))))) (λL cs s H fp=>(vE 3))))))),hm,F.kp,hb⟩
abbrev jo:Stmt:=sAt 45
abbrev qx:List Str:=["parts","box","things","maps","arrow","one","other"]
theorem Ht:ay qx ["parts","box"] (aj jo):=by constructor<;>first|rfl|decide +kernel
abbrev Nc_law_out_0:List Str:=["parts","box","things","maps","arrow","one","6.","other"]
theorem qT:Nc_law_out_0.Nodup:=by decide +kernel
abbrev Nc_law_out_1:List Str:=["parts","box","things","maps","arrow","one","other","first"]
theorem qS:Nc_law_out_1.Nodup:=by decide +kernel
abbrev Nc_law_out_2:List Str:=["parts","box","things","maps","arrow","one","other","row"]
theorem qR:Nc_law_out_2.Nodup:=by decide +kernel
def jb:Rho->R Out:=(sq (asg 2 (eLs (be (bq (aC (una aM (bin fix (vb 0) (kd (.int 1)))) aN)) 1 (tgN 7) tT (cal 3 bW (aC (vr 0) (aC (vr 1) (aC (vr 7) aN)))))))
 (sq (own 3 (eE aN))
 (sq (aY (bq (aC (una aM (bin fix (vb 0) (kd (.int 0)))) aN)) (tgN 4)
 (sq (asT (tg2 5 6) (bin fix (bin fix (vb 0) (kd (.int 0))) (vb 4)))
 (app 3 (eLs (be (fIt (bin fix (vb 2) (vb 5))) 1 (tgN 7) tT (xr (bin fix (vb 2) (vb 6)) (bin fix (bin fix (bin fix (vb 0) (kd (.int 2))) (vb 7)) (vb 4))))))))
 (fz 3 (ret (eT (aC (eLs (be (fIt (vr 2)) 1 (tgN 7) tT (una aM (vb 7)))) (aC (vr 3) aN))))))))
def cZ (ds:List D):R D:=fin (jb (st0 qx ds))
variable (f23:Fn P w K mg base C 1 "_law_between" 3 bW)
include T f23 in
theorem uJ (F:Fun K "_law_out" "_law_out" jo a fd) (hm:mg "_law_out"=some (.ref a)) (hb:Binds K fd ["parts","box"] []):Fn P w K mg base C 2 "_law_out" 2 cZ :=
 ⟨a,fd,_,bb (den:=jb) F Ht (λ_ _ _ _ _ _ hr=>(ai (sS 2 Ht.nd (bE (bn (N':=Nc_law_out_0) (n:=1) rfl rfl rfl (eK 7) bO (bt rfl T.range (ab (edl (EB.of (ak (vB 0) bI)) rfl T.len ae) ag ax) (bc ax)) (λL cs s H fp=>(gN 7 qT)) (λL cs s H fp=>bf) (λL cs s H fp=>(eF f23 hr (ab (vE 0) (ab (vE 1) (ab (vE 7) ag aa) aa) aa) aa (am aa (am aa av)))))))
 (ai (kX (i:=3) Ht.nd rfl (Or.inl rfl) (j6 ag))
 (ai (bh PassesOwn.never rfl (bt rfl T.range (ab (edl (EB.of (ak (vB 0) bI)) rfl T.len ae) ag ax) (bc ax)) (gN 4 Ht.nd)
 (ai (yf (ak (EB.of (ak (vB 0) bI)) (vB 4)) (b_ rfl (az (i:=5) Ht.nd rfl (Or.inl rfl)) (az (i:=6) Ht.nd rfl (Or.inr rfl))))
 (ah (jY (pv 3) (bE (bn (N':=Nc_law_out_1) (n:=1) rfl rfl rfl (eK 7) bO (bz (ak (vB 2) (vB 5))) (λL cs s H fp=>(gN 7 qS)) (λL cs s H fp=>bf) (λL cs s H fp=>(zP (EB.of (ak (vB 2) (vB 6))) (ak (EB.of (ak (EB.of (ak (vB 0) bI)) (vB 7))) (vB 4)) ae)))) (hst:=aR)))))
 (jX 3 (ah (aK (cB (ab (bE (bn (N':=Nc_law_out_2) (n:=1) rfl rfl rfl (eK 7) bO (bz (vE 2)) (λL cs s H fp=>(gN 7 qR)) (λL cs s H fp=>bf) (λL cs s H fp=>(edl (vB 7) rfl T.len aa)))) (ab (vE 3) ag aa) aR))))))))),hm,F.kp,hb⟩
abbrev cy:Stmt:=sAt 47
abbrev fA:List Str:=["script","k","parts","point","none","plain","way","out"]
theorem Ho:ay fA ["script","k","parts"] (aj cy):=by constructor<;>first|rfl|decide +kernel
abbrev Nc_law_drawn_reading_0:List Str:=["script","k","parts","point","none","plain","way","out","box"]
theorem ik:Nc_law_drawn_reading_0.Nodup:=by decide +kernel
abbrev Nc_law_drawn_reading_1:List Str:=["script","k","parts","point","none","plain","way","out","arrow"]
theorem ij:Nc_law_drawn_reading_1.Nodup:=by decide +kernel
abbrev Nc_law_drawn_reading_2:List Str:=["script","k","parts","point","none","plain","way","out","box"]
theorem ii:Nc_law_drawn_reading_2.Nodup:=by decide +kernel
abbrev Nc_law_drawn_reading_3:List Str:=["script","k","parts","point","none","plain","way","out","arrow"]
theorem ig:Nc_law_drawn_reading_3.Nodup:=by decide +kernel
def cS:Rho->R Out:=(sq (asg 3 (eT (aC (eLs (be (fIt (bin fix (vb 2) (kd (.int 1)))) 1 (tgN 8) tT (kd (.int 1)))) (aC (eLs (be (fIt (bin fix (vb 2) (kd (.int 0)))) 1 (tgN 8) tT (eL (aC (kd (.int 0)) aN)))) aN))))
 (sq (asg 4 (eT (aC (eLs (be (fIt (bin fix (vb 2) (kd (.int 1)))) 1 (tgN 8) tT (kd (.int 0)))) (aC (eLs (be (fIt (bin fix (vb 2) (kd (.int 0)))) 1 (tgN 8) tT (eL aN))) aN))))
 (sq (asg 5 (cal 1 bM (aC (vr 2) aN)))
 (sq (asg 6 (bin (iI bm) (cal 2 aE (aC (vr 0) (aC (vr 1) aN))) (kd (.int 5))))
 (sq (iff (tst (bin feq (vb 6) (kd (.int 0))))
 (ret (vr 5))
 nxt)
 (sq (iff (tst (bin feq (vb 6) (kd (.int 1))))
 (ret (cal 3 cP (aC (vr 2) (aC (vr 5) (aC (vr 3) aN)))))
 nxt)
 (sq (iff (tst (bin feq (vb 6) (kd (.int 2))))
 (ret (cal 3 cP (aC (vr 2) (aC (vr 3) (aC (bin fix (eL (aC (vr 4) (aC (vr 3) aN))) (bin (iI bm) (cal 2 aE (aC (vr 0) (aC (bin bo (vb 1) (kd (.int 1))) aN))) (kd (.int 2)))) aN)))))
 nxt)
 (sq (iff (tst (bin feq (vb 6) (kd (.int 3))))
 (sq (asg 7 (cal 2 cZ (aC (vr 2) (aC (bin (iI bm) (cal 2 aE (aC (vr 0) (aC (bin bo (vb 1) (kd (.int 1))) aN))) (una aM (bin fix (vb 2) (kd (.int 1))))) aN))))
 (sq (iff (tst (bin (iI fle) (una qe (bin fix (vb 7) (kd (.int 0)))) (kd (.int 3))))
 (ret (vr 7))
 nxt)
 (ret (vr 5))))
 nxt)
 (ret (vr 4))))))))))
def aZ (ds:List D):R D:=fin (cS (st0 fA ds))
variable (f22:Fn P w K mg base C 1 "_law_beside" 3 cP)
variable (f32:Fn P w K mg base C 2 "_law_out" 2 cZ)
variable (f34:Fn P w K mg base C 1 "_law_reading_of" 1 bM)
include T f24 f22 f32 f34 in
theorem i4 (F:Fun K "_law_drawn_reading" "_law_drawn_reading" cy a fd) (hm:mg "_law_drawn_reading"=some (.ref a)) (hb:Binds K fd ["script","k","parts"] []):Fn P w K mg base C 3 "_law_drawn_reading" 3 aZ :=
 ⟨a,fd,_,bb (den:=cS) F Ho (λ_ _ _ _ _ _ hr=>(ai (sS 3 Ho.nd (cB (ab (bE (bn (N':=Nc_law_drawn_reading_0) (n:=1) rfl rfl rfl (eK 8) bO (bz (ak (vB 2) bI)) (λL cs s H fp=>(gN 8 ik)) (λL cs s H fp=>bf) (λL cs s H fp=>aU))) (ab (bE (bn (N':=Nc_law_drawn_reading_1) (n:=1) rfl rfl rfl (eK 8) bO (bz (ak (vB 2) bI)) (λL cs s H fp=>(gN 8 ij)) (λL cs s H fp=>bf) (λL cs s H fp=>(bx (ab aU ag au))))) ag aR) aR)))
 (ai (sS 4 Ho.nd (cB (ab (bE (bn (N':=Nc_law_drawn_reading_2) (n:=1) rfl rfl rfl (eK 8) bO (bz (ak (vB 2) bI)) (λL cs s H fp=>(gN 8 ii)) (λL cs s H fp=>bf) (λL cs s H fp=>aU))) (ab (bE (bn (N':=Nc_law_drawn_reading_3) (n:=1) rfl rfl rfl (eK 8) bO (bz (ak (vB 2) bI)) (λL cs s H fp=>(gN 8 ig)) (λL cs s H fp=>bf) (λL cs s H fp=>(bx ag)))) ag aR) aR)))
 (ai (sS 5 Ho.nd (eF f34 hr (ab (vE 2) ag aa) aa av))
 (ai (sS 6 Ho.nd (cY (EB.of (eF f24 hr (ab (vE 0) (ab (vE 1) ag aa) aa) aa (am aa av))) bI))
 (ai (bj (gQ (br hr) (vB 6) bI)
 (ah (aK (vE 5)))
 aH)
 (ai (bj (gQ (br hr) (vB 6) bI)
 (ah (aK (eF f22 hr (ab (vE 2) (ab (vE 5) (ab (vE 3) ag aa) aa) aa) aa (am aa (am aa av)))))
 aH)
 (ai (bj (gQ (br hr) (vB 6) bI)
 (ah (aK (eF f22 hr (ab (vE 2) (ab (vE 3) (ab (ak (EB.of (bx (ab (vE 4) (ab (vE 3) ag aa) aa))) (EB.of (cY (EB.of (eF f24 hr (ab (vE 0) (ab (cM (vB 1) bI) ag bi) aa) aa (am bi av))) bI))) ag ae) aa) aa) aa (am aa (am ae av)))))
 aH)
 (ai (bj (gQ (br hr) (vB 6) bI)
 (ai (sS 7 Ho.nd (eF f32 hr (ab (vE 2) (ab (cY (EB.of (eF f24 hr (ab (vE 0) (ab (cM (vB 1) bI) ag bi) aa) aa (am bi av))) (EB.of (edl (EB.of (ak (vB 2) bI)) rfl T.len ae))) ag bi) aa) aa (am bi av)))
 (ai (bj (EI (EB.of (BY rfl rfl T.max ae (EB.of (ak (vB 7) bI)))) bI)
 (ah (aK (vE 7)))
 aH)
 (ah (aK (vE 5)))))
 aH)
 (ah (aK (vE 4)))))))))))),hm,F.kp,hb⟩
abbrev hE:Stmt:=sAt 49
abbrev oO:List Str:=["size","most","rows","k","longer","row"]
theorem Hv:ay oO ["size","most"] (aj hE):=by constructor<;>first|rfl|decide +kernel
abbrev Nc_law_rows_0:List Str:=["size","most","rows","k","longer","row","number"]
theorem o6:Nc_law_rows_0.Nodup:=by decide +kernel
def ir:Rho->R Out:=(sq (asg 2 (eL (aC (eL aN) aN)))
 (sq (aY (bq (aC (vr 0) aN)) (tgN 3)
 (sq (asg 4 (eL aN))
 (sq (aY (fIt (vr 2)) (tgN 5)
 (asg 4 (bin bo (vb 4) (eLs (be (bq (aC (vr 1) aN)) 1 (tgN 6) tT (bin bo (vb 5) (eL (aC (vr 6) aN))))))))
 (asg 2 (vr 4)))))
 (ret (vr 2))))
def dN (ds:List D):R D:=fin (ir (st0 oO ds))
include T in
theorem sX (F:Fun K "_law_rows" "_law_rows" hE a fd) (hm:mg "_law_rows"=some (.ref a)) (hb:Binds K fd ["size","most"] []):Fn P w K mg base C 1 "_law_rows" 2 dN :=
 ⟨a,fd,_,bb (den:=ir) F Hv (λ_ _ _ _ _ _ hr=>(ai (sS 2 Hv.nd (bx (ab (bx ag) ag cI)))
 (ai (bh PassesOwn.never rfl (bt rfl T.range (ab (vE 0) ag aa) (bc aa)) (gN 3 Hv.nd)
 (ai (sS 4 Hv.nd (bx ag))
 (ai (bh PassesOwn.never rfl (bz (vE 2)) (gN 5 Hv.nd)
 (ah (sS 4 Hv.nd (cM (vB 4) (EB.of (bE (bn (N':=Nc_law_rows_0) (n:=1) rfl rfl rfl (eK 6) bO (bt rfl T.range (ab (vE 1) ag aa) (bc aa)) (λL cs s H fp=>(gN 6 o6)) (λL cs s H fp=>bf) (λL cs s H fp=>(cM (vB 5) (EB.of (bx (ab (vE 6) ag aa))))))))))))
 (ah (sS 2 Hv.nd (vE 4))))))
 (ah (aK (vE 2)))))),hm,F.kp,hb⟩
abbrev dD:Stmt:=sAt 48
abbrev iL:List Str:=["parts","one","other","change","arrow","first","last","thing","behind"]
theorem Hr:ay iL ["parts","one","other","change"] (aj dD):=by constructor<;>first|rfl|decide +kernel
def d_:Rho->R Out:=(sq (aY (bq (aC (una aM (bin fix (vb 0) (kd (.int 0)))) aN)) (tgN 4)
 (sq (asT (tg2 5 6) (bin fix (bin fix (vb 0) (kd (.int 0))) (vb 4)))
 (aY (bq (aC (bin fix (bin fix (vb 1) (kd (.int 0))) (vb 5)) aN)) (tgN 7)
 (sq (asg 8 (bin fix (bin fix (bin fix (vb 1) (kd (.int 1))) (vb 4)) (vb 7)))
 (iff (tst (bin fne (bin fix (bin fix (vb 3) (vb 6)) (vb 8)) (bin fix (bin fix (bin fix (vb 2) (kd (.int 1))) (vb 4)) (bin fix (bin fix (vb 3) (vb 5)) (vb 7)))))
 (ret (kd (.bl false)))
 nxt)))))
 (ret (kd (.bl true))))
def bC (ds:List D):R D:=fin (d_ (st0 iL ds))
include T in
theorem ll (F:Fun K "_law_is_change" "_law_is_change" dD a fd) (hm:mg "_law_is_change"=some (.ref a)) (hb:Binds K fd ["parts","one","other","change"] []):Fn P w K mg base C 1 "_law_is_change" 4 bC :=
 ⟨a,fd,_,bb (den:=d_) F Hr (λ_ _ _ _ _ _ hr=>(ai (bh PassesOwn.never rfl (bt rfl T.range (ab (edl (EB.of (ak (vB 0) bI)) rfl T.len ae) ag ax) (bc ax)) (gN 4 Hr.nd)
 (ai (yf (ak (EB.of (ak (vB 0) bI)) (vB 4)) (b_ rfl (az (i:=5) Hr.nd rfl (Or.inl rfl)) (az (i:=6) Hr.nd rfl (Or.inl rfl))))
 (ah (bh PassesOwn.never rfl (bt rfl T.range (ab (ak (EB.of (ak (vB 1) bI)) (vB 5)) ag ae) (bc ae)) (gN 7 Hr.nd)
 (ai (sS 8 Hr.nd (ak (EB.of (ak (EB.of (ak (vB 1) bI)) (vB 4))) (vB 7)))
 (ah (bj (cT (br hr) (EB.of (ak (EB.of (ak (vB 3) (vB 6))) (vB 8))) (EB.of (ak (EB.of (ak (EB.of (ak (vB 2) bI)) (vB 4))) (EB.of (ak (EB.of (ak (vB 3) (vB 5))) (vB 7))))))
 (ah (aK dq))
 aH)))))))
 (ah (aK dq)))),hm,F.kp,hb⟩
abbrev cU:Stmt:=sAt 50
abbrev gC:List Str:=["parts","one","other","found","box","longer","rows","change"]
theorem Hj:ay gC ["parts","one","other"] (aj cU):=by constructor<;>first|rfl|decide +kernel
abbrev Nc_law_all_changes_0:List Str:=["parts","one","other","found","box","longer","rows","change","row"]
theorem i0:Nc_law_all_changes_0.Nodup:=by decide +kernel
abbrev Nc_law_all_changes_1:List Str:=["parts","one","other","found","box","longer","rows","7.","change"]
theorem iZ:Nc_law_all_changes_1.Nodup:=by decide +kernel
def dw:Rho->R Out:=(sq (asg 3 (eL (aC (eL aN) aN)))
 (sq (aY (bq (aC (una aM (bin fix (vb 0) (kd (.int 1)))) aN)) (tgN 4)
 (sq (asg 5 (eL aN))
 (sq (asg 6 (cal 2 dN (aC (bin fix (bin fix (vb 1) (kd (.int 0))) (vb 4)) (aC (bin fix (bin fix (vb 2) (kd (.int 0))) (vb 4)) aN))))
 (sq (aY (fIt (vr 3)) (tgN 7)
 (asg 5 (bin bo (vb 5) (eLs (be (fIt (vr 6)) 1 (tgN 8) tT (bin bo (vb 7) (eL (aC (vr 8) aN))))))))
 (asg 3 (vr 5))))))
 (ret (eLs (be (fIt (vr 3)) 1 (tgN 8) (tst (cal 4 bC (aC (vr 0) (aC (vr 1) (aC (vr 2) (aC (vr 8) aN)))))) (vr 8))))))
def bD (ds:List D):R D:=fin (dw (st0 gC ds))
variable (f29:Fn P w K mg base C 1 "_law_is_change" 4 bC)
variable (f35:Fn P w K mg base C 1 "_law_rows" 2 dN)
include T f29 f35 in
theorem j5 (F:Fun K "_law_all_changes" "_law_all_changes" cU a fd) (hm:mg "_law_all_changes"=some (.ref a)) (hb:Binds K fd ["parts","one","other"] []):Fn P w K mg base C 2 "_law_all_changes" 3 bD :=
 ⟨a,fd,_,bb (den:=dw) F Hj (λ_ _ _ _ _ _ hr=>(ai (sS 3 Hj.nd (bx (ab (bx ag) ag cI)))
 (ai (bh PassesOwn.never rfl (bt rfl T.range (ab (edl (EB.of (ak (vB 0) bI)) rfl T.len ae) ag ax) (bc ax)) (gN 4 Hj.nd)
 (ai (sS 5 Hj.nd (bx ag))
 (ai (sS 6 Hj.nd (eF f35 hr (ab (ak (EB.of (ak (vB 1) bI)) (vB 4)) (ab (ak (EB.of (ak (vB 2) bI)) (vB 4)) ag ae) ae) ae (am ae av)))
 (ai (bh PassesOwn.never rfl (bz (vE 3)) (gN 7 Hj.nd)
 (ah (sS 5 Hj.nd (cM (vB 5) (EB.of (bE (bn (N':=Nc_law_all_changes_0) (n:=1) rfl rfl rfl (eK 8) bO (bz (vE 6)) (λL cs s H fp=>(gN 8 i0)) (λL cs s H fp=>bf) (λL cs s H fp=>(cM (vB 7) (EB.of (bx (ab (vE 8) ag aa))))))))))))
 (ah (sS 3 Hj.nd (vE 5)))))))
 (ah (aK (bE (bn (N':=Nc_law_all_changes_1) (n:=1) rfl rfl rfl (eK 8) bO (bz (vE 3)) (λL cs s H fp=>(gN 8 iZ)) (λL cs s H fp=>(wl (cG (eF f29 hr (ab (vE 0) (ab (vE 1) (ab (vE 2) (ab (vE 8) ag aa) aa) aa) aa) aa (am aa (am aa (am aa av))))))) (λL cs s H fp=>(vE 8))))))))),hm,F.kp,hb⟩
abbrev gu:Stmt:=sAt 20
abbrev lS:List Str:=["numbers","count"]
theorem qG:ay lS ["numbers","count"] (aj gu):=by constructor<;>first|rfl|decide +kernel
abbrev Nc_are_below_0:List Str:=["numbers","count","number"]
theorem nA:Nc_are_below_0.Nodup:=by decide +kernel
def gO:Rho->R Out:=(ret (una uW (eLs (be (fIt (vr 0)) 1 (tgN 2) tT (cal 2 bL (aC (vr 2) (aC (vr 1) aN)))))))
def cq (ds:List D):R D:=fin (gO (st0 lS ds))
include T f16 in
theorem qY (F:Fun K "are_below" "are_below" gu a fd) (hm:mg "are_below"=some (.ref a)) (hb:Binds K fd ["numbers","count"] []):Fn P w K mg base C 2 "are_below" 2 cq :=
 ⟨a,fd,_,bb (den:=gO) F qG (λ_ _ _ _ _ _ hr=>(ah (aK (u9 rfl rfl T.all aR (EB.of (bE (bn (N':=Nc_are_below_0) (n:=1) rfl rfl rfl (eK 2) bO (bz (vE 0)) (λL cs s H fp=>(gN 2 nA)) (λL cs s H fp=>bf) (λL cs s H fp=>(eF f16 hr (ab (vE 2) (ab (vE 1) ag aa) aa) aa (am aa av)))))))))),hm,F.kp,hb⟩
abbrev h9:Stmt:=sAt 22
abbrev oY:List Str:=["hall","counts","maps","pair","things"]
theorem Hg:ay oY ["hall","counts","maps"] (aj h9):=by constructor<;>first|rfl|decide +kernel
def iE:Rho->R Out:=(sq (iff (orB (tst (bin fne (una aM (vb 1)) (una aM (una (ly 1) (vb 0))))) (tst (bin fne (una aM (vb 2)) (una aM (una (ly 0) (vb 0))))))
 (ret (kd (.bl false)))
 nxt)
 (sq (iff (cX (tst (cal 2 cq (aC (vr 1) (aC (bin bo (kd (.int 40)) (kd (.int 1))) aN)))))
 (ret (kd (.bl false)))
 nxt)
 (sq (aY (lz (aC (una (ly 0) (vb 0)) (aC (vr 2) aN))) (tg2 3 4)
 (iff (orB (tst (bin fne (una aM (vb 4)) (bin fix (vb 1) (bin fix (vb 3) (kd (.int 0)))))) (cX (tst (cal 2 cq (aC (vr 4) (aC (bin fix (vb 1) (bin fix (vb 3) (kd (.int 1)))) aN))))))
 (ret (kd (.bl false)))
 nxt))
 (ret (kd (.bl true))))))
def fh (ds:List D):R D:=fin (iE (st0 oY ds))
variable (f1:Fn P w K mg base C 2 "are_below" 2 cq)
include T f1 in
theorem tu (F:Fun K "has_form" "has_form" h9 a fd) (hm:mg "has_form"=some (.ref a)) (hb:Binds K fd ["hall","counts","maps"] []):Fn P w K mg base C 3 "has_form" 3 fh :=
 ⟨a,fd,_,bb (den:=iE) F Hg (λ_ _ _ _ _ _ hr=>(ai (bj (jV (fN (cT (br hr) (EB.of (edl (vB 1) rfl T.len aa)) (EB.of (edl (EB.of (lC (k:=1) (vB 0) T.cl T.nR rfl (λ_ _ _=>rfl))) rfl T.len bF))) (eI (cT (br hr) (EB.of (edl (vB 2) rfl T.len aa)) (EB.of (edl (EB.of (lC (k:=0) (vB 0) T.cl T.nE rfl (λ_ _ _=>rfl))) rfl T.len bF))))))
 (ah (aK dq))
 aH)
 (ai (bj (cH (cG (eF f1 hr (ab (vE 1) (ab (cM (EB.of (oy rfl T.most_things.choose_spec)) bI) ag bi) aa) aa (am bi av))))
 (ah (aK dq))
 aH)
 (ai (bh PassesOwn.never rfl (nV rfl T.zip (ab (lC (k:=0) (vB 0) T.cl T.nE rfl (λ_ _ _=>rfl)) (ab (vE 2) ag aa) bF) bF (am aa av)) (b_ rfl (az (i:=3) Hg.nd rfl (Or.inl rfl)) (az (i:=4) Hg.nd rfl (Or.inl rfl)))
 (ah (bj (jV (fN (cT (br hr) (EB.of (edl (vB 4) rfl T.len aa)) (EB.of (ak (vB 1) (EB.of (ak (vB 3) bI))))) (eI (cH (cG (eF f1 hr (ab (vE 4) (ab (ak (vB 1) (EB.of (ak (vB 3) bI))) ag ae) aa) aa (am ae av)))))))
 (ah (aK dq))
 aH)))
 (ah (aK dq)))))),hm,F.kp,hb⟩
abbrev eU:Stmt:=sAt 23
abbrev jQ:List Str:=["hall","counts","maps"]
theorem m7:ay jQ ["hall","counts","maps"] (aj eU):=by constructor<;>first|rfl|decide +kernel
abbrev Nc_keeps_rests_0:List Str:=["hall","counts","maps","box","rest"]
theorem gS:Nc_keeps_rests_0.Nodup:=by decide +kernel
def fq:Rho->R Out:=(ret (una uW (eLs (be (fJ (aC (una (ly 1) (vb 0)) aN)) 2 (tg2 3 4) tT (bin feq (bin fix (vb 2) (vb 4)) (eLs (zC (aC (bin fix (vb 1) (vb 3)) aN))))))))
def da (ds:List D):R D:=fin (fq (st0 jQ ds))
include T in
theorem nF (F:Fun K "keeps_rests" "keeps_rests" eU a fd) (hm:mg "keeps_rests"=some (.ref a)) (hb:Binds K fd ["hall","counts","maps"] []):Fn P w K mg base C 1 "keeps_rests" 3 da :=
 ⟨a,fd,_,bb (den:=fq) F m7 (λ_ _ _ _ _ _ hr=>(ah (aK (u9 rfl rfl T.all aR (EB.of (bE (bn (N':=Nc_keeps_rests_0) (n:=2) rfl rfl rfl (D8 3) uf (cV rfl T.enumerate (ab (lC (k:=1) (vB 0) T.cl T.nR rfl (λ_ _ _=>rfl)) ag bF) (bc bF)) (λL cs s H fp=>(b_ rfl (az (i:=3) gS rfl (Or.inl rfl)) (az (i:=4) gS rfl (Or.inl rfl)))) (λL cs s H fp=>bf) (λL cs s H fp=>(zQ (br hr) (EB.of (ak (vB 2) (vB 4))) (EB.of (bE (Ee rfl (ab (ak (vB 1) (vB 3)) ag ae) rfl T.range rfl T.list (bc ae))))))))))))),hm,F.kp,hb⟩
abbrev h_:Stmt:=sAt 21
abbrev oZ:List Str:=["first","second"]
theorem sD:ay oZ ["first","second"] (aj h_):=by constructor<;>first|rfl|decide +kernel
abbrev Nc_followed_0:List Str:=["first","second","thing"]
theorem o9:Nc_followed_0.Nodup:=by decide +kernel
def iF:Rho->R Out:=(ret (eLs (be (fIt (vr 0)) 1 (tgN 2) tT (bin fix (vb 1) (vb 2)))))
def dd (ds:List D):R D:=fin (iF (st0 oZ ds))
include T in
theorem tw (F:Fun K "followed" "followed" h_ a fd) (hm:mg "followed"=some (.ref a)) (hb:Binds K fd ["first","second"] []):Fn P w K mg base C 1 "followed" 2 dd :=
 ⟨a,fd,_,bb (den:=iF) F sD (λ_ _ _ _ _ _ hr=>(ah (aK (bE (bn (N':=Nc_followed_0) (n:=1) rfl rfl rfl (eK 2) bO (bz (vE 0)) (λL cs s H fp=>(gN 2 o9)) (λL cs s H fp=>bf) (λL cs s H fp=>(ak (vB 1) (vB 2)))))))),hm,F.kp,hb⟩
abbrev eS:Stmt:=sAt 24
abbrev jP:List Str:=["hall","maps","one","row","other","made"]
theorem Hh:ay jP ["hall","maps"] (aj eS):=by constructor<;>first|rfl|decide +kernel
def fo:Rho->R Out:=(sq (aY (fJ (aC (una (ly 2) (vb 0)) aN)) (tg2 2 3)
 (aY (fJ (aC (vr 3) aN)) (tg2 4 5)
 (iff (xD (tst (bin fne (vb 5) (una jI (kd (.int 1))))) (tst (bin fne (bin fix (vb 1) (vb 5)) (cal 2 dd (aC (bin fix (vb 1) (vb 2)) (aC (bin fix (vb 1) (vb 4)) aN))))))
 (ret (kd (.bl false)))
 nxt)))
 (ret (kd (.bl true))))
def c_ (ds:List D):R D:=fin (fo (st0 jP ds))
variable (f13:Fn P w K mg base C 1 "followed" 2 dd)
include T f13 in
theorem nC (F:Fun K "keeps_table" "keeps_table" eS a fd) (hm:mg "keeps_table"=some (.ref a)) (hb:Binds K fd ["hall","maps"] []):Fn P w K mg base C 2 "keeps_table" 2 c_ :=
 ⟨a,fd,_,bb (den:=fo) F Hh (λ_ _ _ _ _ _ hr=>(ai (bh PassesOwn.never rfl (cV rfl T.enumerate (ab (lC (k:=2) (vB 0) T.cl T.nT rfl (λ_ _ _=>rfl)) ag bF) (bc bF)) (b_ rfl (az (i:=2) Hh.nd rfl (Or.inl rfl)) (az (i:=3) Hh.nd rfl (Or.inl rfl)))
 (ah (bh PassesOwn.never rfl (cV rfl T.enumerate (ab (vE 3) ag aa) (bc aa)) (b_ rfl (az (i:=4) Hh.nd rfl (Or.inl rfl)) (az (i:=5) Hh.nd rfl (Or.inl rfl)))
 (ah (bj (jV (xL (cT (br hr) (vB 5) (EB.of (lA bI))) (vv (cT (br hr) (EB.of (ak (vB 1) (vB 5))) (EB.of (eF f13 hr (ab (ak (vB 1) (vB 2)) (ab (ak (vB 1) (vB 4)) ag ae) ae) ae (am ae av)))))))
 (ah (aK dq))
 aH)))))
 (ah (aK dq)))),hm,F.kp,hb⟩
abbrev fF:Stmt:=sAt 25
abbrev kQ:List Str:=["hall","counts","maps"]
theorem o3:ay kQ ["hall","counts","maps"] (aj fF):=by constructor<;>first|rfl|decide +kernel
def gf:Rho->R Out:=(ret (Ce (cal 3 fh (aC (vr 0) (aC (vr 1) (aC (vr 2) aN)))) (Ce (cal 3 da (aC (vr 0) (aC (vr 1) (aC (vr 2) aN)))) (cal 2 c_ (aC (vr 0) (aC (vr 2) aN))))))
def cu (ds:List D):R D:=fin (gf (st0 kQ ds))
variable (f14:Fn P w K mg base C 3 "has_form" 3 fh)
variable (f18:Fn P w K mg base C 1 "keeps_rests" 3 da)
variable (f19:Fn P w K mg base C 2 "keeps_table" 2 c_)
include T f14 f18 f19 in
theorem ph (F:Fun K "is_reading" "is_reading" fF a fd) (hm:mg "is_reading"=some (.ref a)) (hb:Binds K fd ["hall","counts","maps"] []):Fn P w K mg base C 4 "is_reading" 3 cu :=
 ⟨a,fd,_,bb (den:=gf) F o3 (λ_ _ _ _ _ _ hr=>(ah (aK (zS (eF f14 hr (ab (vE 0) (ab (vE 1) (ab (vE 2) ag aa) aa) aa) aa (am aa (am aa av))) (zS (eF f18 hr (ab (vE 0) (ab (vE 1) (ab (vE 2) ag aa) aa) aa) aa (am aa (am aa av))) (zN (eF f19 hr (ab (vE 0) (ab (vE 2) ag aa) aa) aa (am aa av)))))))),hm,F.kp,hb⟩
abbrev dE:Stmt:=sAt 26
abbrev iM:List Str:=["hall","reading"]
theorem kY:ay iM ["hall","reading"] (aj dE):=by constructor<;>first|rfl|decide +kernel
def eB:Rho->R Out:=(iff (orB (tst (bin fne (una aM (vb 1)) (kd (.int 2)))) (cX (tst (cal 3 cu (aC (vr 0) (aC (bin fix (vb 1) (kd (.int 0))) (aC (bin fix (vb 1) (kd (.int 1))) aN)))))))
 bad
 nxt)
def bT (ds:List D):R D:=fin (eB (st0 iM ds))
variable (f17:Fn P w K mg base C 4 "is_reading" 3 cu)
include T f17 in
theorem lu (F:Fun K "check_reading" "check_reading" dE a fd) (hm:mg "check_reading"=some (.ref a)) (hb:Binds K fd ["hall","reading"] []):Fn P w K mg base C 5 "check_reading" 2 bT :=
 ⟨a,fd,_,bb (den:=eB) F kY (λ_ _ _ _ _ _ hr=>(ah (bj (jV (fN (cT (br hr) (EB.of (edl (vB 1) rfl T.len aa)) bI) (eI (cH (cG (eF f17 hr (ab (vE 0) (ab (ak (vB 1) bI) (ab (ak (vB 1) bI) ag ae) ae) aa) aa (am ae (am ae av))))))))
 (ah fP)
 aH))),hm,F.kp,hb⟩
abbrev h8:Stmt:=sAt 28
abbrev oX:List Str:=["counts","others"]
theorem sC:ay oX ["counts","others"] (aj h8):=by constructor<;>first|rfl|decide +kernel
abbrev Nc_has_room_0:List Str:=["counts","others","count","other"]
theorem jL:Nc_has_room_0.Nodup:=by decide +kernel
def iD:Rho->R Out:=(ret (una uW (eLs (be (lz (aC (vr 0) (aC (vr 1) aN))) 2 (tg2 2 3) tT (orV (bin (iI fgt) (vb 3) (kd (.int 0))) (bin feq (vb 2) (kd (.int 0))))))))
def dQ (ds:List D):R D:=fin (iD (st0 oX ds))
include T in
theorem tq (F:Fun K "has_room" "has_room" h8 a fd) (hm:mg "has_room"=some (.ref a)) (hb:Binds K fd ["counts","others"] []):Fn P w K mg base C 1 "has_room" 2 dQ :=
 ⟨a,fd,_,bb (den:=iD) F sC (λ_ _ _ _ _ _ hr=>(ah (aK (u9 rfl rfl T.all aR (EB.of (bE (bn (N':=Nc_has_room_0) (n:=2) rfl rfl rfl (D8 2) uf (nV rfl T.zip (ab (vE 0) (ab (vE 1) ag aa) aa) aa (am aa av)) (λL cs s H fp=>(b_ rfl (az (i:=2) jL rfl (Or.inl rfl)) (az (i:=3) jL rfl (Or.inl rfl)))) (λL cs s H fp=>bf) (λL cs s H fp=>(FJ (FN (vB 3) bI) (zN (zQ (br hr) (vB 2) bI))))))))))),hm,F.kp,hb⟩
abbrev fQ:Stmt:=sAt 31
abbrev oK:List Str:=["things","thing","goal"]
theorem w5:ay oK ["things","thing","goal"] (aj fQ):=by constructor<;>first|rfl|decide +kernel
def j7:Rho->R (D×Rho):=(sqB (ifJ (tst (una (λd=>.val (pz d)) (bin fix (vb 0) (vb 1))))
 (stP 0 .s (pN0 0) (vr 1) (vr 2))
 nxJ)
 (rtB (bin feq (bin fix (vb 0) (vb 1)) (vb 2))))
def dR (ds es:List D):R (D×List D):=(j7 (stM oK [(.l .s)] ds es)).bind (sP [(.l .s)])
include T in
theorem t_ (hr:Room 0 (A.deeper (envOfC "settle" (aj fQ) s.heap.objs.size f cdv))) :
  qw C (gi CX0 P w K mg base oK "settle" (aj fQ) f cdv A outer s H E).nox 1 (bY fQ) j7 :=
 (wY (C_ (CZ (EB.of (ak (vB 0) (vB 1))))
 (x_ (EU (AE (k':=.s) (jw (pv 0)) (vE 1) (wd (vE 2)))))
 ya)
 (yb (zQ (br hr) (EB.of (ak (vB 0) (vB 1))) (vB 2))))
include T in
theorem xm (F:Fun K "settle" "settle" fQ a fd) (hm:mg "settle"=some (.ref a)) (hb:Binds K fd ["things","thing","goal"] []):MvB P w K mg base C 1 "settle" [(.l .s)] 2 dR :=
 ⟨a,fd,_,DR F w5 rfl (by decide) (λcdv A outer s H E hr=>t_ cdv A outer s H E T hr),hm,F.kp,hb⟩
abbrev fC:Stmt:=sAt 30
abbrev kN:List Str:=["hall","one","other","change","box","thing","goal","more","arrow","pair"]
theorem Hz:ay kN ["hall","one","other","change","box","thing","goal"] (aj fC):=by constructor<;>first|rfl|decide +kernel
abbrev Nc_told_along_0:List Str:=["hall","one","other","change","box","thing","goal","more","arrow","pair","things"]
theorem lU:Nc_told_along_0.Nodup:=by decide +kernel
def fY:Rho->R D:=(sqK (trS 7 (.l (.l .s)) (eLs (be (fIt (vr 3)) 1 (tgN 10) tT (eLs (fIt (vb 10))))))
 (sqR (aY (fJ (aC (una (ly 0) (vb 0)) aN)) (tg2 8 9)
 (ifM (anM (tst (bin feq (bin fix (vb 9) (kd (.int 0))) (vb 4))) (noM (tsM (mvP 7 (pN 7 (pN0 7) (bin fix (vb 9) (kd (.int 1)))) dR 2 (aC (bin fix (bin fix (bin fix (vb 1) (kd (.int 1))) (vb 8)) (vb 5)) (aC (bin fix (bin fix (bin fix (vb 2) (kd (.int 1))) (vb 8)) (vb 6)) aN))))))
 (ret (eLs (eE aN)))
 nxt))
 (rt1 7 (.l (.l .s)))))
def bH (ds:List D):R D:=fY (st0 kN ds)
variable (f42:MvB P w K mg base C 1 "settle" [(.l .s)] 2 dR)
include T f42 in
theorem o_ (F:Fun K "told_along" "told_along" fC a fd) (hm:mg "told_along"=some (.ref a)) (hb:Binds K fd ["hall","one","other","change","box","thing","goal"] []):FnK P w K mg base C 2 "told_along" 7 (.l (.l (.l .s))) bH :=
 ⟨a,fd,_,wH (den:=fY) F Hz (λ_ _ _ _ _ _ hr=>(iV (AG (lI (i:=7) (az (i:=7) Hz.nd rfl (Or.inl rfl)) (N':=Nc_told_along_0) (n:=1) rfl rfl rfl (eK 10) (bz (vE 3)) (λL cs s H fp=>(gN 10 lU)) (λL cs s H fp=>bf) (λL cs s H fp=>(CB (fdl (vB 10) rfl T.list aa))) rfl))
 (wX (AB PassesOwn.never rfl (cV rfl T.enumerate (ab (lC (k:=0) (vB 0) T.cl T.nE rfl (λ_ _ _=>rfl)) ag bF) (bc bF)) (b_ rfl (az (i:=8) Hz.nd rfl (Or.inl rfl)) (az (i:=9) Hz.nd rfl (Or.inl rfl)))
 (xY (AA (CU (gQ (br hr) (EB.of (ak (vB 9) bI)) (vB 4)) (CT (CS (Bu f42 (hr.mono (by decide)) rfl (sV (jw (pv 7)) (ak (vB 9) bI)) (ab (ak (EB.of (ak (EB.of (ak (vB 1) bI)) (vB 8))) (vB 5)) (ab (ak (EB.of (ak (EB.of (ak (vB 2) bI)) (vB 8))) (vB 6)) ag ae) ae) ae (am ae (am ae av))))))
 (xX uR)
 xZ)))
 (x9 (k:=(.l (.l .s))) (pv 7))))),hm,F.kp,hb⟩
abbrev dM:Stmt:=sAt 29
abbrev jD:List Str:=["hall","one","other","begun","box","thing","later","change","goal"]
theorem HA:ay jD ["hall","one","other","begun","box","thing"] (aj dM):=by constructor<;>first|rfl|decide +kernel
def ja:Rho->R Out:=(sq (own 6 (eE aN))
 (sq (nxO (aY (fIt (vr 3)) (tgN 7)
 (iff (tst (una (λd=>.val (d9 d)) (bin fix (bin fix (vb 7) (vb 4)) (vb 5))))
 (app 6 (vr 7))
 (aY (bq (aC (bin fix (bin fix (vb 2) (kd (.int 0))) (vb 4)) aN)) (tgN 8)
 (ext 6 (cal 7 bH (aC (vr 0) (aC (vr 1) (aC (vr 2) (aC (vr 7) (aC (vr 4) (aC (vr 5) (aC (vr 8) aN)))))))))))))
 (fz 6 (ret (vr 6)))))
def cN (ds:List D):R D:=fin (ja (st0 jD ds))
variable (f39:FnK P w K mg base C 2 "told_along" 7 (.l (.l (.l .s))) bH)
include T f39 in
theorem rS (hr:Room 2 (A.deeper (envOfC "told_on" (aj dM) s.heap.objs.size f cdv))) :
  PSs (gi CX0 P w K mg base jD "told_on" (aj dM) f cdv A outer s H E).nox (bY dM) (tsW C (gi CX0 P w K mg base jD "told_on" (aj dM) f cdv A outer s H E).nox 6 3 (.l (.l .s)) ja) :=
 (Ao (k:=(.l (.l .s))) (by decide) HA.nd rfl (Or.inl rfl) (pv 6) (CQ (by decide) PassesOwn.never rfl (pv 3) (az (i:=7) HA.nd rfl (Or.inl rfl))
 (EJ (Aq (EB.of (ak (EB.of (ak (vB 7) (vB 4))) (vB 5))))
 (C0 (pv 6) (pv 7) (hst:=aa))
 (cz (CV PassesOwn.never rfl (bt rfl T.range (ab (ak (EB.of (ak (vB 2) bI)) (vB 4)) ag ae) (bc ae)) (gN 8 HA.nd) (by decide) (Ap (by decide))
 (cz (CW (pv 6) (y8 f39 (hr.mono (by decide)) rfl (ab (vE 0) (ab (vE 1) (ab (vE 2) (ab (vE 7) (ab (vE 4) (ab (vE 5) (ab (vE 8) ag aa) aa) aa) aa) aa) aa) aa) (he:=aa) (hpl:=(am aa (am aa (am aa (am aa (am aa (am aa av)))))))) (hst:=ax))))))))
include T f39 in
theorem uH (F:Fun K "told_on" "told_on" dM a fd) (hm:mg "told_on"=some (.ref a)) (hb:Binds K fd ["hall","one","other","begun","box","thing"] []):FnW P w K mg base C 3 "told_on" 6 3 (.l (.l .s)) cN :=
 ⟨a,fd,_,B4 F HA (by decide) (by decide) (λcdv A outer s H E hr=>rS cdv A outer s H E T f39 hr),hm,F.kp,hb⟩
abbrev jp:Stmt:=sAt 27
abbrev qy:List Str:=["hall","one","other","begun","box","count","thing"]
theorem G6:ay qy ["hall","one","other"] (aj jp):=by constructor<;>first|rfl|decide +kernel
abbrev Nc_changes_0:List Str:=["hall","one","other","begun","box","5.","thing","count"]
theorem qU:Nc_changes_0.Nodup:=by decide +kernel
def jc:Rho->R D:=(sqK (drp (cal 2 bT (aC (vr 0) (aC (vr 1) aN))))
 (sqK (drp (cal 2 bT (aC (vr 0) (aC (vr 2) aN))))
 (ifK (cX (tst (cal 2 dQ (aC (bin fix (vb 1) (kd (.int 0))) (aC (bin fix (vb 2) (kd (.int 0))) aN)))))
 (eLs (eE aN))
 (sqK (trS 3 (.l (.l (.l .s))) (eL1 (eLs (be (fIt (bin fix (vb 1) (kd (.int 0)))) 1 (tgN 7) tT (bin uU (eL (aC (kd .non) aN)) (vb 7))))))
 (sqK (aY (fJ (aC (bin fix (vb 1) (kd (.int 0))) aN)) (tg2 4 5)
 (aY (bq (aC (vr 5) aN)) (tgN 6)
 (mvW 3 3 6 (.l (.l .s)) [0,1,2,3,4,6] cN)))
 (rtK 3 (.l (.l (.l .s)))))))))
def dI (ds:List D):R D:=jc (st0 qy ds)
variable (f8:Fn P w K mg base C 5 "check_reading" 2 bT)
variable (f15:Fn P w K mg base C 1 "has_room" 2 dQ)
variable (f40:FnW P w K mg base C 3 "told_on" 6 3 (.l (.l .s)) cN)
include T f8 f15 f40 in
theorem uK (F:Fun K "changes" "changes" jp a fd) (hm:mg "changes"=some (.ref a)) (hb:Binds K fd ["hall","one","other"] []):FnK P w K mg base C 6 "changes" 3 (.l (.l (.l .s))) dI :=
 ⟨a,fd,_,wH (den:=jc) F G6 (λ_ _ _ _ _ _ hr=>(iV (mt (EB.of (eF f8 hr (ab (vE 0) (ab (vE 1) ag aa) aa) aa (am aa av))))
 (iV (mt (EB.of (eF f8 hr (ab (vE 0) (ab (vE 2) ag aa) aa) aa (am aa av))))
 (C9 (cH (cG (eF f15 hr (ab (ak (vB 1) bI) (ab (ak (vB 2) bI) ag ae) ae) ae (am ae av))))
 (AC uR)
 (iV (yd (i:=3) G6.nd rfl (Or.inl rfl) (Bv (we (N':=Nc_changes_0) (n:=1) rfl rfl rfl (eK 7) (bz (ak (vB 1) bI)) (λL cs s H fp=>(gN 7 qU)) (λL cs s H fp=>bf) (λL cs s H fp=>(D2 (EB.of (bx (ab El ag au))) (vB 7)))) aR))
 (iV (bh PassesOwn.never rfl (cV rfl T.enumerate (ab (ak (vB 1) bI) ag ae) (bc ae)) (b_ rfl (az (i:=4) G6.nd rfl (Or.inl rfl)) (az (i:=5) G6.nd rfl (Or.inl rfl)))
 (ah (bh PassesOwn.never rfl (bt rfl T.range (ab (vE 5) ag aa) (bc aa)) (gN 6 G6.nd)
 (ah (AF f40 (hr.mono (by decide)) rfl G6.nd rfl (Or.inl rfl) (jC (pv 0) (jC (pv 1) (jC (pv 2) (jC (pv 3) (jC (pv 4) (jC (pv 6) Et aa) aa) aa) aa) aa) aa) (he:=aa) (hpl:=(am aa (am aa (am aa (am aa (am aa av)))))))))))
 (x8 (pv 3)))))))),hm,F.kp,hb⟩
abbrev hU:Stmt:=sAt 34
abbrev oQ:List Str:=["found","due","k"]
theorem Hq:ay oQ ["found","due"] (aj hU):=by constructor<;>first|rfl|decide +kernel
def iw:Rho->R Out:=(sq (iff (orB (cX (tst (una (jJ "list") (vb 0)))) (tst (bin fne (una aM (vb 0)) (una aM (vb 1)))))
 (ret (kd (.bl false)))
 nxt)
 (sq (aY (bq (aC (una aM (vb 1)) aN)) (tgN 2)
 (iff (orB (cX (tst (una (jJ "int") (bin fix (vb 0) (vb 2))))) (orB (tst (una (jJ "bool") (bin fix (vb 0) (vb 2)))) (tst (bin fne (bin fix (vb 0) (vb 2)) (bin fix (vb 1) (vb 2))))))
 (ret (kd (.bl false)))
 nxt))
 (ret (kd (.bl true)))))
def dO (ds:List D):R D:=fin (iw (st0 oQ ds))
include T in
theorem sZ (F:Fun K "_law_ints" "_law_ints" hU a fd) (hm:mg "_law_ints"=some (.ref a)) (hb:Binds K fd ["found","due"] []):Fn P w K mg base C 1 "_law_ints" 2 dO :=
 ⟨a,fd,_,bb (den:=iw) F Hq (λ_ _ _ _ _ _ hr=>(ai (bj (jV (fN (cH (cG (ou T.kt_list rfl T.isinstance rfl T.list oH (vB 0) aa))) (eI (cT (br hr) (EB.of (edl (vB 0) rfl T.len aa)) (EB.of (edl (vB 1) rfl T.len aa))))))
 (ah (aK dq))
 aH)
 (ai (bh PassesOwn.never rfl (bt rfl T.range (ab (edl (vB 1) rfl T.len aa) ag ax) (bc ax)) (gN 2 Hq.nd)
 (ah (bj (jV (fN (cH (cG (ou T.kt_int rfl T.isinstance rfl T.int Ca (EB.of (ak (vB 0) (vB 2))) ae))) (fN (cG (ou T.kt_bool rfl T.isinstance rfl T.bool z8 (EB.of (ak (vB 0) (vB 2))) ae)) (eI (cT (br hr) (EB.of (ak (vB 0) (vB 2))) (EB.of (ak (vB 1) (vB 2))))))))
 (ah (aK dq))
 aH)))
 (ah (aK dq))))),hm,F.kp,hb⟩
abbrev dh:Stmt:=sAt 35
abbrev g_:List Str:=["found","due","one","other"]
theorem Hs:ay g_ ["found","due"] (aj dh):=by constructor<;>first|rfl|decide +kernel
def dL:Rho->R Out:=(sq (iff (orB (cX (tst (una (jJ "list") (vb 0)))) (tst (bin fne (una aM (vb 0)) (una aM (vb 1)))))
 (ret (kd (.bl false)))
 nxt)
 (sq (aY (lz (aC (vr 0) (aC (vr 1) aN))) (tg2 2 3)
 (iff (cX (tst (cal 2 dO (aC (vr 2) (aC (vr 3) aN)))))
 (ret (kd (.bl false)))
 nxt))
 (ret (kd (.bl true)))))
def bN (ds:List D):R D:=fin (dL (st0 g_ ds))
variable (f28:Fn P w K mg base C 1 "_law_ints" 2 dO)
include T f28 in
theorem kt (F:Fun K "_law_lists_like" "_law_lists_like" dh a fd) (hm:mg "_law_lists_like"=some (.ref a)) (hb:Binds K fd ["found","due"] []):Fn P w K mg base C 2 "_law_lists_like" 2 bN :=
 ⟨a,fd,_,bb (den:=dL) F Hs (λ_ _ _ _ _ _ hr=>(ai (bj (jV (fN (cH (cG (ou T.kt_list rfl T.isinstance rfl T.list oH (vB 0) aa))) (eI (cT (br hr) (EB.of (edl (vB 0) rfl T.len aa)) (EB.of (edl (vB 1) rfl T.len aa))))))
 (ah (aK dq))
 aH)
 (ai (bh PassesOwn.never rfl (nV rfl T.zip (ab (vE 0) (ab (vE 1) ag aa) aa) aa (am aa av)) (b_ rfl (az (i:=2) Hs.nd rfl (Or.inl rfl)) (az (i:=3) Hs.nd rfl (Or.inl rfl)))
 (ah (bj (cH (cG (eF f28 hr (ab (vE 2) (ab (vE 3) ag aa) aa) aa (am aa av))))
 (ah (aK dq))
 aH)))
 (ah (aK dq))))),hm,F.kp,hb⟩
abbrev hC:Stmt:=sAt 51
abbrev oM:List Str:=["found","due","one","other"]
theorem Hy:ay oM ["found","due"] (aj hC):=by constructor<;>first|rfl|decide +kernel
def iq:Rho->R Out:=(sq (iff (orB (cX (tst (una (jJ "list") (vb 0)))) (tst (bin fne (una aM (vb 0)) (una aM (vb 1)))))
 (ret (kd (.bl false)))
 nxt)
 (sq (aY (lz (aC (vr 0) (aC (vr 1) aN))) (tg2 2 3)
 (iff (cX (tst (cal 2 bN (aC (vr 2) (aC (vr 3) aN)))))
 (ret (kd (.bl false)))
 nxt))
 (ret (kd (.bl true)))))
def bQ (ds:List D):R D:=fin (iq (st0 oM ds))
variable (f30:Fn P w K mg base C 2 "_law_lists_like" 2 bN)
include T f30 in
theorem sW (F:Fun K "_law_told" "_law_told" hC a fd) (hm:mg "_law_told"=some (.ref a)) (hb:Binds K fd ["found","due"] []):Fn P w K mg base C 3 "_law_told" 2 bQ :=
 ⟨a,fd,_,bb (den:=iq) F Hy (λ_ _ _ _ _ _ hr=>(ai (bj (jV (fN (cH (cG (ou T.kt_list rfl T.isinstance rfl T.list oH (vB 0) aa))) (eI (cT (br hr) (EB.of (edl (vB 0) rfl T.len aa)) (EB.of (edl (vB 1) rfl T.len aa))))))
 (ah (aK dq))
 aH)
 (ai (bh PassesOwn.never rfl (nV rfl T.zip (ab (vE 0) (ab (vE 1) ag aa) aa) aa (am aa av)) (b_ rfl (az (i:=2) Hy.nd rfl (Or.inl rfl)) (az (i:=3) Hy.nd rfl (Or.inl rfl)))
 (ah (bj (cH (cG (eF f30 hr (ab (vE 2) (ab (vE 3) ag aa) aa) aa (am aa av))))
 (ah (aK dq))
 aH)))
 (ah (aK dq))))),hm,F.kp,hb⟩
abbrev gq:Stmt:=sAt 52
abbrev lP:List Str:=["one","other","total","box","k"]
theorem Hx:ay lP ["one","other"] (aj gq):=by constructor<;>first|rfl|decide +kernel
def gK:Rho->R Out:=(sq (asg 2 (kd (.int 1)))
 (sq (aY (bq (aC (una aM (bin fix (vb 0) (kd (.int 0)))) aN)) (tgN 3)
 (sq (iff (tst (bin (iI fgt) (u_ (aC (bin fix (bin fix (vb 0) (kd (.int 0))) (vb 3)) (aC (bin fix (bin fix (vb 1) (kd (.int 0))) (vb 3)) aN))) (kd (.int 3))))
 (ret (kd (.bl false)))
 nxt)
 (aY (bq (aC (bin fix (bin fix (vb 0) (kd (.int 0))) (vb 3)) aN)) (tgN 4)
 (asg 2 (bin (iI fV) (vb 2) (bin fix (bin fix (vb 1) (kd (.int 0))) (vb 3)))))))
 (ret (bin (iI fle) (vb 2) (kd (.int 600))))))
def di (ds:List D):R D:=fin (gK (st0 lP ds))
include T in
theorem qV (F:Fun K "_law_small" "_law_small" gq a fd) (hm:mg "_law_small"=some (.ref a)) (hb:Binds K fd ["one","other"] []):Fn P w K mg base C 1 "_law_small" 2 di :=
 ⟨a,fd,_,bb (den:=gK) F Hx (λ_ _ _ _ _ _ hr=>(ai (sS 2 Hx.nd aU)
 (ai (bh PassesOwn.never rfl (bt rfl T.range (ab (edl (EB.of (ak (vB 0) bI)) rfl T.len ae) ag ax) (bc ax)) (gN 3 Hx.nd)
 (ai (bj (vz (EB.of (zO rfl (ab (ak (EB.of (ak (vB 0) bI)) (vB 3)) (ab (ak (EB.of (ak (vB 1) bI)) (vB 3)) ag ae) ae) rfl T.max (λt ha=>d7 (lF rfl) rfl T.max boot_max ha (he:=ae) (hpl:=(am ae av))))) bI)
 (ah (aK dq))
 aH)
 (ah (bh PassesOwn.never rfl (bt rfl T.range (ab (ak (EB.of (ak (vB 0) bI)) (vB 3)) ag ae) (bc ae)) (gN 4 Hx.nd)
 (ah (sS 2 Hx.nd (ot (vB 2) (EB.of (ak (EB.of (ak (vB 1) bI)) (vB 3))))))))))
 (ah (aK (FK (vB 2) bI)))))),hm,F.kp,hb⟩
abbrev hW:Stmt:=sAt 41
abbrev oU:List Str:=["rows"]
theorem sx:ay oU ["rows"] (aj hW):=by constructor<;>first|rfl|decide +kernel
abbrev Nc_law_copy_0:List Str:=["rows","row"]
theorem o8:Nc_law_copy_0.Nodup:=by decide +kernel
def iA:Rho->R Out:=(ret (eLs (be (fIt (vr 0)) 1 (tgN 1) tT (eLs (fIt (vb 1))))))
def cF (ds:List D):R D:=fin (iA (st0 oU ds))
include T in
theorem td (F:Fun K "_law_copy" "_law_copy" hW a fd) (hm:mg "_law_copy"=some (.ref a)) (hb:Binds K fd ["rows"] []):Fn P w K mg base C 1 "_law_copy" 1 cF :=
 ⟨a,fd,_,bb (den:=iA) F sx (λ_ _ _ _ _ _ hr=>(ah (aK (bE (bn (N':=Nc_law_copy_0) (n:=1) rfl rfl rfl (eK 1) bO (bz (vE 0)) (λL cs s H fp=>(gN 1 o8)) (λL cs s H fp=>bf) (λL cs s H fp=>(bE (fdl (vB 1) rfl T.list aa)))))))),hm,F.kp,hb⟩
abbrev ke:Stmt:=sAt 53
abbrev Ak:List Str:=["script","parts","hall","one","other","due","handed","found","row"]
theorem Hi:ay Ak ["script"] (aj ke):=by constructor<;>first|rfl|decide +kernel
def rJ:Rho->R Out:=(sq (asg 1 (cal 2 dn (aC (vr 0) (aC (kd (.int 0)) aN))))
 (sq (asg 2 (cal 1 dP (aC (vr 1) aN)))
 (sq (asg 3 (cal 3 aZ (aC (vr 0) (aC (kd (.int 4)) (aC (vr 1) aN)))))
 (sq (asg 4 (cal 3 aZ (aC (vr 0) (aC (kd (.int 6)) (aC (vr 1) aN)))))
 (sq (iff (cX (tst (cal 2 di (aC (vr 3) (aC (vr 4) aN)))))
 (ret (kd (.bl true)))
 nxt)
 (sq (asg 5 (cal 3 bD (aC (vr 1) (aC (vr 3) (aC (vr 4) aN)))))
 (sq (asg 6 (eL (aC (eT (aC (eLs (fIt (bin fix (vb 3) (kd (.int 0))))) (aC (cal 1 cF (aC (bin fix (vb 3) (kd (.int 1))) aN)) aN))) (aC (eT (aC (eLs (fIt (bin fix (vb 4) (kd (.int 0))))) (aC (cal 1 cF (aC (bin fix (vb 4) (kd (.int 1))) aN)) aN))) aN))))
 (sq (trS 7 (.l (.l (.l .s))) (cal 3 dI (aC (vr 2) (aC (bin fix (vb 6) (kd (.int 0))) (aC (bin fix (vb 6) (kd (.int 1))) aN)))))
 (sq (iff (orB (cX (tst (flF (cal 2 bQ (aC (va 7) (aC (vb 5) aN)))))) (tst (bin fne (vb 6) (eL (aC (vr 3) (aC (vr 4) aN))))))
 (ret (kd (.bl false)))
 nxt)
 (sq (iff (tst (bin (iI fgt) (una aM (va 7)) (kd (.int 0))))
 (sq (rwA 7 8 7 (pN 7 (pN0 7) (kd (.int 0))))
 (sq (iff (cX (tst (flF (cal 2 bQ (aC (eLs (fSl (va 7) (oS (kd (.int 1))) oN)) (aC (eLs (fSl (vb 5) (oS (kd (.int 1))) oN)) aN))))))
 (ret (kd (.bl false)))
 nxt)
 (sq (asO (apP 7 (.l .s) (pN 7 (pN0 7) (kd (.int 0))) (eLs (eE aN))))
 (asO (apP 7 .s (pN 7 (pN 7 (pN0 7) (una jI (kd (.int 1)))) (kd (.int 0))) (kd (.int 0)))))))
 nxt)
 (sq (asO (apP 7 (.l (.l .s)) (pN0 7) (eLs (eE aN))))
 (ret (cal 2 bQ (aC (cal 3 dI (aC (vr 2) (aC (bin fix (vb 6) (kd (.int 0))) (aC (bin fix (vb 6) (kd (.int 1))) aN)))) (aC (vr 5) aN)))))))))))))))
def oz (ds:List D):R D:=fin (rJ (st0 Ak ds))
variable (f20:Fn P w K mg base C 2 "_law_all_changes" 3 bD)
variable (f25:Fn P w K mg base C 1 "_law_copy" 1 cF)
variable (f26:Fn P w K mg base C 3 "_law_drawn_reading" 3 aZ)
variable (f27:Fn P w K mg base C 6 "_law_hall" 1 dP)
variable (f33:Fn P w K mg base C 3 "_law_parts" 2 dn)
variable (f37:Fn P w K mg base C 1 "_law_small" 2 di)
variable (f38:Fn P w K mg base C 3 "_law_told" 2 bQ)
variable (f2:FnK P w K mg base C 6 "changes" 3 (.l (.l (.l .s))) dI)
include T f20 f25 f26 f27 f33 f37 f38 f2 in
theorem z9 (hr:Room 6 (A.deeper (envOfC "law" (aj ke) s.heap.objs.size f cdv))) :
  SDs C (gi CX0 P w K mg base Ak "law" (aj ke) f cdv A outer s H E).nox (bY ke) rJ :=
 (ai (sS 1 Hi.nd (eF f33 hr (ab (vE 0) (ab aU ag au) aa) aa (am au av)))
 (ai (sS 2 Hi.nd (eF f27 hr (ab (vE 1) ag aa) aa av))
 (ai (sS 3 Hi.nd (eF f26 hr (ab (vE 0) (ab aU (ab (vE 1) ag aa) au) aa) aa (am au (am aa av))))
 (ai (sS 4 Hi.nd (eF f26 hr (ab (vE 0) (ab aU (ab (vE 1) ag aa) au) aa) aa (am au (am aa av))))
 (ai (bj (cH (cG (eF f37 hr (ab (vE 3) (ab (vE 4) ag aa) aa) aa (am aa av))))
 (ah (aK dq))
 aH)
 (ai (sS 5 Hi.nd (eF f20 hr (ab (vE 1) (ab (vE 3) (ab (vE 4) ag aa) aa) aa) aa (am aa (am aa av))))
 (ai (sS 6 Hi.nd (bx (ab (cB (ab (bE (fdl (EB.of (ak (vB 3) bI)) rfl T.list ae)) (ab (eF f25 hr (ab (ak (vB 3) bI) ag ae) ae av) ag ax) ax)) (ab (cB (ab (bE (fdl (EB.of (ak (vB 4) bI)) rfl T.list ae)) (ab (eF f25 hr (ab (ak (vB 4) bI) ag ae) ae av) ag ax) ax)) ag iU) iU)))
 (ai (yd (i:=7) Hi.nd rfl (Or.inl rfl) (y8 f2 (hr.mono (by decide)) rfl (ab (vE 2) (ab (ak (vB 6) bI) (ab (ak (vB 6) bI) ag ae) ae) aa) (he:=aa) (hpl:=(am ae (am ae av)))))
 (ai (bj (jV (fN (cH (cG (wB (CG f38 (hr.mono (by decide)) rfl (mR (u3 (pv 7)) (mR (CF (vB 5)) Ad aa) aa) (he:=aa) (hpl:=(am aa av)))))) (eI (cT (br hr) (vB 6) (EB.of (bx (ab (vE 3) (ab (vE 4) ag aa) aa)))))))
 (ah (aK dq))
 aH)
 (ai (bj (vz (EB.of (erl (u3 (pv 7)) rfl T.len aa)) bI)
 (ai (AI (i:=7) (j:=8) (c:=7) PassesOwn.never rfl (sV (jw (pv 7)) aU) (az (i:=8) Hi.nd rfl (Or.inl rfl)) (pv 8) (hst:=au))
 (ai (bj (cH (cG (wB (CG f38 (hr.mono (by decide)) rfl (mR (FH (ze (u3 (pv 7)) (vW aU) vX)) (mR (CF (EB.of (bE (zA (vB 5) (vW aU) vX)))) Ad ae) ae) (he:=ae) (hpl:=(am ae av))))))
 (ah (aK dq))
 aH)
 (ai (Db (m4 (k':=(.l .s)) (sV (jw (pv 7)) aU) (CB (j6 ag)) (hst:=cI)))
 (ah (Db (m4 (k':=.s) (sV (sV (jw (pv 7)) (lA bI)) aU) (wd aU) (hst:=au)))))))
 aH)
 (ai (Db (m4 (k':=(.l (.l .s))) (jw (pv 7)) uR (hst:=cI)))
 (ah (aK (eF f38 hr (ab (FL (y8 f2 (hr.mono (by decide)) rfl (ab (vE 2) (ab (ak (vB 6) bI) (ab (ak (vB 6) bI) ag ae) ae) aa) (he:=aa) (hpl:=(am ae (am ae av))))) (ab (vE 5) ag aa) ax) ax (am aa av)))))))))))))))
end DL
namespace DL
open PySem L2 Ar
theorem lO (a b:Int):bL [.int a,.int b]=.val (.bl (decide (0<=a)&&decide (a<b))):=by
 simp only[bL,iC];show fin (ret _ [sh (.int a),sh (.int b)])=_;by_cases h:(0:Int)<=a<;>simp[h]
variable {a b:Nat}
theorem jB (h:a<b):bL [.int (a:Int),.int (b:Int)]=.val (.bl true):=by
 rw[lO];simp;exact h
variable {k i j:Nat} {x:D} {r:List Int} {F:Rho->R Out} {xs:List D} {U:Rho}
section
variable {en:List (Nat×Nat)} {re:List Nat} {tb:List (List Int)}
theorem mn (h:a_ en re tb):cg [aV en,aJ re]=.val .non:=by
 have h1:=h.nb1;have h2:=h.nb6;have h3:=h.na1;have h4:=h.na40;simp only[cg,eQ];show fin (sq _ _ [sh (aV en),sh (aJ re)])=_;have a1:(1:Int)<=re.length:=by omega
 have a2:(re.length:Int)<=6:=by omega
 have a3:(1:Int)<=en.length:=by omega
 have a4:(en.length:Int)<=40:=by omega
 simp[a1,a2,a3,a4]
theorem zM (e:(en.map cx)[k]?=some x):k<en.length/\x=cx (en.getD k (0,0)):=by
 have hk:k<en.length:=by have:=(List.getElem?_eq_some_iff.mp e).1;simpa using this
 rw[dH (d:=(0,0)) hk]at e;exact⟨hk,(Option.some.inj e).symm⟩
theorem Dg (e:(re.map nD)[k]?=some x):k<re.length/\x=nD (re.getD k 0):=by
 have hk:k<re.length:=by have:=(List.getElem?_eq_some_iff.mp e).1;simpa using this
 rw[dH (d:=0) hk]at e;exact⟨hk,(Option.some.inj e).symm⟩
theorem uk (e:(tb.map ao)[k]?=some x):k<tb.length/\x=ao (tb.getD k []):=by
 have hk:k<tb.length:=by have:=(List.getElem?_eq_some_iff.mp e).1;simpa using this
 rw[dH (d:=[]) hk]at e;exact⟨hk,(Option.some.inj e).symm⟩
theorem uu (e:(r.map D.int)[k]?=some x):k<r.length/\x=.int (r.getD k (-1)):=by
 have hk:k<r.length:=by have:=(List.getElem?_eq_some_iff.mp e).1;simpa using this
 rw[dH (d:=-1) hk]at e;exact⟨hk,(Option.some.inj e).symm⟩
theorem keep {U1:Rho} {I:Rho->Prop} (h:F U1=.val (.nx U1)) (hI:I U1):∃U2,F U1=.val (.nx U2)/\I U2:=⟨U1,h,hI⟩
theorem ip (I:Rho->Prop) (step:∀(k:Nat) x U,xs[k]?=some x->I U->∃U2,F ((U.set i (sh (.int (k:Int)))).set j (sh x))=.val (.nx U2)/\I U2) (h:I U):fin (aX (tg2 i j) F (enu 0 xs) U)=.val .non:=by
 obtain⟨U',e,_⟩:=nM I step h;rw[e];rfl
theorem pE (h:a_ en re tb):cR [aV en,.int re.length]=.val .non:=by
 simp only[cR,gh];show fin (aX (tg2 2 3) _ (enu 0 (en.map cx)) [sh (aV en),sh (.int re.length),none,none])=_;refine ip (λU=>∃a b,U=[sh (aV en),sh (.int re.length),a,b]) (λk x U ex hI=>?_) ⟨none,none,rfl⟩;obtain⟨a,b,rfl⟩:=hI;obtain⟨hk,rfl⟩:=zM ex;obtain⟨b1,b2⟩:=h.eb k hk;refine keep ?_ ⟨_,_,rfl⟩;simp[-List.getD_eq_getElem?_getD,jB b1,jB b2]
theorem om (h:a_ en re tb):cD [aV en,aJ re]=.val .non:=by
 simp only[cD,fu];show fin (aX (tg2 2 3) _ (enu 0 (re.map nD)) [sh (aV en),sh (aJ re),none,none])=_;refine ip (λU=>∃a b,U=[sh (aV en),sh (aJ re),a,b]) (λk x U ex hI=>?_) ⟨none,none,rfl⟩;obtain⟨a,b,rfl⟩:=hI;obtain⟨hk,rfl⟩:=Dg ex;obtain⟨b1,b2⟩:=h.rs k hk;have e2:fne (cx (en.getD (re.getD k 0) (0,0))) (.tup [.int (k:Int),.int (k:Int)])=.val (.bl false):=by
  rw[b2];exact i7 (x:=cx (k,k)) (kj _)
 refine keep ?_ ⟨_,_,rfl⟩;simp[-List.getD_eq_getElem?_getD,jB b1,ff b1,e2]
theorem pD (h:a_ en re tb):cQ [af tb,.int en.length]=.val .non:=by
 simp only[cQ,gg];have ht:=h.tl;have:sq (DL.iff (tst (bin fne (una aM (vb 0)) (vb 1))) bad nxt) (aY (fJ (aC (vr 0) aN)) (tg2 2 3) (DL.iff (tst (bin fne (una aM (vb 3)) (vb 1))) bad nxt)) (st0 iJ [af tb,.int en.length])=aX (tg2 2 3) (DL.iff (tst (bin fne (una aM (vb 3)) (vb 1))) bad nxt) (enu 0 (tb.map ao)) [sh (af tb),sh (.int en.length),none,none]:=by
  show sq _ _ [sh (af tb),sh (.int en.length),none,none]=_;simp[ht];rfl
 rw[this];refine ip (λU=>∃a b,U=[sh (af tb),sh (.int en.length),a,b]) (λk x U ex hI=>?_) ⟨none,none,rfl⟩;obtain⟨a,b,rfl⟩:=hI;obtain⟨hk,rfl⟩:=uk ex;have b1:=h.rl k (by omega);refine keep ?_ ⟨_,_,rfl⟩;simp[-List.getD_eq_getElem?_getD,b1]
theorem oo (h:a_ en re tb) (hi:i<en.length) (hj:j<en.length):cE [aV en,.int (i:Int),.int (j:Int),.int ((tb.getD i []).getD j (-1))]=.val .non:=by
 simp only[cE,fv];show fin (DL.iff _ _ _ [sh (aV en),sh (.int (i:Int)),sh (.int (j:Int)),sh (.int ((tb.getD i []).getD j (-1)))])=_;by_cases e:(en.getD i (0,0)).2=(en.getD j (0,0)).1
 ·obtain⟨k,k1,k2,k3⟩:=h.tp i j hi hj e;have e2:fne (cx (en.getD k (0,0))) (.tup [nD (en.getD i (0,0)).1,nD (en.getD j (0,0)).2])=.val (.bl false):=by
   rw[k3];exact i7 (x:=cx _) (kj _)
  rw[k2];simp[-List.getD_eq_getElem?_getD,ff hi,ff hj,e,jB k1,ff k1,e2]
 ·have e1:=h.tn i j hi hj e;have e':((en.getD i (0,0)).2:Int)≠((en.getD j (0,0)).1:Int):=by omega
  rw[e1];simp[-List.getD_eq_getElem?_getD,ff hi,ff hj,e']
theorem oj (h:a_ en re tb):cC [aV en,af tb]=.val .non:=by
 simp only[cC,ft];show fin (aX (tg2 2 3) _ (enu 0 (tb.map ao)) [sh (aV en),sh (af tb),none,none,none,none])=_;refine ip (λU=>∃a b c d,U=[sh (aV en),sh (af tb),a,b,c,d]) (λk x U ex hI=>?_) ⟨none,none,none,none,rfl⟩;obtain⟨a,b,c,d,rfl⟩:=hI;obtain⟨hk,rfl⟩:=uk ex;have hk':k<en.length:=by have:=h.tl;omega
 show ∃U2,aX (tg2 4 5) _ (enu 0 ((tb.getD k []).map D.int)) [sh (aV en),sh (af tb),sh (.int (k:Int)),sh (ao (tb.getD k [])),c,d]=_/\_;have:=nM (i:=4) (j:=5) (F:=drp (cal 4 cE (aC (vr 0) (aC (vr 2) (aC (vr 4) (aC (vr 5) aN)))))) (λU=>∃c d,U=[sh (aV en),sh (af tb),sh (.int (k:Int)),sh (ao (tb.getD k [])),c,d]) (xs:=(tb.getD k []).map D.int) (λm x U ex hI=>?_) (U:=[sh (aV en),sh (af tb),sh (.int (k:Int)),sh (ao (tb.getD k [])),c,d]) ⟨c,d,rfl⟩
 ·obtain⟨U',e,c',d',rfl⟩:=this;exact⟨_,e,_,_,_,_,rfl⟩
 ·obtain⟨c,d,rfl⟩:=hI;obtain⟨hm,rfl⟩:=uu ex;have hm':m<en.length:=by rw[h.rl k hk']at hm;exact hm
  refine keep ?_ ⟨_,_,rfl⟩;simp[-List.getD_eq_getElem?_getD,oo h hk' hm']
theorem qh (h:a_ en re tb) (hi:i<en.length) (hj:j<en.length):(tb.getD i []).getD j (-1)=-1\/∃k:Nat,k<en.length/\(tb.getD i []).getD j (-1)=(k:Int):=by
 by_cases e:(en.getD i (0,0)).2=(en.getD j (0,0)).1
 ·obtain⟨k,k1,k2,_⟩:=h.tp i j hi hj e;exact .inr ⟨k,k1,k2⟩
 ·exact .inl (h.tn i j hi hj e)
theorem kH (h:a_ en re tb) (hi:i<en.length) (hj:j<en.length) (e:(tb.getD i []).getD j (-1)=(k:Int)):(en.getD i (0,0)).2=(en.getD j (0,0)).1/\k<en.length/\en.getD k (0,0)=((en.getD i (0,0)).1,(en.getD j (0,0)).2):=by
 by_cases e0:(en.getD i (0,0)).2=(en.getD j (0,0)).1
 ·obtain⟨k',k1,k2,k3⟩:=h.tp i j hi hj e0;have:k'=k:=by rw[k2]at e;omega
  subst this;exact⟨e0,k1,k3⟩
 ·rw[h.tn i j hi hj e0]at e;omega
theorem iP (h:a_ en re tb):bp [aV en,aJ re,af tb]=.val .non:=by
 simp only[bp,cO];show fin (aX (tg2 3 4) _ (enu 0 (en.map cx)) [sh (aV en),sh (aJ re),sh (af tb),none,none])=_;refine ip (λU=>∃a b,U=[sh (aV en),sh (aJ re),sh (af tb),a,b]) (λk x U ex hI=>?_) ⟨none,none,rfl⟩;obtain⟨a,b,rfl⟩:=hI;obtain⟨hk,rfl⟩:=zM ex;obtain⟨b1,b2⟩:=h.eb k hk;have r1:=(h.rs _ b1).1;have r2:=(h.rs _ b2).1;have u1:=h.ul k hk;have u2:=h.ur k hk;have ht:=h.tl;have t1:=bX (tb:=tb) (show re.getD (en.getD k (0,0)).1 0<tb.length by omega);have t2:=bX (tb:=tb) (show k<tb.length by omega);have t3:=bv (r:=tb.getD (re.getD (en.getD k (0,0)).1 0) []) (i:=k) (by rw[h.rl _ r1];exact hk);have t4:=bv (r:=tb.getD k []) (i:=re.getD (en.getD k (0,0)).2 0) (by rw[h.rl _ hk];exact r2);refine keep ?_ ⟨_,_,rfl⟩;simp[-List.getD_eq_getElem?_getD,rz b1,rz b2,t1,t2,t3,t4,u1,u2]
theorem mj (h:a_ en re tb) {x:Nat} (hi:i<en.length) (hj:j<en.length) (e:(tb.getD i []).getD j (-1)=(x:Int)):cf [af tb,.int (i:Int),.int (j:Int),.int (x:Int)]=.val .non:=by
 simp only[cf,eO];have ht:=h.tl;obtain⟨_,hx,_⟩:=kH h hi hj e;have t1:=bX (tb:=tb) (show i<tb.length by omega);have t2:=bX (tb:=tb) (show j<tb.length by omega);have t3:=bX (tb:=tb) (show x<tb.length by omega);have:∀F,aY (fJ (aC (bin fix (vb 0) (vb 2)) aN)) (tg2 4 5) F (st0 gk [af tb,.int (i:Int),.int (j:Int),.int (x:Int)])=aX (tg2 4 5) F (enu 0 ((tb.getD j []).map D.int)) [sh (af tb),sh (.int (i:Int)),sh (.int (j:Int)),sh (.int (x:Int)),none,none]:=λF=>by
  show aY _ _ F [sh (af tb),sh (.int (i:Int)),sh (.int (j:Int)),sh (.int (x:Int)),none,none]=_;simp[-List.getD_eq_getElem?_getD,t2];rfl
 rw[this];refine ip (λU=>∃a b,U=[sh (af tb),sh (.int (i:Int)),sh (.int (j:Int)),sh (.int (x:Int)),a,b]) (λk d U ex hI=>?_) ⟨none,none,rfl⟩;obtain⟨a,b,rfl⟩:=hI;obtain⟨hk,rfl⟩:=uu ex;rw[h.rl j hj]at hk;refine keep ?_ ⟨_,_,rfl⟩;rcases qh h hj hk with ey|⟨y,hy,ey⟩
 ·rw[ey];simp
 ·rw[ey];have as:=h.as i j k x y hi hj hk e ey;have t4:=bv (r:=tb.getD x []) (i:=k) (by rw[h.rl _ hx];exact hk);have t5:=bv (r:=tb.getD i []) (i:=y) (by rw[h.rl _ hi];exact hy);have ny:(y:Int) ≠ -1:=by omega
  simp[-List.getD_eq_getElem?_getD,t1,t3,t4,t5,as,ny]
theorem mi (h:a_ en re tb):ce [af tb]=.val .non:=by
 simp only[ce,eN];show fin (aX (tg2 1 2) _ (enu 0 (tb.map ao)) [sh (af tb),none,none,none,none])=_;refine ip (λU=>∃a b c d,U=[sh (af tb),a,b,c,d]) (λk x U ex hI=>?_) ⟨none,none,none,none,rfl⟩;obtain⟨a,b,c,d,rfl⟩:=hI;obtain⟨hk,rfl⟩:=uk ex;have hk':k<en.length:=by have:=h.tl;omega
 have:=nM (i:=3) (j:=4) (F:=DL.iff (tst (bin fne (vb 4) (una jI (kd (.int 1))))) (drp (cal 4 cf (aC (vr 0) (aC (vr 1) (aC (vr 3) (aC (vr 4) aN)))))) nxt) (λU=>∃c d,U=[sh (af tb),sh (.int (k:Int)),sh (ao (tb.getD k [])),c,d]) (xs:=(tb.getD k []).map D.int) (λm x U ex hI=>?_) (U:=[sh (af tb),sh (.int (k:Int)),sh (ao (tb.getD k [])),c,d]) ⟨c,d,rfl⟩
 ·obtain⟨U',e,c',d',rfl⟩:=this;exact⟨_,e,_,_,_,_,rfl⟩
 ·obtain⟨c,d,rfl⟩:=hI;obtain⟨hm,rfl⟩:=uu ex;have hm':m<en.length:=by rw[h.rl k hk']at hm;exact hm
  refine keep ?_ ⟨_,_,rfl⟩;rcases qh h hk' hm' with ey|⟨y,hy,ey⟩
  ·rw[ey];simp
  ·have:=mj h hk' hm' ey;rw[ey];have ny:(y:Int) ≠ -1:=by omega
   simp[-List.getD_eq_getElem?_getD,this,ny]
theorem BX (h:a_ en re tb):jd (jE (aV en) (aJ re) (af tb))=.val (.ob (aV en) (aJ re) (af tb)):=by
 have n1:=h.na40;have n2:=h.tl;have hf:be (fIt (vr 3)) 1 (tgN 4) tT (eLs (fIt (vb 4))) (jE (aV en) (aJ re) (af tb))=.val (tb.map ao):=bw (f:=ao) rfl (by omega) λr _=>rfl;unfold jd B3;rw[hf];unfold jE;simp[-List.getD_eq_getElem?_getD,xF,mn h,pE h,om h,pD h,oj h,iP h,mi h];rfl
end
theorem kE (ns:List Int) (k:Nat):∃c:Int,aE [.scr ns,.int (k:Int)]=.val (.int c):=by
 simp only[aE,iB];have m1:∀i:Int,bm i 65521=.val (.int (i%65521)):=λi=>dG (by decide);have m2:∀i:Int,fV i 48271=.val (.int (i*48271)):=λi=>kz (by decide);have m3:∀i:Int,fV i 30103=.val (.int (i*30103)):=λi=>kz (by decide);show ∃c,fin (sq _ _ [sh (.scr ns),sh (.int (k:Int)),none])=_;have t1:tst (bin (iI flt) (vb 1) (una aM (vb 0))) [sh (.scr ns),sh (.int (k:Int)),none]=.val (decide ((k:Int)<(ns.length:Int))):=Eq.trans rfl rfl;rw[aL,bB,t1,ac];by_cases h:k<ns.length
 ·have e:fix (.scr ns) (.int (k:Int))=.val (.int ns[k]):=CD (List.getElem?_eq_getElem h);refine⟨ns[k],?_⟩;rw[if_pos (decide_eq_true (Int.ofNat_lt.mpr h)),cK,ca];show fin (R.bind (R.bind (fix (.scr ns) (.int (k:Int))) _) _)=_;rw[e];rfl
 ·rw[if_neg (by rw[decide_eq_false (λz=>h (Int.ofNat_lt.mp z))];decide),iX,ac];dsimp only;have t2:tst (bin (iI fgt) (una aM (vb 0)) (kd (.int 0))) [sh (.scr ns),sh (.int (k:Int)),sh (.int 0)]=.val (decide ((0:Int)<(ns.length:Int))):=Eq.trans rfl rfl;have last:∀b:Int,ret (bin (iI bm) (bin bo (bin (iI fV) (bin (iI bm) (vb 2) (kd (.int 65521))) (kd (.int 48271))) (bin (iI fV) (vb 1) (kd (.int 30103)))) (kd (.int 65521))) [sh (.scr ns),sh (.int (k:Int)),sh (.int b)]=.val (.rt (.int ((b%65521*48271+k*30103)%65521))):=λb=>by
   have v2:vb 2 [sh (.scr ns),sh (.int (k:Int)),sh (.int b)]=.val (.int b):=Eq.trans rfl rfl;have v1:vb 1 [sh (.scr ns),sh (.int (k:Int)),sh (.int b)]=.val (.int (k:Int)):=Eq.trans rfl rfl;rw[cK,ca _ (iI bm),ca _ bo,ca _ (iI fV),ca _ (iI bm),v2,ac,p8,ac,qa,m1,ac,p8,ac,qa,m2,ac,ca _ (iI fV),v1,ac,p8,ac,qa,m3,ac,wq,ac,ac,qa,m1,ac]
  have a2:asg 2 (kd (.int 0)) [sh (.scr ns),sh (.int (k:Int)),none]=.val (.nx [sh (.scr ns),sh (.int (k:Int)),sh (.int 0)]):=Eq.trans rfl rfl;rw[aL,a2,ac];dsimp only;rw[aL,bB,t2,ac];by_cases h0:0<ns.length
  ·have e:fix (.scr ns) (.int 0)=.val (.int ns[0]):=CD (i:=0) (List.getElem?_eq_getElem h0);refine⟨(ns[0]%65521*48271+k*30103)%65521,?_⟩;rw[if_pos (decide_eq_true (show(0:Int)<(ns.length:Int)from Int.ofNat_lt.mpr h0)),eD,ca];show fin (R.bind (R.bind (fix (.scr ns) (.int 0)) _) _)=_;rw[e];show fin (ret _ [sh (.scr ns),sh (.int (k:Int)),sh (.int ns[0])])=_;rw[last];rfl
  ·refine⟨(0%65521*48271+k*30103)%65521,?_⟩;rw[if_neg (by rw[decide_eq_false (λ(z:(0:Int)<(ns.length:Int))=>h0 (Int.ofNat_lt.mp z))];decide),iX,ac];dsimp only;rw[last];rfl
theorem kD (s:Int):∃c:Int,aP [.int s]=.val (.int c):=by
 simp only[aP,iu];have m1:∀i:Int,bm i 2147483647=.val (.int (i%2147483647)):=λi=>dG (by decide);have m2:∀i:Int,fV i 48271=.val (.int (i*48271)):=λi=>kz (by decide);show ∃c,fin (ret _ [sh (.int s)])=_;refine⟨(s*48271+11)%2147483647,?_⟩;simp[m1,m2]
theorem xU (m:Nat) (h:m=1\/m=2\/m=3\/m=4):∃sz∈szs,D.lst ((List.range m).map λ_=>D.int 1)=aJ sz:=by
 rcases h with rfl|rfl|rfl|rfl
 ·exact⟨[1],by decide,rfl⟩
 ·exact⟨[1,1],by decide,rfl⟩
 ·exact⟨[1,1,1],by decide,rfl⟩
 ·exact⟨[1,1,1,1],by decide,rfl⟩
def l6:List (List Nat):=[[1,2],[2,1],[2,2],[0,2],[2],[1]]
def l5:List (List Nat):=[[1,1,2],[0,1,2],[1,2,2],[2,1,0],[2,2]]
theorem Fv:∀i,i<6->l6.getD i []∈szs:=by decide
theorem Fw:∀i,i<5->l5.getD i []∈szs:=by decide
theorem fX (c:Int) (m:Nat) (h:0<m):∃i:Nat,i<m/\c%(m:Int)=(i:Int):=by
 have h':(0:Int)<(m:Int):=Int.ofNat_lt.mpr h;obtain⟨i,e⟩:=Int.eq_ofNat_of_zero_le (Int.emod_nonneg c (Int.ne_of_gt h'));refine⟨i,?_,e⟩;have:=Int.emod_lt_of_pos c h';rw[e]at this;exact Int.ofNat_lt.mp this
theorem zE (ns:List Int) (k:Nat):∃sz∈szs,dm [.scr ns,.int (k:Int)]=.val (aJ sz):=by
 simp only[dm,gL];obtain⟨c,hc⟩:=kE ns k;have d4:dU c 4=.val (.int (c/4)):=wp (by decide);show ∃sz∈szs,fin (sq _ _ [sh (.scr ns),sh (.int (k:Int)),none,none])=_;have x1:asg 2 (cal 2 aE (aC (vr 0) (aC (vr 1) aN))) [sh (.scr ns),sh (.int (k:Int)),none,none]=.val (.nx [sh (.scr ns),sh (.int (k:Int)),sh (.int c),none]):=by
  rw[eD,z6];show R.bind (noex (aE [.scr ns,.int (k:Int)])) _=_;rw[hc];rfl
 have x2:asg 3 (bin (iI bm) (vb 2) (kd (.int 4))) [sh (.scr ns),sh (.int (k:Int)),sh (.int c),none]=.val (.nx [sh (.scr ns),sh (.int (k:Int)),sh (.int c),sh (.int (c%4))]):=by
  rw[eD,ca];show R.bind (bm c 4) _=_;rw[dG (by decide)];rfl
 rw[aL,x1,ac];dsimp only;rw[aL,x2,ac];dsimp only;have ix:∀(w:Int) (m:Int),0<m->bin (iI bm) (bin (iI dU) (vb 2) (kd (.int 4))) (kd (.int m)) [sh (.scr ns),sh (.int (k:Int)),sh (.int c),sh (.int w)]=.val (.int (c/4%m)):=λw m hm=>by
  rw[ca,ca];show R.bind (dU c 4) _=_;rw[d4];show bm (c/4) m=_;exact dG hm
 have ts:∀(w:Int) (m:Int),tst (bin feq (vb 3) (kd (.int m))) [sh (.scr ns),sh (.int (k:Int)),sh (.int c),sh (.int w)]=.val (decide (w=m)):=λw m=>by
  rw[dW,ca];show R.bind (feq (.int w) (.int m)) asB=_;rw[zy];rfl
 obtain⟨i,hi,ei⟩:=fX c 4 (by decide);have ei:c%4=(i:Int):=ei;rw[ei]
 match i,hi with
 | 0,_ =>
  obtain⟨j,hj,ej⟩:=fX (c/4) 4 (by decide);have ej:c/4%4=(j:Int):=ej;have hz:o4 [.int (1+c/4%4)]=.val (rng 0 (1+j)):=by
   rw[ej];have:=gR (n:=1+j) (Nat.le_trans (Nat.add_le_add_left (Nat.le_of_lt hj) 1) (by decide));rw[Int.natCast_add]at this;exact this
  have hf:be (bq (aC (bin bo (kd (.int 1)) (bin (iI bm) (bin (iI dU) (vb 2) (kd (.int 4))) (kd (.int 4)))) aN)) 1 (tgN 4) tT (kd (.int 1)) [sh (.scr ns),sh (.int (k:Int)),sh (.int c),sh (.int ((0:Nat):Int))]=.val ((List.range (1+j)).map λ_=>D.int 1):=by
   refine n9 ?_ (Nat.le_trans (Nat.add_le_add_left (Nat.le_of_lt hj) 1) (by decide)) λk _=>rfl;rw[mL,bZ,ca,p8,ac,ix _ 4 (by decide),ac,wq,ac,qu,ac,ac,hz]
  obtain⟨sz,hs,e⟩:=xU (1+j) (by
   match j,hj with
   | 0,_=>exact .inl rfl
   | 1,_=>exact .inr (.inl rfl)
   | 2,_=>exact .inr (.inr (.inl rfl))
   | 3,_=>exact .inr (.inr (.inr rfl)))
  refine⟨sz,hs,?_⟩;rw[aL,bB,ts,ac,if_pos (by decide),cK,bK,hf,ac,ac,ac];exact congrArg R.val e
 | 1,_ =>
  obtain⟨j,hj,ej⟩:=fX (c/4) 6 (by decide);have ej:c/4%6=(j:Int):=ej;refine⟨_,Fv j hj,?_⟩;have el:eL (aC (eL (aC (kd (.int 1)) (aC (kd (.int 2)) aN))) (aC (eL (aC (kd (.int 2)) (aC (kd (.int 1)) aN))) (aC (eL (aC (kd (.int 2)) (aC (kd (.int 2)) aN))) (aC (eL (aC (kd (.int 0)) (aC (kd (.int 2)) aN))) (aC (eL (aC (kd (.int 2)) aN)) (aC (eL (aC (kd (.int 1)) aN)) aN)))))) [sh (.scr ns),sh (.int (k:Int)),sh (.int c),sh (.int ((1:Nat):Int))]=.val (.lst (l6.map aJ)):=Eq.trans rfl rfl;rw[aL,bB,ts,ac,if_neg (by decide),iX,ac];dsimp only;rw[aL,bB,ts,ac,if_pos (by decide),cK,ca,el,ac,ix _ 6 (by decide),ac,ej,i8 (dH (d:=[]) hj)];rfl
 | 2,_ =>
  refine⟨[3],by decide,?_⟩;rw[aL,bB,ts,ac,if_neg (by decide),iX,ac];dsimp only;rw[aL,bB,ts,ac,if_neg (by decide),iX,ac];dsimp only;rw[aL,bB,ts,ac,if_pos (by decide)];exact Eq.trans rfl rfl
 | 3,_ =>
  obtain⟨j,hj,ej⟩:=fX (c/4) 5 (by decide);have ej:c/4%5=(j:Int):=ej;refine⟨_,Fw j hj,?_⟩;have el:eL (aC (eL (aC (kd (.int 1)) (aC (kd (.int 1)) (aC (kd (.int 2)) aN)))) (aC (eL (aC (kd (.int 0)) (aC (kd (.int 1)) (aC (kd (.int 2)) aN)))) (aC (eL (aC (kd (.int 1)) (aC (kd (.int 2)) (aC (kd (.int 2)) aN)))) (aC (eL (aC (kd (.int 2)) (aC (kd (.int 1)) (aC (kd (.int 0)) aN)))) (aC (eL (aC (kd (.int 2)) (aC (kd (.int 2)) aN))) aN))))) [sh (.scr ns),sh (.int (k:Int)),sh (.int c),sh (.int ((3:Nat):Int))]=.val (.lst (l5.map aJ)):=Eq.trans rfl rfl;rw[aL,bB,ts,ac,if_neg (by decide),iX,ac];dsimp only;rw[aL,bB,ts,ac,if_neg (by decide),iX,ac];dsimp only;rw[aL,bB,ts,ac,if_neg (by decide),iX,ac];dsimp only;rw[cK,ca,el,ac,ix _ 5 (by decide),ac,ej,i8 (dH (d:=[]) hj)];rfl
def gX (x:Arr):KA:=((x.1:Int),(x.2.1:Int),x.2.2.map λ(n:Nat)=>(n:Int))
theorem lx:∀l:List Nat,gY (l.map nD)=some (l.map λ(n:Nat)=>(n:Int))
 | []=>rfl
 | a::l=>by
  show(gY (l.map nD)).map _=_;rw[lx l];rfl
theorem gW (x:Arr):pk (aq x)=some (gX x):=by
 show(gY (x.2.2.map nD)).map _=_;rw[lx];rfl
theorem nS {x y:Arr} (h:gX x=gX y):x=y:=by
 obtain⟨a,b,l⟩:=x;obtain⟨c,d,m⟩:=y;simp only[gX,Prod.mk.injEq]at h;obtain⟨h1,h2,h3⟩:=h;have e3:l=m:=by
  have:∀{l m:List Nat},(l.map λ(n:Nat)=>(n:Int))=(m.map λ(n:Nat)=>(n:Int))->l=m:=by
   intro l
   induction l with
   | nil=>intro m h;cases m with
    | nil=>rfl
    | cons _ _=>simp at h
   | cons a l ih=>intro m h;cases m with
    | nil=>simp at h
    | cons b m =>
     simp only[List.map_cons,List.cons.injEq]at h;rw[ih h.2];congr 1;omega
  exact this h3
 rw[e3,show a=c by omega,show b=d by omega]
def met (kn:List Arr):List (KA×D):=kn.map λx=>(gX x,.bl true)
theorem v_ (kn:List Arr) (x:Arr):((met kn).any λp=>decide (p.1=gX x))=decide (x∈kn):=by
 unfold met;rw[List.any_map];by_cases h:x∈kn
 ·rw[decide_eq_true h,List.any_eq_true];exact⟨x,h,by simp⟩
 ·rw[decide_eq_false h,List.any_eq_false];intro y hy;simp only[Function.comp,decide_eq_true_eq];exact λe=>h (nS e▸hy)
variable {kn:List Arr}
theorem v9 {x:Arr} (h:x∉kn):nQ (met kn) (gX x) (.bl true)=met (kn++[x]):=by
 unfold nQ;rw[v_,decide_eq_false h,if_neg (by decide)];unfold met;rw[List.map_append];rfl
theorem wa:∀(l acc:List Arr),(acc++l).Nodup->(acc++l).length<=100000->tx (l.map aq) (met acc)=some (met (acc++l))
 | [],acc,_,_=>by rw[List.append_nil];rfl
 | x::l,acc,nd,hl=>by
  have hx:x∉acc:=λh=>by
   rw[List.nodup_append]at nd;exact nd.2.2 x h x (by simp) rfl
  have e:acc++x::l=(acc++[x])++l:=by simp
  rw[List.map_cons];unfold tx;rw[gW];dsimp only;have hl1:(met acc).length<=100000:=by unfold met;rw[List.length_map];simp at hl;omega
  rw[if_pos hl1,v9 hx,e];exact wa l (acc++[x]) (by rw[<- e];exact nd) (by rw[<- e];exact hl)
variable {d:D} {n:Nat} {kvs:List (KA×D)} {ka:KA}
section
variable (U:Rho)
@[simp] theorem wF (i:Nat):zW i U=.val (.nx (U.set i (some (.dic [])))):=Eq.trans rfl rfl
theorem jj {e:Rho->R D} (h:U[i]?=some (some (.own xs))) (he:e U=.val d) (hl:xs.length<100000):app i e U=.val (.nx (U.set i (some (.own (xs++[d]))))):=by
 unfold app;rw[h];dsimp only;rw[he,ac,if_pos (show xs.length<LIM from hl)]
theorem zb {k e:Rho->R D} (h:U[i]?=some (some (.own xs))) (hk:k U=.val (.int (n:Int))) (he:e U=.val d) (hn:n<=xs.length) (hl:xs.length<100000):ins i k e U=.val (.nx (U.set i (some (.own (xs.take n++d::xs.drop n))))):=by
 unfold ins;rw[h];dsimp only;rw[hk,ac,he,ac];dsimp only;rw[if_pos ⟨by omega,by omega,(show xs.length<LIM from hl)⟩];rfl
theorem wE {k e:Rho->R D} {kd:D} (h:U[i]?=some (some (.dic kvs))) (hk:k U=.val kd) (he:e U=.val d) (ek:pk kd=some ka) (hl:kvs.length<=100000):rF i k e U=.val (.nx (U.set i (some (.dic (nQ kvs ka d))))):=by
 unfold rF;rw[he,ac,hk,mD,ac,ek];dsimp only;rw[h];dsimp only;rw[if_pos hl]
theorem wG {k:Rho->R D} {kd:D} (h:U[i]?=some (some (.dic kvs))) (hk:k U=.val kd) (ek:pk kd=some ka) (hg:uQ kvs ka=some d):rH i k U=.val d:=by
 unfold rH;rw[h];dsimp only;rw[hk,ac,ek];dsimp only;rw[hg]
theorem B2 {k:Rho->R D} {kd:D} (h:U[i]?=some (some (.dic kvs))) (hk:k U=.val kd) (ek:pk kd=some ka):zV i k U=.val (!(kvs.any λp=>decide (p.1=ka))):=by
 unfold zV;rw[hk,ac,h];dsimp only;rw[ek]
end
def rC (kn:List Arr) (a:Nat) (o f s m:Option Slt):Rho:=[some (.own (kn.map aq)),some (.dic (met kn)),none,sh (nD a),o,f,s,m]
abbrev oI:Rho->R Out:=DL.iff (tst (bin feq (bin fix (vb 5) (kd (.int 1))) (bin fix (vb 6) (kd (.int 0)))))
 (sq (asg 7 (eT (aC (bin fix (vb 5) (kd (.int 0))) (aC (bin fix (vb 6) (kd (.int 1))) (aC (una jH (eLs (be (fIt (bin fix (vb 5) (kd (.int 2)))) 1 (tgN 8) tT (bin fix (bin fix (vb 6) (kd (.int 2))) (vb 8))))) aN)))))
 (DL.iff (zV 1 (vr 7))
 (sq (rF 1 (vr 7) (kd (.bl true)))
 (app 0 (vr 7)))
 nxt))
 nxt
variable {s:Arr}
theorem yQ {sz:List Nat} {f:Arr} (hf:Ok sz f) (hs:Ok sz s) (e:f.2.1=s.1):∀i∈f.2.2,i<s.2.2.length:=by
 obtain⟨n,m,h1,h2,h3,h4⟩:=hf;obtain⟨n',m',g1,g2,g3,g4⟩:=hs;have hm:m=n':=by rw[e]at h2;rw[h2]at g1;exact Option.some.inj g1
 intro i hi;rw[g3,<- hm];exact h4 i hi
theorem DQ {sz:List Nat} (hz:sz∈szs) {f:Arr} (hf:Ok sz f):f.2.2.length<=3:=by
 obtain⟨n,m,h1,h2,h3,h4⟩:=hf;rw[h3];exact(fB sz hz).2.2 n (List.mem_of_getElem? h1)
theorem Kn.few {sz kn} (hz:sz∈szs) (g:Kn sz kn):kn.length<=27 :=
 Nat.le_trans (gH g.nd λx hx=>tz (g.ok x hx)) (so sz hz)
variable {src:Rho->R (List D)}
theorem wJ {sz:List Nat} (hz:sz∈szs) {f:Arr} (hf:Ok sz f) (hs:Ok sz s) (e:f.2.1=s.1) {el:Rho->R D} (h1:src U=.val (f.2.2.map nD)) (h2:∀k:Nat,el ((U++List.replicate 1 none).set i (sh (nD k)))=fix (.tup (s.2.2.map nD)) (.int (k:Int))) :
  be src 1 (tgN i) tT el U=.val ((comp f s).2.2.map nD):=by
 have hl:=DQ hz hf;have:=bw (f:=nD) (g:=λk=>nD (s.2.2.getD k 0)) (n:=1) (i:=i) (e:=el) h1 (by omega) λk hk=>by
  rw[h2 k];exact wn (dH (yQ hf hs e k hk))
 rw[this];simp only[comp,List.map_map];rfl
theorem tV {sz kn:List _} (hz:sz∈szs) (hk:Kn sz kn) {f:Arr} (hf:Ok sz f) (hs:Ok sz s) (a:Nat) (o m:Option Slt) :
  ∃m',oI (rC kn a o (sh (aq f)) (sh (aq s)) m)=.val (.nx (rC (iT kn f s) a o (sh (aq f)) (sh (aq s)) m')):=by
 have few:=Kn.few hz hk;unfold iT;by_cases e:f.2.1=s.1
 ·rw[if_pos e];have hc:=wJ hz hf hs e (src:=fIt (bin fix (vb 5) (kd (.int 2)))) (el:=bin fix (bin fix (vb 6) (kd (.int 2))) (vb 8)) (i:=8) (U:=rC kn a o (sh (aq f)) (sh (aq s)) m) (by simp[rC]) (λk=>by simp[rC]);refine⟨sh (aq (comp f s)),?_⟩;have ht:tst (bin feq (bin fix (vb 5) (kd (.int 1))) (bin fix (vb 6) (kd (.int 0)))) (rC kn a o (sh (aq f)) (sh (aq s)) m)=.val true:=by
   unfold rC;simp[e]
  have hv:eT (aC (bin fix (vb 5) (kd (.int 0))) (aC (bin fix (vb 6) (kd (.int 1))) (aC (una jH (eLs (be (fIt (bin fix (vb 5) (kd (.int 2)))) 1 (tgN 8) tT (bin fix (bin fix (vb 6) (kd (.int 2))) (vb 8))))) aN))) (rC kn a o (sh (aq f)) (sh (aq s)) m)=.val (aq (comp f s)):=by
   simp only[jN,bZ,fO,bK,hc];unfold rC;simp;rfl
  show DL.iff _ _ _ _=_;rw[bB,ht,ac,if_pos rfl,aL,eD,hv];show DL.iff _ _ _ (rC kn a o (sh (aq f)) (sh (aq s)) (sh (aq (comp f s))))=_;unfold pH;rw[bB,B2 (kvs:=met kn) _ rfl (kd:=aq (comp f s)) rfl (gW _),v_];by_cases hin:comp f s∈kn
  ·rw[if_pos hin,decide_eq_true hin];rfl
  ·rw[if_neg hin,decide_eq_false hin];show sq _ _ _=_;rw[aL,wE (kvs:=met kn) _ rfl (kd:=aq (comp f s)) rfl (d:=.bl true) rfl (gW _) (by unfold met;rw[List.length_map];omega),v9 hin];rw[ac];dsimp only;rw[jj (xs:=kn.map aq) _ rfl (d:=aq (comp f s)) rfl (by rw[List.length_map];omega)];unfold rC;rw[List.map_append];rfl
 ·rw[if_neg e];refine⟨m,?_⟩;have e':¬ ((f.2.1:Int)=(s.1:Int)):=by omega
  unfold rC;simp[e']
abbrev xV:Rho->R (List D):=fIt (eL (aC (eT (aC (bin fix (vb 0) (vb 3)) (aC (vr 4) aN))) (aC (eT (aC (vr 4) (aC (bin fix (vb 0) (vb 3)) aN))) aN)))
theorem BM {sz kn:List _} (hz:sz∈szs) (hk:Kn sz kn) {k o:Arr} (ha:kn[a]?=some k) (ho:Ok sz o) (f s m:Option Slt) :
  ∃f' s' m',aY xV (tg2 5 6) oI (rC kn a (sh (aq o)) f s m)=.val (.nx (rC (kT k kn o) a (sh (aq o)) f' s' m')):=by
 have hkk:Ok sz k:=hk.ok k (List.mem_of_getElem? ha);have hx:fix (.lst (kn.map aq)) (.int (a:Int))=.val (aq k):=i8 (by rw[List.getElem?_map,ha];rfl);have hs:xV (rC kn a (sh (aq o)) f s m)=.val [.tup [aq k,aq o],.tup [aq o,aq k]]:=by
  unfold rC;simp[hx]
 obtain⟨m1,e1⟩:=tV hz hk hkk ho a (sh (aq o)) m;obtain⟨m2,e2⟩:=tV hz (mZ hk hkk ho) ho hkk a (sh (aq o)) m1;refine⟨sh (aq o),sh (aq k),m2,?_⟩;rw[bA,hs,ac];unfold aX;show(oI (rC kn a (sh (aq o)) (sh (aq k)) (sh (aq o)) m)).bind _=_;rw[e1,ac];dsimp only;unfold aX;show(oI (rC (iT kn k o) a (sh (aq o)) (sh (aq o)) (sh (aq k)) m1)).bind _=_;rw[e2,ac];rfl
theorem wu {sz:List Nat} (hz:sz∈szs) {a:Nat} {k:Arr}:∀(snap:List Arr) {kn:List Arr} (hk:Kn sz kn) (ha:kn[a]?=some k) (hs:∀o∈snap,Ok sz o) (o f s m:Option Slt),
  ∃o' f' s' m',aX (tgN 4) (aY xV (tg2 5 6) oI) (snap.map aq) (rC kn a o f s m)=.val (.nx (rC (qP k kn snap) a o' f' s' m'))
 | [],kn,hk,ha,hs,o,f,s,m=>⟨o,f,s,m,rfl⟩
 | q::r,kn,hk,ha,hs,o,f,s,m=>by
  have hq:=hs q (by simp);have hkk:Ok sz k:=hk.ok k (List.mem_of_getElem? ha);obtain⟨f1,s1,m1,e1⟩:=BM hz hk ha hq f s m;obtain⟨o2,f2,s2,m2,e2⟩:=wu hz r (vw hk hkk hq) (vS (se k kn q) ha) (λx hx=>hs x (by simp[hx])) (sh (aq q)) f1 s1 m1;refine⟨o2,f2,s2,m2,?_⟩;rw[List.map_cons];unfold aX;show(aY xV (tg2 5 6) oI (rC kn a (sh (aq q)) f s m)).bind _=_;rw[e1,ac];exact e2
abbrev z_:Rho->R Out:=sq (aY (fIt (eLs (fIt (vb 0)))) (tgN 4) (aY xV (tg2 5 6) oI)) (asg 3 (bin bo (vb 3) (kd (.int 1))))
abbrev zX:Rho->R Bool:=tst (bin (iI flt) (vb 3) (una aM (vb 0)))
theorem zI {sz:List Nat} (hz:sz∈szs) {k:Arr} (hk:Kn sz kn) (ha:kn[a]?=some k) (o f s m:Option Slt) :
  ∃o' f' s' m',z_ (rC kn a o f s m)=.val (.nx (rC (qP k kn kn) (a+1) o' f' s' m')):=by
 obtain⟨o',f',s',m',e⟩:=wu hz kn hk ha hk.ok o f s m;refine⟨o',f',s',m',?_⟩;show sq _ _ _=_;rw[aL,bA];have:fIt (eLs (fIt (vb 0))) (rC kn a o f s m)=.val (kn.map aq):=by unfold rC;simp
 rw[this,ac,e,ac];show asg 3 _ _=_;unfold rC;simp
theorem tP {sz:List Nat} (hz:sz∈szs):∀(n a:Nat) (kn:List Arr) (o f s m:Option Slt),Kn sz kn->Cl kn a->a<=kn.length->28<=n+a ->
  ∃kn' a' o' f' s' m',whD zX z_ n (rC kn a o f s m)=.val (.nx (rC kn' a' o' f' s' m'))/\Kn sz kn'/\kn <+: kn'/\Cl kn' kn'.length
 | 0,a,kn,o,f,s,m,hk,hc,hl,hn=>by have:=Kn.few hz hk;omega
 | n+1,a,kn,o,f,s,m,hk,hc,hl,hn=>by
  have hcond:zX (rC kn a o f s m)=.val (decide (a<kn.length)):=by
   unfold rC;simp
  unfold whD;rw[hcond,ac];by_cases h:a<kn.length
  ·rw[decide_eq_true h,if_pos rfl];have ha:kn[a]?=some kn[a]:=by simp[h]
   obtain⟨o',f',s',m',e⟩:=zI hz hk ha o f s m;have hkk:Ok sz kn[a]:=hk.ok _ (List.getElem_mem h);have pre:=iW kn[a] kn kn;obtain⟨kn',a',o2,f2,s2,m2,e2,g1,g2,g3⟩:=tP hz n (a+1) (qP kn[a] kn kn) o' f' s' m' (vY hkk hk hk.ok) (A_ hc ha) (Nat.le_trans h pre.length_le) (by omega);rw[e,ac];exact⟨kn',a',o2,f2,s2,m2,e2,g1,pre.trans g2,g3⟩
  ·rw[decide_eq_false h];have:a=kn.length:=by omega
   subst this;exact⟨kn,kn.length,o,f,s,m,rfl,hk,List.prefix_refl _,hc⟩
theorem xy {sz kn:List _} (hz:sz∈szs) (hk:Kn sz kn):∃kn',cw (kn.map aq)=.val (.lst (kn'.map aq))/\Kn sz kn'/\kn <+: kn'/\∀x∈kn',∀y∈kn',x.2.1=y.1->comp x y∈kn':=by
 have few:=Kn.few hz hk;obtain⟨kn',a',o',f',s',m',e,g1,g2,g3⟩:=tP hz 30 0 kn none none none none hk (λi j x y hi=>absurd hi (Nat.not_lt_zero _)) (Nat.zero_le _) (by omega);refine⟨kn',?_,g1,g2,Ep g3⟩;have hm:tx (kn.map aq) []=some (met kn):=wa kn [] (by simpa using hk.nd) (by simp;omega);have h0:nY 0 2 1 [some (.own (kn.map aq)),some (.dic []),none,none,none,none,none,none]=.val (.nx [some (.own (kn.map aq)),some (.dic (met kn)),none,none,none,none,none,none]):=by
  show(match tx (kn.map aq) []with|some kvs'=>_|none=>_)=_;rw[hm];rfl
 simp only[cw,fZ];show fin (sq (zW 1) _ [some (.own (kn.map aq)),none,none,none,none,none,none,none])=_;rw[aL,wF,ac];show fin (sq (nY 0 2 1) _ [some (.own (kn.map aq)),some (.dic []),none,none,none,none,none,none])=_;rw[aL,h0,ac];show fin (sq (asg 3 (kd (.int 0))) _ [some (.own (kn.map aq)),some (.dic (met kn)),none,none,none,none,none,none])=_;rw[aL,eD,p8,ac,ac];show fin (sq (whD zX z_ 30) _ (rC kn 0 none none none none))=_;rw[aL,e,ac];rfl
theorem AM (n:Nat):rng 0 n=(List.range n).map nD:=by
 unfold rng;apply List.map_congr_left;intro k _;simp[nD]
theorem vL (h:n<=100000):rgT [.int (n:Int)]=.val (.tup ((List.range n).map nD)):=by
 have:-(2 ^ 62)<=(n:Int)/\(n:Int)<=100000:=by constructor<;>omega
 unfold rgT;dsimp only;rw[if_pos this,Int.toNat_natCast,AM]
theorem zj (x:Arr) (kn:List Arr):mh true (aq x) (.lst (kn.map aq))=.val (.bl (!decide (x∈kn))):=by
 have h1:eqb 8 (aq x)=true:=e8 (jt x);have h2:(kn.map aq).all (eqb 8)=true:=by
  rw[List.all_eq_true];intro y hy;obtain⟨a,_,rfl⟩:=List.mem_map.mp hy;exact e8 (jt a)
 unfold mh;dsimp only;rw[if_pos ⟨h1,h2⟩];have:((kn.map aq).any λy=>pyq 8 y (aq x))=decide (x∈kn):=by
  rw[List.any_map];by_cases h:x∈kn
  ·rw[decide_eq_true h,List.any_eq_true];exact⟨x,h,(jq 8 (jt x) (jt x)).mpr rfl⟩
  ·rw[decide_eq_false h,List.any_eq_false];intro y hy e;exact h (arrD_inj.mp ((jq 8 (jt y) (jt x)).mp e)▸hy)
 rw[this];rfl
theorem wU:∀sz∈szs,∀a,a<sz.length->∀b,b<sz.length->sz.getD a 0=3->sz.getD b 0=3:=by decide +kernel
theorem jz {sz:List Nat} (h:i<sz.length):fix (aJ sz) (.int (i:Int))=.val (.int ((sz.getD i 0:Nat):Int)):=rz h
theorem D7 {sz:List Nat} (h:b<sz.length):Ok sz (idm sz b):=by
 refine⟨sz[b],sz[b],by simp[idm,h],by simp[idm,h],?_,λy hy=>?_⟩
 ·simp[idm,h]
 ·simp[idm,h]at hy;exact hy
theorem D6 (sz:List Nat):Kn sz ((List.range sz.length).map (idm sz)):=by
 refine⟨?_,λx hx=>?_⟩
 ·unfold List.Nodup;rw[List.pairwise_map];exact List.nodup_range.imp λ{a b} h e=>h (by simpa[idm]using congrArg (·.1) e)
 ·obtain⟨b,hb,rfl⟩:=List.mem_map.mp hx;exact D7 (List.mem_range.mp hb)
def rA (ns:List Int) (k:Nat) (sz:List Nat) (known:Slt) (st:Int) (a5 a6 a7 a8 a9 a10 a11:Option Slt):Rho:=[sh (.scr ns),sh (nD k),sh (aJ sz),some known,sh (.int st),a5,a6,a7,a8,a9,a10,a11]
variable {o:Nat} {known:Slt} {st s1:Int} {l:List Nat} {a5 a10 a11 a9 a6 a7 a8:Option Slt}
section
variable {ns:List Int} {k:Nat} {sz:List Nat}
abbrev yi:Rho->R Out:=sq (asg 4 (cal 1 aP (aC (vr 4) aN)))
 (DL.iff (tst (bin feq (bin fix (vb 2) (vb 6)) (kd (.int 3))))
 (ins 8 (bin (iI bm) (bin (iI dU) (vb 4) (kd (.int 64))) (bin bo (vb 9) (kd (.int 1)))) (vr 9))
 (app 8 (bin (iI bm) (bin (iI dU) (vb 4) (kd (.int 64))) (u_ (aC (kd (.int 1)) (aC (bin fix (vb 2) (vb 7)) aN))))))
def bnd (s1 s2:Nat):Nat:=if s1=3 then 3 else max 1 s2
theorem d64 (i:Int):dU i 64=.val (.int (i/64)):=wp (by decide)
theorem BP {o1 o2 x:Nat} (h1:o1<sz.length) (h2:o2<sz.length) (hx:x<sz.getD o1 0) (hl:l.length=x) (hx3:sz.getD o1 0<=3) (hb:∀y∈l,y<bnd (sz.getD o1 0) (sz.getD o2 0)) :
  ∃(st':Int) (l':List Nat),yi (rA ns k sz known st a5 (sh (nD o1)) (sh (nD o2)) (some (.own (l.map nD))) (sh (nD x)) a10 a11)=.val (.nx (rA ns k sz known st' a5 (sh (nD o1)) (sh (nD o2)) (some (.own (l'.map nD))) (sh (nD x)) a10 a11))/\l'.length=x+1/\∀y∈l',y<bnd (sz.getD o1 0) (sz.getD o2 0):=by
 obtain⟨st',hst⟩:=kD st;have f1:=jz (sz:=sz) h1;have f2:=jz (sz:=sz) h2;have hA:asg 4 (cal 1 aP (aC (vr 4) aN)) (rA ns k sz known st a5 (sh (nD o1)) (sh (nD o2)) (some (.own (l.map nD))) (sh (nD x)) a10 a11)=.val (.nx (rA ns k sz known st' a5 (sh (nD o1)) (sh (nD o2)) (some (.own (l.map nD))) (sh (nD x)) a10 a11)):=by
  unfold rA;simp[hst]
 have hT:tst (bin feq (bin fix (vb 2) (vb 6)) (kd (.int 3))) (rA ns k sz known st' a5 (sh (nD o1)) (sh (nD o2)) (some (.own (l.map nD))) (sh (nD x)) a10 a11)=.val (decide (((sz.getD o1 0:Nat):Int)=3)):=by
  unfold rA;simp[-List.getD_eq_getElem?_getD,f1]
 show ∃(st':Int) (l':List Nat),sq _ _ _=_/\_;rw[aL,hA,ac];dsimp only;rw[bB,hT,ac];by_cases e3:sz.getD o1 0=3
 ·rw[if_pos (by simp[-List.getD_eq_getElem?_getD,e3])];have hm:bm (st'/64) ((x:Int)+1)=.val (.int (st'/64%((x:Int)+1))):=dG (by omega);have p0:0<=st'/64%((x:Int)+1):=Int.emod_nonneg _ (by omega);have p1:st'/64%((x:Int)+1)<(x:Int)+1:=Int.emod_lt_of_pos _ (by omega);obtain⟨p,hp⟩:∃p:Nat,st'/64%((x:Int)+1)=(p:Int):=⟨_,(Int.toNat_of_nonneg p0).symm⟩;refine⟨st',l.take p++x::l.drop p,?_,?_,λy hy=>?_⟩
  ·rw[zb (xs:=l.map nD) (n:=p) (d:=nD x) _ rfl (by unfold rA;simp[d64,hm,hp]) rfl (by rw[List.length_map];omega) (by rw[List.length_map];omega)];unfold rA;simp
  ·rw[List.length_append,List.length_cons,List.length_take,List.length_drop];omega
  ·unfold bnd;rw[if_pos e3];rcases List.mem_append.mp hy with q|q
   ·have:=hb y (List.mem_of_mem_take q);unfold bnd at this;rw[if_pos e3]at this;exact this
   ·rcases List.mem_cons.mp q with q|q
    ·rw[q];omega
    ·have:=hb y (List.mem_of_mem_drop q);unfold bnd at this;rw[if_pos e3]at this;exact this
 ·have e3':¬ (((sz.getD o1 0:Nat):Int)=3):=by omega
  rw[if_neg (by simp[-List.getD_eq_getElem?_getD];exact e3')];have hmx:(if((sz.getD o2 0:Nat):Int)>1 then((sz.getD o2 0:Nat):Int)else 1)=((max 1 (sz.getD o2 0):Nat):Int):=by
   split<;>omega
  have hm:bm (st'/64) ((max 1 (sz.getD o2 0):Nat):Int)=.val (.int (st'/64%((max 1 (sz.getD o2 0):Nat):Int))):=dG (by omega);have p0:0<=st'/64%((max 1 (sz.getD o2 0):Nat):Int):=Int.emod_nonneg _ (by omega);have p1:st'/64%((max 1 (sz.getD o2 0):Nat):Int)<((max 1 (sz.getD o2 0):Nat):Int):=Int.emod_lt_of_pos _ (by omega);obtain⟨p,hp⟩:∃p:Nat,st'/64%((max 1 (sz.getD o2 0):Nat):Int)=(p:Int):=⟨_,(Int.toNat_of_nonneg p0).symm⟩;refine⟨st',l++[p],?_,by rw[List.length_append,hl];rfl,λy hy=>?_⟩
  ·rw[jj (xs:=l.map nD) (d:=nD p) _ rfl (by unfold rA;simp only[ca,fO,EG,p8,ac,wD,bZ,qu,qa,List.getElem?_cons_succ,List.getElem?_cons_zero,f2,BE,d64];rw[hmx,hm,hp]) (by rw[List.length_map];omega)];unfold rA;simp
  ·rcases List.mem_append.mp hy with q|q
   ·exact hb y q
   ·rw[List.mem_singleton.mp q];unfold bnd;rw[if_neg e3];omega
theorem BN {o1 o2:Nat} (h1:o1<sz.length) (h2:o2<sz.length) (hx3:sz.getD o1 0<=3) :
  ∃(st':Int) (l:List Nat) (a9':Option Slt),aX (tgN 9) yi (rng 0 (sz.getD o1 0)) (rA ns k sz known st a5 (sh (nD o1)) (sh (nD o2)) (some (.own [])) a9 a10 a11)=.val (.nx (rA ns k sz known st' a5 (sh (nD o1)) (sh (nD o2)) (some (.own (l.map nD))) a9' a10 a11))/\l.length=sz.getD o1 0/\∀y∈l,y<bnd (sz.getD o1 0) (sz.getD o2 0):=by
 obtain⟨U',e,st',l,a9',rfl,g1,g2⟩:=dA (i:=9) (n:=sz.getD o1 0) (F:=yi) (U:=rA ns k sz known st a5 (sh (nD o1)) (sh (nD o2)) (some (.own [])) a9 a10 a11) (λx U=>∃(st:Int) (l:List Nat) (a9:Option Slt),U=rA ns k sz known st a5 (sh (nD o1)) (sh (nD o2)) (some (.own (l.map nD))) a9 a10 a11/\l.length=x/\∀y∈l,y<bnd (sz.getD o1 0) (sz.getD o2 0)) (λx U hx hI=>by
  obtain⟨st,l,a9,rfl,hl,hb⟩:=hI;obtain⟨st',l',e,g1,g2⟩:=BP (ns:=ns) (k:=k) (known:=known) (st:=st) (a5:=a5) (a10:=a10) (a11:=a11) h1 h2 hx hl hx3 hb;exact⟨_,e,st',l',_,rfl,g1,g2⟩) ⟨st,[],a9,rfl,rfl,λy hy=>by cases hy⟩
 exact⟨st',l,a9',e,g1,g2⟩
abbrev ua:Rho->R Out:=sq (asg 4 (cal 1 aP (aC (vr 4) aN)))
 (sq (asg 6 (bin (iI bm) (bin (iI dU) (vb 4) (kd (.int 64))) (una aM (vb 2))))
 (sq (asg 4 (cal 1 aP (aC (vr 4) aN)))
 (sq (asg 7 (bin (iI bm) (bin (iI dU) (vb 4) (kd (.int 64))) (una aM (vb 2))))
 (sq (own 8 (eE aN))
 (sq (aY (bq (aC (bin fix (vb 2) (vb 6)) aN)) (tgN 9) yi)
 (DL.iff (orB (tst (bin feq (bin fix (vb 2) (vb 6)) (kd (.int 0)))) (tst (bin (iI fgt) (bin fix (vb 2) (vb 7)) (kd (.int 0)))))
 (DL.iff (tst (bin (mh true) (eT (aC (vr 6) (aC (vr 7) (aC (una jH (vb 8)) aN)))) (vb 3)))
 (app 3 (eT (aC (vr 6) (aC (vr 7) (aC (una jH (vb 8)) aN)))))
 nxt)
 nxt))))))
theorem zn:aM (aJ sz)=.val (.int ((sz.length:Nat):Int)):=by
 show R.val (D.int (((sz.map nD).length:Nat):Int))=_;rw[List.length_map]
theorem yR (h:aP [.int st]=.val (.int s1)):asg 4 (cal 1 aP (aC (vr 4) aN)) (rA ns k sz known st a5 a6 a7 a8 a9 a10 a11)=.val (.nx (rA ns k sz known s1 a5 a6 a7 a8 a9 a10 a11)):=by
 rw[eD,z6];show R.bind (noex (aP [.int st])) _=_;rw[h];rfl
theorem yD (q:bm (s1/64) (sz.length:Int)=.val (.int (o:Int))):bin (iI bm) (bin (iI dU) (vb 4) (kd (.int 64))) (una aM (vb 2)) (rA ns k sz known s1 a5 a6 a7 a8 a9 a10 a11)=.val (nD o):=by
 rw[ca,ca];show R.bind (dU s1 64) _=_;rw[d64,ac,fO];show R.bind (R.bind (.val (aJ sz)) aM) _=_;rw[ac,zn];exact q
theorem AX (q:bm (s1/64) (sz.length:Int)=.val (.int (o:Int))):asg 6 (bin (iI bm) (bin (iI dU) (vb 4) (kd (.int 64))) (una aM (vb 2))) (rA ns k sz known s1 a5 a6 a7 a8 a9 a10 a11)=.val (.nx (rA ns k sz known s1 a5 (sh (nD o)) a7 a8 a9 a10 a11)):=by
 rw[eD,yD q];rfl
theorem AV (q:bm (s1/64) (sz.length:Int)=.val (.int (o:Int))):asg 7 (bin (iI bm) (bin (iI dU) (vb 4) (kd (.int 64))) (una aM (vb 2))) (rA ns k sz known s1 a5 a6 a7 a8 a9 a10 a11)=.val (.nx (rA ns k sz known s1 a5 a6 (sh (nD o)) a8 a9 a10 a11)):=by
 rw[eD,yD q];rfl
theorem pick (st:Int) (h:1<=n):∃p:Nat,p<n/\bm (st/64) (n:Int)=.val (.int (p:Int)):=by
 have hm:bm (st/64) (n:Int)=.val (.int (st/64%(n:Int))):=dG (by omega);have p0:0<=st/64%(n:Int):=Int.emod_nonneg _ (by omega);have p1:st/64%(n:Int)<(n:Int):=Int.emod_lt_of_pos _ (by omega);refine⟨(st/64%(n:Int)).toNat,by omega,?_⟩;rw[hm,Int.toNat_of_nonneg p0]
theorem zJ (hz:sz∈szs) (hk:Kn sz kn) (st:Int) (a5 a6 a7 a8 a9 a10 a11:Option Slt) :
  ∃(kn':List Arr) (st':Int) (b6 b7 b8 b9:Option Slt),ua (rA ns k sz (.own (kn.map aq)) st a5 a6 a7 a8 a9 a10 a11)=.val (.nx (rA ns k sz (.own (kn'.map aq)) st' a5 b6 b7 b8 b9 a10 a11))/\Kn sz kn'/\kn <+: kn':=by
 obtain⟨l1,l4,l3⟩:=fB sz hz;have few:=Kn.few hz hk;obtain⟨s1,hs1⟩:=kD st;obtain⟨o1,ho1,q1⟩:=pick s1 l1;obtain⟨s2,hs2⟩:=kD s1;obtain⟨o2,ho2,q2⟩:=pick s2 l1;have g3:sz.getD o1 0<=3:=by rw[ar ho1];exact l3 _ (List.getElem_mem ho1)
 obtain⟨s3,l,a9',e,hl,hb⟩:=BN (ns:=ns) (k:=k) (sz:=sz) (known:=.own (kn.map aq)) (st:=s2) (a5:=a5) (a9:=a9) (a10:=a10) (a11:=a11) ho1 ho2 g3;have f1:=jz (sz:=sz) ho1;have f2:=jz (sz:=sz) ho2;have hr:o4 [.int ((sz.getD o1 0:Nat):Int)]=.val (rng 0 (sz.getD o1 0)):=gR (by omega);have start:ua (rA ns k sz (.own (kn.map aq)) st a5 a6 a7 a8 a9 a10 a11)=DL.iff (orB (tst (bin feq (bin fix (vb 2) (vb 6)) (kd (.int 0)))) (tst (bin (iI fgt) (bin fix (vb 2) (vb 7)) (kd (.int 0)))))
   (DL.iff (tst (bin (mh true) (eT (aC (vr 6) (aC (vr 7) (aC (una jH (vb 8)) aN)))) (vb 3)))
   (app 3 (eT (aC (vr 6) (aC (vr 7) (aC (una jH (vb 8)) aN))))) nxt) nxt (rA ns k sz (.own (kn.map aq)) s3 a5 (sh (nD o1)) (sh (nD o2)) (some (.own (l.map nD))) a9' a10 a11):=by
  have x1:asg 4 (cal 1 aP (aC (vr 4) aN)) (rA ns k sz (.own (kn.map aq)) st a5 a6 a7 a8 a9 a10 a11)=.val (.nx (rA ns k sz (.own (kn.map aq)) s1 a5 a6 a7 a8 a9 a10 a11)):=yR hs1;have x2:asg 6 (bin (iI bm) (bin (iI dU) (vb 4) (kd (.int 64))) (una aM (vb 2))) (rA ns k sz (.own (kn.map aq)) s1 a5 a6 a7 a8 a9 a10 a11)=.val (.nx (rA ns k sz (.own (kn.map aq)) s1 a5 (sh (nD o1)) a7 a8 a9 a10 a11)):=AX q1;have x3:asg 4 (cal 1 aP (aC (vr 4) aN)) (rA ns k sz (.own (kn.map aq)) s1 a5 (sh (nD o1)) a7 a8 a9 a10 a11)=.val (.nx (rA ns k sz (.own (kn.map aq)) s2 a5 (sh (nD o1)) a7 a8 a9 a10 a11)):=yR hs2;have x4:asg 7 (bin (iI bm) (bin (iI dU) (vb 4) (kd (.int 64))) (una aM (vb 2))) (rA ns k sz (.own (kn.map aq)) s2 a5 (sh (nD o1)) a7 a8 a9 a10 a11)=.val (.nx (rA ns k sz (.own (kn.map aq)) s2 a5 (sh (nD o1)) (sh (nD o2)) a8 a9 a10 a11)):=AV q2;have x5:own 8 (eE aN) (rA ns k sz (.own (kn.map aq)) s2 a5 (sh (nD o1)) (sh (nD o2)) a8 a9 a10 a11)=.val (.nx (rA ns k sz (.own (kn.map aq)) s2 a5 (sh (nD o1)) (sh (nD o2)) (some (.own [])) a9 a10 a11)):=Eq.trans rfl rfl;have x6:aY (bq (aC (bin fix (vb 2) (vb 6)) aN)) (tgN 9) yi (rA ns k sz (.own (kn.map aq)) s2 a5 (sh (nD o1)) (sh (nD o2)) (some (.own [])) a9 a10 a11)=.val (.nx (rA ns k sz (.own (kn.map aq)) s3 a5 (sh (nD o1)) (sh (nD o2)) (some (.own (l.map nD))) a9' a10 a11)):=by
   rw[bA];have:bq (aC (bin fix (vb 2) (vb 6)) aN) (rA ns k sz (.own (kn.map aq)) s2 a5 (sh (nD o1)) (sh (nD o2)) (some (.own [])) a9 a10 a11)=.val (rng 0 (sz.getD o1 0)):=by unfold rA;simp[-List.getD_eq_getElem?_getD,f1,hr]
   rw[this,ac,e]
  show sq _ _ _=_;rw[aL,x1,ac];dsimp only;rw[aL,x2,ac];dsimp only;rw[aL,x3,ac];dsimp only;rw[aL,x4,ac];dsimp only;rw[aL,x5,ac];dsimp only;rw[aL,x6,ac]
 rw[start];have hT:orB (tst (bin feq (bin fix (vb 2) (vb 6)) (kd (.int 0)))) (tst (bin (iI fgt) (bin fix (vb 2) (vb 7)) (kd (.int 0)))) (rA ns k sz (.own (kn.map aq)) s3 a5 (sh (nD o1)) (sh (nD o2)) (some (.own (l.map nD))) a9' a10 a11)=.val (decide (sz.getD o1 0=0\/0<sz.getD o2 0)):=by
  unfold rA;by_cases z:sz.getD o1 0=0
  ·simp[-List.getD_eq_getElem?_getD,f1,z]
  ·have z':¬ (((sz.getD o1 0:Nat):Int)=0):=by omega
   simp[-List.getD_eq_getElem?_getD,f1,f2,z,z']
 rw[bB,hT,ac];by_cases hc:sz.getD o1 0=0\/0<sz.getD o2 0
 ·rw[decide_eq_true hc,if_pos rfl];have hok:Ok sz (o1,o2,l):=by
   refine⟨sz.getD o1 0,sz.getD o2 0,by rw[ar ho1];simp[ho1],by rw[ar ho2];simp[ho2],hl,λy hy=>?_⟩;have:=hb y hy;unfold bnd at this;have hy0:sz.getD o1 0≠0:=λz=>by
    rw[z]at hl;have:l=[]:=List.length_eq_zero_iff.mp hl;rw[this]at hy;cases hy
   split at this
   ·rename_i e3;have:=wU sz hz o1 ho1 o2 ho2 e3;omega
   ·rcases hc with hc|hc
    ·exact absurd hc hy0
    ·have:max 1 (sz.getD o2 0)=sz.getD o2 0:=by omega
     omega
  have hv:eT (aC (vr 6) (aC (vr 7) (aC (una jH (vb 8)) aN))) (rA ns k sz (.own (kn.map aq)) s3 a5 (sh (nD o1)) (sh (nD o2)) (some (.own (l.map nD))) a9' a10 a11)=.val (aq (o1,o2,l)):=by
   unfold rA;simp;rfl
  have hn:tst (bin (mh true) (eT (aC (vr 6) (aC (vr 7) (aC (una jH (vb 8)) aN)))) (vb 3)) (rA ns k sz (.own (kn.map aq)) s3 a5 (sh (nD o1)) (sh (nD o2)) (some (.own (l.map nD))) a9' a10 a11)=.val (!decide ((o1,o2,l)∈kn)):=by
   rw[dW,ca,hv,ac];show((R.val (D.lst (kn.map aq))).bind λy=>mh true (aq (o1,o2,l)) y).bind asB=_;rw[ac,zj];rfl
  rw[bB,hn,ac];refine⟨pH kn (o1,o2,l),s3,sh (nD o1),sh (nD o2),some (.own (l.map nD)),a9',?_,wP hk hok,ub _ _⟩;unfold pH;by_cases hin:(o1,o2,l)∈kn
  ·rw[if_pos hin,decide_eq_true hin];rfl
  ·rw[if_neg hin,decide_eq_false hin];rw[if_pos (show(!false)=true from rfl)];rw[jj (xs:=kn.map aq) _ rfl hv (by rw[List.length_map];omega)];unfold rA;rw[List.map_append];rfl
 ·rw[decide_eq_false hc];exact⟨kn,s3,_,_,_,_,rfl,hk,List.prefix_refl _⟩
end
section
variable {ns:List Int} {k:Nat} {sz:List Nat}
theorem Eh (hz:sz∈szs) (a3 a4 a5 a6 a7 a8 a9 a10 a11:Option Slt):be (bq (aC (una aM (vb 2)) aN)) 1 (tgN 12) tT (eT (aC (vr 12) (aC (vr 12) (aC (i_ (aC (bin fix (vb 2) (vb 12)) aN)) aN)))) [sh (.scr ns),sh (nD k),sh (aJ sz),a3,a4,a5,a6,a7,a8,a9,a10,a11]=.val (((List.range sz.length).map (idm sz)).map aq):=by
 obtain⟨l1,l4,l3⟩:=fB sz hz;have:=n9 (src:=bq (aC (una aM (vb 2)) aN)) (m:=sz.length) (n:=1) (i:=12) (e:=eT (aC (vr 12) (aC (vr 12) (aC (i_ (aC (bin fix (vb 2) (vb 12)) aN)) aN)))) (g:=λb=>aq (idm sz b)) (U:=[sh (.scr ns),sh (nD k),sh (aJ sz),a3,a4,a5,a6,a7,a8,a9,a10,a11]) (by simp;exact gR (by omega)) (by omega) λb hb=>by
  have f1:=jz (sz:=sz) hb;have hs:sz.getD b 0<=3:=by rw[ar hb];exact l3 _ (List.getElem_mem hb)
  have:=vL (n:=sz.getD b 0) (by omega);simp[-List.getD_eq_getElem?_getD,f1,this];rfl
 rw[this,List.map_map];rfl
theorem yE {mx:List Arr} {x:Arr} {l:List Arr} (p:Nat) (h:mx.Perm l):(mx.take p++x::mx.drop p).Perm (l++[x]):=by
 have h1:(mx.take p++x::mx.drop p).Perm (x::(mx.take p++mx.drop p)):=List.perm_middle;rw[List.take_append_drop]at h1;exact h1.trans ((h.cons x).trans (List.perm_append_singleton x l).symm)
abbrev Bn:Rho->R Out:=sq (asg 4 (cal 1 aP (aC (vr 4) aN)))
 (ins 10 (bin (iI bm) (bin (iI dU) (vb 4) (kd (.int 64))) (bin bo (una aM (vb 10)) (kd (.int 1)))) (vr 11))
theorem BQ {mx:List Arr} {x:Arr} (hl:mx.length<=27) (a5 a6 a7 a8 a9:Option Slt) :
  ∃(st':Int) (p:Nat),Bn (rA ns k sz known st a5 a6 a7 a8 a9 (some (.own (mx.map aq))) (sh (aq x)))=.val (.nx (rA ns k sz known st' a5 a6 a7 a8 a9 (some (.own ((mx.take p++x::mx.drop p).map aq))) (sh (aq x)))):=by
 obtain⟨s1,hs1⟩:=kD st;obtain⟨p,hp,q⟩:=pick s1 (n:=mx.length+1) (by omega);have q':bm (s1/64) ((mx.length:Int)+1)=.val (.int (p:Int)):=q;refine⟨s1,p,?_⟩;have x1:asg 4 (cal 1 aP (aC (vr 4) aN)) (rA ns k sz known st a5 a6 a7 a8 a9 (some (.own (mx.map aq))) (sh (aq x)))=.val (.nx (rA ns k sz known s1 a5 a6 a7 a8 a9 (some (.own (mx.map aq))) (sh (aq x)))):=by unfold rA;simp[hs1]
 show sq _ _ _=_;rw[aL,x1,ac];dsimp only;rw[zb (xs:=mx.map aq) (n:=p) (d:=aq x) _ rfl (by unfold rA;simp[d64,q']) rfl (by rw[List.length_map];omega) (by rw[List.length_map];omega)];unfold rA;simp
theorem xz (hz:sz∈szs) (ns:List Int) (k:Nat):∃kn,Good sz kn/\cr [.scr ns,.int (k:Int),aJ sz]=.val (.lst (kn.map aq)):=by
 obtain⟨l1,l4,l3⟩:=fB sz hz;obtain⟨c1,hc1⟩:=kE ns k;obtain⟨c2,hc2⟩:=kE ns (k+1);obtain⟨s0,hs0⟩:=kD (c1*1000003%2147483647+17);have hc2':aE [.scr ns,.int ((k:Int)+1)]=.val (.int c2):=hc2;have m5:bm c2 5=.val (.int (c2%5)):=dG (by decide);have mm:fV c1 1000003=.val (.int (c1*1000003)):=kz (by decide);have md:bm (c1*1000003) 2147483647=.val (.int (c1*1000003%2147483647)):=dG (by decide);have hr:o4 [.int (c2%5)]=.val (rng 0 (c2%5).toNat):=kf (by omega) (by omega)
 let kn0:=(List.range sz.length).map (idm sz)
 have hk0:Kn sz kn0:=D6 sz;obtain⟨U1,e1,kn1,st1,a5,a6,a7,a8,a9,rfl,hk1,hp1⟩:=dA (i:=5) (n:=(c2%5).toNat) (F:=ua) (U:=rA ns k sz (.own (kn0.map aq)) s0 none none none none none none none) (λ_ U=>∃(kn:List Arr) (st:Int) (a5 a6 a7 a8 a9:Option Slt),U=rA ns k sz (.own (kn.map aq)) st a5 a6 a7 a8 a9 none none/\Kn sz kn/\kn0 <+: kn) (λx U hx hI=>by
  obtain⟨kn,st,a5,a6,a7,a8,a9,rfl,hk,hp⟩:=hI;obtain⟨kn',st',b6,b7,b8,b9,e,g1,g2⟩:=zJ (ns:=ns) (k:=k) hz hk st (sh (.int (x:Int))) a6 a7 a8 a9 none none;exact⟨_,e,kn',st',_,b6,b7,b8,b9,rfl,g1,hp.trans g2⟩) ⟨kn0,s0,none,none,none,none,none,rfl,hk0,List.prefix_refl _⟩
 obtain⟨kn2,hcl,hk2,hp2,hcl2⟩:=xy hz hk1;have few2:=Kn.few hz hk2;have good:Good sz kn2:=⟨hz,hk2.nd,hk2.ok,λb hb=>hp2.subset (hp1.subset (List.mem_map.mpr ⟨b,List.mem_range.mpr hb,rfl⟩)),hcl2⟩;obtain⟨U3,e3,mx,st3,a11,rfl,hperm⟩:=fM (T:=tgN 11) (F:=Bn) (xs:=kn2.map aq) (U:=rA ns k sz (.shr (.lst (kn2.map aq))) st1 a5 a6 a7 a8 a9 (some (.own [])) none) (λi U=>∃(mx:List Arr) (st:Int) (a11:Option Slt),U=rA ns k sz (.shr (.lst (kn2.map aq))) st a5 a6 a7 a8 a9 (some (.own (mx.map aq))) a11/\mx.Perm (kn2.take i)) (λi x U hx hI=>by
  obtain⟨mx,st,a11,rfl,hperm⟩:=hI;have hi:i<kn2.length:=by have:=(List.getElem?_eq_some_iff.mp hx).1;simpa using this
  have hxe:x=aq kn2[i]:=by
   rw[List.getElem?_map]at hx;simp[hi]at hx;exact hx.symm
  subst hxe;have hml:mx.length<=27:=by rw[hperm.length_eq,List.length_take];omega
  obtain⟨st',p,e⟩:=BQ (ns:=ns) (k:=k) (sz:=sz) (known:=.shr (.lst (kn2.map aq))) (st:=st) (x:=kn2[i]) hml a5 a6 a7 a8 a9;refine⟨_,_,rfl,e,_,st',_,rfl,?_⟩;rw[List.take_succ_eq_append_getElem hi];exact yE p hperm) ⟨[],st1,none,rfl,by simp⟩
 rw[List.length_map,List.take_length]at hperm;refine⟨mx,good.perm hperm,?_⟩;simp only[cr,gd];show fin (sq (own 3 _) _ [sh (.scr ns),sh (nD k),sh (aJ sz),none,none,none,none,none,none,none,none,none])=_;rw[aL,DE,Eh hz,ac,ac];show fin (sq (asg 4 _) _ [sh (.scr ns),sh (nD k),sh (aJ sz),some (.own (kn0.map aq)),none,none,none,none,none,none,none,none])=_;have x1:asg 4 (cal 1 aP (aC (bin bo (bin (iI bm) (bin (iI fV) (cal 2 aE (aC (vr 0) (aC (vr 1) aN))) (kd (.int 1000003))) (kd (.int 2147483647))) (kd (.int 17))) aN)) [sh (.scr ns),sh (nD k),sh (aJ sz),some (.own (kn0.map aq)),none,none,none,none,none,none,none,none]=.val (.nx (rA ns k sz (.own (kn0.map aq)) s0 none none none none none none none)):=by
  unfold rA;simp[hc1,mm,md,hs0]
 rw[aL,x1,ac];dsimp only;have x2:aY (bq (aC (bin (iI bm) (cal 2 aE (aC (vr 0) (aC (bin bo (vb 1) (kd (.int 1))) aN))) (kd (.int 5))) aN)) (tgN 5) ua (rA ns k sz (.own (kn0.map aq)) s0 none none none none none none none)=.val (.nx (rA ns k sz (.own (kn1.map aq)) st1 a5 a6 a7 a8 a9 none none)):=by
  rw[bA];have:bq (aC (bin (iI bm) (cal 2 aE (aC (vr 0) (aC (bin bo (vb 1) (kd (.int 1))) aN))) (kd (.int 5))) aN) (rA ns k sz (.own (kn0.map aq)) s0 none none none none none none none)=.val (rng 0 (c2%5).toNat):=by unfold rA;simp[hc2',m5,hr]
  rw[this,ac,e1]
 show fin (sq (aY (bq (aC (bin (iI bm) (cal 2 aE (aC (vr 0) (aC (bin bo (vb 1) (kd (.int 1))) aN))) (kd (.int 5))) aN)) (tgN 5) ua) _ _)=_;rw[aL,x2,ac];dsimp only;have x3:Bm 3 cw (rA ns k sz (.own (kn1.map aq)) st1 a5 a6 a7 a8 a9 none none)=.val (.nx (rA ns k sz (.shr (.lst (kn2.map aq))) st1 a5 a6 a7 a8 a9 none none)):=by
  show(noex (cw (kn1.map aq))).bind _=_;rw[hcl];rfl
 rw[aL,x3,ac];dsimp only;have x4:own 10 (eE aN) (rA ns k sz (.shr (.lst (kn2.map aq))) st1 a5 a6 a7 a8 a9 none none)=.val (.nx (rA ns k sz (.shr (.lst (kn2.map aq))) st1 a5 a6 a7 a8 a9 (some (.own [])) none)):=by unfold rA;simp
 rw[aL,x4,ac];dsimp only;show fin (sq (aY (fIt (vr 3)) (tgN 11) Bn) _ (rA ns k sz (.shr (.lst (kn2.map aq))) st1 a5 a6 a7 a8 a9 (some (.own [])) none))=_;have x5:aY (fIt (vr 3)) (tgN 11) Bn (rA ns k sz (.shr (.lst (kn2.map aq))) st1 a5 a6 a7 a8 a9 (some (.own [])) none)=.val (.nx (rA ns k sz (.shr (.lst (kn2.map aq))) st3 a5 a6 a7 a8 a9 (some (.own (mx.map aq))) a11)):=by
  rw[bA];show(R.val (kn2.map aq)).bind _=_;rw[ac,e3]
 rw[aL,x5,ac];rfl
end
def plD:List Arr->Nat->List (KA×D)
 | [],_=>[]
 | x::r,s=>(gX x,nD s)::plD r (s+1)
theorem yA:∀(l:List Arr) (s:Nat),(plD l s).length=l.length
 | [],_=>rfl
 | x::r,s=>by simp[plD,yA r (s+1)]
theorem yC (x:Arr):∀(l:List Arr) (s:Nat),((plD l s).any λp=>decide (p.1=gX x))=decide (x∈l)
 | [],_=>by simp[plD]
 | y::r,s=>by
  show(decide (gX y=gX x)||(plD r (s+1)).any λp=>decide (p.1=gX x))=_;rw[yC x r (s+1)];by_cases h:y=x
  ·subst h;simp
  ·have:¬ gX y=gX x:=λe=>h (nS e);have h':¬ x=y:=λe=>h e.symm;simp[this,h']
theorem yB (x:Arr):∀(l:List Arr) (s:Nat),plD (l++[x]) s=plD l s++[(gX x,nD (s+l.length))]
 | [],s=>rfl
 | y::r,s=>by
  show(gX y,nD s)::plD (r++[x]) (s+1)=_;rw[yB x r (s+1)];have:s+1+r.length=s+(y::r).length:=by simp;omega
  rw[this];rfl
theorem Ds {x:Arr} {l:List Arr} (h:x∉l):nQ (plD l 0) (gX x) (nD l.length)=plD (l++[x]) 0:=by
 unfold nQ;rw[yC,decide_eq_false h,if_neg (by decide),yB,Nat.zero_add]
theorem uC {x:Arr}:∀{l:List Arr} (s:Nat),x∈l->uQ (plD l s) (gX x)=some (nD (s+l.idxOf x))
 | [],_,h=>by cases h
 | y::r,s,h=>by
  unfold uQ plD;by_cases e:y=x
  ·subst e;simp
  ·have e':¬ gX y=gX x:=λz=>e (nS z);rw[List.find?_cons_of_neg (by simpa using e')];have hr:x∈r:=by
    rcases List.mem_cons.mp h with q|q
    ·exact absurd q.symm e
    ·exact q
   have ih:=uC (l:=r) (s+1) hr;unfold uQ at ih;rw[ih];have:(y::r).idxOf x=r.idxOf x+1:=by
    rw[List.idxOf_cons];have:(y==x)=false:=by simpa using e
    rw[this];rfl
   rw[this]
   congr 2
   omega
def rP (ns:List Int) (k:Nat) (sz:List Nat) (kn:List Arr) (pl:List (KA×D)) (a5 a6 a7 a8 a9 a10 a11:Option Slt):Rho:=[sh (.scr ns),sh (nD k),sh (aJ sz),sh (.lst (kn.map aq)),some (.dic pl),a5,a6,a7,a8,a9,a10,a11]
section
variable {ns:List Int} {k:Nat} {sz:List Nat} {kn:List Arr}
theorem Ed (h:i<kn.length):fix (.lst (kn.map aq)) (.int (i:Int))=.val (aq kn[i]):=i8 (by simp[h])
theorem zF (g:Good sz kn) (a6 a7 a8 a9 a10 a11:Option Slt):∃a5,aY (bq (aC (una aM (vb 3)) aN)) (tgN 5) (rF 4 (bin fix (vb 3) (vb 5)) (vr 5)) (rP ns k sz kn [] none a6 a7 a8 a9 a10 a11)=.val (.nx (rP ns k sz kn (plD kn 0) a5 a6 a7 a8 a9 a10 a11)):=by
 have few:=g.few;obtain⟨U',e,a5,rfl⟩:=dA (i:=5) (n:=kn.length) (F:=rF 4 (bin fix (vb 3) (vb 5)) (vr 5)) (U:=rP ns k sz kn [] none a6 a7 a8 a9 a10 a11) (λi U=>∃a5,U=rP ns k sz kn (plD (kn.take i) 0) a5 a6 a7 a8 a9 a10 a11) (λi U hi hI=>by
  obtain⟨a5,rfl⟩:=hI;have hx:=Ed hi;have hl:(kn.take i).length=i:=by rw[List.length_take];omega
  have nin:kn[i]∉kn.take i:=λh=>by
   obtain⟨j,hj,e⟩:=List.mem_take_iff_getElem.mp h;exact(List.pairwise_iff_getElem.mp g.nd) j i (by omega) hi (by omega) e
  refine⟨_,?_,sh (.int (i:Int)),rfl⟩;show rF 4 _ _ (rP ns k sz kn (plD (kn.take i) 0) (sh (.int (i:Int))) a6 a7 a8 a9 a10 a11)=_;rw[wE (kvs:=plD (kn.take i) 0) (kd:=aq kn[i]) (d:=nD i) _ rfl (by unfold rP;simp[hx]) rfl (gW _) (by rw[yA];omega)];have:=Ds nin;rw[hl]at this;rw[this,<- List.take_succ_eq_append_getElem hi];rfl) ⟨none,rfl⟩
 refine⟨a5,?_⟩;rw[bA];have:bq (aC (una aM (vb 3)) aN) (rP ns k sz kn [] none a6 a7 a8 a9 a10 a11)=.val (rng 0 kn.length):=by
  unfold rP;simp;exact gR (by omega)
 rw[this,ac,e,List.take_length]
abbrev Ej:Rho->R Out:=sq (asg 10 (una jI (kd (.int 1))))
 (sq (DL.iff (tst (bin feq (bin fix (vb 7) (kd (.int 1))) (bin fix (vb 9) (kd (.int 0)))))
 (asg 10 (rH 4 (eT (aC (bin fix (vb 7) (kd (.int 0))) (aC (bin fix (vb 9) (kd (.int 1))) (aC (una jH (eLs (be (fIt (bin fix (vb 7) (kd (.int 2)))) 1 (tgN 12) tT (bin fix (bin fix (vb 9) (kd (.int 2))) (vb 12))))) aN))))))
 nxt)
 (app 8 (vr 10)))
theorem BW (g:Good sz kn) {x y:Arr} (hx:x∈kn) (hy:y∈kn) {row:List D} (hl:row.length<=27) (a5 a6 a10 a11:Option Slt) :
  ∃b10,Ej (rP ns k sz kn (plD kn 0) a5 a6 (sh (aq x)) (some (.own row)) (sh (aq y)) a10 a11)=.val (.nx (rP ns k sz kn (plD kn 0) a5 a6 (sh (aq x)) (some (.own (row++[.int (mk kn x y)]))) (sh (aq y)) b10 a11)):=by
 have x1:asg 10 (una jI (kd (.int 1))) (rP ns k sz kn (plD kn 0) a5 a6 (sh (aq x)) (some (.own row)) (sh (aq y)) a10 a11)=.val (.nx (rP ns k sz kn (plD kn 0) a5 a6 (sh (aq x)) (some (.own row)) (sh (aq y)) (sh (.int (-1))) a11)):=by unfold rP;simp
 have last:∀z:Int,app 8 (vr 10) (rP ns k sz kn (plD kn 0) a5 a6 (sh (aq x)) (some (.own row)) (sh (aq y)) (sh (.int z)) a11)=.val (.nx (rP ns k sz kn (plD kn 0) a5 a6 (sh (aq x)) (some (.own (row++[.int z]))) (sh (aq y)) (sh (.int z)) a11)):=λz=>by
  rw[jj (xs:=row) (d:=.int z) _ rfl rfl (by omega)];rfl
 have hT:tst (bin feq (bin fix (vb 7) (kd (.int 1))) (bin fix (vb 9) (kd (.int 0)))) (rP ns k sz kn (plD kn 0) a5 a6 (sh (aq x)) (some (.own row)) (sh (aq y)) (sh (.int (-1))) a11)=.val (decide (x.2.1=y.1)):=by
  unfold rP;simp;omega
 show ∃b10,sq _ _ _=_;rw[aL,x1,ac];dsimp only;rw[aL,bB,hT,ac];unfold mk;by_cases e:x.2.1=y.1
 ·rw[decide_eq_true e,if_pos rfl,if_pos e];have hc:=wJ g.szm (g.ok x hx) (g.ok y hy) e (src:=fIt (bin fix (vb 7) (kd (.int 2)))) (el:=bin fix (bin fix (vb 9) (kd (.int 2))) (vb 12)) (i:=12) (U:=rP ns k sz kn (plD kn 0) a5 a6 (sh (aq x)) (some (.own row)) (sh (aq y)) (sh (.int (-1))) a11) (by simp[rP]) (λk=>by simp[rP]);have hv:eT (aC (bin fix (vb 7) (kd (.int 0))) (aC (bin fix (vb 9) (kd (.int 1))) (aC (una jH (eLs (be (fIt (bin fix (vb 7) (kd (.int 2)))) 1 (tgN 12) tT (bin fix (bin fix (vb 9) (kd (.int 2))) (vb 12))))) aN))) (rP ns k sz kn (plD kn 0) a5 a6 (sh (aq x)) (some (.own row)) (sh (aq y)) (sh (.int (-1))) a11)=.val (aq (comp x y)):=by
   simp only[jN,bZ,fO,bK,hc];unfold rP;simp;rfl
  have hg:=uC 0 (g.cl x hx y hy e);rw[Nat.zero_add]at hg;rw[eD,wG (kvs:=plD kn 0) _ rfl hv (gW _) hg,ac,ac];dsimp only;exact⟨_,last _⟩
 ·rw[decide_eq_false e,if_neg (by decide),if_neg e];exact⟨_,last _⟩
abbrev AL:Rho->R Out:=sq (own 8 (eE aN))
 (sq (aY (fIt (vr 3)) (tgN 9) Ej)
 (fz 8 (app 6 (vr 8))))
theorem BO (g:Good sz kn) {x:Arr} (hx:x∈kn) {tab:List D} (hl:tab.length<=27) (a5 a8 a9 a10 a11:Option Slt) :
  ∃b8 b9 b10,AL (rP ns k sz kn (plD kn 0) a5 (some (.own tab)) (sh (aq x)) a8 a9 a10 a11)=.val (.nx (rP ns k sz kn (plD kn 0) a5 (some (.own (tab++[ao (kn.map λy=>mk kn x y)]))) (sh (aq x)) b8 b9 b10 a11)):=by
 have few:=g.few;obtain⟨U',e,a9',a10',rfl⟩:=fM (T:=tgN 9) (F:=Ej) (xs:=kn.map aq) (U:=rP ns k sz kn (plD kn 0) a5 (some (.own tab)) (sh (aq x)) (some (.own [])) a9 a10 a11) (λi U=>∃a9 a10,U=rP ns k sz kn (plD kn 0) a5 (some (.own tab)) (sh (aq x)) (some (.own (((kn.take i).map λy=>mk kn x y).map D.int))) a9 a10 a11) (λi d U hd hI=>by
  obtain⟨a9,a10,rfl⟩:=hI;have hi:i<kn.length:=by have:=(List.getElem?_eq_some_iff.mp hd).1;simpa using this
  have hde:d=aq kn[i]:=by
   rw[List.getElem?_map]at hd;simp[hi]at hd;exact hd.symm
  subst hde;obtain⟨b10,e⟩:=BW (ns:=ns) (k:=k) g hx (List.getElem_mem hi) (row:=((kn.take i).map λy=>mk kn x y).map D.int) (by simp;omega) a5 (some (.own tab)) a10 a11;refine⟨_,_,rfl,e,sh (aq kn[i]),b10,?_⟩;rw[List.take_succ_eq_append_getElem hi,List.map_append,List.map_append];rfl) ⟨a9,a10,rfl⟩
 rw[List.length_map,List.take_length]at e;refine⟨sh (ao (kn.map λy=>mk kn x y)),a9',a10',?_⟩;show sq _ _ _=_;have x1:own 8 (eE aN) (rP ns k sz kn (plD kn 0) a5 (some (.own tab)) (sh (aq x)) a8 a9 a10 a11)=.val (.nx (rP ns k sz kn (plD kn 0) a5 (some (.own tab)) (sh (aq x)) (some (.own [])) a9 a10 a11)):=by unfold rP;simp
 rw[aL,x1,ac];dsimp only;rw[aL,bA];show((((R.val (kn.map aq)).bind _)).bind _)=_;rw[ac,e,ac];dsimp only;rw[wm];show app 6 (vr 8) (rP ns k sz kn (plD kn 0) a5 (some (.own tab)) (sh (aq x)) (sh (ao (kn.map λy=>mk kn x y))) a9' a10' a11)=_;rw[jj (xs:=tab) (d:=ao (kn.map λy=>mk kn x y)) _ rfl rfl (by omega)];rfl
theorem zG (ns:List Int) (k:Nat):∃sz kn,Good sz kn/\dn [.scr ns,.int (k:Int)]=.val (.tup [aV (bV kn),aJ (bS sz kn),af (dX kn),.lst (kn.map aq),aJ sz]):=by
 obtain⟨sz,hz,hs⟩:=zE ns k;obtain⟨l1,l4,l3⟩:=fB sz hz;obtain⟨kn,g,ha⟩:=xz hz ns (k+1);have ha':cr [.scr ns,.int ((k:Int)+1),aJ sz]=.val (.lst (kn.map aq)):=ha;have few:=g.few;obtain⟨a5,ep⟩:=zF (ns:=ns) (k:=k) g none none none none none none;obtain⟨U',et,a7,a8,a9,a10,rfl⟩:=fM (T:=tgN 7) (F:=AL) (xs:=kn.map aq) (U:=rP ns k sz kn (plD kn 0) a5 (some (.own [])) none none none none none) (λi U=>∃a7 a8 a9 a10,U=rP ns k sz kn (plD kn 0) a5 (some (.own ((kn.take i).map λx=>ao (kn.map λy=>mk kn x y)))) a7 a8 a9 a10 none) (λi d U hd hI=>by
  obtain⟨a7,a8,a9,a10,rfl⟩:=hI;have hi:i<kn.length:=by have:=(List.getElem?_eq_some_iff.mp hd).1;simpa using this
  have hde:d=aq kn[i]:=by
   rw[List.getElem?_map]at hd;simp[hi]at hd;exact hd.symm
  subst hde;obtain⟨b8,b9,b10,e⟩:=BO (ns:=ns) (k:=k) g (List.getElem_mem hi) (tab:=(kn.take i).map λx=>ao (kn.map λy=>mk kn x y)) (by simp;omega) a5 a8 a9 a10 none;refine⟨_,_,rfl,e,sh (aq kn[i]),b8,b9,b10,?_⟩;rw[List.take_succ_eq_append_getElem hi,List.map_append];rfl) ⟨none,none,none,none,rfl⟩
 rw[List.length_map,List.take_length]at et;refine⟨sz,kn,g,?_⟩;simp only[dn,gM];show fin (sq (asg 2 _) _ [sh (.scr ns),sh (nD k),none,none,none,none,none,none,none,none,none,none])=_;have x1:asg 2 (cal 2 dm (aC (vr 0) (aC (vr 1) aN))) [sh (.scr ns),sh (nD k),none,none,none,none,none,none,none,none,none,none]=.val (.nx [sh (.scr ns),sh (nD k),sh (aJ sz),none,none,none,none,none,none,none,none,none]):=by simp[hs]
 rw[aL,x1,ac];dsimp only;have x2:asg 3 (cal 3 cr (aC (vr 0) (aC (bin bo (vb 1) (kd (.int 1))) (aC (vr 2) aN)))) [sh (.scr ns),sh (nD k),sh (aJ sz),none,none,none,none,none,none,none,none,none]=.val (.nx [sh (.scr ns),sh (nD k),sh (aJ sz),sh (.lst (kn.map aq)),none,none,none,none,none,none,none,none]):=by simp[ha']
 rw[aL,x2,ac];dsimp only;rw[aL,wF,ac];dsimp only;show fin (sq (aY _ (tgN 5) _) _ (rP ns k sz kn [] none none none none none none none))=_;rw[aL,ep,ac];dsimp only;have x3:own 6 (eE aN) (rP ns k sz kn (plD kn 0) a5 none none none none none none)=.val (.nx (rP ns k sz kn (plD kn 0) a5 (some (.own [])) none none none none none)):=by unfold rP;simp
 rw[aL,x3,ac];dsimp only;have x4:aY (fIt (vr 3)) (tgN 7) AL (rP ns k sz kn (plD kn 0) a5 (some (.own [])) none none none none none)=.val (.nx (rP ns k sz kn (plD kn 0) a5 (some (.own (kn.map λx=>ao (kn.map λy=>mk kn x y)))) a7 a8 a9 a10 none)):=by
  rw[bA];show(R.val (kn.map aq)).bind _=_;rw[ac,et]
 show fin (sq (aY (fIt (vr 3)) (tgN 7) AL) _ _)=_;rw[aL,x4,ac];dsimp only;have hrest:be (bq (aC (una aM (vb 2)) aN)) 1 (tgN 12) tT (rH 4 (eT (aC (vr 12) (aC (vr 12) (aC (i_ (aC (bin fix (vb 2) (vb 12)) aN)) aN))))) (rP ns k sz kn (plD kn 0) a5 (some (.own (kn.map λx=>ao (kn.map λy=>mk kn x y)))) a7 a8 a9 a10 none)=.val ((bS sz kn).map nD):=by
  have:=n9 (src:=bq (aC (una aM (vb 2)) aN)) (m:=sz.length) (n:=1) (i:=12) (e:=rH 4 (eT (aC (vr 12) (aC (vr 12) (aC (i_ (aC (bin fix (vb 2) (vb 12)) aN)) aN))))) (g:=λb=>nD (kn.idxOf (idm sz b))) (U:=rP ns k sz kn (plD kn 0) a5 (some (.own (kn.map λx=>ao (kn.map λy=>mk kn x y)))) a7 a8 a9 a10 none) (by unfold rP;simp;exact gR (by omega)) (by omega) λb hb=>by
   have f1:=jz (sz:=sz) hb;have hs:sz.getD b 0<=3:=by rw[ar hb];exact l3 _ (List.getElem_mem hb)
   have hrg:=vL (n:=sz.getD b 0) (by omega);have hg:=uC 0 (g.rest b hb);rw[Nat.zero_add]at hg;refine wG (kvs:=plD kn 0) (kd:=aq (idm sz b)) _ rfl ?_ (gW _) hg;unfold rP;simp[-List.getD_eq_getElem?_getD,f1,hrg];rfl
  rw[this];unfold bS;rw[List.map_map];rfl
 rw[aL,eD,bK,hrest,ac,ac,ac];dsimp only;rw[wm];have hens:∀t a7 a8 a9 a10 a11,be (fIt (vr 3)) 1 (tgN 12) tT (eT (aC (bin fix (vb 12) (kd (.int 0))) (aC (bin fix (vb 12) (kd (.int 1))) aN))) (rP ns k sz kn (plD kn 0) a5 t a7 a8 a9 a10 a11)=.val ((bV kn).map cx):=λt a7 a8 a9 a10 a11=>by
  rw[bw (f:=aq) (l:=kn) (g:=λx=>cx (x.1,x.2.1)) rfl (by omega) λx _=>by unfold rP;simp;rfl];unfold bV;rw[List.map_map];rfl
 have htab:D.lst (kn.map λx=>ao (kn.map λy=>mk kn x y))=af (dX kn):=by
  unfold af dX;rw[List.map_map];rfl
 show fin (ret _ (rP ns k sz kn (plD kn 0) a5 (sh (.lst (kn.map λx=>ao (kn.map λy=>mk kn x y)))) a7 a8 a9 a10 (sh (aJ (bS sz kn)))))=_;rw[htab,cK,jN,bZ,bK,hens,ac,ac];unfold rP;simp;rfl
theorem BV {sz kn:List _} (g:Good sz kn) (r:List D):dP [.tup (aV (bV kn)::aJ (bS sz kn)::af (dX kn)::r)]=.val (.ob (aV (bV kn)) (aJ (bS sz kn)) (af (dX kn))):=by
 have h:=rq g;have n1:=h.na40;have n2:=h.tl;simp only[dP,iy];have hf:be (fIt (bin fix (vb 0) (kd (.int 2)))) 1 (tgN 1) tT (eLs (fIt (vb 1))) [sh (.tup (aV (bV kn)::aJ (bS sz kn)::af (dX kn)::r))]=.val ((dX kn).map ao):=bw (f:=ao) (by simp;rfl) (by omega) λr _=>rfl;have eh:=BX h;show fin (ret _ [sh (.tup (aV (bV kn)::aJ (bS sz kn)::af (dX kn)::r))])=_;have ha:aC (eLs (fIt (bin fix (vb 0) (kd (.int 0))))) (aC (eLs (fIt (bin fix (vb 0) (kd (.int 1))))) (aC (eLs (be (fIt (bin fix (vb 0) (kd (.int 2)))) 1 (tgN 1) tT (eLs (fIt (vb 1))))) aN)) [sh (.tup (aV (bV kn)::aJ (bS sz kn)::af (dX kn)::r))]=.val [aV (bV kn),aJ (bS sz kn),af (dX kn)]:=by
  simp only[bZ,bK,hf];simp;rfl
 rw[cK,DV,ha,ac];dsimp only;rw[eh];rfl
end
section
variable (U:Rho)
@[simp] theorem F0 (a b:Rho->R D):Ce a b U=(a U).bind λx=>(asB x).bind λc=>if c=true then b U else .val (.bl false):=Eq.trans rfl rfl
end
theorem qi {Y:Type} {T:D->Rho->Option Rho} {t:Rho->R Bool} {e:Rho->R D} {f g:Y->D} {p:Y->Bool} {U:Rho}:∀{l:List Y},(∀a∈l,∃U1,T (f a) U=some U1/\t U1=.val (p a)/\e U1=.val (g a))->jg T t e (l.map f) U=.val ((l.filter p).map g)
 | [],_=>rfl
 | a::r,h=>by
  obtain⟨U1,h1,h2,h3⟩:=h a (by simp);have ih:=qi (T:=T) (t:=t) (e:=e) (f:=f) (g:=g) (p:=p) (U:=U) (l:=r) λb hb=>h b (by simp[hb]);rw[List.map_cons];unfold jg;rw[h1];show(noE (t U1)).bind _=_;rw[h2,List.filter_cons];cases q:p a with
  | true=>simp[h3,ih]
  | false=>simp[ih]
variable {Y:Type} {T:D->Rho->Option Rho}
theorem gZ {t:Rho->R Bool} {e:Rho->R D} {f g:Y->D} {p:Y->Bool} {l:List Y} (hs:src U=.val (l.map f)) (hl:l.length<=100000)
  (h:∀a∈l,∃U1,T (f a) (U++List.replicate n none)=some U1/\t U1=.val (p a)/\e U1=.val (g a)):be src n T t e U=.val ((l.filter p).map g):=by
 unfold be;rw[hs,ac,if_pos (show(l.map f).length<=LIM by rw[List.length_map];exact hl),qi h];rfl
theorem gv (n:Nat):rng 0 n=(List.range n).map nD:=by
 unfold rng nD;apply List.map_congr_left;intro k _;rw[Int.zero_add]
theorem kG:∀(l:List D) (s:Nat),enu s l=(List.range l.length).map λi=>.tup [nD (s+i),l.getD i .non]
 | [],s=>rfl
 | x::r,s=>by
  unfold enu;rw[kG r (s+1),List.length_cons,List.range_succ_eq_map,List.map_cons,List.map_map];simp only[Nat.add_zero,List.getD_cons_zero]
  congr 1
  apply List.map_congr_left;intro i _;simp only[Function.comp,List.getD_cons_succ];rw[show s+1+i=s+(i+1) by omega]
theorem p7 {Y:Type} {T:D->Rho->Option Rho} {F:Rho->R Out} {f g:Y->D} {p:Y->Bool} (I:Rho->Prop):∀{l:List Y} {U:Rho},(∀a∈l,∀U,I U->∃U1,T (f a) U=some U1/\(p a=true->F U1=.val (.rt (g a)))/\(p a=false->∃U2,F U1=.val (.nx U2)/\I U2))->I U ->
  (∃a,l.find? p=some a/\aX T F (l.map f) U=.val (.rt (g a)))\/(l.find? p=none/\∃U',aX T F (l.map f) U=.val (.nx U')/\I U')
 | [],U,_,h=>.inr ⟨rfl,U,rfl,h⟩
 | a::r,U,step,h=>by
  obtain⟨U1,h1,h2,h3⟩:=step a (by simp) U h;rw[List.find?_cons,List.map_cons];unfold aX;rw[h1];cases q:p a with
  | true=>exact .inl ⟨a,rfl,by dsimp only;rw[h2 q];rfl⟩
  | false =>
   obtain⟨U2,e2,i2⟩:=h3 q;dsimp only;rw[e2];exact p7 (T:=T) (F:=F) (f:=f) (g:=g) (p:=p) I (λb hb=>step b (by simp[hb])) i2
theorem BJ (p q:Nat×Nat):feq (cx p) (cx q)=.val (.bl (decide (p=q))):=by
 by_cases h:p=q
 ·subst h;rw[kB (kj _)];simp
 ·rw[kC (kj _) (kj _) (λz=>h (endD_inj.mp z))];simp[h]
def hlD (en:List (Nat×Nat)) (re:List Nat) (tb:List (List Int)):D:=.ob (aV en) (aJ re) (af tb)
section
variable {en:List (Nat×Nat)} {re:List Nat} {tb:List (List Int)}
@[simp] theorem G1:ly 0 (hlD en re tb)=.val (aV en):=Eq.trans rfl rfl
@[simp] theorem G0:ly 1 (hlD en re tb)=.val (aJ re):=Eq.trans rfl rfl
end
section
variable (U:Rho)
@[simp] theorem FY (F:Rho->R (List D)):lz F U=(F U).bind CL:=Eq.trans rfl rfl
@[simp] theorem FU (xs ys:List D):CL [.lst xs,.lst ys]=.val (zp xs ys):=Eq.trans rfl rfl
@[simp] theorem FZ (F:Rho->R (List D)):zC F U=(F U).bind yX:=Eq.trans rfl rfl
end
theorem yW (h:n<=100000):yX [.int (n:Int)]=.val ((List.range n).map nD):=by
 unfold yX;dsimp only;rw[if_pos (by constructor<;>omega),Int.toNat_natCast,gv]
theorem qm {Y:Type} (p:Y->Bool):∀l:List Y,ji (l.map λa=>D.bl (p a))=some (l.map p)
 | []=>rfl
 | a::r=>by
  rw[List.map_cons,List.map_cons];unfold ji;rw[qm p r];rfl
theorem n0 (p:Y->Bool) (l:List Y):uW (.lst (l.map λa=>D.bl (p a)))=.val (.bl (l.all p)):=by
 unfold uW;dsimp only;rw[qm];dsimp only;rw[List.all_map];rfl
theorem xI:∀{xs ys:List D},xs.length=ys.length->zp xs ys=(List.range xs.length).map λi=>.tup [xs.getD i .non,ys.getD i .non]
 | [],[],_=>rfl
 | [],_::_,h=>by simp at h
 | _::_,[],h=>by simp at h
 | x::xs,y::ys,h=>by
  unfold zp;rw[xI (by simpa using h),List.length_cons,List.range_succ_eq_map,List.map_cons,List.map_map]
  congr 1
theorem mT {β:Type} {f:Y->D} {g:β->D} {l:List Y} {m:List β} {a:Y} {b:β} (h:l.length=m.length):zp (l.map f) (m.map g)=(List.range l.length).map λi=>.tup [f (l.getD i a),g (m.getD i b)]:=by
 rw[xI (by simpa using h),List.length_map];apply List.map_congr_left;intro i hi;have hi:=List.mem_range.mp hi;rw[ar (show i<(l.map f).length by simpa using hi),ar (show i<(m.map g).length by simpa[<- h]using hi),ar hi,ar (show i<m.length by omega),List.getElem_map,List.getElem_map]
theorem yY {f:Y->D} {ok:Y->Bool} (I:Rho->Prop) {l:List Y} (step:∀a∈l,∀U,I U->∃U1,T (f a) U=some U1/\(ok a=false->F U1=.val (.rt (.bl false)))/\(ok a=true->∃U2,F U1=.val (.nx U2)/\I U2)) (h:I U) :
  (l.all ok=false/\aX T F (l.map f) U=.val (.rt (.bl false)))\/(l.all ok=true/\∃U',aX T F (l.map f) U=.val (.nx U')/\I U'):=by
 rcases p7 (T:=T) (F:=F) (f:=f) (g:=λ_=>.bl false) (p:=λa=>!ok a) I (l:=l) (U:=U) (λa ha U hI=>by
  obtain⟨U1,h1,h2,h3⟩:=step a ha U hI;exact⟨U1,h1,λq=>h2 (by simpa using q),λq=>h3 (by simpa using q)⟩) h with⟨a,e,z⟩|⟨e,z⟩
 ·refine .inl ⟨?_,z⟩;have:=List.find?_some e;rw[Bool.eq_false_iff];intro q;have q:=List.all_eq_true.mp q a (List.mem_of_find?_eq_some e);simp[q]at this
 ·refine .inr ⟨?_,z⟩;rw[List.all_eq_true];intro a ha;have:=List.find?_eq_none.mp e a ha;simpa using this
theorem mG {f:Y->D} {ok:Y->Bool} (I:Rho->Prop) {l:List Y} (hs:src U=.val (l.map f)) (step:∀a∈l,∀U,I U->∃U1,T (f a) U=some U1/\(ok a=false->F U1=.val (.rt (.bl false)))/\(ok a=true->∃U2,F U1=.val (.nx U2)/\I U2)) (h:I U) :
  (l.all ok=false/\aY src T F U=.val (.rt (.bl false)))\/(l.all ok=true/\∃U',aY src T F U=.val (.nx U')/\I U'):=by
 rw[bA,hs,ac];exact yY I step h
theorem ky {f:Y->D} {ok:Y->Bool} (I:Rho->Prop) {l:List Y} (hs:src U=.val (l.map f)) (step:∀a∈l,∀U,I U->∃U1,T (f a) U=some U1/\(ok a=false->F U1=.val (.rt (.bl false)))/\(ok a=true->∃U2,F U1=.val (.nx U2)/\I U2)) (h:I U) :
  fin (sq (aY src T F) (ret (kd (.bl true))) U)=.val (.bl (l.all ok)):=by
 rw[aL];rcases mG I hs step h with⟨e,z⟩|⟨e,U',z,_⟩
 ·rw[z,e];rfl
 ·rw[z,e];rfl
def gB (n:Int) (z:Int):Bool:=decide (0<=z)&&decide (z<n)
theorem kF (l:List Int) (n:Int) (hl:l.length<=100000):cq [ao l,.int n]=.val (.bl (l.all (gB n))):=by
 simp only[cq,gO];show fin (ret _ [sh (ao l),sh (.int n)])=_;have hc:be (fIt (vr 0)) 1 (tgN 2) tT (cal 2 bL (aC (vr 2) (aC (vr 1) aN))) [sh (ao l),sh (.int n)]=.val (l.map λz=>.bl (gB n z)):=bw (f:=D.int) rfl hl λz _=>by
  have:=lO z n;simp[this,gB]
 rw[cK,fO,bK,hc,ac,ac,n0];rfl
variable {A:Rho->R Out} {c:Bool}
theorem C8 {B:Rho->R Out} {r:Bool} (I:Rho->Prop) (hA:(c=false/\A U=.val (.rt (.bl false)))\/(c=true/\∃U',A U=.val (.nx U')/\I U')) (hB:c=true->∀U',I U'->fin (B U')=.val (.bl r)):fin (sq A B U)=.val (.bl (c&&r)):=by
 rw[aL];rcases hA with⟨e,h⟩|⟨e,U',h,i⟩
 ·rw[h,e];rfl
 ·rw[h,ac,e,Bool.true_and];exact hB e U' i
theorem ifR {t:Rho->R Bool} (ht:t U=.val (!c)):(c=false/\DL.iff t (ret (kd (.bl false))) nxt U=.val (.rt (.bl false)))\/(c=true/\∃U',DL.iff t (ret (kd (.bl false))) nxt U=.val (.nx U')/\U'=U):=by
 rw[bB,ht];cases c with
 | false=>exact .inl ⟨rfl,rfl⟩
 | true=>exact .inr ⟨rfl,_,rfl,rfl⟩
theorem wc {t:Rho->R Bool} (ht:t U=.val (!c)):(c=false->DL.iff t (ret (kd (.bl false))) nxt U=.val (.rt (.bl false)))/\(c=true->DL.iff t (ret (kd (.bl false))) nxt U=.val (.nx U)):=by
 rw[bB,ht];exact⟨λz=>by rw[z];rfl,λz=>by rw[z];rfl⟩
@[simp] theorem GV (T:D->Rho->Option Rho) (e:Rho->R D) (U:Rho):asT T e U=(e U).bind λd=>match T d U with
 | some U'=>.val (.nx U')
 | none=>.bad:=Eq.trans rfl rfl
theorem Fq {I:Rho->Prop} (h:(c=false/\A U=.val (.rt (.bl false)))\/(c=true/\∃U',A U=.val (.nx U')/\I U')):(c=false->A U=.val (.rt (.bl false)))/\(c=true->∃U',A U=.val (.nx U')/\I U'):=by
 rcases h with⟨q,e⟩|⟨q,r⟩
 ·exact⟨λ_=>e,λt=>(by rw[t]at q;cases q)⟩
 ·exact⟨λt=>(by rw[t]at q;cases q),λ_=>r⟩
theorem dY {F:Rho->R D} (h:F U=.val (.int (n:Int))) (hn:n<=100000):bq (aC F aN) U=.val ((List.range n).map nD):=by
 rw[mL,bZ,h,ac,qu,ac,ac,gR hn,gv]
theorem rowD_inj {a b:List Int}:ao a=ao b↔a=b:=by
 constructor
 ·intro h;unfold ao at h;injection h with h;exact qZ (λa b e=>by cases e;rfl) h
 ·rintro rfl;rfl
theorem BI (a b:List Int):feq (ao a) (ao b)=.val (.bl (decide (a=b))):=by
 by_cases h:a=b
 ·subst h;rw[kB (fI _)];simp
 ·rw[kC (fI _) (fI _) (λz=>h (rowD_inj.mp z))];simp[h]
theorem BD (a b:List Int):fne (ao a) (ao b)=.val (.bl (!decide (a=b))):=by
 by_cases h:a=b
 ·subst h;rw[i7 (fI _)];simp
 ·rw[tM (fI _) (fI _) (λz=>h (rowD_inj.mp z))];simp[h]
def rg (n:Nat):List Int:=(List.range n).map λ(k:Nat)=>(k:Int)
theorem Dd (n:Nat):D.lst ((List.range n).map nD)=ao (rg n):=by
 unfold ao rg;rw[List.map_map];rfl
theorem tO {x:Int} (h:0<=x) (h2:x<r.length):fix (ao r) (.int x)=.val (.int (r.getD x.toNat (-1))):=by
 have:=bv (r:=r) (i:=x.toNat) (by omega);rwa[Int.toNat_of_nonneg h]at this
def fol (a b:List Int):List Int:=a.map λx=>b.getD x.toNat (-1)
theorem Ea {a b:List Int} {e:Rho->R D} (hl:a.length<=100000) (h:∀x∈a,0<=x/\x<b.length) (hs:src U=.val (a.map D.int)) (he:∀x:Int,e ((U++List.replicate 1 none).set i (sh (.int x)))=fix (ao b) (.int x)):eLs (be src 1 (tgN i) tT e) U=.val (ao (fol a b)):=by
 rw[bK,bw (f:=D.int) (g:=λx=>.int (b.getD x.toNat (-1))) hs hl λx hx=>(by rw[he,tO (h x hx).1 (h x hx).2])];unfold ao fol;rw[List.map_map];rfl
theorem tU {a b:List Int} (hl:a.length<=100000) (h:∀x∈a,0<=x/\x<b.length):dd [ao a,ao b]=.val (ao (fol a b)):=by
 simp only[dd,iF];show fin (ret _ [sh (ao a),sh (ao b)])=_;rw[cK,Ea (a:=a) (b:=b) hl h rfl λx=>rfl];rfl
structure Bd (cs:List Int) (ms:List (List Int)):Prop where
 c:cs.length<=1000
 m:ms.length<=1000
 r:∀l∈ms,l.length<=1000
section
variable {en:List (Nat×Nat)} {re:List Nat} {tb:List (List Int)} {cs:List Int} {ms:List (List Int)}
theorem Bd.at (b:Bd cs ms) (i:Nat):(ms.getD i []).length<=1000:=by
 by_cases h:i<ms.length
 ·rw[ar h];exact b.r _ (List.getElem_mem h)
 ·rw[List.getD_eq_getElem?_getD,List.getElem?_eq_none (by omega)];exact Nat.zero_le _
def r1 (en:List (Nat×Nat)) (re:List Nat) (cs:List Int) (ms:List (List Int)):Bool:=decide (cs.length=re.length)&&decide (ms.length=en.length)
def fOk (en:List (Nat×Nat)) (cs:List Int) (ms:List (List Int)) (i:Nat):Bool:=decide (((ms.getD i []).length:Int)=cs.getD (en.getD i (0,0)).1 (-1))&&(ms.getD i []).all (gB (cs.getD (en.getD i (0,0)).2 (-1)))
def okR (re:List Nat) (cs:List Int) (ms:List (List Int)) (b:Nat):Bool:=decide (ms.getD (re.getD b 0) []=rg (cs.getD b (-1)).toNat)
def okT (tb:List (List Int)) (ms:List (List Int)) (i j:Nat):Bool:=decide ((tb.getD i []).getD j (-1)=-1)||decide (ms.getD ((tb.getD i []).getD j (-1)).toNat []=fol (ms.getD i []) (ms.getD j []))
def r3 (en:List (Nat×Nat)) (cs:List Int) (ms:List (List Int)):Bool:=(List.range en.length).all (fOk en cs ms)
def r4 (re:List Nat) (cs:List Int) (ms:List (List Int)):Bool:=(List.range re.length).all (okR re cs ms)
def r5 (en:List (Nat×Nat)) (tb ms:List (List Int)):Bool:=(List.range en.length).all λi=>(List.range en.length).all (okT tb ms i)
theorem oq (h:a_ en re tb) (hi:i<en.length) (hj:j<en.length):(tb.getD i []).getD j (-1)=-1\/∃k,k<en.length/\(tb.getD i []).getD j (-1)=(k:Int)/\(en.getD i (0,0)).2=(en.getD j (0,0)).1:=by
 by_cases e:(en.getD i (0,0)).2=(en.getD j (0,0)).1
 ·obtain⟨k,h1,h2,_⟩:=h.tp i j hi hj e;exact .inr ⟨k,h1,h2,e⟩
 ·exact .inl (h.tn i j hi hj e)
theorem D_ (h3:r3 en cs ms=true) (hi:i<en.length) (hj:j<en.length) (e:(en.getD i (0,0)).2=(en.getD j (0,0)).1):∀x∈ms.getD i [],0<=x/\x<(ms.getD j []).length:=by
 have q1:=List.all_eq_true.mp h3 i (List.mem_range.mpr hi);have q2:=List.all_eq_true.mp h3 j (List.mem_range.mpr hj);unfold fOk at q1 q2;rw[Bool.and_eq_true,decide_eq_true_iff]at q1 q2;intro x hx;have:=List.all_eq_true.mp q1.2 x hx;unfold gB at this;rw[Bool.and_eq_true,decide_eq_true_iff,decide_eq_true_iff]at this;refine⟨this.1,?_⟩;rw[q2.1,<- e];exact this.2
theorem tS (h:a_ en re tb) (b:Bd cs ms):fh [hlD en re tb,ao cs,af ms]=.val (.bl (r1 en re cs ms&&(cs.all (gB 41)&&(r3 en cs ms&&true)))):=by
 simp only[fh,iE];show fin (sq _ _ [sh (hlD en re tb),sh (ao cs),sh (af ms),none,none])=_;refine C8 (·=[sh (hlD en re tb),sh (ao cs),sh (af ms),none,none]) (ifR ?_) ?_
 ·unfold r1;by_cases p1:cs.length=re.length
  ·by_cases p2:ms.length=en.length
   ·simp[p1,p2]
   ·have q2:¬ (ms.length:Int)=en.length:=by omega
    simp[p1,p2,q2]
  ·have q1:¬ (cs.length:Int)=re.length:=by omega
   simp[p1,q1]
 ·rintro e1 _ rfl;unfold r1 at e1;rw[Bool.and_eq_true,decide_eq_true_iff,decide_eq_true_iff]at e1;obtain⟨l1,l2⟩:=e1;refine C8 (·=[sh (hlD en re tb),sh (ao cs),sh (af ms),none,none]) (ifR ?_) ?_
  ·have e:=kF cs 41 (by have:=b.c;omega);simp[-List.all_eq_true,e]
  ·rintro e2 _ rfl;refine C8 (λ_=>True) ?_ λ_ U' _=>rfl;have main:=mG (src:=lz (aC (una (ly 0) (vb 0)) (aC (vr 2) aN))) (T:=tg2 3 4) (F:=(DL.iff (orB (tst (bin fne (una aM (vb 4)) (bin fix (vb 1) (bin fix (vb 3) (kd (.int 0)))))) (cX (tst (cal 2 cq (aC (vr 4) (aC (bin fix (vb 1) (bin fix (vb 3) (kd (.int 1)))) aN)))))) (ret (kd (.bl false))) nxt)) (f:=λi=>.tup [cx (en.getD i (0,0)),ao (ms.getD i [])]) (ok:=fOk en cs ms) (l:=List.range en.length) (U:=[sh (hlD en re tb),sh (ao cs),sh (af ms),none,none]) (λU=>∃x y,U=[sh (hlD en re tb),sh (ao cs),sh (af ms),x,y]) ?_ (λi hi U hI=>?_) ⟨_,_,rfl⟩
   ·rcases main with⟨q,e⟩|⟨q,U',e,_⟩
    ·exact .inl ⟨q,e⟩
    ·exact .inr ⟨q,U',e,trivial⟩
   ·have:=mT (f:=cx) (g:=ao) (l:=en) (m:=ms) (a:=(0,0)) (b:=[]) l2.symm;simp[aV,af,this]
   ·obtain⟨x,y,rfl⟩:=hI;have hi:=List.mem_range.mp hi;have eb:=h.eb i hi;have f2:=bv (r:=cs) (i:=(en.getD i (0,0)).1) (by omega);have f3:=bv (r:=cs) (i:=(en.getD i (0,0)).2) (by omega);have e:=kF (ms.getD i []) (cs.getD (en.getD i (0,0)).2 (-1)) (by have:=b.at i;omega);have ht:orB (tst (bin fne (una aM (vb 4)) (bin fix (vb 1) (bin fix (vb 3) (kd (.int 0)))))) (cX (tst (cal 2 cq (aC (vr 4) (aC (bin fix (vb 1) (bin fix (vb 3) (kd (.int 1)))) aN))))) [sh (hlD en re tb),sh (ao cs),sh (af ms),sh (cx (en.getD i (0,0))),sh (ao (ms.getD i []))]=.val (!fOk en cs ms i):=by
     unfold fOk;by_cases p:((ms.getD i []).length:Int)=cs.getD (en.getD i (0,0)).1 (-1)
     ·simp[-List.getD_eq_getElem?_getD,-List.all_eq_true,f2,f3,e,p]
     ·simp[-List.getD_eq_getElem?_getD,-List.all_eq_true,f2,f3,e,p]
    obtain⟨k1,k2⟩:=wc ht;exact⟨_,rfl,k1,λz=>⟨_,k2 z,_,_,rfl⟩⟩
theorem oi (h:a_ en re tb) (b:Bd cs ms) (l1:cs.length=re.length) (l2:ms.length=en.length) (h2:cs.all (gB 41)=true) :
  da [hlD en re tb,ao cs,af ms]=.val (.bl (r4 re cs ms)):=by
 simp only[da,fq];show fin (ret _ [sh (hlD en re tb),sh (ao cs),sh (af ms)])=_;have n6:=h.nb6;have hc:be (fJ (aC (una (ly 1) (vb 0)) aN)) 2 (tg2 3 4) tT (bin feq (bin fix (vb 2) (vb 4)) (eLs (zC (aC (bin fix (vb 1) (vb 3)) aN)))) [sh (hlD en re tb),sh (ao cs),sh (af ms)]=.val ((List.range re.length).map λi=>.bl (okR re cs ms i)):=by
  have:=gZ (src:=fJ (aC (una (ly 1) (vb 0)) aN)) (n:=2) (T:=tg2 3 4) (t:=tT) (e:=bin feq (bin fix (vb 2) (vb 4)) (eLs (zC (aC (bin fix (vb 1) (vb 3)) aN)))) (f:=λi=>.tup [nD i,nD (re.getD i 0)]) (g:=λi=>.bl (okR re cs ms i)) (p:=λ_=>true) (l:=List.range re.length) (U:=[sh (hlD en re tb),sh (ao cs),sh (af ms)]) ?_ (by rw[List.length_range];omega) λi hi=>?_
  ·rw[this,List.filter_eq_self.mpr λ_ _=>rfl]
  ·have:enu 0 (re.map nD)=_:=kG _ _;simp only[rB,bZ,fO,qu];show(u5 [.lst (re.map nD)])=_;rw[rD,this,List.length_map]
   congr 1
   apply List.map_congr_left;intro i hi;have hi:=List.mem_range.mp hi;rw[Nat.zero_add,ar (show i<(re.map nD).length by simpa using hi),ar hi,List.getElem_map]
  ·have hi:=List.mem_range.mp hi;have q1:=(h.rs i hi).1;have f1:=bX (tb:=ms) (i:=re.getD i 0) (by omega);have f2:=bv (r:=cs) (i:=i) (by omega);have cb:gB 41 (cs.getD i (-1))=true:=by
    rw[ar (show i<cs.length by omega)];exact List.all_eq_true.mp h2 _ (List.getElem_mem _)
   unfold gB at cb;rw[Bool.and_eq_true,decide_eq_true_iff,decide_eq_true_iff]at cb;have lr:=yW (n:=(cs.getD i (-1)).toNat) (by omega);rw[Int.toNat_of_nonneg cb.1]at lr;refine⟨_,rfl,rfl,?_⟩;have q:=BI (ms.getD (re.getD i 0) []) (rg (cs.getD i (-1)).toNat);rw[<- Dd]at q;simp[-List.getD_eq_getElem?_getD,f1,f2,lr,q,okR]
 rw[cK,fO,bK,hc,ac,ac,n0];rfl
theorem oh (h:a_ en re tb) (b:Bd cs ms) (l2:ms.length=en.length) (h3:r3 en cs ms=true) :
  c_ [hlD en re tb,af ms]=.val (.bl (r5 en tb ms)):=by
 simp only[c_,fo];show fin (sq _ _ [sh (hlD en re tb),sh (af ms),none,none,none,none])=_;have hl:=h.tl;refine ky (f:=λi=>.tup [nD i,ao (tb.getD i [])]) (λU=>∃x y z w,U=[sh (hlD en re tb),sh (af ms),x,y,z,w]) ?_ (λi hi U hI=>?_) ⟨_,_,_,_,rfl⟩
 ·have:enu 0 (tb.map ao)=_:=kG _ _;simp only[rB,bZ,fO,qu];show(u5 [.lst (tb.map ao)])=_;rw[rD,this,List.length_map,hl]
  congr 1
  apply List.map_congr_left;intro i hi;have hi:=List.mem_range.mp hi;rw[Nat.zero_add,ar (show i<(tb.map ao).length by simpa[hl]using hi),ar (show i<tb.length by omega),List.getElem_map]
 ·obtain⟨x,y,z,w,rfl⟩:=hI;have hi:=List.mem_range.mp hi;have rl:=h.rl i hi;refine⟨_,rfl,?_⟩;have main:=mG (src:=fJ (aC (vr 3) aN)) (T:=tg2 4 5) (F:=DL.iff (xD (tst (bin fne (vb 5) (una jI (kd (.int 1))))) (tst (bin fne (bin fix (vb 1) (vb 5)) (cal 2 dd (aC (bin fix (vb 1) (vb 2)) (aC (bin fix (vb 1) (vb 4)) aN)))))) (ret (kd (.bl false))) nxt) (f:=λj=>.tup [nD j,.int ((tb.getD i []).getD j (-1))]) (ok:=okT tb ms i) (l:=List.range en.length) (U:=[sh (hlD en re tb),sh (af ms),sh (nD i),sh (ao (tb.getD i [])),z,w])
   (λU=>∃z w,U=[sh (hlD en re tb),sh (af ms),sh (nD i),sh (ao (tb.getD i [])),z,w]) ?_ (λj hj U hI=>?_) ⟨_,_,rfl⟩
  ·rcases main with⟨q,e⟩|⟨q,U',e,z',w',rfl⟩
   ·exact⟨λ_=>e,λt=>(by rw[t]at q;cases q)⟩
   ·exact⟨λt=>(by rw[t]at q;cases q),λ_=>⟨_,e,_,_,_,_,rfl⟩⟩
  ·have:enu 0 ((tb.getD i []).map D.int)=_:=kG _ _;simp only[rB,bZ,EF,qu];show(u5 [.lst ((tb.getD i []).map D.int)])=_;rw[rD,this,List.length_map,rl]
   congr 1
   apply List.map_congr_left;intro j hj;have hj:=List.mem_range.mp hj;rw[Nat.zero_add,ar (show j<((tb.getD i []).map D.int).length by rw[List.length_map,rl];exact hj),ar (show j<(tb.getD i []).length by omega),List.getElem_map]
  ·obtain⟨z,w,rfl⟩:=hI;have hj:=List.mem_range.mp hj;refine⟨_,rfl,?_⟩;have ht:xD (tst (bin fne (vb 5) (una jI (kd (.int 1))))) (tst (bin fne (bin fix (vb 1) (vb 5)) (cal 2 dd (aC (bin fix (vb 1) (vb 2)) (aC (bin fix (vb 1) (vb 4)) aN))))) [sh (hlD en re tb),sh (af ms),sh (nD i),sh (ao (tb.getD i [])),sh (nD j),sh (.int ((tb.getD i []).getD j (-1)))]=.val (!okT tb ms i j):=by
    unfold okT;rcases oq h hi hj with e|⟨k,hk,e,e2⟩
    ·rw[e];simp
    ·rw[e];have f1:=bX (tb:=ms) (i:=k) (by omega);have f2:=bX (tb:=ms) (i:=i) (by omega);have f3:=bX (tb:=ms) (i:=j) (by omega);have q:=tU (a:=ms.getD i []) (b:=ms.getD j []) (by have:=b.at i;omega) (D_ h3 hi hj e2);have q2:=BD (ms.getD k []) (fol (ms.getD i []) (ms.getD j []));have nk:¬ (k:Int)=-1:=by omega
     simp[-List.getD_eq_getElem?_getD,f1,f2,f3,q,q2,nk]
   obtain⟨k1,k2⟩:=wc ht;exact⟨k1,λz=>⟨_,k2 z,_,_,rfl⟩⟩
def isR (en:List (Nat×Nat)) (re:List Nat) (tb:List (List Int)) (cs:List Int) (ms:List (List Int)):Bool:=r1 en re cs ms&&(cs.all (gB 41)&&(r3 en cs ms&&(r4 re cs ms&&(r5 en tb ms&&true))))
theorem pC (h:a_ en re tb) (b:Bd cs ms):cu [hlD en re tb,ao cs,af ms]=.val (.bl (isR en re tb cs ms)):=by
 simp only[cu,gf];show fin (ret _ [sh (hlD en re tb),sh (ao cs),sh (af ms)])=_;have e1:=tS h b;unfold isR;cases c1:r1 en re cs ms with
 | false=>rw[c1]at e1;simp[e1]
 | true =>
  cases c2:cs.all (gB 41)with
  | false=>rw[c1,c2]at e1;simp[e1]
  | true =>
   cases c3:r3 en cs ms with
   | false=>rw[c1,c2,c3]at e1;simp[e1]
   | true =>
    rw[c1,c2,c3]at e1;have c1:=c1;unfold r1 at c1;rw[Bool.and_eq_true,decide_eq_true_iff,decide_eq_true_iff]at c1;have e2:=oi h b c1.1 c1.2 c2;have e3:=oh h b c1.2 c3;cases c4:r4 re cs ms with
    | false=>rw[c4]at e2;simp[e1,e2]
    | true=>rw[c4]at e2;simp[e1,e2,e3]
end
structure IsR (L:Nat) (en:List (Nat×Nat)) (re:List Nat) (tb:List (List Int)) (cs:List Int) (ms:List (List Int)):Prop where
 lc:cs.length=re.length
 lm:ms.length=en.length
 cb:∀b,b<re.length->0<=cs.getD b (-1)/\cs.getD b (-1)<=(L:Int)
 ml:∀i,i<en.length->((ms.getD i []).length:Int)=cs.getD (en.getD i (0,0)).1 (-1)
 mb:∀i,i<en.length->∀x∈ms.getD i [],0<=x/\x<cs.getD (en.getD i (0,0)).2 (-1)
 idn:∀b,b<re.length->ms.getD (re.getD b 0) []=rg (cs.getD b (-1)).toNat
 cmp:∀i j k:Nat,i<en.length->j<en.length->(tb.getD i []).getD j (-1)=(k:Int)->ms.getD k []=fol (ms.getD i []) (ms.getD j [])
section
variable {en:List (Nat×Nat)} {re:List Nat} {tb:List (List Int)} {cs ds:List Int} {ms ns:List (List Int)} {L M:Nat}
theorem below_iff {n z:Int}:gB n z=true↔0<=z/\z<n:=by
 unfold gB;rw[Bool.and_eq_true,decide_eq_true_iff,decide_eq_true_iff]
theorem IsR.tru (h:a_ en re tb) (r:IsR L en re tb cs ms) (hL:L<=40):isR en re tb cs ms=true:=by
 have e1:r1 en re cs ms=true:=by unfold r1;rw[decide_eq_true r.lc,decide_eq_true r.lm];rfl
 have e2:cs.all (gB 41)=true:=List.all_eq_true.mpr λx hx=>by
  obtain⟨i,hi,rfl⟩:=List.mem_iff_getElem.mp hx;have:=r.cb i (by rw[<- r.lc];exact hi);rw[ar hi]at this;rw[below_iff];omega
 have e3:r3 en cs ms=true:=List.all_eq_true.mpr λi hi=>by
  have hi:=List.mem_range.mp hi;unfold fOk;rw[decide_eq_true (r.ml i hi),Bool.true_and,List.all_eq_true];exact λx hx=>below_iff.mpr (r.mb i hi x hx)
 have e4:r4 re cs ms=true:=List.all_eq_true.mpr λb hb=>decide_eq_true (r.idn b (List.mem_range.mp hb));have e5:r5 en tb ms=true:=List.all_eq_true.mpr λi hi=>List.all_eq_true.mpr λj hj=>by
  have hi:=List.mem_range.mp hi;have hj:=List.mem_range.mp hj;unfold okT;rcases oq h hi hj with e|⟨k,hk,e,_⟩
  ·rw[e];rfl
  ·rw[e,Int.toNat_natCast,decide_eq_true (r.cmp i j k hi hj e),Bool.or_true]
 unfold isR;rw[e1,e2,e3,e4,e5];rfl
theorem De (n:Nat):(rg n).length=n:=by unfold rg;simp
theorem yj {d:Int} (h:i<n):(rg n).getD i d=(i:Int):=by
 unfold rg;rw[ar (by simpa using h)];simp
theorem gU {l:List Y} {f:Y->Int} {d:Y} {e:Int} (h:i<l.length):(l.map f).getD i e=f (l.getD i d):=by
 rw[ar (by simpa using h),ar h,List.getElem_map]
theorem tF {l:List Y} {f:Y->List Int} {d:Y} (h:i<l.length):(l.map f).getD i []=f (l.getD i d):=by
 rw[ar (by simpa using h),ar h,List.getElem_map]
theorem sE {f:Nat->List Int} (h:i<n):((List.range n).map f).getD i []=f i:=by
 rw[ar (by simpa using h)];simp
theorem sF {f:Nat->Int} {e:Int} (h:i<n):((List.range n).map f).getD i e=f i:=by
 rw[ar (by simpa using h)];simp
theorem Bi (h:a_ en re tb):IsR 1 en re tb (re.map λ_=>1) (en.map λ_=>[0]):=by
 have gc:∀b,b<re.length->(re.map λ_=>(1:Int)).getD b (-1)=1:=λb hb=>gU (d:=0) hb;have gm:∀i,i<en.length->(en.map λ_=>[(0:Int)]).getD i []=[0]:=λi hi=>tF (d:=(0,0)) hi;refine⟨by simp,by simp,λb hb=>?_,λi hi=>?_,λi hi x hx=>?_,λb hb=>?_,λi j k hi hj e=>?_⟩
 ·rw[gc b hb];omega
 ·rw[gm i hi,gc _ (h.eb i hi).1];rfl
 ·rw[gm i hi]at hx;rw[gc _ (h.eb i hi).2,List.mem_singleton.mp hx];omega
 ·rw[gm _ (h.rs b hb).1,gc b hb];rfl
 ·obtain⟨_,hk,_⟩:=kH h hi hj e;rw[gm k hk,gm i hi,gm j hj];rfl
theorem Bk (h:a_ en re tb):IsR 0 en re tb (re.map λ_=>0) (en.map λ_=>[]):=by
 have gc:∀b,b<re.length->(re.map λ_=>(0:Int)).getD b (-1)=0:=λb hb=>gU (d:=0) hb;have gm:∀i,i<en.length->(en.map λ_=>([]:List Int)).getD i []=[]:=λi hi=>tF (d:=(0,0)) hi;refine⟨by simp,by simp,λb hb=>?_,λi hi=>?_,λi hi x hx=>?_,λb hb=>?_,λi j k hi hj e=>?_⟩
 ·rw[gc b hb];omega
 ·rw[gm i hi,gc _ (h.eb i hi).1];rfl
 ·rw[gm i hi]at hx;cases hx
 ·rw[gm _ (h.rs b hb).1,gc b hb];rfl
 ·obtain⟨_,hk,_⟩:=kH h hi hj e;rw[gm k hk,gm i hi,gm j hj];rfl
def Aa (cs ds:List Int):List Int:=(List.range cs.length).map λi=>cs.getD i 0+ds.getD i 0
def pG (en:List (Nat×Nat)) (cs:List Int) (ms ns:List (List Int)) (k:Nat):List Int:=ms.getD k []++(ns.getD k []).map λx=>x+cs.getD (en.getD k (0,0)).2 (-1)
def xC (en:List (Nat×Nat)) (cs:List Int) (ms ns:List (List Int)):List (List Int):=(List.range en.length).map (pG en cs ms ns)
theorem Df (n m:Nat):rg (n+m)=rg n++(rg m).map λx=>x+(n:Int):=by
 unfold rg;rw[List.range_add,List.map_append,List.map_map,List.map_map]
 congr 1
 apply List.map_congr_left;intro k _;simp only[Function.comp];omega
theorem tL {l:List Int} {d e:Int} (h:i<l.length):l.getD i d=l.getD i e:=by rw[ar h,ar h]
theorem oJ {l m:List Int} {d:Int} (h:i<l.length):(l++m).getD i d=l.getD i d:=by
 rw[List.getD_eq_getElem?_getD,List.getElem?_append_left h,<- List.getD_eq_getElem?_getD]
theorem Ae {l m:List Int} {d:Int} (h:l.length<=i):(l++m).getD i d=m.getD (i-l.length) d:=by
 rw[List.getD_eq_getElem?_getD,List.getElem?_append_right h,<- List.getD_eq_getElem?_getD]
theorem mP (h:a_ en re tb) (r:IsR L en re tb cs ms) (q:IsR M en re tb ds ns):IsR (L+M) en re tb (Aa cs ds) (xC en cs ms ns):=by
 have gc:∀b,b<re.length->(Aa cs ds).getD b (-1)=cs.getD b (-1)+ds.getD b (-1):=λb hb=>by
  unfold Aa;rw[sF (by rw[r.lc];exact hb),tL (e:=-1) (by rw[r.lc];exact hb),tL (l:=ds) (e:=-1) (by rw[q.lc];exact hb)]
 have gm:∀i,i<en.length->(xC en cs ms ns).getD i []=pG en cs ms ns i:=λi hi=>sE hi;refine⟨by simp[Aa,r.lc],by simp[xC],λb hb=>?_,λi hi=>?_,λi hi x hx=>?_,λb hb=>?_,λi j k hi hj e=>?_⟩
 ·rw[gc b hb];have:=r.cb b hb;have:=q.cb b hb;omega
 ·rw[gm i hi,gc _ (h.eb i hi).1];have:=r.ml i hi;have:=q.ml i hi;unfold pG;rw[List.length_append,List.length_map];omega
 ·rw[gm i hi]at hx;rw[gc _ (h.eb i hi).2];unfold pG at hx;have b1:=q.cb _ (h.eb i hi).2;have b2:=r.cb _ (h.eb i hi).2;rcases List.mem_append.mp hx with hx|hx
  ·have:=r.mb i hi x hx;omega
  ·obtain⟨y,hy,rfl⟩:=List.mem_map.mp hx;have:=q.mb i hi y hy;omega
 ·obtain⟨q1,q2⟩:=h.rs b hb;rw[gm _ q1,gc b hb];unfold pG;rw[r.idn b hb,q.idn b hb,q2];have c1:=r.cb b hb;have c2:=q.cb b hb;dsimp only;rw[Int.toNat_add c1.1 c2.1,Df]
  congr 1
  apply List.map_congr_left;intro x _;omega
 ·obtain⟨e1,hk,e2⟩:=kH h hi hj e;rw[gm k hk,gm i hi,gm j hj];unfold pG;rw[r.cmp i j k hi hj e,q.cmp i j k hi hj e,e2];have l1:=r.ml j hj;rw[<- e1]at l1;unfold fol;rw[List.map_append,List.map_map,List.map_map]
  congr 1
  ·apply List.map_congr_left;intro x hx;have:=r.mb i hi x hx;rw[oJ (by omega)]
  ·apply List.map_congr_left;intro y hy;have b1:=q.mb i hi y hy;have l2:=q.ml j hj;rw[<- e1]at l2;have c0:=r.cb _ (h.eb i hi).2;simp only[Function.comp];rw[Ae (by omega)];have:(y+cs.getD (en.getD i (0,0)).2 (-1)).toNat-(ms.getD j []).length=y.toNat:=by omega
   rw[this,gU (d:=-1) (by omega)]
end
def fw (l:List Nat):List Int:=l.map λ(k:Nat)=>(k:Int)
def plC (sz:List Nat):List Int:=fw sz
def plM (kn:List Arr):List (List Int):=kn.map λx=>fw x.2.2
theorem ql (l:List Nat):(fw l).length=l.length:=by unfold fw;simp
theorem oE {e:Int} (h:i<l.length):(fw l).getD i e=((l.getD i 0:Nat):Int):=gU (d:=0) h
theorem zg {a b:List Nat} (h:∀i∈a,i<b.length):fol (fw a) (fw b)=fw (a.map λi=>b.getD i 0):=by
 unfold fol
 conv=>lhs;unfold fw
 conv=>rhs;unfold fw
 rw[List.map_map,List.map_map];apply List.map_congr_left;intro i hi;simp only[Function.comp,Int.toNat_natCast];exact oE (h i hi)
section
variable {sz:List Nat} {kn:List Arr}
theorem xf (g:Good sz kn) (h3:∀n∈sz,n<=3):IsR 3 (bV kn) (bS sz kn) (dX kn) (plC sz) (plM kn):=by
 have okat:∀{i} (h:i<kn.length),Ok sz kn[i]:=λh=>g.ok _ (List.getElem_mem h);have gc:∀b,b<sz.length->(plC sz).getD b (-1)=((sz.getD b 0:Nat):Int):=λb hb=>oE hb;have gm:∀{i} (h:i<kn.length),(plM kn).getD i []=fw kn[i].2.2:=λ{i} h=>by
  unfold plM;rw[ar (by simpa using h)];simp
 have gz:∀{b n:Nat},sz[b]?=some n->sz.getD b 0=n/\b<sz.length:=λ{b n} e=>by
  obtain⟨hb,e⟩:=List.getElem?_eq_some_iff.mp e;exact⟨by rw[ar hb];exact e,hb⟩
 refine⟨by rw[gG];exact ql _,by rw[cL];simp[plM],λb hb=>?_,λi hi=>?_,λi hi x hx=>?_,λb hb=>?_,λi j k hi hj e=>?_⟩
 ·rw[gG]at hb;rw[gc b hb];have:sz.getD b 0<=3:=by rw[ar hb];exact h3 _ (List.getElem_mem hb)
  omega
 ·rw[cL]at hi;obtain⟨n,m,h1,h2,h3,h4⟩:=okat hi;obtain⟨z1,z2⟩:=gz h1;rw[gm hi,fW hi,gc _ z2,ql,h3];rw[z1]
 ·rw[cL]at hi;obtain⟨n,m,h1,h2,h3,h4⟩:=okat hi;obtain⟨z1,z2⟩:=gz h2;rw[gm hi]at hx;rw[fW hi,gc _ z2];unfold fw at hx;obtain⟨y,hy,rfl⟩:=List.mem_map.mp hx;have:=h4 y hy;rw[z1];omega
 ·rw[gG]at hb;obtain⟨hl,e⟩:=i6 (g.rest b hb);rw[vN hb,gm hl,e,gc b hb,Int.toNat_natCast];unfold idm rg fw;rfl
 ·rw[cL]at hi hj;rw[j8 hi hj]at e;obtain⟨e1,rfl⟩:=uI e;obtain⟨hl,e2⟩:=i6 (g.cl _ (List.getElem_mem hi) _ (List.getElem_mem hj) e1);rw[gm hl,gm hi,gm hj,e2,zg (yQ (okat hi) (okat hj) e1)];rfl
end
variable {L:Nat}
section
variable {en:List (Nat×Nat)} {re:List Nat} {tb:List (List Int)} {s:Nat}
def btw (en:List (Nat×Nat)) (a b:Nat):List Nat:=(List.range en.length).filter λn=>decide (en.getD n (0,0)=(a,b))
theorem rR (a b:Nat):(btw en a b).length<=en.length:=by
 unfold btw;exact Nat.le_trans (List.length_filter_le _ _) (by rw[List.length_range];exact Nat.le_refl _)
theorem mem_btw:n∈btw en a b↔n<en.length/\en.getD n (0,0)=(a,b):=by
 unfold btw;rw[List.mem_filter,List.mem_range,decide_eq_true_iff]
theorem z7 (a b:Nat):(btw en a b).Nodup:=List.nodup_range.filter _
def yK (en:List (Nat×Nat)) (re:List Nat) (s:Nat):List Int:=(List.range re.length).map λt=>((btw en s t).length:Int)
def ent (tb:List (List Int)) (i j:Nat):Nat:=((tb.getD i []).getD j (-1)).toNat
def o5 (en:List (Nat×Nat)) (tb:List (List Int)) (s k:Nat):List Int:=(btw en s (en.getD k (0,0)).1).map λx=>((btw en s (en.getD k (0,0)).2).idxOf (ent tb x k):Int)
def uF (en:List (Nat×Nat)) (tb:List (List Int)) (s:Nat):List (List Int):=(List.range en.length).map (o5 en tb s)
theorem u7 (h:a_ en re tb) {x:Nat} (hk:k<en.length) (hx:x∈btw en s (en.getD k (0,0)).1):(tb.getD x []).getD k (-1)=(ent tb x k:Int)/\ent tb x k∈btw en s (en.getD k (0,0)).2:=by
 obtain⟨x1,x2⟩:=mem_btw.mp hx;obtain⟨q,q1,q2,q3⟩:=h.tp x k x1 hk (by rw[x2]);have e:ent tb x k=q:=by unfold ent;rw[q2,Int.toNat_natCast]
 rw[e];rw[x2]at q3;exact⟨q2,mem_btw.mpr ⟨q1,q3⟩⟩
theorem v7 (h:a_ en re tb) (hL:∀t,t<re.length->(btw en s t).length<=L):IsR L en re tb (yK en re s) (uF en tb s):=by
 have gc:∀b,b<re.length->(yK en re s).getD b (-1)=((btw en s b).length:Int):=λb hb=>sF hb;have gm:∀i,i<en.length->(uF en tb s).getD i []=o5 en tb s i:=λi hi=>sE hi;refine⟨by simp[yK],by simp[uF],λb hb=>?_,λi hi=>?_,λi hi x hx=>?_,λb hb=>?_,λi j k hi hj e=>?_⟩
 ·rw[gc b hb];have:=hL b hb;omega
 ·rw[gm i hi,gc _ (h.eb i hi).1];unfold o5;rw[List.length_map]
 ·rw[gm i hi]at hx;rw[gc _ (h.eb i hi).2];unfold o5 at hx;obtain⟨y,hy,rfl⟩:=List.mem_map.mp hx;have:=List.idxOf_lt_length_of_mem (u7 h hi hy).2;omega
 ·obtain⟨q1,q2⟩:=h.rs b hb;rw[gm _ q1,gc b hb,Int.toNat_natCast];unfold o5;rw[q2];dsimp only;apply List.ext_getElem
  ·rw[List.length_map,De]
  ·intro n n1 n2;rw[List.length_map]at n1;rw[List.getElem_map];have hm:=List.getElem_mem n1;obtain⟨x1,x2⟩:=mem_btw.mp hm;have u:=h.ur _ x1;rw[x2]at u;have e:ent tb (btw en s b)[n] (re.getD b 0)=(btw en s b)[n]:=by
    unfold ent;rw[u,Int.toNat_natCast]
   rw[e,(z7 s b).idxOf_getElem n n1,<- ar (d:=(-1:Int)) n2,yj n1]
 ·obtain⟨e1,hk,e2⟩:=kH h hi hj e;rw[gm k hk,gm i hi,gm j hj];unfold o5 fol;rw[e2,List.map_map];dsimp only;apply List.map_congr_left;intro x hx;simp only[Function.comp,Int.toNat_natCast];obtain⟨y1,y2⟩:=u7 h hi hx;rw[e1]at y2;have yl:=List.idxOf_lt_length_of_mem y2;rw[e1];rw[gU (d:=0) yl,ar yl,List.getElem_idxOf];have x1:=(mem_btw.mp hx).1;have as:=h.as x i j _ k x1 hi hj y1 e;have:ent tb (ent tb x i) j=ent tb x k:=by
   unfold ent at as ⊢;rw[as]
  rw[this]
end
theorem p_:∀l:List Int,gY (l.map D.int)=some l
 | []=>rfl
 | a::r=>by
  rw[List.map_cons];unfold gY;rw[p_ r];rfl
theorem wo {k:Nat}:∀{l:List Nat},k∈l->(l.map λ(n:Nat)=>(n:Int)).findIdx? (· == (k:Int))=some (l.idxOf k)
 | [],h=>by cases h
 | a::r,h=>by
  rw[List.map_cons,List.findIdx?_cons,List.idxOf_cons];by_cases e:a=k
  ·subst e;simp
  ·have e1:((a:Int)==(k:Int))=false:=by rw[beq_eq_false_iff_ne];omega
   have e2:(a==k)=false:=by rw[beq_eq_false_iff_ne];exact e
   have hr:k∈r:=by
    rcases List.mem_cons.mp h with rfl|h
    ·exact absurd rfl e
    ·exact h
   rw[e1,e2,wo hr];rfl
theorem BH (h:k∈l) (hl:l.length<=100000):zx (aJ l) (.int (k:Int))=.val (.int (l.idxOf k:Int)):=by
 unfold zx aJ;dsimp only;rw[lx];dsimp only;rw[if_pos (by rw[List.length_map];exact hl),wo h]
theorem BA {Fo F:Rho->R D} {t:Int} (h1:Fo U=.val (aJ l)) (h2:F U=.val (.int t)):xr Fo F U=zx (aJ l) (.int t):=by
 unfold xr;rw[h1,h2];rfl
variable {U':Rho}
theorem gp {B:Rho->R Out} (h:A U=.val (.nx U')):sq A B U=B U':=by rw[aL,h];rfl
theorem mr (l:List Y) (f:Y->List Int):D.lst (l.map λa=>ao (f a))=af (l.map f):=by
 unfold af;rw[List.map_map];rfl
theorem my (l:List Y) (f:Y->Int):D.lst (l.map λa=>.int (f a))=ao (l.map f):=by
 unfold ao;rw[List.map_map];rfl
theorem n8 {e:Rho->R D} {f:Y->D} {g:Y->Int} {l:List Y} (hs:src U=.val (l.map f)) (hl:l.length<=100000) (h:∀a∈l,e ((U++List.replicate n none).set i (sh (f a)))=.val (.int (g a))) :
  eLs (be src n (tgN i) tT e) U=.val (ao (l.map g)):=by
 rw[bK,bw (f:=f) (g:=λa=>.int (g a)) hs hl h,ac,my]
variable {cs:List Int} {ms:List (List Int)}
section
variable {en:List (Nat×Nat)} {re:List Nat} {tb:List (List Int)} {r:List D}
theorem tQ (h:a_ en re tb) (a b:Nat):bW [.tup (aV en::r),nD a,nD b]=.val (aJ (btw en a b)):=by
 simp only[bW,fm];show fin (ret _ [sh (.tup (aV en::r)),sh (nD a),sh (nD b)])=_;have n40:=h.na40;have hc:=gZ (src:=bq (aC (una aM (bin fix (vb 0) (kd (.int 0)))) aN)) (n:=1) (T:=tgN 3) (t:=tst (bin feq (bin fix (bin fix (vb 0) (kd (.int 0))) (vb 3)) (eT (aC (vr 1) (aC (vr 2) aN))))) (e:=vr 3) (f:=nD) (g:=nD) (p:=λn=>decide (en.getD n (0,0)=(a,b))) (l:=List.range en.length) (U:=[sh (.tup (aV en::r)),sh (nD a),sh (nD b)]) (dY (by simp) (by omega)) (by rw[List.length_range];omega) λn hn=>⟨_,rfl,by
  have hn:=List.mem_range.mp hn;have f1:=ff (en:=en) hn;have q:=BJ (en.getD n (0,0)) (a,b);simp[-List.getD_eq_getElem?_getD,f1];exact congrArg (λz=>R.bind z asB) q,rfl⟩
 rw[cK,bK,hc];rfl
theorem BR (h:a_ en re tb) (s:Nat):cZ [.tup (aV en::aJ re::af tb::r),nD s]=.val (.tup [ao (yK en re s),af (uF en tb s)]):=by
 simp only[cZ,jb];have n40:=h.na40;have n6:=h.nb6;have tl:=h.tl;show fin (sq _ _ [sh (.tup (aV en::aJ re::af tb::r)),sh (nD s),none,none,none,none,none])=_;have s1:asg 2 (eLs (be (bq (aC (una aM (bin fix (vb 0) (kd (.int 1)))) aN)) 1 (tgN 7) tT (cal 3 bW (aC (vr 0) (aC (vr 1) (aC (vr 7) aN)))))) [sh (.tup (aV en::aJ re::af tb::r)),sh (nD s),none,none,none,none,none]=.val (.nx [sh (.tup (aV en::aJ re::af tb::r)),sh (nD s),sh (.lst ((List.range re.length).map λt=>aJ (btw en s t))),none,none,none,none]):=by
  have hc:=bw (src:=bq (aC (una aM (bin fix (vb 0) (kd (.int 1)))) aN)) (n:=1) (i:=7) (e:=cal 3 bW (aC (vr 0) (aC (vr 1) (aC (vr 7) aN)))) (f:=nD) (g:=λt=>aJ (btw en s t)) (l:=List.range re.length) (U:=[sh (.tup (aV en::aJ re::af tb::r)),sh (nD s),none,none,none,none,none]) (dY (by simp) (by omega)) (by rw[List.length_range];omega) λt _=>by
   have:=tQ (r:=aJ re::af tb::r) h s t;simp[this]
  rw[eD,bK,hc];rfl
 rw[gp s1,aL];show fin (sq _ _ [sh (.tup (aV en::aJ re::af tb::r)),sh (nD s),sh (.lst ((List.range re.length).map λt=>aJ (btw en s t))),some (.own []),none,none,none])=_;have th:∀t,t<re.length->fix (.lst ((List.range re.length).map λt=>aJ (btw en s t))) (.int (t:Int))=.val (aJ (btw en s t)):=λt ht=>i8 (by simp[ht]);obtain⟨U',e,a4,a5,a6,rfl⟩:=dA (i:=4) (n:=en.length) (F:=(sq (asT (tg2 5 6) (bin fix (bin fix (vb 0) (kd (.int 0))) (vb 4)))
  (app 3 (eLs (be (fIt (bin fix (vb 2) (vb 5))) 1 (tgN 7) tT (xr (bin fix (vb 2) (vb 6)) (bin fix (bin fix (bin fix (vb 0) (kd (.int 2))) (vb 7)) (vb 4)))))))) (λk U=>∃(a4 a5 a6:Option Slt),U=[sh (.tup (aV en::aJ re::af tb::r)),sh (nD s),sh (.lst ((List.range re.length).map λt=>aJ (btw en s t))),some (.own (((List.range k).map (o5 en tb s)).map ao)),a4,a5,a6]) (λk U hk hI=>by
  obtain⟨a4,a5,a6,rfl⟩:=hI;have eb:=h.eb k hk;have fe:=ff (en:=en) (i:=k) hk;have s2:asT (tg2 5 6) (bin fix (bin fix (vb 0) (kd (.int 0))) (vb 4)) [sh (.tup (aV en::aJ re::af tb::r)),sh (nD s),sh (.lst ((List.range re.length).map λt=>aJ (btw en s t))),some (.own (((List.range k).map (o5 en tb s)).map ao)),sh (nD k),a5,a6]=.val (.nx [sh (.tup (aV en::aJ re::af tb::r)),sh (nD s),sh (.lst ((List.range re.length).map λt=>aJ (btw en s t))),some (.own (((List.range k).map (o5 en tb s)).map ao)),sh (nD k),sh (nD (en.getD k (0,0)).1),sh (nD (en.getD k (0,0)).2)]):=by
   simp[-List.getD_eq_getElem?_getD,fe,cx];rfl
  generalize hw:((List.range k).map (o5 en tb s)).map ao=acc at s2 ⊢;have al:acc.length=k:=by rw[<- hw];simp
  have z2:=n8 (src:=fIt (bin fix (vb 2) (vb 5))) (n:=1) (i:=7) (e:=xr (bin fix (vb 2) (vb 6)) (bin fix (bin fix (bin fix (vb 0) (kd (.int 2))) (vb 7)) (vb 4))) (f:=nD) (g:=λx=>((btw en s (en.getD k (0,0)).2).idxOf (ent tb x k):Int)) (l:=btw en s (en.getD k (0,0)).1) (U:=[sh (.tup (aV en::aJ re::af tb::r)),sh (nD s),sh (.lst ((List.range re.length).map λt=>aJ (btw en s t))),some (.own acc),sh (nD k),sh (nD (en.getD k (0,0)).1),sh (nD (en.getD k (0,0)).2)]) (by
    have:=th _ eb.1;exact(congrArg (λz=>R.bind z itD) this).trans rfl) (by have:=rR (en:=en) s (en.getD k (0,0)).1;omega) (λx hx=>by
    obtain⟨x1,x2⟩:=mem_btw.mp hx;obtain⟨q2,q3⟩:=u7 h hk hx;have f1:=bX (tb:=tb) (i:=x) (by omega);have f2:=bv (r:=tb.getD x []) (i:=k) (by rw[h.rl x x1];exact hk);rw[q2]at f2;have hj:=BH (l:=btw en s (en.getD k (0,0)).2) (k:=ent tb x k) q3 (by have:=rR (en:=en) s (en.getD k (0,0)).2;omega);have g1:bin fix (vb 2) (vb 6) ((([sh (.tup (aV en::aJ re::af tb::r)),sh (nD s),sh (.lst ((List.range re.length).map λt=>aJ (btw en s t))),some (.own acc),sh (nD k),sh (nD (en.getD k (0,0)).1),sh (nD (en.getD k (0,0)).2)]:Rho)++List.replicate 1 none).set 7 (sh (nD x)))=.val (aJ (btw en s (en.getD k (0,0)).2)):=th _ eb.2;have g2:bin fix (bin fix (bin fix (vb 0) (kd (.int 2))) (vb 7)) (vb 4) ((([sh (.tup (aV en::aJ re::af tb::r)),sh (nD s),sh (.lst ((List.range re.length).map λt=>aJ (btw en s t))),some (.own acc),sh (nD k),sh (nD (en.getD k (0,0)).1),sh (nD (en.getD k (0,0)).2)]:Rho)++List.replicate 1 none).set 7 (sh (nD x)))=.val (.int (ent tb x k:Int)):=by
     simp[-List.getD_eq_getElem?_getD,f1,f2]
    rw[BA g1 g2,hj])
  have s3:=jj (i:=3) (U:=[sh (.tup (aV en::aJ re::af tb::r)),sh (nD s),sh (.lst ((List.range re.length).map λt=>aJ (btw en s t))),some (.own acc),sh (nD k),sh (nD (en.getD k (0,0)).1),sh (nD (en.getD k (0,0)).2)]) rfl z2 (by omega);exact⟨_,(gp s2).trans s3,sh (nD k),sh (nD (en.getD k (0,0)).1),sh (nD (en.getD k (0,0)).2),by rw[List.range_succ,List.map_append,List.map_append,hw];rfl⟩) (U:=[sh (.tup (aV en::aJ re::af tb::r)),sh (nD s),sh (.lst ((List.range re.length).map λt=>aJ (btw en s t))),some (.own []),none,none,none]) ⟨none,none,none,rfl⟩
 have sr:bq (aC (una aM (bin fix (vb 0) (kd (.int 0)))) aN) [sh (.tup (aV en::aJ re::af tb::r)),sh (nD s),sh (.lst ((List.range re.length).map λt=>aJ (btw en s t))),some (.own []),none,none,none]=.val (rng 0 en.length):=by
  rw[gv];exact dY (by simp) (by omega)
 rw[aL,bA,sr,ac,e,ac];dsimp only;have hc:=n8 (src:=fIt (vr 2)) (n:=1) (i:=7) (e:=una aM (vb 7)) (f:=λt=>aJ (btw en s t)) (g:=λt=>((btw en s t).length:Int)) (l:=List.range re.length) (U:=[sh (.tup (aV en::aJ re::af tb::r)),sh (nD s),sh (.lst ((List.range re.length).map λt=>aJ (btw en s t))),sh (af (uF en tb s)),a4,a5,a6]) rfl (by rw[List.length_range];omega) λt _=>by simp
 rw[wm];show fin (ret _ [sh (.tup (aV en::aJ re::af tb::r)),sh (nD s),sh (.lst ((List.range re.length).map λt=>aJ (btw en s t))),sh (af (uF en tb s)),a4,a5,a6])=_;rw[cK,jN,bZ,hc,ac];rfl
theorem og (h:a_ en re tb) {ds:List Int} {ns:List (List Int)} (c1:cs.length=re.length) (c2:ms.length=en.length) (d1:ds.length=re.length) (d2:ns.length=en.length) (c3:∀l∈ms,l.length<=1000) (d3:∀l∈ns,l.length<=1000):cP [.tup (aV en::aJ re::af tb::r),.tup [ao cs,af ms],.tup [ao ds,af ns]]=.val (.tup [ao (Aa cs ds),af (xC en cs ms ns)]):=by
 have n40:=h.na40;have n6:=h.nb6;simp only[cP,f_];show fin (sq _ _ [sh (.tup (aV en::aJ re::af tb::r)),sh (.tup [ao cs,af ms]),sh (.tup [ao ds,af ns]),none,none,none])=_;rw[aL];show fin (sq _ _ [sh (.tup (aV en::aJ re::af tb::r)),sh (.tup [ao cs,af ms]),sh (.tup [ao ds,af ns]),some (.own []),none,none])=_;obtain⟨U',e,a4,a5,rfl⟩:=dA (i:=4) (n:=en.length) (F:=(sq (asg 5 (bin fix (bin fix (vb 1) (kd (.int 0))) (bin fix (bin fix (bin fix (vb 0) (kd (.int 0))) (vb 4)) (kd (.int 1)))))
  (app 3 (bin bo (bin fix (bin fix (vb 1) (kd (.int 1))) (vb 4)) (eLs (be (fIt (bin fix (bin fix (vb 2) (kd (.int 1))) (vb 4))) 1 (tgN 6) tT (bin bo (vb 6) (vb 5)))))))) (λk U=>∃(a4 a5:Option Slt),U=[sh (.tup (aV en::aJ re::af tb::r)),sh (.tup [ao cs,af ms]),sh (.tup [ao ds,af ns]),some (.own (((List.range k).map (pG en cs ms ns)).map ao)),a4,a5]) (λk U hk hI=>by
  obtain⟨a4,a5,rfl⟩:=hI;have eb:=h.eb k hk;have fe:=ff (en:=en) (i:=k) hk;have f1:=bv (r:=cs) (i:=(en.getD k (0,0)).2) (by omega);have f2:=bX (tb:=ms) (i:=k) (by omega);have f3:=bX (tb:=ns) (i:=k) (by omega);have l1:(ms.getD k []).length<=1000:=by rw[ar (show k<ms.length by omega)];exact c3 _ (List.getElem_mem _)
  have l2:(ns.getD k []).length<=1000:=by rw[ar (show k<ns.length by omega)];exact d3 _ (List.getElem_mem _)
  generalize hw:((List.range k).map (pG en cs ms ns)).map ao=acc;have al:acc.length=k:=by rw[<- hw];simp
  generalize hv:cs.getD (en.getD k (0,0)).2 (-1)=v at f1;have s2:asg 5 (bin fix (bin fix (vb 1) (kd (.int 0))) (bin fix (bin fix (bin fix (vb 0) (kd (.int 0))) (vb 4)) (kd (.int 1)))) [sh (.tup (aV en::aJ re::af tb::r)),sh (.tup [ao cs,af ms]),sh (.tup [ao ds,af ns]),some (.own acc),sh (nD k),a5]=.val (.nx [sh (.tup (aV en::aJ re::af tb::r)),sh (.tup [ao cs,af ms]),sh (.tup [ao ds,af ns]),some (.own acc),sh (nD k),sh (.int v)]):=by
   simp[-List.getD_eq_getElem?_getD,fe,f1]
  have z2:=n8 (src:=fIt (bin fix (bin fix (vb 2) (kd (.int 1))) (vb 4))) (n:=1) (i:=6) (e:=bin bo (vb 6) (vb 5)) (f:=D.int) (g:=λx=>x+v) (l:=ns.getD k []) (U:=[sh (.tup (aV en::aJ re::af tb::r)),sh (.tup [ao cs,af ms]),sh (.tup [ao ds,af ns]),some (.own acc),sh (nD k),sh (.int v)]) (by
    simp[-List.getD_eq_getElem?_getD,f3];rfl) (by omega) (λx hx=>rfl)
  have s4:bin bo (bin fix (bin fix (vb 1) (kd (.int 1))) (vb 4)) (eLs (be (fIt (bin fix (bin fix (vb 2) (kd (.int 1))) (vb 4))) 1 (tgN 6) tT (bin bo (vb 6) (vb 5)))) [sh (.tup (aV en::aJ re::af tb::r)),sh (.tup [ao cs,af ms]),sh (.tup [ao ds,af ns]),some (.own acc),sh (nD k),sh (.int v)]=.val (ao (pG en cs ms ns k)):=by
   rw[ca,z2];have:bin fix (bin fix (vb 1) (kd (.int 1))) (vb 4) [sh (.tup (aV en::aJ re::af tb::r)),sh (.tup [ao cs,af ms]),sh (.tup [ao ds,af ns]),some (.own acc),sh (nD k),sh (.int v)]=.val (ao (ms.getD k [])):=by
    simp[-List.getD_eq_getElem?_getD,f2]
   rw[this,ac,ac];unfold pG;rw[hv];unfold ao bo;dsimp only;rw[if_pos (by rw[List.length_map,List.length_map,List.length_map];show _<=100000;omega),List.map_append]
  have s3:=jj (i:=3) (xs:=acc) (U:=[sh (.tup (aV en::aJ re::af tb::r)),sh (.tup [ao cs,af ms]),sh (.tup [ao ds,af ns]),some (.own acc),sh (nD k),sh (.int v)]) rfl s4 (by omega);exact⟨_,(gp s2).trans s3,sh (nD k),sh (.int v),by rw[List.range_succ,List.map_append,List.map_append,hw];rfl⟩) (U:=[sh (.tup (aV en::aJ re::af tb::r)),sh (.tup [ao cs,af ms]),sh (.tup [ao ds,af ns]),some (.own []),none,none]) ⟨none,none,rfl⟩
 have sr:bq (aC (una aM (bin fix (vb 0) (kd (.int 0)))) aN) [sh (.tup (aV en::aJ re::af tb::r)),sh (.tup [ao cs,af ms]),sh (.tup [ao ds,af ns]),some (.own []),none,none]=.val (rng 0 en.length):=by
  rw[gv];exact dY (by simp) (by omega)
 rw[aL,bA,sr,ac,e,ac];dsimp only;have hc:=gZ (src:=lz (aC (bin fix (vb 1) (kd (.int 0))) (aC (bin fix (vb 2) (kd (.int 0))) aN))) (n:=2) (T:=tg2 6 7) (t:=tT) (e:=bin bo (vb 6) (vb 7)) (f:=λi=>.tup [.int (cs.getD i 0),.int (ds.getD i 0)]) (g:=λi=>.int (cs.getD i 0+ds.getD i 0)) (p:=λ_=>true) (l:=List.range cs.length) (U:=[sh (.tup (aV en::aJ re::af tb::r)),sh (.tup [ao cs,af ms]),sh (.tup [ao ds,af ns]),sh (af (xC en cs ms ns)),a4,a5]) (by
  have:=mT (f:=D.int) (g:=D.int) (l:=cs) (m:=ds) (a:=0) (b:=0) (by omega);simp[ao,this]) (by rw[List.length_range];omega) λt _=>⟨_,rfl,rfl,rfl⟩
 rw[List.filter_eq_self.mpr λ_ _=>rfl]at hc;rw[wm];show fin (ret _ [sh (.tup (aV en::aJ re::af tb::r)),sh (.tup [ao cs,af ms]),sh (.tup [ao ds,af ns]),sh (af (xC en cs ms ns)),a4,a5])=_;rw[cK,jN,bZ,bK,hc,ac,ac,my];rfl
end
variable {en:List (Nat×Nat)} {re:List Nat} {tb:List (List Int)}
theorem IsR.row (h:a_ en re tb) (r:IsR L en re tb cs ms):∀l∈ms,l.length<=L:=by
 intro l hl;obtain⟨i,hi,rfl⟩:=List.mem_iff_getElem.mp hl;have hi':i<en.length:=by rw[<- r.lm];exact hi
 have:=r.ml i hi';rw[ar hi]at this;have:=r.cb _ (h.eb i hi').1;omega
theorem IsR.bd (h:a_ en re tb) (r:IsR L en re tb cs ms) (hL:L<=1000):Bd cs ms:=by
 have:=h.nb6;have:=h.na40;exact⟨by rw[r.lc];omega,by rw[r.lm];omega,λl hl=>Nat.le_trans (r.row h l hl) hL⟩
theorem IsR.up {M:Nat} (r:IsR L en re tb cs ms) (hL:L<=M):IsR M en re tb cs ms:=⟨r.lc,r.lm,λb hb=>by have:=r.cb b hb;omega,r.ml,r.mb,r.idn,r.cmp⟩
theorem IsR.tight {M:Nat} (r:IsR L en re tb cs ms) (h:∀b,b<re.length->cs.getD b (-1)<=(M:Int)):IsR M en re tb cs ms:=⟨r.lc,r.lm,λb hb=>⟨(r.cb b hb).1,h b hb⟩,r.ml,r.mb,r.idn,r.cmp⟩
theorem vC:∀sz∈szs,sz.length=4->∀n∈sz,n<=1:=by decide +kernel
theorem B_ {sz:List Nat} (g:Good sz kn) (h4:sz.length=4) (s t:Nat):(btw (bV kn) s t).length<=1:=by
 have key:∀i j,i∈btw (bV kn) s t->j∈btw (bV kn) s t->i=j:=λi j hi hj=>by
  obtain⟨i1,i2⟩:=mem_btw.mp hi;obtain⟨j1,j2⟩:=mem_btw.mp hj;rw[cL]at i1 j1;rw[fW i1]at i2;rw[fW j1]at j2;have small:∀{b n:Nat},sz[b]?=some n->n<=1:=λ{b n} e=>vC sz g.szm h4 n (List.mem_of_getElem? e);obtain⟨n,m,a1,a2,a3,a4⟩:=g.ok _ (List.getElem_mem i1);obtain⟨n',m',b1,b2,b3,b4⟩:=g.ok _ (List.getElem_mem j1);have e1:kn[i].1=kn[j].1:=by have x:=congrArg Prod.fst i2;have y:=congrArg Prod.fst j2;exact x.trans y.symm
  have e2:kn[i].2.1=kn[j].2.1:=by have x:=congrArg Prod.snd i2;have y:=congrArg Prod.snd j2;exact x.trans y.symm
  have en:n'=n:=by rw[e1,b1]at a1;exact Option.some.inj a1
  have em:m'=m:=by rw[e2,b2]at a2;exact Option.some.inj a2
  have hm:=small a2;have e3:kn[i].2.2=kn[j].2.2:=by
   apply List.ext_getElem (by omega);intro l l1 l2;have x:=a4 _ (List.getElem_mem l1);have y:=b4 _ (List.getElem_mem l2);omega
  have:kn[i]=kn[j]:=Prod.ext e1 (Prod.ext e2 e3);by_cases c:i=j
  ·exact c
  ·exfalso;rcases Nat.lt_or_gt_of_ne c with c|c
   ·exact List.pairwise_iff_getElem.mp g.nd i j i1 j1 c this
   ·exact List.pairwise_iff_getElem.mp g.nd j i j1 i1 c this.symm
 have nd:=z7 (en:=bV kn) s t
 match hb:btw (bV kn) s t with
 | []=>simp
 | [_]=>simp
 | a::b::l =>
  exfalso;rw[hb]at nd key;have:=key a b (by simp) (by simp);subst this;exact(List.nodup_cons.mp nd).1 (by simp)
theorem xw (h:0<cs.length):qe (ao cs)=.val (.int (ku cs)):=by
 unfold qe ao;dsimp only;rw[p_];dsimp only;rw[if_pos h]
variable {B C:Rho->R D} {den:List D->R D}
theorem t8 {A:Rho->R D} {a b c:D} (ha:A U=.val a) (hb:B U=.val b) (hc:C U=.val c) (h:den [a,b,c]=.val x):cal 3 den (aC A (aC B (aC C aN))) U=.val x:=by
 simp[ha,hb,hc,h]
def PK (sz:List Nat) (kn:List Arr):D:=.tup [aV (bV kn),aJ (bS sz kn),af (dX kn),.lst (kn.map aq),aJ sz]
section
variable {sz:List Nat} {kn:List Arr} {ns:List Int}
theorem n_ (g:Good sz kn):bM [PK sz kn]=.val (.tup [ao (plC sz),af (plM kn)]):=by
 obtain⟨s1,s4,_⟩:=fB sz g.szm;have few:=g.few;simp only[bM,dJ];show fin (ret _ [sh (PK sz kn)])=_;have h1:=bw (src:=fIt (bin fix (vb 0) (kd (.int 4)))) (n:=1) (i:=1) (e:=vr 1) (f:=nD) (g:=nD) (l:=sz) (U:=[sh (PK sz kn)]) rfl (by omega) λa _=>rfl;have h2:=bw (src:=fIt (bin fix (vb 0) (kd (.int 3)))) (n:=1) (i:=1) (e:=eLs (fIt (bin fix (vb 1) (kd (.int 2))))) (f:=aq) (g:=λx=>ao (fw x.2.2)) (l:=kn) (U:=[sh (PK sz kn)]) rfl (by omega) λa _=>by
  unfold ao fw;rw[List.map_map];rfl
 rw[cK,jN,bZ,bZ,bK,h1,ac,ac,bK,h2,ac,ac,mr];have:D.lst (sz.map nD)=ao (plC sz):=by
  unfold ao plC fw;rw[List.map_map];rfl
 rw[this];rfl
def rW (ns:List Int) (k:Nat) (P:D) (a3 a4 a5 a6 a7:Option Slt):Rho:=[sh (.scr ns),sh (nD k),sh P,a3,a4,a5,a6,a7]
def onD (re:List Nat) (en:List (Nat×Nat)):D:=.tup [ao (re.map λ_=>1),af (en.map λ_=>[0])]
def noD (re:List Nat) (en:List (Nat×Nat)):D:=.tup [ao (re.map λ_=>0),af (en.map λ_=>[])]
theorem qg (g:Good sz kn) (ns:List Int) (k:Nat):∃cs ms,IsR 40 (bV kn) (bS sz kn) (dX kn) cs ms/\(sz.length=4->∀b,b<(bS sz kn).length->cs.getD b (-1)<=2)/\aZ [.scr ns,nD k,PK sz kn]=.val (.tup [ao cs,af ms]):=by
 have h:=rq g;have n40:=h.na40;have n6:=h.nb6;have n1:=h.nb1;have pe:=n_ g;have pr:=xf g (fB sz g.szm).2.2;have pr4:sz.length=4->IsR 1 (bV kn) (bS sz kn) (dX kn) (plC sz) (plM kn):=λh4=>pr.tight λb hb=>by
  rw[gG]at hb;have e:(plC sz).getD b (-1)=((sz.getD b 0:Nat):Int):=oE hb;have:=vC sz g.szm h4 (sz.getD b 0) (by rw[ar hb];exact List.getElem_mem hb);omega
 obtain⟨c,hc⟩:=kE ns k;obtain⟨c1,hc1⟩:=kE ns (k+1);have hc1:aE [.scr ns,.int ((k:Int)+1)]=.val (.int c1):=hc1;simp only[aZ,cS];show ∃cs ms,_/\_/\fin (sq _ _ (rW ns k (PK sz kn) none none none none none))=_;have s3:asg 3 (eT (aC (eLs (be (fIt (bin fix (vb 2) (kd (.int 1)))) 1 (tgN 8) tT (kd (.int 1)))) (aC (eLs (be (fIt (bin fix (vb 2) (kd (.int 0)))) 1 (tgN 8) tT (eL (aC (kd (.int 0)) aN)))) aN))) (rW ns k (PK sz kn) none none none none none)=.val (.nx (rW ns k (PK sz kn) (sh (onD (bS sz kn) (bV kn))) none none none none)):=by
  have h1:=bw (src:=fIt (bin fix (vb 2) (kd (.int 1)))) (n:=1) (i:=8) (e:=kd (.int 1)) (f:=nD) (g:=λ_=>.int 1) (l:=bS sz kn) (U:=rW ns k (PK sz kn) none none none none none) rfl (by omega) λa _=>rfl;have h2:=bw (src:=fIt (bin fix (vb 2) (kd (.int 0)))) (n:=1) (i:=8) (e:=eL (aC (kd (.int 0)) aN)) (f:=cx) (g:=λ_=>ao [0]) (l:=bV kn) (U:=rW ns k (PK sz kn) none none none none none) rfl (by omega) λa _=>rfl;rw[eD,jN,bZ,bZ,bK,h1,ac,ac,bK,h2,ac,ac,mr,my];rfl
 have s4:asg 4 (eT (aC (eLs (be (fIt (bin fix (vb 2) (kd (.int 1)))) 1 (tgN 8) tT (kd (.int 0)))) (aC (eLs (be (fIt (bin fix (vb 2) (kd (.int 0)))) 1 (tgN 8) tT (eL aN))) aN))) (rW ns k (PK sz kn) (sh (onD (bS sz kn) (bV kn))) none none none none)=.val (.nx (rW ns k (PK sz kn) (sh (onD (bS sz kn) (bV kn))) (sh (noD (bS sz kn) (bV kn))) none none none)):=by
  have h1:=bw (src:=fIt (bin fix (vb 2) (kd (.int 1)))) (n:=1) (i:=8) (e:=kd (.int 0)) (f:=nD) (g:=λ_=>.int 0) (l:=bS sz kn) (U:=rW ns k (PK sz kn) (sh (onD (bS sz kn) (bV kn))) none none none none) rfl (by omega) λa _=>rfl;have h2:=bw (src:=fIt (bin fix (vb 2) (kd (.int 0)))) (n:=1) (i:=8) (e:=eL aN) (f:=cx) (g:=λ_=>ao []) (l:=bV kn) (U:=rW ns k (PK sz kn) (sh (onD (bS sz kn) (bV kn))) none none none none) rfl (by omega) λa _=>rfl;rw[eD,jN,bZ,bZ,bK,h1,ac,ac,bK,h2,ac,ac,mr,my];rfl
 rw[gp s3,gp s4];have ron:=Bi h;have rno:=Bk h;generalize hon:onD (bS sz kn) (bV kn)=on;generalize hno:noD (bS sz kn) (bV kn)=no;unfold onD at hon;unfold noD at hno;generalize hpl:D.tup [ao (plC sz),af (plM kn)]=pl at pe;have s5:asg 5 (cal 1 bM (aC (vr 2) aN)) (rW ns k (PK sz kn) (sh on) (sh no) none none none)=.val (.nx (rW ns k (PK sz kn) (sh on) (sh no) (sh pl) none none)):=by
  unfold rW;simp[pe]
 obtain⟨i,hi,ei⟩:=fX c 5 (by decide);have ei:c%5=(i:Int):=ei;have s6:asg 6 (bin (iI bm) (cal 2 aE (aC (vr 0) (aC (vr 1) aN))) (kd (.int 5))) (rW ns k (PK sz kn) (sh on) (sh no) (sh pl) none none)=.val (.nx (rW ns k (PK sz kn) (sh on) (sh no) (sh pl) (sh (nD i)) none)):=by
  have m:bm c 5=.val (.int (i:Int)):=by rw[dG (by decide),ei]
  unfold rW;simp[hc,m]
 rw[gp s5,gp s6];have ts:∀(w m:Int),tst (bin feq (vb 6) (kd (.int m))) (rW ns k (PK sz kn) (sh on) (sh no) (sh pl) (sh (.int w)) none)=.val (decide (w=m)):=λw m=>by
  rw[dW,ca];show R.bind (feq (.int w) (.int m)) asB=_;rw[zy];rfl
 have no_:∀(w m:Int) (F G:Rho->R Out),w≠m->sq (DL.iff (tst (bin feq (vb 6) (kd (.int m)))) F nxt) G (rW ns k (PK sz kn) (sh on) (sh no) (sh pl) (sh (.int w)) none)=G (rW ns k (PK sz kn) (sh on) (sh no) (sh pl) (sh (.int w)) none):=λw m F G hn=>by
  rw[aL,bB,ts,ac,if_neg (by rw[decide_eq_false hn];decide)];rfl
 have yes:∀(w m:Int) (F G:Rho->R Out),w=m->sq (DL.iff (tst (bin feq (vb 6) (kd (.int m)))) F nxt) G (rW ns k (PK sz kn) (sh on) (sh no) (sh pl) (sh (.int w)) none)=sq F G (rW ns k (PK sz kn) (sh on) (sh no) (sh pl) (sh (.int w)) none):=λw m F G hm=>by
  rw[aL,bB,ts,ac,if_pos (decide_eq_true hm),aL]
 have hret:∀(F:Rho->R D) (G:Rho->R Out) (U:Rho) (x:D),F U=.val x->fin (sq (ret F) G U)=.val x:=λF G U x e=>by rw[aL,cK,e];rfl
 match i,hi with
 | 0,_ =>
  refine⟨_,_,pr.up (by decide),λh4 b hb=>by have:=(pr4 h4).cb b hb;omega,?_⟩;rw[yes _ _ _ _ (by decide),hpl];exact hret _ _ _ _ rfl
 | 1,_ =>
  have z2:=og (r:=[.lst (kn.map aq),aJ sz]) h pr.lc pr.lm ron.lc ron.lm (λl hl=>Nat.le_trans (pr.row h l hl) (by decide)) (λl hl=>Nat.le_trans (ron.row h l hl) (by decide));rw[hon,hpl]at z2;refine⟨_,_,(mP h pr ron).up (by decide),λh4 b hb=>by have:=(mP h (pr4 h4) ron).cb b hb;omega,?_⟩;rw[no_ _ _ _ _ (by decide),yes _ _ _ _ (by decide)];refine hret _ _ _ _ ?_;exact t8 rfl rfl rfl z2
 | 2,_ =>
  have key:∃ds ns',IsR 1 (bV kn) (bS sz kn) (dX kn) ds ns'/\bin fix (eL (aC (vr 4) (aC (vr 3) aN))) (bin (iI bm) (cal 2 aE (aC (vr 0) (aC (bin bo (vb 1) (kd (.int 1))) aN))) (kd (.int 2))) (rW ns k (PK sz kn) (sh on) (sh no) (sh pl) (sh (.int 2)) none)=.val (.tup [ao ds,af ns']):=by
   obtain⟨j,hj,ej⟩:=fX c1 2 (by decide);have ej:c1%2=(j:Int):=ej;have m:bm c1 2=.val (.int (j:Int)):=by rw[dG (by decide),ej]
   have:bin fix (eL (aC (vr 4) (aC (vr 3) aN))) (bin (iI bm) (cal 2 aE (aC (vr 0) (aC (bin bo (vb 1) (kd (.int 1))) aN))) (kd (.int 2))) (rW ns k (PK sz kn) (sh on) (sh no) (sh pl) (sh (.int 2)) none)=fix (.lst [no,on]) (.int (j:Int)):=by
    unfold rW;simp[hc1,m]
   rw[this]
   match j,hj with
   | 0,_=>exact⟨_,_,rno.up (by decide),by rw[hno];rfl⟩
   | 1,_=>exact⟨_,_,ron,by rw[hon];rfl⟩
  obtain⟨ds,ns',q1,q2⟩:=key;have z2:=og (r:=[.lst (kn.map aq),aJ sz]) h ron.lc ron.lm q1.lc q1.lm (λl hl=>Nat.le_trans (ron.row h l hl) (by decide)) (λl hl=>Nat.le_trans (q1.row h l hl) (by decide));rw[hon]at z2;refine⟨_,_,(mP h ron q1).up (by decide),λh4 b hb=>by have:=(mP h ron q1).cb b hb;omega,?_⟩;rw[no_ _ _ _ _ (by decide),no_ _ _ _ _ (by decide),yes _ _ _ _ (by decide)];refine hret _ _ _ _ ?_;have q2:bin fix (eL (aC (vr 4) (aC (vr 3) aN))) (bin (iI bm) (cal 2 aE (aC (vr 0) (aC (bin bo (vb 1) (kd (.int 1))) aN))) (kd (.int 2))) (rW ns k (PK sz kn) (sh on) (sh no) (sh pl) (sh (.int ((2:Nat):Int))) none)=.val (.tup [ao ds,af ns']):=q2;exact t8 rfl rfl q2 z2
 | 3,_ =>
  obtain⟨j,hj,ej⟩:=fX c1 (bS sz kn).length (by omega);have m:bm c1 ((bS sz kn).length:Int)=.val (.int (j:Int)):=by rw[dG (by omega),ej]
  have z2:=BR (r:=[.lst (kn.map aq),aJ sz]) h j;have zr:IsR 40 (bV kn) (bS sz kn) (dX kn) _ _:=v7 (s:=j) h λt _=>Nat.le_trans (rR (en:=bV kn) j t) n40;have zr4:sz.length=4->IsR 1 (bV kn) (bS sz kn) (dX kn) _ _:=λh4=>v7 (s:=j) h λt _=>B_ g h4 j t;generalize yK (bV kn) (bS sz kn) j=cs at z2 zr zr4;generalize uF (bV kn) (dX kn) j=ms at z2 zr zr4;have s7:asg 7 (cal 2 cZ (aC (vr 2) (aC (bin (iI bm) (cal 2 aE (aC (vr 0) (aC (bin bo (vb 1) (kd (.int 1))) aN))) (una aM (bin fix (vb 2) (kd (.int 1))))) aN))) (rW ns k (PK sz kn) (sh on) (sh no) (sh pl) (sh (.int 3)) none)=.val (.nx (rW ns k (PK sz kn) (sh on) (sh no) (sh pl) (sh (.int 3)) (sh (.tup [ao cs,af ms])))) :=by
   unfold rW PK;simp[hc1,m,z2]
  have q1:=zr.lc;have t:tst (bin (iI fle) (una qe (bin fix (vb 7) (kd (.int 0)))) (kd (.int 3))) (rW ns k (PK sz kn) (sh on) (sh no) (sh pl) (sh (.int 3)) (sh (.tup [ao cs,af ms])))=.val (decide (ku cs<=3)):=by
   have:=xw (cs:=cs) (by omega);unfold rW;simp[this]
  by_cases p:ku cs<=3
  ·refine⟨cs,ms,zr,λh4 b hb=>by have:=(zr4 h4).cb b hb;omega,?_⟩;rw[no_ _ _ _ _ (by decide),no_ _ _ _ _ (by decide),no_ _ _ _ _ (by decide),yes _ _ _ _ (by decide),aL];rw[show ∀F G,sq (asg 7 (cal 2 cZ (aC (vr 2) (aC (bin (iI bm) (cal 2 aE (aC (vr 0) (aC (bin bo (vb 1) (kd (.int 1))) aN))) (una aM (bin fix (vb 2) (kd (.int 1))))) aN)))) (sq F G) (rW ns k (PK sz kn) (sh on) (sh no) (sh pl) (sh (.int ((3:Nat):Int))) none)=sq F G (rW ns k (PK sz kn) (sh on) (sh no) (sh pl) (sh (.int 3)) (sh (.tup [ao cs,af ms])))from λF G=>gp s7];rw[aL,bB,t,ac,if_pos (decide_eq_true p)];rfl
  ·refine⟨_,_,pr.up (by decide),λh4 b hb=>by have:=(pr4 h4).cb b hb;omega,?_⟩;rw[hpl,no_ _ _ _ _ (by decide),no_ _ _ _ _ (by decide),no_ _ _ _ _ (by decide),yes _ _ _ _ (by decide),aL];rw[show ∀F G,sq (asg 7 (cal 2 cZ (aC (vr 2) (aC (bin (iI bm) (cal 2 aE (aC (vr 0) (aC (bin bo (vb 1) (kd (.int 1))) aN))) (una aM (bin fix (vb 2) (kd (.int 1))))) aN)))) (sq F G) (rW ns k (PK sz kn) (sh on) (sh no) (sh pl) (sh (.int ((3:Nat):Int))) none)=sq F G (rW ns k (PK sz kn) (sh on) (sh no) (sh pl) (sh (.int 3)) (sh (.tup [ao cs,af ms])))from λF G=>gp s7];rw[aL,bB,t,ac,if_neg (by rw[decide_eq_false p];decide)];rfl
 | 4,_ =>
  refine⟨_,_,rno.up (by decide),λh4 b hb=>by have:=rno.cb b hb;omega,?_⟩;rw[hno,no_ _ _ _ _ (by decide),no_ _ _ _ _ (by decide),no_ _ _ _ _ (by decide),no_ _ _ _ _ (by decide)];rfl
end
abbrev PF:=List (List (Option Int))
def fa (f:PF) (b t:Nat):Option Int:=(f.getD b []).getD t none
def w9 (f:PF) (b t:Nat) (g:Int):PF:=f.set b ((f.getD b []).set t (some g))
def Shp (cs:List Int) (n:Nat) (f:PF):Prop:=f.length=n/\∀b,b<n->((f.getD b []).length:Int)=cs.getD b (-1)
variable {f:PF} {t:Nat}
theorem BL (h:¬ b<f.length):fa f b t=none:=by
 unfold fa;rw[show f.getD b []=[] by rw[List.getD_eq_getElem?_getD,List.getElem?_eq_none (by omega)];rfl];rfl
theorem uX {b' t':Nat} {g:Int} (hb:b<f.length) (ht:t<(f.getD b []).length):fa (w9 f b t g) b' t'=if b'=b/\t'=t then some g else fa f b' t':=by
 unfold fa w9;by_cases e:b'=b
 ·subst e;rw[List.getD_eq_getElem?_getD (l:=f.set _ _),List.getElem?_set_self hb,Option.getD_some];by_cases e2:t'=t
  ·subst e2;rw[List.getD_eq_getElem?_getD,List.getElem?_set_self ht,if_pos ⟨rfl,rfl⟩];rfl
  ·rw[List.getD_eq_getElem?_getD,List.getElem?_set_ne (by omega),if_neg (by omega),<- List.getD_eq_getElem?_getD]
 ·rw[List.getD_eq_getElem?_getD (l:=f.set _ _),List.getElem?_set_ne (by omega),if_neg (by omega),<- List.getD_eq_getElem?_getD]
theorem Shp.put (s:Shp cs n f) (b t:Nat) (g:Int):Shp cs n (w9 f b t g):=by
 refine⟨by unfold w9;rw[List.length_set];exact s.1,λc hc=>?_⟩;unfold w9;by_cases e:c=b
 ·subst e;rw[List.getD_eq_getElem?_getD,List.getElem?_set_self (by rw[s.1];exact hc),Option.getD_some,List.length_set];exact s.2 c hc
 ·rw[List.getD_eq_getElem?_getD,List.getElem?_set_ne (by omega),<- List.getD_eq_getElem?_getD];exact s.2 c hc
theorem Shp.at {cs:List Int} {n:Nat} {f:PF} (s:Shp cs n f) {b t:Nat} {g:Int} (h:fa f b t=some g):b<n/\(t:Int)<cs.getD b (-1):=by
 by_cases hb:b<f.length
 ·rw[s.1]at hb;refine⟨hb,?_⟩;have:=s.2 b hb;by_cases ht:t<(f.getD b []).length
  ·omega
  ·unfold fa at h;rw[List.getD_eq_getElem?_getD,List.getElem?_eq_none (by omega)]at h;cases h
 ·rw[BL hb]at h;cases h
def stl (f:PF) (b t:Nat) (g:Int):Option PF:=match fa f b t with
 | none=>some (w9 f b t g)
 | some g'=>if g'=g then some f else none
section
variable (en:List (Nat×Nat)) (ms ns:List (List Int)) (box thing goal:Nat)
def aT (a:Nat):Nat:=((ms.getD a []).getD thing (-1)).toNat
def aG (a:Nat):Int:=(ns.getD a []).getD goal (-1)
def tal:List Nat->PF->Option PF
 | [],f=>some f
 | a::l,f=>if(en.getD a (0,0)).1=box then(match stl f (en.getD a (0,0)).2 (aT ms thing a) (aG ns goal a)with
  | some f'=>tal l f'
  | none=>none)else tal l f
end
variable {f':PF}
section
variable {en:List (Nat×Nat)} {ms ns:List (List Int)} {box thing goal:Nat} {cs:List Int} {n:Nat}
theorem uq {g:Int} (s:Shp cs n f) (hb:b<n) (ht:(t:Int)<cs.getD b (-1)) (h:stl f b t g=some f') :
  Shp cs n f'/\(∀c u x,fa f c u=some x->fa f' c u=some x)/\fa f' b t=some g/\∀c u x,fa f' c u=some x->fa f c u=some x\/(c=b/\u=t/\x=g):=by
 have hb':b<f.length:=by rw[s.1];exact hb
 have ht':t<(f.getD b []).length:=by have:=s.2 b hb;omega
 unfold stl at h;cases e:fa f b t with
 | none =>
  rw[e]at h;cases h;refine⟨s.put b t g,λc u x hx=>?_,?_,λc u x hx=>?_⟩
  ·rw[uX hb' ht',if_neg (λz=>by rw[z.1,z.2,e]at hx;cases hx)];exact hx
  ·rw[uX hb' ht',if_pos ⟨rfl,rfl⟩]
  ·rw[uX hb' ht']at hx;by_cases z:c=b/\u=t
   ·rw[if_pos z]at hx;exact .inr ⟨z.1,z.2,(Option.some.inj hx).symm⟩
   ·rw[if_neg z]at hx;exact .inl hx
 | some g' =>
  rw[e]at h;dsimp only at h;by_cases z:g'=g
  ·rw[if_pos z]at h;cases h;exact⟨s,λ_ _ _ hx=>hx,by rw[e,z],λ_ _ _ hx=>.inl hx⟩
  ·rw[if_neg z]at h;cases h
theorem ug:∀{l:List Nat} {f f':PF},Shp cs n f->(∀a∈l,(en.getD a (0,0)).1=box->(en.getD a (0,0)).2<n/\(aT ms thing a:Int)<cs.getD (en.getD a (0,0)).2 (-1))->tal en ms ns box thing goal l f=some f' ->
  Shp cs n f'/\(∀c u x,fa f c u=some x->fa f' c u=some x)/\(∀a∈l,(en.getD a (0,0)).1=box->fa f' (en.getD a (0,0)).2 (aT ms thing a)=some (aG ns goal a)) /\
  ∀c u x,fa f' c u=some x->fa f c u=some x\/∃a∈l,(en.getD a (0,0)).1=box/\c=(en.getD a (0,0)).2/\u=aT ms thing a/\x=aG ns goal a
 | [],f,f',s,_,h=>by
  cases h;exact⟨s,(λ_ _ _ h=>h),(λa ha=>nomatch ha),(λ_ _ _ h=>.inl h)⟩
 | a::l,f,f',s,hv,h=>by
  unfold tal at h;by_cases e:(en.getD a (0,0)).1=box
  ·rw[if_pos e]at h;cases z:stl f (en.getD a (0,0)).2 (aT ms thing a) (aG ns goal a)with
   | none=>rw[z]at h;cases h
   | some f1 =>
    rw[z]at h;obtain⟨v1,v2⟩:=hv a (by simp) e;obtain⟨s1,k1,g1,b1⟩:=uq s v1 v2 z;obtain⟨s2,k2,g2,b2⟩:=ug s1 (λc hc=>hv c (by simp[hc])) h;refine⟨s2,λc u x hx=>k2 c u x (k1 c u x hx),λc hc ec=>?_,λc u x hx=>?_⟩
    ·rcases List.mem_cons.mp hc with rfl|hc
     ·exact k2 _ _ _ g1
     ·exact g2 c hc ec
    ·rcases b2 c u x hx with q|⟨d,hd,q⟩
     ·rcases b1 c u x q with q|q
      ·exact .inl q
      ·exact .inr ⟨a,by simp,e,q⟩
     ·exact .inr ⟨d,by simp[hd],q⟩
  ·rw[if_neg e]at h;obtain⟨s2,k2,g2,b2⟩:=ug s (λc hc=>hv c (by simp[hc])) h;refine⟨s2,k2,λc hc ec=>?_,λc u x hx=>?_⟩
   ·rcases List.mem_cons.mp hc with rfl|hc
    ·exact absurd ec e
    ·exact g2 c hc ec
   ·rcases b2 c u x hx with q|⟨d,hd,q⟩
    ·exact .inl q
    ·exact .inr ⟨d,by simp[hd],q⟩
def Ext (F:Nat->Nat->Int) (f:PF):Prop:=∀b t g,fa f b t=some g->F b t=g
theorem qC {F:Nat->Nat->Int}:∀{l:List Nat} {f:PF},Shp cs n f->(∀a∈l,(en.getD a (0,0)).1=box->(en.getD a (0,0)).2<n/\(aT ms thing a:Int)<cs.getD (en.getD a (0,0)).2 (-1))->Ext F f->(∀a∈l,(en.getD a (0,0)).1=box->F (en.getD a (0,0)).2 (aT ms thing a)=aG ns goal a) ->
  ∃f',tal en ms ns box thing goal l f=some f'/\Ext F f'
 | [],f,_,_,x,_=>⟨f,rfl,x⟩
 | a::l,f,s,hv,x,hF=>by
  unfold tal;by_cases e:(en.getD a (0,0)).1=box
  ·rw[if_pos e];obtain⟨v1,v2⟩:=hv a (by simp) e;have hx:=hF a (by simp) e;have:∃f1,stl f (en.getD a (0,0)).2 (aT ms thing a) (aG ns goal a)=some f1/\Shp cs n f1/\Ext F f1:=by
    cases z:stl f (en.getD a (0,0)).2 (aT ms thing a) (aG ns goal a)with
    | none =>
     exfalso;unfold stl at z;cases y:fa f (en.getD a (0,0)).2 (aT ms thing a)with
     | none=>rw[y]at z;cases z
     | some g' =>
      rw[y]at z;dsimp only at z;by_cases q:g'=aG ns goal a
      ·rw[if_pos q]at z;cases z
      ·exact q (by rw[<- x _ _ _ y,hx])
    | some f1 =>
     obtain⟨s1,_,_,b1⟩:=uq s v1 v2 z;refine⟨f1,rfl,s1,λb t g hg=>?_⟩;rcases b1 b t g hg with q|⟨rfl,rfl,rfl⟩
     ·exact x _ _ _ q
     ·exact hx
   obtain⟨f1,e1,s1,x1⟩:=this;rw[e1];exact qC s1 (λc hc=>hv c (by simp[hc])) x1 λc hc=>hF c (by simp[hc])
  ·rw[if_neg e];exact qC s (λc hc=>hv c (by simp[hc])) x λc hc=>hF c (by simp[hc])
end
section
variable (en:List (Nat×Nat)) (re:List Nat) (cs ds:List Int) (ms ns:List (List Int))
def Ntl (F:Nat->Nat->Int):Prop:=(∀b t:Nat,b<re.length->(t:Int)<cs.getD b (-1)->0<=F b t/\F b t<ds.getD b (-1)) /\
 ∀a t:Nat,a<en.length->(t:Int)<cs.getD (en.getD a (0,0)).1 (-1)->F (en.getD a (0,0)).2 (aT ms t a)=aG ns (F (en.getD a (0,0)).1 t).toNat a
def ClF (f:PF):Prop:=Shp cs re.length f/\(∀b t g,fa f b t=some g->0<=g/\g<ds.getD b (-1))/\∀a t g,a<en.length->fa f (en.getD a (0,0)).1 t=some g->fa f (en.getD a (0,0)).2 (aT ms t a)=some (aG ns g.toNat a)
def Val (b t:Nat):Prop:=b<re.length/\(t:Int)<cs.getD b (-1)
def Bef (b' t' b t:Nat):Prop:=b'<b\/(b'=b/\t'<t)
def FLt (f f':PF):Prop:=∃b t g g',fa f b t=some g/\fa f' b t=some g'/\g<g'/\∀b' t',Bef b' t' b t->Val re cs b' t'->∃v,fa f b' t'=some v/\fa f' b' t'=some v
def ton (b t:Nat) (f:PF):List PF:=if(fa f b t).isSome=true then[f]else(List.range (ds.getD b (-1)).toNat).flatMap λg=>(tal en ms ns b t g (List.range en.length) f).toList
def tOn (b t:Nat) (fs:List PF):List PF:=fs.flatMap (ton en ds ms ns b t)
def FInv (b t:Nat) (fs:List PF):Prop:=(∀f∈fs,ClF en re cs ds ms ns f/\∀b' t',Bef b' t' b t->Val re cs b' t'->∃v,fa f b' t'=some v)/\fs.Pairwise (FLt re cs)/\∀F,Ntl en re cs ds ms ns F->∃f∈fs,Ext F f
end
variable {g:Nat}
section
variable {en:List (Nat×Nat)} {re:List Nat} {tb:List (List Int)} {cs ds:List Int} {ms ns:List (List Int)} {L M:Nat}
theorem Ah (r:IsR L en re tb cs ms) (ha:a<en.length) (ht:(t:Int)<cs.getD (en.getD a (0,0)).1 (-1)):0<=(ms.getD a []).getD t (-1)/\(aT ms t a:Int)<cs.getD (en.getD a (0,0)).2 (-1):=by
 have l:=r.ml a ha;have hl:t<(ms.getD a []).length:=by omega
 have:=r.mb a ha ((ms.getD a []).getD t (-1)) (by rw[ar hl];exact List.getElem_mem hl);unfold aT;omega
theorem FQ (q:IsR M en re tb ds ns) (ha:a<en.length) (hg:(g:Int)<ds.getD (en.getD a (0,0)).1 (-1)):0<=aG ns g a/\aG ns g a<ds.getD (en.getD a (0,0)).2 (-1):=by
 have l:=q.ml a ha;have hl:g<(ns.getD a []).length:=by omega
 exact q.mb a ha ((ns.getD a []).getD g (-1)) (by rw[ar hl];exact List.getElem_mem hl)
theorem zi {a b:List Int} (h:t<a.length):(fol a b).getD t (-1)=b.getD (a.getD t (-1)).toNat (-1):=by
 unfold fol;rw[gU (d:=-1) h]
theorem Ev (h:a_ en re tb) (r:IsR L en re tb cs ms) (hi:i<en.length) (hj:j<en.length) (e:(tb.getD i []).getD j (-1)=(k:Int)) (ht:(t:Int)<cs.getD (en.getD i (0,0)).1 (-1)):aT ms t k=aT ms (aT ms t i) j:=by
 have l:=r.ml i hi;unfold aT;rw[r.cmp i j k hi hj e,zi (by omega)]
theorem Ew (h:a_ en re tb) (q:IsR M en re tb ds ns) (hi:i<en.length) (hj:j<en.length) (e:(tb.getD i []).getD j (-1)=(k:Int)) (hg:(g:Int)<ds.getD (en.getD i (0,0)).1 (-1)):aG ns g k=aG ns (aG ns g i).toNat j:=by
 have l:=q.ml i hi;unfold aG;rw[q.cmp i j k hi hj e,zi (by omega)]
theorem Ci (r:IsR L en re tb cs ms) (hb:b<re.length) (ht:(t:Int)<cs.getD b (-1)):aT ms t (re.getD b 0)=t:=by
 unfold aT;rw[r.idn b hb,yj (by omega)];omega
theorem Cj (q:IsR M en re tb ds ns) (hb:b<re.length) (hg:(g:Int)<ds.getD b (-1)):aG ns g (re.getD b 0)=(g:Int):=by
 unfold aG;rw[q.idn b hb,yj (by omega)]
theorem qB (h:a_ en re tb) (r:IsR L en re tb cs ms) (ht:(t:Int)<cs.getD b (-1)):∀a∈List.range en.length,(en.getD a (0,0)).1=b->(en.getD a (0,0)).2<re.length/\(aT ms t a:Int)<cs.getD (en.getD a (0,0)).2 (-1):=λa ha e=>by
 have ha:=List.mem_range.mp ha;exact⟨(h.eb a ha).2,(Ah r ha (by rw[e];exact ht)).2⟩
theorem uh (h:a_ en re tb) (r:IsR L en re tb cs ms) (q:IsR M en re tb ds ns) (c:ClF en re cs ds ms ns f) (hb:b<re.length) (ht:(t:Int)<cs.getD b (-1)) (hg:(g:Int)<ds.getD b (-1)) (e:tal en ms ns b t g (List.range en.length) f=some f') :
  ClF en re cs ds ms ns f'/\fa f' b t=some (g:Int)/\∀c u x,fa f c u=some x->fa f' c u=some x:=by
 obtain⟨s,cv,cc⟩:=c;obtain⟨s2,k2,g2,b2⟩:=ug s (qB h r ht) e;obtain⟨q1,q2⟩:=h.rs b hb;have at_:fa f' b t=some (g:Int):=by
  have:=g2 (re.getD b 0) (List.mem_range.mpr q1) (by rw[q2]);rw[q2,Ci r hb ht,Cj q hb hg]at this;exact this
 refine⟨⟨s2,λc u x hx=>?_,λa u x ha hx=>?_⟩,at_,k2⟩
 ·rcases b2 c u x hx with z|⟨a,ha,e1,rfl,rfl,rfl⟩
  ·exact cv c u x z
  ·exact FQ q (List.mem_range.mp ha) (by rw[e1];exact hg)
 ·rcases b2 _ u x hx with z|⟨i,hi,e1,e2,rfl,rfl⟩
  ·exact k2 _ _ _ (cc a u x ha z)
  ·have hi:=List.mem_range.mp hi;obtain⟨k,hk,e3,e4⟩:=h.tp i a hi ha e2.symm;have:=g2 k (List.mem_range.mpr hk) (by rw[e4,<- e1]);rw[e4]at this;rw[<- Ev h r hi ha e3 (by rw[e1];exact ht),<- Ew h q hi ha e3 (by rw[e1];exact hg)];exact this
theorem qA (h:a_ en re tb) (r:IsR L en re tb cs ms) (q:IsR M en re tb ds ns) (c:ClF en re cs ds ms ns f) (hb:b<re.length) (ht:(t:Int)<cs.getD b (-1)) (hm:f'∈ton en ds ms ns b t f) :
  ClF en re cs ds ms ns f'/\(∃v,fa f' b t=some v)/\∀c u x,fa f c u=some x->fa f' c u=some x:=by
 unfold ton at hm;by_cases e:(fa f b t).isSome=true
 ·rw[if_pos e]at hm;obtain rfl:=List.mem_singleton.mp hm;exact⟨c,Option.isSome_iff_exists.mp e,λ_ _ _ x=>x⟩
 ·rw[if_neg e]at hm;obtain⟨g,hg,hm⟩:=List.mem_flatMap.mp hm;have hg:=List.mem_range.mp hg;obtain⟨a1,a2,a3⟩:=uh h r q c hb ht (by omega) (Option.mem_toList.mp hm);exact⟨a1,⟨_,a2⟩,a3⟩
theorem FLt.up {g g':PF} (l:FLt re cs f f') (h1:∀c u x,fa f c u=some x->fa g c u=some x) (h2:∀c u x,fa f' c u=some x->fa g' c u=some x):FLt re cs g g':=by
 obtain⟨b,t,x,x',e1,e2,e3,e4⟩:=l;refine⟨b,t,x,x',h1 _ _ _ e1,h2 _ _ _ e2,e3,λb' t' hb hv=>?_⟩;obtain⟨v,v1,v2⟩:=e4 b' t' hb hv;exact⟨v,h1 _ _ _ v1,h2 _ _ _ v2⟩
theorem Av (h:a_ en re tb) (r:IsR L en re tb cs ms) (q:IsR M en re tb ds ns) {fs:List PF} (hb:b<re.length) (ht:(t:Int)<cs.getD b (-1)) (I:FInv en re cs ds ms ns b t fs):FInv en re cs ds ms ns b (t+1) (tOn en ds ms ns b t fs):=by
 obtain⟨i1,i2,i3⟩:=I;refine⟨λf' hf=>?_,?_,λF hF=>?_⟩
 ·obtain⟨f,hf,hm⟩:=List.mem_flatMap.mp hf;obtain⟨c,hs⟩:=i1 f hf;obtain⟨a1,a2,a3⟩:=qA h r q c hb ht hm;refine⟨a1,λb' t' hB hv=>?_⟩;by_cases e:b'=b/\t'=t
  ·rw[e.1,e.2];exact a2
  ·obtain⟨v,hv⟩:=hs b' t' (by unfold Bef at *;omega) hv;exact⟨v,a3 _ _ _ hv⟩
 ·unfold tOn;rw[List.pairwise_flatMap];refine⟨λf hf=>?_,?_⟩
  ·obtain⟨c,hs⟩:=i1 f hf;unfold ton;by_cases e:(fa f b t).isSome=true
   ·rw[if_pos e];exact List.pairwise_singleton _ _
   ·rw[if_neg e,List.pairwise_flatMap];refine⟨λg _=>?_,?_⟩
    ·cases tal en ms ns b t g (List.range en.length) f with
     | none=>exact List.Pairwise.nil
     | some x=>exact List.pairwise_singleton _ _
    ·refine List.Pairwise.imp_of_mem ?_ (List.pairwise_lt_range (n:=(ds.getD b (-1)).toNat));intro g g' hg hg' hlt x hx y hy;have hg:=List.mem_range.mp hg;have hg':=List.mem_range.mp hg';obtain⟨x1,x2,x3⟩:=uh h r q c hb ht (by omega) (Option.mem_toList.mp hx);obtain⟨y1,y2,y3⟩:=uh h r q c hb ht (by omega) (Option.mem_toList.mp hy);refine⟨b,t,_,_,x2,y2,by omega,λb' t' hB hv=>?_⟩;obtain⟨v,hv⟩:=hs b' t' hB hv;exact⟨v,x3 _ _ _ hv,y3 _ _ _ hv⟩
  ·refine List.Pairwise.imp_of_mem ?_ i2;intro f f' hf hf' hl x hx y hy;obtain⟨_,_,x3⟩:=qA h r q (i1 f hf).1 hb ht hx;obtain⟨_,_,y3⟩:=qA h r q (i1 f' hf').1 hb ht hy;exact hl.up x3 y3
 ·obtain⟨f,hf,x⟩:=i3 F hF;have c:=(i1 f hf).1;by_cases e:(fa f b t).isSome=true
  ·exact⟨f,List.mem_flatMap.mpr ⟨f,hf,by unfold ton;rw[if_pos e];exact List.mem_singleton.mpr rfl⟩,x⟩
  ·have bd:=hF.1 b t hb ht;obtain⟨f',e',x'⟩:=qC (goal:=(F b t).toNat) (ns:=ns) c.1 (qB h r ht) x λa ha ea=>by
    have ha:=List.mem_range.mp ha;have:=hF.2 a t ha (by rw[ea];exact ht);rw[ea]at this;exact this
   refine⟨f',List.mem_flatMap.mpr ⟨f,hf,?_⟩,x'⟩;unfold ton;rw[if_neg e];exact List.mem_flatMap.mpr ⟨(F b t).toNat,List.mem_range.mpr (by omega),by rw[e'];exact Option.mem_toList.mpr rfl⟩
theorem FInv.next {fs:List PF} (I:FInv en re cs ds ms ns b (cs.getD b (-1)).toNat fs):FInv en re cs ds ms ns (b+1) 0 fs:=by
 refine⟨λf hf=>⟨(I.1 f hf).1,λb' t' hB hv=>(I.1 f hf).2 b' t' ?_ hv⟩,I.2⟩;have:=hv.2;unfold Bef at *;by_cases e:b'=b
 ·subst e;omega
 ·omega
def f0 (cs:List Int):PF:=cs.map λc=>List.replicate c.toNat none
theorem zB:fa (f0 cs) b t=none:=by
 unfold fa f0;by_cases hb:b<cs.length
 ·rw[List.getD_eq_getElem?_getD (l:=cs.map _),List.getElem?_map,List.getElem?_eq_getElem hb];show(List.replicate _ none).getD t none=none;rw[List.getD_eq_getElem?_getD];by_cases ht:t<cs[b].toNat
  ·rw[List.getElem?_eq_getElem (by simpa using ht),List.getElem_replicate];rfl
  ·rw[List.getElem?_eq_none (by simpa using ht)];rfl
 ·rw[List.getD_eq_getElem?_getD (l:=cs.map _),List.getElem?_eq_none (by simpa using hb)];rfl
theorem Ef (r:IsR L en re tb cs ms):FInv en re cs ds ms ns 0 0 [f0 cs]:=by
 refine⟨λf hf=>?_,List.pairwise_singleton _ _,λF _=>⟨_,List.mem_singleton.mpr rfl,λb t g e=>by rw[zB]at e;cases e⟩⟩;obtain rfl:=List.mem_singleton.mp hf;refine⟨⟨⟨by unfold f0;rw[List.length_map,r.lc],λb hb=>?_⟩,(λb t g e=>by rw[zB]at e;cases e),(λa t g _ e=>by rw[zB]at e;cases e)⟩,(λb' t' hB=>by unfold Bef at hB;omega)⟩;have:=r.cb b hb;unfold f0;have hb':b<cs.length:=by rw[r.lc];exact hb
 rw[List.getD_eq_getElem?_getD (l:=cs.map _),List.getElem?_map,List.getElem?_eq_getElem hb'];show((List.replicate cs[b].toNat none).length:Int)=_;rw[List.length_replicate,ar hb'];rw[ar hb']at this;omega
def gD (en:List (Nat×Nat)) (cs ds:List Int) (ms ns:List (List Int)):Nat->List PF
 | 0=>[f0 cs]
 | b+1=>(List.range (cs.getD b (-1)).toNat).foldl (λfs t=>tOn en ds ms ns b t fs) (gD en cs ds ms ns b)
theorem qI (h:a_ en re tb) (r:IsR L en re tb cs ms) (q:IsR M en re tb ds ns) {b:Nat} (hb:b<re.length) {fs:List PF} (I:FInv en re cs ds ms ns b 0 fs):∀k:Nat,(k:Int)<=cs.getD b (-1)->FInv en re cs ds ms ns b k ((List.range k).foldl (λfs t=>tOn en ds ms ns b t fs) fs)
 | 0,_=>I
 | k+1,hk=>by
  rw[List.range_succ,List.foldl_append];exact Av h r q hb (by omega) (qI h r q hb I k (by omega))
theorem gP (h:a_ en re tb) (r:IsR L en re tb cs ms) (q:IsR M en re tb ds ns):∀b:Nat,b<=re.length->FInv en re cs ds ms ns b 0 (gD en cs ds ms ns b)
 | 0,_=>Ef r
 | b+1,hb=>by
  have:=r.cb b (by omega);exact(qI h r q (by omega) (gP h r q b (by omega)) (cs.getD b (-1)).toNat (by omega)).next
end
def gI (G:List (List Int)) (b t:Nat):Int:=(G.getD b []).getD t (-1)
def Shw (cs:List Int) (n:Nat) (G:List (List Int)):Prop:=G.length=n/\∀b,b<n->((G.getD b []).length:Int)=cs.getD b (-1)
def tot (f:PF):List (List Int):=f.map λl=>l.map λo=>o.getD (-1)
theorem xS:(tot f).getD b []=(f.getD b []).map λo=>o.getD (-1):=by
 unfold tot;rw[List.getD_eq_getElem?_getD,List.getElem?_map,List.getD_eq_getElem?_getD];cases f[b]?<;>rfl
theorem gE {v:Int} (h:fa f b t=some v):gI (tot f) b t=v:=by
 unfold gI;rw[xS,List.getD_eq_getElem?_getD,List.getElem?_map];unfold fa at h;rw[List.getD_eq_getElem?_getD]at h;cases e:(f.getD b [])[t]? with
 | none=>rw[e]at h;cases h
 | some o=>rw[e]at h;dsimp at h;rw[h];rfl
theorem Shp.tot {cs:List Int} {n:Nat} {f:PF} (s:Shp cs n f):Shw cs n (tot f):=by
 refine⟨by unfold DL.tot;rw[List.length_map];exact s.1,λb hb=>?_⟩;rw[xS,List.length_map];exact s.2 b hb
variable {G:List (List Int)}
theorem Shw.ext {H:List (List Int)} (s:Shw cs n G) (s':Shw cs n H) (h:∀b t:Nat,b<n->(t:Int)<cs.getD b (-1)->gI G b t=gI H b t):G=H:=by
 apply List.ext_getElem (by rw[s.1,s'.1]);intro b h1 h2;have hb:b<n:=by rw[<- s.1];exact h1
 have e1:=s.2 b hb;have e2:=s'.2 b hb;rw[ar h1]at e1;rw[ar h2]at e2;apply List.ext_getElem (by omega);intro t t1 t2;have:=h b t hb (by omega);unfold gI at this;rw[ar h1,ar h2,ar t1,ar t2]at this;exact this
section
variable (en:List (Nat×Nat)) (re:List Nat) (cs ds:List Int) (ms ns:List (List Int))
def IsC (G:List (List Int)):Prop:=Shw cs re.length G/\Ntl en re cs ds ms ns (gI G)
def jk:List (List (List Int)):=(gD en cs ds ms ns re.length).map tot
end
section
variable {en:List (Nat×Nat)} {re:List Nat} {tb:List (List Int)} {cs ds:List Int} {ms ns:List (List Int)} {L M:Nat}
theorem mJ (I:FInv en re cs ds ms ns re.length 0 (gD en cs ds ms ns re.length)) (hf:f∈gD en cs ds ms ns re.length) (hb:b<re.length) (ht:(t:Int)<cs.getD b (-1)):∃v,fa f b t=some v:=(I.1 f hf).2 b t (.inl hb) ⟨hb,ht⟩
theorem nK (h:a_ en re tb) (r:IsR L en re tb cs ms) (q:IsR M en re tb ds ns):G∈jk en re cs ds ms ns↔IsC en re cs ds ms ns G:=by
 have I:=gP h r q re.length (Nat.le_refl _);unfold jk;rw[List.mem_map];constructor
 ·rintro⟨f,hf,rfl⟩;obtain⟨s,cv,cc⟩:=(I.1 f hf).1;refine⟨s.tot,λb t hb ht=>?_,λa t ha ht=>?_⟩
  ·obtain⟨v,hv⟩:=mJ I hf hb ht;rw[gE hv];exact cv _ _ _ hv
  ·obtain⟨v,hv⟩:=mJ I hf (h.eb a ha).1 ht;rw[gE hv,gE (cc a t v ha hv)]
 ·rintro⟨s,hn⟩;obtain⟨f,hf,x⟩:=I.2.2 _ hn;refine⟨f,hf,(I.1 f hf).1.1.tot.ext s λb t hb ht=>?_⟩;obtain⟨v,hv⟩:=mJ I hf hb ht;rw[gE hv,x _ _ _ hv]
theorem Cg (h:a_ en re tb) (r:IsR L en re tb cs ms) (q:IsR M en re tb ds ns):(jk en re cs ds ms ns).Nodup:=by
 have I:=gP h r q re.length (Nat.le_refl _);unfold jk;rw[List.Nodup,List.pairwise_map];refine I.2.1.imp ?_;rintro f f' ⟨b,t,g,g',e1,e2,e3,_⟩ e;have:=gE e1;rw[e,gE e2]at this;omega
theorem xG (h:a_ en re tb) (r:IsR L en re tb cs ms) (q:IsR M en re tb ds ns) {Gs:List (List (List Int))} (nd:Gs.Nodup) (hG:∀G,G∈Gs↔IsC en re cs ds ms ns G):(jk en re cs ds ms ns).Perm Gs :=
 (List.perm_ext_iff_of_nodup (Cg h r q) nd).mpr λG=>(nK h r q).trans (hG G).symm
end
theorem zL {f:Y->D} (l:List Y) (d:Y):enu 0 (l.map f)=(List.range l.length).map λi=>.tup [nD i,f (l.getD i d)]:=by
 rw[kG,List.length_map];apply List.map_congr_left;intro i hi;have hi:=List.mem_range.mp hi;rw[Nat.zero_add,ar (show i<(l.map f).length by simpa using hi),ar hi,List.getElem_map]
theorem Er {A:Rho->R D} {a:D} (ha:A U=.val a) (h:den [a]=.val x):cal 1 den (aC A aN) U=.val x:=by
 simp[ha,h]
theorem oF {A:Rho->R D} {a b:D} (ha:A U=.val a) (hb:B U=.val b) (h:den [a,b]=.val x):cal 2 den (aC A (aC B aN)) U=.val x:=by
 simp[ha,hb,h]
theorem GU {A E:Rho->R D} {a b c e:D} (ha:A U=.val a) (hb:B U=.val b) (hc:C U=.val c) (he:E U=.val e) (h:den [a,b,c,e]=.val x):cal 4 den (aC A (aC B (aC C (aC E aN)))) U=.val x:=by
 simp[ha,hb,hc,he,h]
theorem eC {e:Rho->R D} (h:e U=.val x):asg i e U=.val (.nx (U.set i (sh x))):=by rw[eD,h];rfl
theorem zU {e:Rho->R D} (h:e U=.val x):drp e U=.val (.nx U):=by rw[Eo,h];rfl
theorem fU {t:Rho->R Bool} {a:Rho->R Out} (h:t U=.val false):DL.iff t a nxt U=.val (.nx U):=by rw[bB,h];rfl
theorem C7 (h:A U=.val (.nx U')):sqK A B U=B U':=by
 unfold sqK;rw[h]
theorem kgo {x:R D} (h:A U=.val (.nx U')) (k:B U'=x):sqK A B U=x:=by rw[C7 h];exact k
section
variable {en:List (Nat×Nat)} {re:List Nat} {tb:List (List Int)} {cs:List Int} {ms:List (List Int)} {L:Nat}
theorem g8 (h:a_ en re tb) (r:IsR 40 en re tb cs ms):bT [hlD en re tb,.tup [ao cs,af ms]]=.val .non:=by
 simp only[bT,eB];show fin (DL.iff _ _ _ [sh (hlD en re tb),sh (.tup [ao cs,af ms])])=_;have e:=pC h (r.bd h (by decide));rw[r.tru h (by decide)]at e;have e2:cal 3 cu (aC (vr 0) (aC (bin fix (vb 1) (kd (.int 0))) (aC (bin fix (vb 1) (kd (.int 1))) aN))) [sh (hlD en re tb),sh (.tup [ao cs,af ms])]=.val (.bl true):=t8 (a:=hlD en re tb) (b:=ao cs) (c:=af ms) rfl rfl rfl e;have t:orB (tst (bin fne (una aM (vb 1)) (kd (.int 2)))) (cX (tst (cal 3 cu (aC (vr 0) (aC (bin fix (vb 1) (kd (.int 0))) (aC (bin fix (vb 1) (kd (.int 1))) aN)))))) [sh (hlD en re tb),sh (.tup [ao cs,af ms])]=.val false:=by
  rw[j4,e_,dW _ (cal 3 _ _),e2];rfl
 rw[fU t];rfl
end
def oD:Option Int->D
 | none=>.non
 | some g=>.int g
def prD (l:List (Option Int)):D:=.lst (l.map oD)
def pfD (f:PF):D:=.lst (f.map prD)
theorem uV {l:List (Option Int)} (h:t<l.length):fix (prD l) (.int (t:Int))=.val (oD (l.getD t none)):=i8 (dH h)
theorem Ec (h:b<f.length):fix (pfD f) (.int (b:Int))=.val (prD (f.getD b [])):=i8 (dH h)
theorem uS (h:i<n):ixN n (i:Int)=some i:=by
 unfold ixN;rw[if_pos (Int.natCast_nonneg i),if_pos (Int.ofNat_lt.mpr h),Int.toNat_natCast]
theorem mI (a b:Int):feq (.int a) (.int b)=.val (.bl (decide (a=b))):=by
 by_cases e:a=b
 ·subst e;rw[kB (vU a),decide_eq_true rfl]
 ·rw[kC (vU a) (vU b) (λz=>e (by injection z)),decide_eq_false e]
def wW (l:List (Option Int)) (t:Nat) (g:Int):Bool×List (Option Int):=match l.getD t none with
 | none=>(true,l.set t (some g))
 | some g'=>(decide (g'=g),l)
theorem xx {l:List (Option Int)} {g:Int} (h:t<l.length):dR [prD l] [nD t,.int g]=.val (.bl (wW l t g).1,[prD (wW l t g).2]):=by
 have f:=uV h;unfold dR j7 wW;show R.bind (R.bind (R.bind (R.bind (R.bind (fix (prD l) (nD t)) λd=>.val (pz d)) asB) λc=>if c=true then R.bind (.val (.int g)) (λx=>R.bind (.val []) λpp=>R.bind (.val (nD t)) λn=>sd 0 .s pp (stF n x) [some (.tre (.l .s) (prD l)),sh (nD t),sh (.int g)])else .val [some (.tre (.l .s) (prD l)),sh (nD t),sh (.int g)]) (rtB (bin feq (bin fix (vb 0) (vb 1)) (vb 2)))) (sP [.l .s])=_;rw[show nD t=.int (t:Int)from rfl,f];cases e:l.getD t none with
 | none =>
  have u:sd 0 .s [] (stF (.int (t:Int)) (.int g)) [some (.tre (.l .s) (prD l)),sh (nD t),sh (.int g)]=.val [some (.tre (.l .s) (prD (l.set t (some g)))),sh (nD t),sh (.int g)]:=by
   have s:stF (.int (t:Int)) (.int g) (l.map oD)=.val ((l.map oD).set t (.int g)):=by
    unfold stF;dsimp only;rw[List.length_map,uS h]
   show(if(some (.l .s):Option OK)=some (.l .s)then R.bind (stF (.int (t:Int)) (.int g) (l.map oD)) (λys=>R.val (Y:=Rho) [some (.tre (.l .s) (.lst ys)),sh (nD t),sh (.int g)])else .bad)=_;rw[if_pos rfl,s,ac];unfold prD;rw[List.map_set];rfl
  have q:=uV (l:=l.set t (some g)) (t:=t) (by rw[List.length_set];exact h);rw[List.getD_eq_getElem?_getD (l:=l.set _ _),List.getElem?_set_self h]at q;show R.bind (R.bind (sd 0 .s [] (stF (.int (t:Int)) (.int g)) [some (.tre (.l .s) (prD l)),sh (nD t),sh (.int g)]) (rtB (bin feq (bin fix (vb 0) (vb 1)) (vb 2)))) (sP [.l .s])=_;rw[u,ac];show R.bind (R.bind (R.bind (fix (prD (l.set t (some g))) (.int (t:Int))) λx=>R.bind (.val (.int g)) λy=>feq x y) λd=>.val (d,[some (.tre (.l .s) (prD (l.set t (some g)))),sh (nD t),sh (.int g)])) (sP [.l .s])=_;rw[q];show R.bind (R.bind (feq (.int g) (.int g)) λd=>.val (d,_)) (sP [.l .s])=_;rw[mI,decide_eq_true rfl];rfl
 | some g' =>
  show R.bind (R.bind (R.bind (fix (prD l) (.int (t:Int))) λx=>R.bind (.val (.int g)) λy=>feq x y) λd=>.val (d,[some (.tre (.l .s) (prD l)),sh (nD t),sh (.int g)])) (sP [.l .s])=_;rw[f,e];show R.bind (R.bind (feq (.int g') (.int g)) λd=>.val (d,_)) (sP [.l .s])=_;rw[mI];rfl
variable {P:Rho->R (List Nat)} {pp:List Nat} {ys:List D}
theorem DT {den:List D->List D->R (D×List D)} {Fa:Rho->R (List D)} {k:OK} {b:D} {ds:List D} (h1:P U=.val pp) (h2:U[i]?=some (some (.tre k d))) (h3:Fa U=.val ds) (h4:gn d pp=some (.lst xs)) (h5:gF k pp=some (.l .s)/\xs.all (cn .s)=true/\ds.all (cn .s)=true/\ds.length=n) (h6:den [.lst xs] ds=.val (b,[.lst ys])) (h7:ys.all (cn .s)=true):mvP i P den n Fa U=.val (b,U.set i (some (.tre k (fR d pp (.lst ys))))):=by
 unfold mvP;rw[h1,h2,h3];dsimp only;rw[h4];dsimp only;rw[if_pos h5,h6];dsimp only;rw[if_pos h7]
theorem vn (l:List (Option Int)):(l.map oD).all (cn .s)=true:=by
 rw[List.all_map,List.all_eq_true];intro o _;cases o<;>rfl
theorem C3 (h:b<f.length):gn (pfD f) [b]=some (prD (f.getD b [])):=by
 show(match(f.map prD)[b]? with|some d=>gn d [] | none=>none)=_;rw[dH (d:=[]) h];rfl
theorem Dk (h:b<f.length) (l:List (Option Int)):fR (pfD f) [b] (prD l)=pfD (f.set b l):=by
 show(match(f.map prD)[b]? with|some d=>D.lst ((f.map prD).set b (fR d [] (prD l)))|none=>.lst (f.map prD))=_;rw[dH (d:=[]) h];show D.lst ((f.map prD).set b (prD l))=D.lst ((f.set b l).map prD);rw[List.map_set]
def rT (H one other ch:D) (b t g:Nat) (f:PF) (x y:Option Slt):Rho:=[sh H,sh one,sh other,sh ch,sh (nD b),sh (nD t),sh (nD g),some (.tre (.l (.l .s)) (pfD f)),x,y]
abbrev tlF:Rho->R Out:=(ifM (anM (tst (bin feq (bin fix (vb 9) (kd (.int 0))) (vb 4))) (noM (tsM (mvP 7 (pN 7 (pN0 7) (bin fix (vb 9) (kd (.int 1)))) dR 2 (aC (bin fix (bin fix (bin fix (vb 1) (kd (.int 1))) (vb 8)) (vb 5)) (aC (bin fix (bin fix (bin fix (vb 2) (kd (.int 1))) (vb 8)) (vb 6)) aN))))))
 (ret (eLs (eE aN)))
 nxt)
section
variable {en:List (Nat×Nat)} {re:List Nat} {tb:List (List Int)} {cs ds:List Int} {ms ns:List (List Int)} {L M:Nat}
theorem su (h:b<f.length):f.set b (f.getD b [])=f:=by
 rw[ar h,List.set_getElem_self]
theorem At (h:a_ en re tb) (r:IsR L en re tb cs ms) (q:IsR M en re tb ds ns) (s:Shp cs re.length f) {H ch:D} {x y:Option Slt} (ha:a<en.length) (ht:(t:Int)<cs.getD b (-1)) (hg:(g:Int)<ds.getD b (-1)) :
  tlF (rT H (.tup [ao cs,af ms]) (.tup [ao ds,af ns]) ch b t g f (sh (nD a)) (sh (cx (en.getD a (0,0))))) =
   if(en.getD a (0,0)).1=b then(match stl f (en.getD a (0,0)).2 (aT ms t a) (aG ns g a)with
    | some f'=>.val (.nx (rT H (.tup [ao cs,af ms]) (.tup [ao ds,af ns]) ch b t g f' (sh (nD a)) (sh (cx (en.getD a (0,0))))))
    | none=>.val (.rt (.lst [])))else .val (.nx (rT H (.tup [ao cs,af ms]) (.tup [ao ds,af ns]) ch b t g f (sh (nD a)) (sh (cx (en.getD a (0,0)))))):=by
 have t1:tst (bin feq (bin fix (vb 9) (kd (.int 0))) (vb 4)) (rT H (.tup [ao cs,af ms]) (.tup [ao ds,af ns]) ch b t g f (sh (nD a)) (sh (cx (en.getD a (0,0)))))=.val (decide (((en.getD a (0,0)).1:Int)=(b:Int))):=by
  show R.bind (feq (nD (en.getD a (0,0)).1) (nD b)) asB=_;rw[mI];rfl
 by_cases e:(en.getD a (0,0)).1=b
 ·have eb:=h.eb a ha;have hb:(en.getD a (0,0)).2<f.length:=by rw[s.1];exact eb.2
  obtain⟨p0,p1⟩:=Ah r ha (t:=t) (by rw[e];exact ht);have hl:aT ms t a<(f.getD (en.getD a (0,0)).2 []).length:=by have:=s.2 _ eb.2;omega
  have m:=xx (g:=aG ns g a) hl;have a1:bin fix (bin fix (bin fix (vb 1) (kd (.int 1))) (vb 8)) (vb 5) (rT H (.tup [ao cs,af ms]) (.tup [ao ds,af ns]) ch b t g f (sh (nD a)) (sh (cx (en.getD a (0,0)))))=.val (nD (aT ms t a)):=by
   show R.bind (fix (af ms) (.int (a:Int))) (λx=>fix x (.int (t:Int)))=_;have l:=r.ml a ha;rw[bX (by rw[r.lm];exact ha),ac,bv (by rw[e]at l;omega)];unfold aT nD;rw[Int.toNat_of_nonneg p0]
  have a2:bin fix (bin fix (bin fix (vb 2) (kd (.int 1))) (vb 8)) (vb 6) (rT H (.tup [ao cs,af ms]) (.tup [ao ds,af ns]) ch b t g f (sh (nD a)) (sh (cx (en.getD a (0,0)))))=.val (.int (aG ns g a)):=by
   show R.bind (fix (af ns) (.int (a:Int))) (λx=>fix x (.int (g:Int)))=_;have l:=q.ml a ha;rw[bX (by rw[q.lm];exact ha),ac,bv (by rw[e]at l;omega)];rfl
  have a3:pN 7 (pN0 7) (bin fix (vb 9) (kd (.int 1))) (rT H (.tup [ao cs,af ms]) (.tup [ao ds,af ns]) ch b t g f (sh (nD a)) (sh (cx (en.getD a (0,0)))))=.val [(en.getD a (0,0)).2]:=by
   show(match ixN (f.map prD).length ((en.getD a (0,0)).2:Int)with|some j=>R.val [j] | none=>.bad)=_;rw[List.length_map,uS hb]
  have mv:=DT (den:=dR) (n:=2) (Fa:=aC (bin fix (bin fix (bin fix (vb 1) (kd (.int 1))) (vb 8)) (vb 5)) (aC (bin fix (bin fix (bin fix (vb 2) (kd (.int 1))) (vb 8)) (vb 6)) aN)) (i:=7) (k:=.l (.l .s)) (d:=pfD f) a3 rfl (by rw[bZ,a1,ac,bZ,a2];rfl) (C3 hb) ⟨rfl,vn _,rfl,rfl⟩ m (vn _);rw[show D.lst (List.map oD (wW (f.getD (en.getD a (0,0)).2 []) (aT ms t a) (aG ns g a)).2)=prD (wW (f.getD (en.getD a (0,0)).2 []) (aT ms t a) (aG ns g a)).2 from rfl,Dk hb]at mv;rw[if_pos e,decide_eq_true (show((en.getD a (0,0)).1:Int)=(b:Int) by rw[e])]at *;unfold tlF ifM anM;rw[t1];dsimp only;unfold noM tsM;rw[mv,ac];unfold stl wW fa;cases z:(f.getD (en.getD a (0,0)).2 []).getD (aT ms t a) none with
  | none=>rfl
  | some g' =>
   dsimp only;by_cases w:g'=aG ns g a
   ·rw[if_pos w,su hb,decide_eq_true w];rfl
   ·rw[if_neg w,su hb,decide_eq_false w];rfl
 ·rw[if_neg e];have e':¬ (((en.getD a (0,0)).1:Int)=(b:Int)):=by omega
  rw[decide_eq_false e']at t1;show ifM (anM _ _) _ _ _=_;unfold ifM anM;rw[t1];rfl
end
theorem GT {A E F G J:Rho->R D} {a b c e f g j:D} (ha:A U=.val a) (hb:B U=.val b) (hc:C U=.val c) (he:E U=.val e) (hf:F U=.val f) (hg:G U=.val g) (hj:J U=.val j) (h:den [a,b,c,e,f,g,j]=.val x):cal 7 den (aC A (aC B (aC C (aC E (aC F (aC G (aC J aN))))))) U=.val x:=by
 simp[ha,hb,hc,he,hf,hg,hj,h]
theorem sgo {B:Rho->R Out} {x:R Out} (h:A U=.val (.nx U')) (k:B U'=x):sq A B U=x:=by rw[gp h];exact k
theorem fgo {B:Rho->R Out} {x:R D} (h:A U=.val (.nx U')) (k:fin (B U')=x):fin (sq A B U)=x:=by rw[gp h];exact k
section
variable {en:List (Nat×Nat)} {re:List Nat} {tb:List (List Int)} {cs ds:List Int} {ms ns:List (List Int)} {L M:Nat}
abbrev rdD (cs:List Int) (ms:List (List Int)):D:=.tup [ao cs,af ms]
theorem qD (h:a_ en re tb) (r:IsR L en re tb cs ms) (q:IsR M en re tb ds ns) {H ch:D} {b t g:Nat} (ht:(t:Int)<cs.getD b (-1)) (hg:(g:Int)<ds.getD b (-1)):∀{l:List Nat} {f:PF} {x y:Option Slt},(∀a∈l,a<en.length)->Shp cs re.length f ->
  match tal en ms ns b t g l f with
  | some f'=>∃x' y',aX (tg2 8 9) tlF (l.map λi=>.tup [nD i,cx (en.getD i (0,0))]) (rT H (rdD cs ms) (rdD ds ns) ch b t g f x y)=.val (.nx (rT H (rdD cs ms) (rdD ds ns) ch b t g f' x' y'))
  | none=>aX (tg2 8 9) tlF (l.map λi=>.tup [nD i,cx (en.getD i (0,0))]) (rT H (rdD cs ms) (rdD ds ns) ch b t g f x y)=.val (.rt (.lst []))
 | [],f,x,y,_,_=>⟨x,y,rfl⟩
 | a::l,f,x,y,hl,s=>by
  have ha:=hl a (by simp);have st:=At h r q s (H:=H) (ch:=ch) (x:=x) (y:=y) ha ht hg;have un:aX (tg2 8 9) tlF ((a::l).map λi=>.tup [nD i,cx (en.getD i (0,0))]) (rT H (rdD cs ms) (rdD ds ns) ch b t g f x y)=R.bind (tlF (rT H (rdD cs ms) (rdD ds ns) ch b t g f (sh (nD a)) (sh (cx (en.getD a (0,0)))))) λo=>match o with
   | .nx U2=>aX (tg2 8 9) tlF (l.map λi=>.tup [nD i,cx (en.getD i (0,0))]) U2
   | .ct U2=>aX (tg2 8 9) tlF (l.map λi=>.tup [nD i,cx (en.getD i (0,0))]) U2
   | .bk U2=>.val (.nx U2)
   | .rt d=>.val (.rt d):=Eq.trans rfl rfl
  rw[un,st];unfold tal;by_cases e:(en.getD a (0,0)).1=b
  ·rw[if_pos e,if_pos e];cases z:stl f (en.getD a (0,0)).2 (aT ms t a) (aG ns g a)with
   | none=>rfl
   | some f1 =>
    have v:=qB h r ht a (List.mem_range.mpr ha) e;exact qD h r q ht hg (λc hc=>hl c (by simp[hc])) (uq s v.1 v.2 z).1
  ·rw[if_neg e,if_neg e];exact qD h r q ht hg (λc hc=>hl c (by simp[hc])) s
theorem pA (h:a_ en re tb) (r:IsR L en re tb cs ms) (q:IsR M en re tb ds ns) (ht:(t:Int)<cs.getD b (-1)) (hg:(g:Int)<ds.getD b (-1)) (s:Shp cs re.length f) :
  bH [hlD en re tb,rdD cs ms,rdD ds ns,pfD f,nD b,nD t,nD g]=.val (.lst ((tal en ms ns b t g (List.range en.length) f).toList.map pfD)):=by
 simp only[bH,fY];show sqK _ _ [sh (hlD en re tb),sh (rdD cs ms),sh (rdD ds ns),sh (pfD f),sh (nD b),sh (nD t),sh (nD g),none,none,none]=_;have n6:=h.nb6;have sl:=s.1;have lp:=qD h r q (H:=hlD en re tb) (ch:=pfD f) ht hg (l:=List.range en.length) (x:=none) (y:=none) (λa ha=>List.mem_range.mp ha) s;have hs:∀f:PF,fJ (aC (una (ly 0) (vb 0)) aN) (rT (hlD en re tb) (rdD cs ms) (rdD ds ns) (pfD f) b t g f none none)=.val ((List.range en.length).map λi=>.tup [nD i,cx (en.getD i (0,0))]):=λf=>by rw[<- zL (f:=cx) en (0,0)];rfl
 refine kgo (U':=rT (hlD en re tb) (rdD cs ms) (rdD ds ns) (pfD f) b t g f none none) ?_ ?_
 ·unfold trS;rw[bK,bw (f:=prD) (g:=prD) (l:=f) rfl (by omega) λl _=>rfl];rfl
 ·unfold sqR;rw[bA,hs,ac];cases z:tal en ms ns b t g (List.range en.length) f with
  | none =>
   rw[z]at lp;rw[lp];rfl
  | some f' =>
   rw[z]at lp;obtain⟨x',y',e⟩:=lp;rw[e];rfl
abbrev lat (fs:List PF):Slt:=.own (fs.map pfD)
def rO (H one other bg:D) (b t:Nat) (fs:List PF) (x y:Option Slt):Rho:=[sh H,sh one,sh other,sh bg,sh (nD b),sh (nD t),some (lat fs),x,y]
theorem Eg {e:Rho->R D} (h1:U[i]?=some (some (.own xs))) (h2:e U=.val (.lst ys)) (h3:xs.length+ys.length<100000):ext i e U=.val (.nx (U.set i (some (.own (xs++ys))))):=by
 unfold ext;rw[h1];dsimp only;rw[h2,ac];exact if_pos h3
theorem mY (o:Option Y):o.toList.length<=1:=by cases o<;>simp
theorem sn (b t:Nat) (f:PF) (k:Nat):((List.range k).flatMap λg=>(tal en ms ns b t g (List.range en.length) f).toList).length<=k:=by
 induction k with
 | zero=>simp
 | succ k ih =>
  rw[List.range_succ,List.flatMap_append,List.length_append];have:=mY (tal en ms ns b t k (List.range en.length) f);simp only[List.flatMap_cons,List.flatMap_nil,List.append_nil];omega
theorem vy (h1:1<=k) (hk:(ds.getD b (-1)).toNat=k):(ton en ds ms ns b t f).length<=k:=by
 unfold ton;by_cases e:(fa f b t).isSome=true
 ·rw[if_pos e];exact h1
 ·rw[if_neg e,hk];exact sn b t f k
theorem vA {b t:Nat} {k:Nat} (h1:1<=k) (hk:(ds.getD b (-1)).toNat=k):∀fs:List PF,(tOn en ds ms ns b t fs).length<=fs.length*k
 | []=>Nat.le_of_eq (by simp[tOn])
 | f::fs=>by
  have a:=vy (en:=en) (ms:=ms) (ns:=ns) (t:=t) (f:=f) h1 hk;have b:=vA (t:=t) h1 hk fs;unfold tOn at b ⊢;rw[List.flatMap_cons,List.length_append,List.length_cons,Nat.add_mul];omega
theorem uY (h:a_ en re tb) (r:IsR L en re tb cs ms) (q:IsR M en re tb ds ns) (hb:b<re.length) (ht:(t:Int)<cs.getD b (-1)) (h1:1<=k) (hk:(ds.getD b (-1)).toNat=k) {fs:List PF} (hs:∀f∈fs,Shp cs re.length f) (hl:fs.length*k<=10000) (hf:fs.length<=10000) :
  cN [hlD en re tb,rdD cs ms,rdD ds ns,.lst (fs.map pfD),nD b,nD t]=.val (.lst ((tOn en ds ms ns b t fs).map pfD)):=by
 simp only[cN,ja];show fin (sq _ _ [sh (hlD en re tb),sh (rdD cs ms),sh (rdD ds ns),sh (.lst (fs.map pfD)),sh (nD b),sh (nD t),none,none,none])=_;have cb:=q.cb b hb;have e0:=hk;have dk:ds.getD b (-1)=(k:Int):=by omega
 refine fgo (U':=rO (hlD en re tb) (rdD cs ms) (rdD ds ns) (.lst (fs.map pfD)) b t [] none none) (Eq.trans rfl rfl) ?_;have lp:∀(gs:List PF) (m:Nat),(∀f∈gs,Shp cs re.length f)->∀(acc:List PF) (x y:Option Slt),acc.length+gs.length*k<=10000->∃x' y',aX (tgN 7) (DL.iff (tst (una (λd=>.val (d9 d)) (bin fix (bin fix (vb 7) (vb 4)) (vb 5)))) (app 6 (vr 7)) (aY (bq (aC (bin fix (bin fix (vb 2) (kd (.int 0))) (vb 4)) aN)) (tgN 8) (ext 6 (cal 7 bH (aC (vr 0) (aC (vr 1) (aC (vr 2) (aC (vr 7) (aC (vr 4) (aC (vr 5) (aC (vr 8) aN))))))))))) (gs.map pfD) (rO (hlD en re tb) (rdD cs ms) (rdD ds ns) (.lst (fs.map pfD)) b t acc x y)=.val (.nx (rO (hlD en re tb) (rdD cs ms) (rdD ds ns) (.lst (fs.map pfD)) b t (acc++tOn en ds ms ns b t gs) x' y')):=by
  intro gs m
  induction gs with
  | nil=>intro _ acc x y _;exact⟨x,y,by unfold tOn;rw[List.flatMap_nil,List.append_nil];rfl⟩
  | cons f gs ih =>
   intro hS acc x y ha;have s:=hS f (by simp);rw[List.length_cons,Nat.add_mul]at ha;have tn:=vy (en:=en) (ms:=ms) (ns:=ns) (t:=t) (f:=f) h1 hk;have st:∃y',DL.iff (tst (una (λd=>.val (d9 d)) (bin fix (bin fix (vb 7) (vb 4)) (vb 5)))) (app 6 (vr 7)) (aY (bq (aC (bin fix (bin fix (vb 2) (kd (.int 0))) (vb 4)) aN)) (tgN 8) (ext 6 (cal 7 bH (aC (vr 0) (aC (vr 1) (aC (vr 2) (aC (vr 7) (aC (vr 4) (aC (vr 5) (aC (vr 8) aN)))))))))) (rO (hlD en re tb) (rdD cs ms) (rdD ds ns) (.lst (fs.map pfD)) b t acc (sh (pfD f)) y)=.val (.nx (rO (hlD en re tb) (rdD cs ms) (rdD ds ns) (.lst (fs.map pfD)) b t (acc++ton en ds ms ns b t f) (sh (pfD f)) y')):=by
    have sl:=s.2 b hb;have tt:tst (una (λd=>.val (d9 d)) (bin fix (bin fix (vb 7) (vb 4)) (vb 5))) (rO (hlD en re tb) (rdD cs ms) (rdD ds ns) (.lst (fs.map pfD)) b t acc (sh (pfD f)) y)=.val (fa f b t).isSome:=by
     show R.bind (R.bind (R.bind (fix (pfD f) (.int (b:Int))) λx=>fix x (.int (t:Int))) λd=>.val (d9 d)) asB=_;rw[Ec (by rw[s.1];exact hb),ac,uV (by omega)];show _=R.val ((f.getD b []).getD t none).isSome;cases(f.getD b []).getD t none<;>rfl
    rw[bB,tt,ac];unfold ton;by_cases e:(fa f b t).isSome=true
    ·rw[if_pos e,if_pos e];refine⟨y,?_⟩;have:=jj (i:=6) (e:=vr 7) (xs:=acc.map pfD) (d:=pfD f) (U:=rO (hlD en re tb) (rdD cs ms) (rdD ds ns) (.lst (fs.map pfD)) b t acc (sh (pfD f)) y) rfl rfl (by rw[List.length_map];omega);rw[this];unfold rO lat;rw[List.map_append];rfl
    ·rw[if_neg e,if_neg e,hk];obtain⟨U',e1,y',rfl⟩:=dA (i:=8) (n:=k) (F:=ext 6 (cal 7 bH (aC (vr 0) (aC (vr 1) (aC (vr 2) (aC (vr 7) (aC (vr 4) (aC (vr 5) (aC (vr 8) aN))))))))) (λj U=>∃y',U=rO (hlD en re tb) (rdD cs ms) (rdD ds ns) (.lst (fs.map pfD)) b t (acc++(List.range j).flatMap λg=>(tal en ms ns b t g (List.range en.length) f).toList) (sh (pfD f)) y') (λj U hj hI=>by
      obtain⟨y',rfl⟩:=hI;have tl:=sn (en:=en) (ms:=ms) (ns:=ns) b t f j;have t1:=mY (tal en ms ns b t j (List.range en.length) f);refine⟨_,Eg (i:=6) rfl (GT rfl rfl rfl rfl rfl rfl rfl (pA h r q ht (by rw[dk];omega) s)) (by rw[List.length_map,List.length_map,List.length_append];omega),sh (nD j),?_⟩;rw[List.range_succ,List.flatMap_append];simp only[List.flatMap_cons,List.flatMap_nil,List.append_nil];rw[<- List.append_assoc];unfold rO lat;rw[List.map_append (l₁:=acc++_)];rfl) (U:=rO (hlD en re tb) (rdD cs ms) (rdD ds ns) (.lst (fs.map pfD)) b t acc (sh (pfD f)) y) ⟨y,by simp⟩
     refine⟨y',?_⟩;have sr:bq (aC (bin fix (bin fix (vb 2) (kd (.int 0))) (vb 4)) aN) (rO (hlD en re tb) (rdD cs ms) (rdD ds ns) (.lst (fs.map pfD)) b t acc (sh (pfD f)) y)=.val (rng 0 k):=by
      rw[gv];refine dY ?_ (by omega);show fix (ao ds) (.int (b:Int))=_;rw[bv (by rw[q.lc];exact hb),dk]
     rw[bA,sr,ac,e1]
   obtain⟨y',st⟩:=st;obtain⟨x2,y2,e2⟩:=ih (λc hc=>hS c (by simp[hc])) (acc++ton en ds ms ns b t f) (sh (pfD f)) y' (by rw[List.length_append];omega);refine⟨x2,y2,?_⟩;rw[show tOn en ds ms ns b t (f::gs)=ton en ds ms ns b t f++tOn en ds ms ns b t gs from List.flatMap_cons,<- List.append_assoc,<- e2];show R.bind (DL.iff _ _ _ (rO (hlD en re tb) (rdD cs ms) (rdD ds ns) (.lst (fs.map pfD)) b t acc (sh (pfD f)) y)) _=_;rw[st];rfl
 obtain⟨x',y',e⟩:=lp fs 0 hs [] none none (by simpa using hl);have sr:fIt (vr 3) (rO (hlD en re tb) (rdD cs ms) (rdD ds ns) (.lst (fs.map pfD)) b t [] none none)=.val (fs.map pfD):=Eq.trans rfl rfl;have nx:nxO (aY (fIt (vr 3)) (tgN 7) (DL.iff (tst (una (λd=>.val (d9 d)) (bin fix (bin fix (vb 7) (vb 4)) (vb 5)))) (app 6 (vr 7)) (aY (bq (aC (bin fix (bin fix (vb 2) (kd (.int 0))) (vb 4)) aN)) (tgN 8) (ext 6 (cal 7 bH (aC (vr 0) (aC (vr 1) (aC (vr 2) (aC (vr 7) (aC (vr 4) (aC (vr 5) (aC (vr 8) aN)))))))))))) (rO (hlD en re tb) (rdD cs ms) (rdD ds ns) (.lst (fs.map pfD)) b t [] none none)=.val (.nx (rO (hlD en re tb) (rdD cs ms) (rdD ds ns) (.lst (fs.map pfD)) b t ([]++tOn en ds ms ns b t fs) x' y')):=by
  unfold nxO;rw[bA,sr,ac,e]
 rw[aL,nx,ac];rfl
end
section
variable {en:List (Nat×Nat)} {re:List Nat} {tb:List (List Int)} {cs ds:List Int} {ms ns:List (List Int)} {L M:Nat}
def rmB (cs ds:List Int) (i:Nat):Bool:=decide (0<ds.getD i (-1))||decide (cs.getD i (-1)=0)
theorem tR (hl:cs.length=ds.length) (h6:cs.length<=1000):dQ [ao cs,ao ds]=.val (.bl ((List.range cs.length).all (rmB cs ds))):=by
 simp only[dQ,iD];show fin (ret _ [sh (ao cs),sh (ao ds)])=_;have hc:=gZ (src:=lz (aC (vr 0) (aC (vr 1) aN))) (n:=2) (T:=tg2 2 3) (t:=tT) (e:=orV (bin (iI fgt) (vb 3) (kd (.int 0))) (bin feq (vb 2) (kd (.int 0)))) (f:=λi=>.tup [.int (cs.getD i (-1)),.int (ds.getD i (-1))]) (g:=λi=>.bl (rmB cs ds i)) (p:=λ_=>true) (l:=List.range cs.length) (U:=[sh (ao cs),sh (ao ds)]) (by
   have:=mT (f:=D.int) (g:=D.int) (l:=cs) (m:=ds) (a:=-1) (b:=-1) hl;rw[<- this];rfl) (by rw[List.length_range];omega) λi hi=>by
   refine⟨_,rfl,rfl,?_⟩;show R.bind (.val (.bl (decide (0<ds.getD i (-1))))) (λx=>R.bind (asB x) λc=>if c=true then .val (.bl true)else feq (.int (cs.getD i (-1))) (.int 0))=_;unfold rmB;by_cases e:0<ds.getD i (-1)
   ·rw[decide_eq_true e];rfl
   ·rw[decide_eq_false e,mI];rfl
 rw[List.filter_eq_self.mpr λ_ _=>rfl]at hc;rw[cK,fO,bK,hc,ac,ac,n0];rfl
def pws (cs ds:List Int):Nat->Nat
 | 0=>1
 | b+1=>pws cs ds b*(ds.getD b (-1)).toNat ^ (cs.getD b (-1)).toNat
def Aj (cs ds:List Int) (n:Nat):Prop:=∀b,b<n->0<ds.getD b (-1)\/cs.getD b (-1)=0
theorem AS {c:Nat} (h:1<=k\/c=0):1<=k ^ c:=by
 rcases h with h|rfl
 ·exact Nat.one_le_pow _ _ h
 ·exact Nat.le_refl _
theorem uz {n:Nat} (hr:Aj cs ds n) {b:Nat}:∀{m:Nat},b<=m->m<=n->pws cs ds b<=pws cs ds m
 | 0,h,_=>by rw[Nat.le_zero.mp h];exact Nat.le_refl _
 | m+1,h,hm=>by
  by_cases e:b=m+1
  ·rw[e];exact Nat.le_refl _
  ·have ih:=uz hr (b:=b) (m:=m) (by omega) (by omega);have one:=AS (k:=(ds.getD m (-1)).toNat) (c:=(cs.getD m (-1)).toNat) (by
    rcases hr m (by omega)with z|z
    ·left;omega
    ·right;rw[z];rfl)
   show _<=pws cs ds m*_;exact Nat.le_trans ih (Nat.le_mul_of_pos_right _ one)
def qJ (en:List (Nat×Nat)) (ds:List Int) (ms ns:List (List Int)) (b:Nat) (fs:List PF) (j:Nat):List PF:=(List.range j).foldl (λfs t=>tOn en ds ms ns b t fs) fs
theorem pW (b:Nat) (fs:List PF) (j:Nat):qJ en ds ms ns b fs (j+1)=tOn en ds ms ns b j (qJ en ds ms ns b fs j):=by
 unfold qJ;rw[List.range_succ,List.foldl_append];rfl
theorem m_ {b k:Nat} (h1:1<=k) (hk:(ds.getD b (-1)).toNat=k) {fs:List PF} {m:Nat} (hm:fs.length<=m):∀j:Nat,(qJ en ds ms ns b fs j).length<=m*k ^ j
 | 0=>by rw[Nat.pow_zero,Nat.mul_one];exact hm
 | j+1=>by
  rw[pW,Nat.pow_succ,<- Nat.mul_assoc];exact Nat.le_trans (vA h1 hk _) (Nat.mul_le_mul_right k (m_ h1 hk hm j))
theorem mX {n:Nat} (hr:Aj cs ds n):∀{b:Nat},b<=n->(gD en cs ds ms ns b).length<=pws cs ds b
 | 0,_=>Nat.le_refl _
 | b+1,hb=>by
  have ih:=mX hr (b:=b) (by omega);show(qJ en ds ms ns b (gD en cs ds ms ns b) (cs.getD b (-1)).toNat).length<=pws cs ds b*(ds.getD b (-1)).toNat ^ (cs.getD b (-1)).toNat;rcases hr b (by omega)with z|z
  ·exact m_ (by omega) rfl ih _
  ·rw[z];show(gD en cs ds ms ns b).length<=_;rw[show(0:Int).toNat=0 from rfl,Nat.pow_zero,Nat.mul_one];exact ih
theorem Dv (s:Shp cs n f) (hv:∀b t:Nat,b<n->(t:Int)<cs.getD b (-1)->∃v,fa f b t=some v):pfD f=af (tot f):=by
 unfold pfD af tot;rw[List.map_map]
 congr 1
 apply List.map_congr_left;intro l hl;obtain⟨b,hb,rfl⟩:=List.mem_iff_getElem.mp hl;unfold prD ao;simp only[Function.comp,List.map_map]
 congr 1
 apply List.map_congr_left;intro o ho;obtain⟨t,ht,rfl⟩:=List.mem_iff_getElem.mp ho;have hn:b<n:=by rw[<- s.1];exact hb
 have sl:=s.2 b hn;rw[ar hb]at sl;obtain⟨v,hv⟩:=hv b t hn (by omega);unfold fa at hv;rw[ar hb,ar ht]at hv;rw[hv];rfl
theorem Cf (h:a_ en re tb) (r:IsR L en re tb cs ms) (q:IsR M en re tb ds ns):(gD en cs ds ms ns re.length).map pfD=(jk en re cs ds ms ns).map af:=by
 have I:=gP h r q re.length (Nat.le_refl _);unfold jk;rw[List.map_map];apply List.map_congr_left;intro f hf;exact Dv (I.1 f hf).1.1 λb t hb ht=>mJ I hf hb ht
theorem xH (h:a_ en re tb) (r:IsR L en re tb cs ms) (q:IsR M en re tb ds ns) (hb:b<re.length) (h1:¬ 0<ds.getD b (-1)) (h2:cs.getD b (-1)≠0):jk en re cs ds ms ns=[]:=by
 cases e:jk en re cs ds ms ns with
 | nil=>rfl
 | cons G l =>
  have c:=(nK h r q (G:=G)).mp (by rw[e];simp);have cb:=r.cb b hb;have:=c.2.1 b 0 hb (by omega);omega
def rCh (H one other:D) (fs:List PF) (x y z:Option Slt):Rho:=[sh H,sh one,sh other,some (.tre (.l (.l (.l .s))) (.lst (fs.map pfD))),x,y,z]
theorem DS {p:Nat} {k:OK} {js:List Nat} {ds:List D} (h1:U[i]?=some (some (.tre (.l k) d))) (h2:rdA js U=.val ds) (h3:js[p]?=some i) (h4:ds.length=n) (h5:den ds=.val x) (h6:cn (.l k) x=true):mvW i p n k js den U=.val (.nx (U.set i (some (.tre (.l k) x)))):=by
 unfold mvW;rw[h1,h2];dsimp only;rw[if_pos ⟨rfl,h3,h4⟩,h5];dsimp only;rw[if_pos h6]
theorem BG (fs:List PF):cn (.l (.l (.l .s))) (.lst (fs.map pfD))=true:=by
 show(fs.map pfD).all (cn (.l (.l .s)))=true;rw[List.all_map,List.all_eq_true];intro f _;show(f.map prD).all (cn (.l .s))=true;rw[List.all_map,List.all_eq_true];intro l _;exact vn l
theorem u0 (h:a_ en re tb) (r:IsR 40 en re tb cs ms) (q:IsR 40 en re tb ds ns) (hm:pws cs ds re.length<=2000):dI [hlD en re tb,rdD cs ms,rdD ds ns]=.val (.lst ((jk en re cs ds ms ns).map af)):=by
 simp only[dI,jc];show sqK _ _ [sh (hlD en re tb),sh (rdD cs ms),sh (rdD ds ns),none,none,none,none]=_;have n6:=h.nb6;have lc:=r.lc;have ld:=q.lc;refine kgo (zU (oF rfl rfl (g8 h r))) (kgo (zU (oF rfl rfl (g8 h q))) ?_);have hr:=tR (cs:=cs) (ds:=ds) (by omega) (by omega);have tt:cX (tst (cal 2 dQ (aC (bin fix (vb 1) (kd (.int 0))) (aC (bin fix (vb 2) (kd (.int 0))) aN)))) [sh (hlD en re tb),sh (rdD cs ms),sh (rdD ds ns),none,none,none,none]=.val (!(List.range cs.length).all (rmB cs ds)):=by
  rw[e_,dW,oF (a:=ao cs) (b:=ao ds) rfl rfl hr];rfl
 cases e:(List.range cs.length).all (rmB cs ds)with
 | false =>
  rw[e]at tt;unfold ifK;rw[tt,ac,if_pos (by decide)];obtain⟨b,hb,z⟩:=List.all_eq_false.mp e;have hb:=List.mem_range.mp hb;unfold rmB at z;simp only[Bool.or_eq_true,decide_eq_true_eq,not_or]at z;rw[xH h r q (by omega) z.1 z.2];rfl
 | true =>
  rw[e]at tt;have rm:Aj cs ds re.length:=λb hb=>by
   have:=List.all_eq_true.mp e b (List.mem_range.mpr (by omega));unfold rmB at this;simpa using this
  have ul:∀b,b<=re.length->(gD en cs ds ms ns b).length<=2000:=λb hb=>Nat.le_trans (mX rm hb) (Nat.le_trans (uz rm hb (Nat.le_refl _)) hm);unfold ifK;rw[tt,ac,if_neg (by decide)];refine kgo (U':=rCh (hlD en re tb) (rdD cs ms) (rdD ds ns) [f0 cs] none none none) ?_ ?_
  ·unfold trS eL1;rw[bK,bw (f:=D.int) (g:=λc=>prD (List.replicate c.toNat none)) (l:=cs) rfl (by omega) λc hc=>?_]
   ·show R.val (Out.nx [sh (hlD en re tb),sh (rdD cs ms),sh (rdD ds ns),some (.tre (.l (.l (.l .s))) (D.lst [D.lst (cs.map λc=>prD (List.replicate c.toNat none))])),none,none,none])=_;unfold rCh pfD f0;rw[List.map_cons,List.map_map];rfl
   ·obtain⟨i,hi,rfl⟩:=List.mem_iff_getElem.mp hc;have cb:=r.cb i (by omega);rw[ar hi]at cb;show uU (.lst [.non]) (.int cs[i])=_;unfold uU;dsimp only;rw[if_pos (by simp;omega),List.flatten_replicate_singleton];unfold prD;rw[List.map_replicate];rfl
  ·have hs:fJ (aC (bin fix (vb 1) (kd (.int 0))) aN) (rCh (hlD en re tb) (rdD cs ms) (rdD ds ns) [f0 cs] none none none)=.val ((List.range re.length).map λi=>.tup [nD i,.int (cs.getD i (-1))]):=by
    rw[<- lc,<- zL (f:=D.int) cs (-1)];rfl
   have lp:∀n:Nat,n<=re.length->∃x y z,aX (tg2 4 5) (aY (bq (aC (vr 5) aN)) (tgN 6) (mvW 3 3 6 (.l (.l .s)) [0,1,2,3,4,6] cN)) ((List.range n).map λi=>.tup [nD i,.int (cs.getD i (-1))]) (rCh (hlD en re tb) (rdD cs ms) (rdD ds ns) [f0 cs] none none none)=.val (.nx (rCh (hlD en re tb) (rdD cs ms) (rdD ds ns) (gD en cs ds ms ns n) x y z)):=by
    intro n hn;obtain⟨U',e1,x,y,z,rfl⟩:=fM (T:=tg2 4 5) (F:=aY (bq (aC (vr 5) aN)) (tgN 6) (mvW 3 3 6 (.l (.l .s)) [0,1,2,3,4,6] cN)) (xs:=(List.range n).map λi=>D.tup [nD i,.int (cs.getD i (-1))]) (λi U=>∃x y z,U=rCh (hlD en re tb) (rdD cs ms) (rdD ds ns) (gD en cs ds ms ns i) x y z) (λi d U hi hI=>by
     obtain⟨x,y,z,rfl⟩:=hI;have hb:i<n:=by
      have:=(List.getElem?_eq_some_iff.mp hi).1;simpa using this
     obtain rfl:d=.tup [nD i,.int (cs.getD i (-1))]:=by
      rw[List.getElem?_map,List.getElem?_range hb]at hi;exact(Option.some.inj hi).symm
     have hb:i<re.length:=by omega
     have cb:=r.cb i hb;have I:=gP h r q i (by omega);have len:=mX (en:=en) (ms:=ms) (ns:=ns) rm (b:=i) (by omega);obtain⟨U',e1,z',rfl⟩:=dA (i:=6) (n:=(cs.getD i (-1)).toNat) (F:=mvW 3 3 6 (.l (.l .s)) [0,1,2,3,4,6] cN) (λj U=>∃z,U=rCh (hlD en re tb) (rdD cs ms) (rdD ds ns) (qJ en ds ms ns i (gD en cs ds ms ns i) j) (sh (nD i)) (sh (.int (cs.getD i (-1)))) z) (λj U hj hI=>by
      obtain⟨z,rfl⟩:=hI;have k1:1<=(ds.getD i (-1)).toNat:=by
       rcases rm i hb with w|w
       ·omega
       ·rw[w]at hj;simp at hj
      have J:=qI h r q hb I j (by omega);have l1:=m_ (en:=en) (ms:=ms) (ns:=ns) k1 rfl len j;have up:pws cs ds i*(ds.getD i (-1)).toNat ^ (j+1)<=2000:=by
       refine Nat.le_trans (Nat.mul_le_mul_left _ (Nat.pow_le_pow_right k1 (show j+1<=(cs.getD i (-1)).toNat by omega))) ?_;exact Nat.le_trans (uz rm (b:=i+1) (by omega) (Nat.le_refl _)) hm
      rw[Nat.pow_succ,<- Nat.mul_assoc]at up;have l2:=Nat.le_trans (Nat.mul_le_mul_right (ds.getD i (-1)).toNat l1) up;have l3:(qJ en ds ms ns i (gD en cs ds ms ns i) j).length<=(qJ en ds ms ns i (gD en cs ds ms ns i) j).length*(ds.getD i (-1)).toNat:=Nat.le_mul_of_pos_right _ k1;refine⟨_,DS (U:=rCh (hlD en re tb) (rdD cs ms) (rdD ds ns) (qJ en ds ms ns i (gD en cs ds ms ns i) j) (sh (nD i)) (sh (.int (cs.getD i (-1)))) (sh (nD j))) rfl rfl rfl rfl (uY h r q hb (by omega) k1 rfl (λf hf=>(J.1 f hf).1.1) (by omega) (by omega)) (BG _),sh (nD j),?_⟩;rw[pW];rfl) (U:=rCh (hlD en re tb) (rdD cs ms) (rdD ds ns) (gD en cs ds ms ns i) (sh (nD i)) (sh (.int (cs.getD i (-1)))) z) ⟨z,rfl⟩
     refine⟨_,rCh (hlD en re tb) (rdD cs ms) (rdD ds ns) (gD en cs ds ms ns (i+1)) (sh (nD i)) (sh (.int (cs.getD i (-1)))) z',rfl,?_,_,_,_,rfl⟩
     ·have sr:bq (aC (vr 5) aN) (rCh (hlD en re tb) (rdD cs ms) (rdD ds ns) (gD en cs ds ms ns i) (sh (nD i)) (sh (.int (cs.getD i (-1)))) z)=.val (rng 0 (cs.getD i (-1)).toNat):=kf cb.1 (by omega);show R.bind (bq (aC (vr 5) aN) (rCh (hlD en re tb) (rdD cs ms) (rdD ds ns) (gD en cs ds ms ns i) (sh (nD i)) (sh (.int (cs.getD i (-1)))) z)) _=_;rw[sr,ac];exact e1) ⟨none,none,none,rfl⟩
    rw[List.length_map,List.length_range]at *;exact⟨x,y,z,e1⟩
   obtain⟨x,y,z,e1⟩:=lp re.length (Nat.le_refl _);refine kgo (U':=rCh (hlD en re tb) (rdD cs ms) (rdD ds ns) (gD en cs ds ms ns re.length) x y z) ?_ ?_
   ·rw[bA,hs,ac,e1]
   ·rw[<- Cf h r q];rfl
end
section
variable (re:List Nat) (cs:List Int)
def LtV (G G':List (List Int)):Prop:=∃b t,Val re cs b t/\(∀b' t',Bef b' t' b t->Val re cs b' t'->gI G b' t'=gI G' b' t')/\gI G b t<gI G' b t
end
section
variable {en:List (Nat×Nat)} {re:List Nat} {tb:List (List Int)} {cs ds:List Int} {ms ns:List (List Int)} {L M:Nat}
theorem LtV.asym {G':List (List Int)} (h:LtV re cs G G') (h':LtV re cs G' G):False:=by
 obtain⟨b,t,v,e,l⟩:=h;obtain⟨b2,t2,v2,e2,l2⟩:=h';by_cases c1:Bef b t b2 t2
 ·have:=e2 b t c1 v;omega
 ·by_cases c2:Bef b2 t2 b t
  ·have:=e b2 t2 c2 v2;omega
  ·unfold Bef at c1 c2;have hb:b=b2:=by omega
   subst hb;have ht:t=t2:=by omega
   subst ht;omega
theorem Ch (h:a_ en re tb) (r:IsR L en re tb cs ms) (q:IsR M en re tb ds ns):(jk en re cs ds ms ns).Pairwise (LtV re cs):=by
 have I:=gP h r q re.length (Nat.le_refl _);unfold jk;rw[List.pairwise_map];refine List.Pairwise.imp_of_mem ?_ I.2.1;rintro f f' hf hf' ⟨b,t,g,g',e1,e2,e3,e4⟩;have v:=(I.1 f hf).1.1.at e1;refine⟨b,t,v,λb' t' hB hv=>?_,by rw[gE e1,gE e2];exact e3⟩;obtain⟨x,x1,x2⟩:=e4 b' t' hB hv;rw[gE x1,gE x2]
end
def rws (m:Nat):Nat->List (List Int)
 | 0=>[[]]
 | n+1=>(rws m n).flatMap λrow=>(List.range m).map λ(x:Nat)=>row++[(x:Int)]
theorem mem_rws {m:Nat}:∀{n:Nat} {row:List Int},row∈rws m n↔row.length=n/\∀x∈row,0<=x/\x<(m:Int)
 | 0,row=>by
  unfold rws;rw[List.mem_singleton];exact⟨λe=>by rw[e];exact⟨rfl,λx hx=>by cases hx⟩,λe=>List.eq_nil_of_length_eq_zero e.1⟩
 | n+1,row=>by
  unfold rws;rw[List.mem_flatMap];constructor
  ·rintro⟨r,hr,hq⟩;obtain⟨x,hx,rfl⟩:=List.mem_map.mp hq;have hx:=List.mem_range.mp hx;obtain⟨r1,r2⟩:=mem_rws.mp hr;refine⟨by rw[List.length_append,r1];rfl,λy hy=>?_⟩;rcases List.mem_append.mp hy with hy|hy
   ·exact r2 y hy
   ·rw[List.mem_singleton.mp hy];omega
  ·rintro⟨h1,h2⟩;have ne:row≠[]:=λz=>by rw[z]at h1;simp at h1
   have hl:=h2 _ (List.getLast_mem ne);refine⟨row.dropLast,mem_rws.mpr ⟨by rw[List.length_dropLast,h1];rfl,λx hx=>h2 x ((List.dropLast_sublist row).subset hx)⟩,List.mem_map.mpr ⟨(row.getLast ne).toNat,List.mem_range.mpr (by omega),?_⟩⟩;rw[Int.toNat_of_nonneg hl.1,List.dropLast_concat_getLast]
theorem mw {m:Nat}:∀n:Nat,(rws m n).length=m ^ n
 | 0=>rfl
 | n+1=>by
  unfold rws;rw[List.length_flatMap];simp only[List.length_map,List.length_range];rw[List.map_const',List.sum_replicate_nat,mw n,Nat.pow_succ]
def LtR (r r':List Int):Prop:=∃t,t<r.length/\t<r'.length/\(∀t',t'<t->r.getD t' (-1)=r'.getD t' (-1))/\r.getD t (-1)<r'.getD t (-1)
theorem LtR.app {r':List Int} {x x':Int} (h:LtR r r'):LtR (r++[x]) (r'++[x']):=by
 obtain⟨t,h1,h2,h3,h4⟩:=h;refine⟨t,by rw[List.length_append];omega,by rw[List.length_append];omega,λt' ht=>?_,?_⟩
 ·rw[oJ (by omega),oJ (by omega)];exact h3 t' ht
 ·rw[oJ h1,oJ h2];exact h4
theorem yg {m:Nat}:∀n:Nat,(rws m n).Pairwise LtR
 | 0=>List.pairwise_singleton _ _
 | n+1=>by
  unfold rws;rw[List.pairwise_flatMap];refine⟨λr _=>?_,List.Pairwise.imp ?_ (yg n)⟩
  ·rw[List.pairwise_map];refine List.Pairwise.imp ?_ List.pairwise_lt_range;intro x x' hx;refine⟨r.length,by rw[List.length_append];simp,by rw[List.length_append];simp,λt' ht=>?_,?_⟩
   ·rw[oJ ht,oJ ht]
   ·rw[Ae (Nat.le_refl _),Ae (Nat.le_refl _),Nat.sub_self];show(x:Int)<(x':Int);omega
  ·intro r r' hl y hy z hz;obtain⟨x,_,rfl⟩:=List.mem_map.mp hy;obtain⟨x',_,rfl⟩:=List.mem_map.mp hz;exact hl.app
def fms (cs ds:List Int):Nat->List (List (List Int))
 | 0=>[[]]
 | b+1=>(fms cs ds b).flatMap λch=>(rws (ds.getD b (-1)).toNat (cs.getD b (-1)).toNat).map λrow=>ch++[row]
theorem mH {cs ds:List Int}:∀b:Nat,(fms cs ds b).length=pws cs ds b
 | 0=>rfl
 | b+1=>by
  unfold fms pws;rw[List.length_flatMap];simp only[List.length_map];rw[List.map_const',List.sum_replicate_nat,mH b,mw]
theorem wO (h:b<G.length):(G++[r]).getD b []=G.getD b []:=by
 rw[List.getD_eq_getElem?_getD,List.getElem?_append_left h,<- List.getD_eq_getElem?_getD]
theorem wN:(G++[r]).getD G.length []=r:=by
 rw[List.getD_eq_getElem?_getD,List.getElem?_append_right (Nat.le_refl _),Nat.sub_self];rfl
theorem io {cs ds:List Int}:∀{n:Nat} {G:List (List Int)},(∀b,b<n->0<=cs.getD b (-1))->(G∈fms cs ds n↔Shw cs n G/\∀b,b<n->∀x∈G.getD b [],0<=x/\x<ds.getD b (-1))
 | 0,G,_=>by
  unfold fms;rw[List.mem_singleton];exact⟨λe=>by rw[e];exact⟨⟨rfl,λb hb=>by omega⟩,λb hb=>by omega⟩,λe=>List.eq_nil_of_length_eq_zero e.1.1⟩
 | n+1,G,hc=>by
  have c0:=hc n (by omega);unfold fms;rw[List.mem_flatMap];constructor
  ·rintro⟨ch,hch,hq⟩;obtain⟨row,hrow,rfl⟩:=List.mem_map.mp hq;clear hq;obtain⟨⟨l1,l2⟩,l3⟩:=(io λb hb=>hc b (by omega)).mp hch;obtain⟨r1,r2⟩:=mem_rws.mp hrow;have at_:∀b,b<n+1->(b<n/\(ch++[row]).getD b []=ch.getD b [])\/(b=n/\(ch++[row]).getD b []=row):=λb hb=>by
    by_cases e:b<n
    ·exact .inl ⟨e,wO (by omega)⟩
    ·have:b=ch.length:=by omega
     exact .inr ⟨by omega,by rw[this];exact wN⟩
   refine⟨⟨by rw[List.length_append,l1];rfl,λb hb=>?_⟩,λb hb x hx=>?_⟩
   ·rcases at_ b hb with⟨z1,z2⟩|⟨rfl,z2⟩
    ·rw[z2];exact l2 b z1
    ·rw[z2,r1];omega
   ·rcases at_ b hb with⟨z1,z2⟩|⟨rfl,z2⟩
    ·rw[z2]at hx;exact l3 b z1 x hx
    ·rw[z2]at hx;have:=r2 x hx;omega
  ·rintro⟨⟨l1,l2⟩,l3⟩;have ne:G≠[]:=λz=>by rw[z]at l1;simp at l1
   have ge:G.dropLast++[G.getLast ne]=G:=List.dropLast_concat_getLast ne;have dl:G.dropLast.length=n:=by rw[List.length_dropLast,l1];rfl
   have e1:∀b,b<n->G.getD b []=G.dropLast.getD b []:=λb hb=>by
    have z:=wO (G:=G.dropLast) (r:=G.getLast ne) (b:=b) (by omega);rw[ge]at z;exact z
   have e2:G.getD n []=G.getLast ne:=by
    have z:=wN (G:=G.dropLast) (r:=G.getLast ne);rw[ge,dl]at z;exact z
   refine⟨G.dropLast,(io λb hb=>hc b (by omega)).mpr ⟨⟨dl,λb hb=>by rw[<- e1 b hb];exact l2 b (by omega)⟩,λb hb=>by rw[<- e1 b hb];exact l3 b (by omega)⟩,List.mem_map.mpr ⟨G.getLast ne,mem_rws.mpr ⟨?_,λx hx=>?_⟩,ge⟩⟩
   ·have:=l2 n (by omega);rw[e2]at this;omega
   ·have:=l3 n (by omega) x (by rw[e2];exact hx);omega
def LtB (n:Nat) (G G':List (List Int)):Prop:=∃b t,b<n/\t<(G.getD b []).length/\(∀b' t',Bef b' t' b t->gI G b' t'=gI G' b' t')/\gI G b t<gI G' b t
theorem xv (h:b<G.length):gI (G++[r]) b t=gI G b t:=by
 unfold gI;rw[wO h]
theorem zm {cs ds:List Int}:∀n:Nat,(∀b,b<n->0<=cs.getD b (-1))->(fms cs ds n).Pairwise (LtB n)
 | 0,_=>List.pairwise_singleton _ _
 | n+1,hc=>by
  have ln:∀ch,ch∈fms cs ds n->ch.length=n:=λch h=>((io λb hb=>hc b (by omega)).mp h).1.1;unfold fms;rw[List.pairwise_flatMap];refine⟨λch hch=>?_,List.Pairwise.imp_of_mem ?_ (zm n λb hb=>hc b (by omega))⟩
  ·have l:=ln ch hch;rw[List.pairwise_map];refine List.Pairwise.imp ?_ (yg _);rintro r r' ⟨t,h1,h2,h3,h4⟩;have g:∀(x:List Int) (u:Nat),gI (ch++[x]) n u=x.getD u (-1):=λx u=>by
    unfold gI;rw[<- l,wN]
   refine⟨n,t,by omega,by rw[<- l,wN];exact h1,λb' t' hB=>?_,by rw[g,g];exact h4⟩;unfold Bef at hB;by_cases e:b'<n
   ·rw[xv (by omega),xv (by omega)]
   ·have:b'=n:=by omega
    subst this;rw[g,g];exact h3 t' (by omega)
  ·intro ch ch' hch hch' hl y hy z hz;obtain⟨x,_,rfl⟩:=List.mem_map.mp hy;obtain⟨x',_,rfl⟩:=List.mem_map.mp hz;have l:=ln ch hch;have l':=ln ch' hch';obtain⟨b,t,h1,h2,h3,h4⟩:=hl;refine⟨b,t,by omega,by rw[wO (by omega)];exact h2,λb' t' hB=>?_,by rw[xv (by omega),xv (by omega)];exact h4⟩;have:b'<n:=by unfold Bef at hB;omega
   rw[xv (by omega),xv (by omega)];exact h3 b' t' hB
section
variable {en:List (Nat×Nat)} {re:List Nat} {tb:List (List Int)} {cs ds:List Int} {ms ns:List (List Int)} {L M:Nat}
def isA (en:List (Nat×Nat)) (ms ns:List (List Int)) (G:List (List Int)) (a t:Nat):Bool:=decide (gI G (en.getD a (0,0)).2 (aT ms t a)=aG ns (gI G (en.getD a (0,0)).1 t).toNat a)
def Bw (en:List (Nat×Nat)) (cs:List Int) (ms ns:List (List Int)) (G:List (List Int)):Bool:=(List.range en.length).all λa=>(List.range (cs.getD (en.getD a (0,0)).1 (-1)).toNat).all (isA en ms ns G a)
def due (en:List (Nat×Nat)) (re:List Nat) (cs ds:List Int) (ms ns:List (List Int)):List (List (List Int)):=(fms cs ds re.length).filter (Bw en cs ms ns)
theorem Bp (r:IsR L en re tb cs ms):G∈due en re cs ds ms ns↔IsC en re cs ds ms ns G:=by
 unfold due;rw[List.mem_filter,io λb hb=>(r.cb b hb).1];constructor
 ·rintro⟨⟨s,hb⟩,hn⟩;refine⟨s,λb t hb' ht=>?_,λa t ha ht=>?_⟩
  ·have l:=s.2 b hb';have tl:t<(G.getD b []).length:=by omega
   exact hb b hb' _ (by unfold gI;rw[ar tl];exact List.getElem_mem tl)
  ·have:=List.all_eq_true.mp (List.all_eq_true.mp hn a (List.mem_range.mpr ha)) t (List.mem_range.mpr (by omega));exact of_decide_eq_true this
 ·rintro⟨s,c1,c2⟩;refine⟨⟨s,λb hb x hx=>?_⟩,List.all_eq_true.mpr λa ha=>List.all_eq_true.mpr λt ht=>decide_eq_true (c2 a t (List.mem_range.mp ha) (by have:=List.mem_range.mp ht;omega))⟩;obtain⟨t,ht,rfl⟩:=List.mem_iff_getElem.mp hx;have:=c1 b t hb (by rw[<- s.2 b hb];omega);unfold gI at this;rw[ar ht]at this;exact this
theorem zT (h:a_ en re tb) (r:IsR L en re tb cs ms) (q:IsR M en re tb ds ns):due en re cs ds ms ns=jk en re cs ds ms ns:=by
 have pw:(due en re cs ds ms ns).Pairwise (LtV re cs):=by
  unfold due;refine List.Pairwise.filter _ (List.Pairwise.imp_of_mem ?_ (zm re.length λb hb=>(r.cb b hb).1));rintro G G' hG hG' ⟨b,t,h1,h2,h3,h4⟩;have s:=((io λb hb=>(r.cb b hb).1).mp hG).1;exact⟨b,t,⟨h1,by rw[<- s.2 b h1];omega⟩,λb' t' hB _=>h3 b' t' hB,h4⟩
 have nd:(due en re cs ds ms ns).Nodup:=pw.imp λhl e=>by rw[e]at hl;exact hl.asym hl
 exact(List.Perm.eq_of_pairwise (λa b _ _ x y=>(x.asym y).elim) (Ch h r q) pw (xG h r q nd λG=>Bp r)).symm
end
theorem wv (h:ms.length<=100000):cF [af ms]=.val (af ms):=by
 simp only[cF,iA];show fin (ret (eLs _) [sh (af ms)])=_;rw[cK,bK,bw (f:=ao) (g:=ao) (l:=ms) rfl h λa _=>rfl];rfl
theorem BU {l:List Int} (hl:l.length<=100000):dO [ao l,ao l]=.val (.bl true):=by
 simp only[dO,iw];show fin (sq _ _ [sh (ao l),sh (ao l),none])=_;have s1:DL.iff (orB (cX (tst (una (jJ "list") (vb 0)))) (tst (bin fne (una aM (vb 0)) (una aM (vb 1))))) (ret (kd (.bl false))) nxt [sh (ao l),sh (ao l),none]=.val (.nx [sh (ao l),sh (ao l),none]):=by
  refine fU ?_;have t1:tst (una (jJ "list") (vb 0)) [sh (ao l),sh (ao l),none]=.val true:=Eq.trans rfl rfl;rw[j4,e_,t1];simp
 rw[gp s1];have fe:=ky (src:=bq (aC (una aM (vb 1)) aN)) (T:=tgN 2) (F:=DL.iff (orB (cX (tst (una (jJ "int") (bin fix (vb 0) (vb 2))))) (orB (tst (una (jJ "bool") (bin fix (vb 0) (vb 2)))) (tst (bin fne (bin fix (vb 0) (vb 2)) (bin fix (vb 1) (vb 2)))))) (ret (kd (.bl false))) nxt) (f:=nD) (ok:=λ_=>true) (l:=List.range l.length) (U:=[sh (ao l),sh (ao l),none]) (λU=>∃x,U=[sh (ao l),sh (ao l),x]) (dY (by simp) hl) (λi hi U hI=>by
  obtain⟨x,rfl⟩:=hI;have hi:=List.mem_range.mp hi;have f:=bv (r:=l) hi;refine⟨_,rfl,(λz=>by cases z),λ_=>⟨_,fU (U:=[sh (ao l),sh (ao l),sh (nD i)]) ?_,_,rfl⟩⟩;have v0:bin fix (vb 0) (vb 2) [sh (ao l),sh (ao l),sh (nD i)]=.val (.int (l.getD i (-1))):=f;have v1:bin fix (vb 1) (vb 2) [sh (ao l),sh (ao l),sh (nD i)]=.val (.int (l.getD i (-1))):=f;have t1:tst (una (jJ "int") (bin fix (vb 0) (vb 2))) [sh (ao l),sh (ao l),sh (nD i)]=.val true:=by rw[dW,fO,v0];rfl
  have t2:tst (una (jJ "bool") (bin fix (vb 0) (vb 2))) [sh (ao l),sh (ao l),sh (nD i)]=.val false:=by rw[dW,fO,v0];rfl
  have t3:tst (bin fne (bin fix (vb 0) (vb 2)) (bin fix (vb 1) (vb 2))) [sh (ao l),sh (ao l),sh (nD i)]=.val false:=by
   rw[dW,ca,v0,v1,ac,ac,zk];simp
  rw[j4,e_,t1,ac,ac,if_neg (by decide),j4,t2,ac,if_neg (by decide),t3]) ⟨_,rfl⟩
 rw[fe,List.all_eq_true.mpr λ_ _=>rfl]
theorem BS (hm:ms.length<=100000) (hr:∀l∈ms,l.length<=100000):bN [af ms,af ms]=.val (.bl true):=by
 simp only[bN,dL];show fin (sq _ _ [sh (af ms),sh (af ms),none,none])=_;have s1:DL.iff (orB (cX (tst (una (jJ "list") (vb 0)))) (tst (bin fne (una aM (vb 0)) (una aM (vb 1))))) (ret (kd (.bl false))) nxt [sh (af ms),sh (af ms),none,none]=.val (.nx [sh (af ms),sh (af ms),none,none]):=by
  refine fU ?_;have t1:tst (una (jJ "list") (vb 0)) [sh (af ms),sh (af ms),none,none]=.val true:=Eq.trans rfl rfl;rw[j4,e_,t1];simp
 rw[gp s1];have fe:=ky (src:=lz (aC (vr 0) (aC (vr 1) aN))) (T:=tg2 2 3) (F:=DL.iff (cX (tst (cal 2 dO (aC (vr 2) (aC (vr 3) aN))))) (ret (kd (.bl false))) nxt) (f:=λi=>.tup [ao (ms.getD i []),ao (ms.getD i [])]) (ok:=λ_=>true) (l:=List.range ms.length) (U:=[sh (af ms),sh (af ms),none,none]) (λU=>∃x y,U=[sh (af ms),sh (af ms),x,y]) (by
   have:=mT (f:=ao) (g:=ao) (l:=ms) (m:=ms) (a:=[]) (b:=[]) rfl;rw[<- this];rfl) (λi hi U hI=>by
  obtain⟨x,y,rfl⟩:=hI;have hi:=List.mem_range.mp hi;refine⟨_,rfl,(λz=>by cases z),λ_=>⟨_,fU (U:=[sh (af ms),sh (af ms),sh (ao (ms.getD i [])),sh (ao (ms.getD i []))]) ?_,_,_,rfl⟩⟩;rw[e_,dW,oF (a:=ao (ms.getD i [])) (b:=ao (ms.getD i [])) rfl rfl (BU (by rw[ar hi];exact hr _ (List.getElem_mem hi)))];rfl) ⟨_,_,rfl⟩
 rw[fe,List.all_eq_true.mpr λ_ _=>rfl]
theorem wt {Gs:List (List (List Int))} (h1:Gs.length<=100000) (h2:∀G∈Gs,G.length<=100000/\∀l∈G,l.length<=100000):bQ [.lst (Gs.map af),.lst (Gs.map af)]=.val (.bl true):=by
 simp only[bQ,iq];show fin (sq _ _ [sh (.lst (Gs.map af)),sh (.lst (Gs.map af)),none,none])=_;have s1:DL.iff (orB (cX (tst (una (jJ "list") (vb 0)))) (tst (bin fne (una aM (vb 0)) (una aM (vb 1))))) (ret (kd (.bl false))) nxt [sh (.lst (Gs.map af)),sh (.lst (Gs.map af)),none,none]=.val (.nx [sh (.lst (Gs.map af)),sh (.lst (Gs.map af)),none,none]):=by
  refine fU ?_;have t1:tst (una (jJ "list") (vb 0)) [sh (.lst (Gs.map af)),sh (.lst (Gs.map af)),none,none]=.val true:=Eq.trans rfl rfl;rw[j4,e_,t1];simp
 rw[gp s1];have fe:=ky (src:=lz (aC (vr 0) (aC (vr 1) aN))) (T:=tg2 2 3) (F:=DL.iff (cX (tst (cal 2 bN (aC (vr 2) (aC (vr 3) aN))))) (ret (kd (.bl false))) nxt) (f:=λi=>.tup [af (Gs.getD i []),af (Gs.getD i [])]) (ok:=λ_=>true) (l:=List.range Gs.length) (U:=[sh (.lst (Gs.map af)),sh (.lst (Gs.map af)),none,none]) (λU=>∃x y,U=[sh (.lst (Gs.map af)),sh (.lst (Gs.map af)),x,y]) (by
   have:=mT (f:=af) (g:=af) (l:=Gs) (m:=Gs) (a:=[]) (b:=[]) rfl;rw[<- this];rfl) (λi hi U hI=>by
  obtain⟨x,y,rfl⟩:=hI;have hi:=List.mem_range.mp hi;have hm:Gs.getD i []∈Gs:=by rw[ar hi];exact List.getElem_mem hi
  refine⟨_,rfl,(λz=>by cases z),λ_=>⟨_,fU (U:=[sh (.lst (Gs.map af)),sh (.lst (Gs.map af)),sh (af (Gs.getD i [])),sh (af (Gs.getD i []))]) ?_,_,_,rfl⟩⟩;rw[e_,dW,oF (a:=af (Gs.getD i [])) (b:=af (Gs.getD i [])) rfl rfl (BS (h2 _ hm).1 (h2 _ hm).2)];rfl) ⟨_,_,rfl⟩
 rw[fe,List.all_eq_true.mpr λ_ _=>rfl]
theorem nO {Y β:Type} {T:D->Rho->Option Rho} {F:Rho->R Out} {f:Y->D} {g:Y->List β} {N:Nat} (I:List β->Rho->Prop):∀{l:List Y} {acc:List β} {U:Rho},(∀a∈l,∀acc U,I acc U->acc.length+(g a).length<=N->∃U1 U2,T (f a) U=some U1/\F U1=.val (.nx U2)/\I (acc++g a) U2)->I acc U->acc.length+(l.flatMap g).length<=N ->
  ∃U',aX T F (l.map f) U=.val (.nx U')/\I (acc++l.flatMap g) U'
 | [],acc,U,_,h,_=>⟨U,rfl,by simpa using h⟩
 | a::l,acc,U,st,h,hN=>by
  rw[List.flatMap_cons,List.length_append]at hN;obtain⟨U1,U2,e1,e2,h2⟩:=st a (by simp) acc U h (by omega);obtain⟨U',e3,h3⟩:=nO I (l:=l) (λb hb=>st b (by simp[hb])) h2 (by rw[List.length_append];omega);refine⟨U',?_,by rw[List.flatMap_cons,<- List.append_assoc];exact h3⟩;rw[List.map_cons];unfold aX;rw[e1];dsimp only;rw[e2,ac];exact e3
theorem mK (h:xs.length+ys.length<=100000):bo (.lst xs) (.lst ys)=.val (.lst (xs++ys)):=if_pos h
theorem p5 {F:Rho->R Out} {i:Nat} {x:D} {ok:Nat->Bool} (I:Nat->Rho->Prop):∀{n s:Nat} {U:Rho},(∀k U,s<=k->k<s+n->I k U->(ok k=true->∃U2,F (U.set i (sh (nD k)))=.val (.nx U2)/\I (k+1) U2)/\(ok k=false->F (U.set i (sh (nD k)))=.val (.rt x)))->I s U ->
  ((List.range' s n).all ok=true/\∃U',aX (tgN i) F ((List.range' s n).map nD) U=.val (.nx U')/\I (s+n) U')\/((List.range' s n).all ok=false/\aX (tgN i) F ((List.range' s n).map nD) U=.val (.rt x))
 | 0,s,U,_,h=>.inl ⟨rfl,U,rfl,h⟩
 | n+1,s,U,st,h=>by
  rw[List.range'_succ,List.all_cons,List.map_cons];have un:∀r,aX (tgN i) F (nD s::r) U=R.bind (F (U.set i (sh (nD s)))) λo=>match o with
   | .nx U2=>aX (tgN i) F r U2
   | .ct U2=>aX (tgN i) F r U2
   | .bk U2=>.val (.nx U2)
   | .rt d=>.val (.rt d):=λr=>Eq.trans rfl rfl
  rw[un];obtain⟨s1,s2⟩:=st s U (Nat.le_refl _) (by omega) h;cases e:ok s with
  | false=>exact .inr ⟨rfl,by rw[s2 e];rfl⟩
  | true =>
   obtain⟨U2,e2,h2⟩:=s1 e;rw[e2,ac,Bool.true_and,show s+(n+1)=s+1+n by omega];exact p5 I (λk U h1 h2=>st k U (by omega) (by omega)) h2
theorem zH {c d:Nat} (hc:c<=3) (hd:d<=3):dN [nD c,nD d]=.val (af (rws d c)):=by
 simp only[dN,ir];show fin (sq _ _ [sh (nD c),sh (nD d),none,none,none,none])=_;have bd:∀n,n<=3->(rws d n).length<=27:=λn hn=>by
  rw[mw];exact Nat.le_trans (Nat.pow_le_pow_left hd n) (Nat.le_trans (Nat.pow_le_pow_right (by decide) hn) (by decide))
 refine fgo (eC (x:=af (rws d 0)) rfl) ?_;obtain⟨U',e,x,y,z,rfl⟩:=dA (i:=3) (n:=c) (F:=sq (asg 4 (eL aN)) (sq (aY (fIt (vr 2)) (tgN 5) (asg 4 (bin bo (vb 4) (eLs (be (bq (aC (vr 1) aN)) 1 (tgN 6) tT (bin bo (vb 5) (eL (aC (vr 6) aN)))))))) (asg 2 (vr 4)))) (λn U=>∃x y z,U=[sh (nD c),sh (nD d),sh (af (rws d n)),x,y,z]) (λn U hn hI=>by
  obtain⟨x,y,z,rfl⟩:=hI;have b1:=bd (n+1) (by omega);obtain⟨U',e,z',rfl⟩:=nO (T:=tgN 5) (F:=asg 4 (bin bo (vb 4) (eLs (be (bq (aC (vr 1) aN)) 1 (tgN 6) tT (bin bo (vb 5) (eL (aC (vr 6) aN))))))) (f:=ao) (g:=λrow=>(List.range d).map λ(x:Nat)=>row++[(x:Int)]) (N:=27) (l:=rws d n) (acc:=[]) (λacc U=>∃z,U=[sh (nD c),sh (nD d),sh (af (rws d n)),sh (nD n),sh (af acc),z]) (U:=[sh (nD c),sh (nD d),sh (af (rws d n)),sh (nD n),sh (af []),z]) (λrow hrow acc U hI hN=>by
   obtain⟨z,rfl⟩:=hI;have rl:=(mem_rws.mp hrow).1;refine⟨_,_,rfl,eC (x:=af (acc++(List.range d).map λ(x:Nat)=>row++[(x:Int)])) ?_,_,rfl⟩;have c1:eLs (be (bq (aC (vr 1) aN)) 1 (tgN 6) tT (bin bo (vb 5) (eL (aC (vr 6) aN)))) [sh (nD c),sh (nD d),sh (af (rws d n)),sh (nD n),sh (af acc),sh (ao row)]=.val (af ((List.range d).map λ(x:Nat)=>row++[(x:Int)])):=by
    rw[bK,bw (f:=nD) (g:=λ(x:Nat)=>ao (row++[(x:Int)])) (l:=List.range d) (dY rfl (by omega)) (by rw[List.length_range];omega) λx _=>by
     show bo (ao row) (.lst [nD x])=_;unfold ao;rw[mK (by rw[List.length_map];simp;omega),List.map_append];rfl,ac,mr]
   show R.bind (.val (af acc)) (λx=>R.bind (eLs (be (bq (aC (vr 1) aN)) 1 (tgN 6) tT (bin bo (vb 5) (eL (aC (vr 6) aN)))) [sh (nD c),sh (nD d),sh (af (rws d n)),sh (nD n),sh (af acc),sh (ao row)]) λy=>bo x y)=_;rw[c1,ac,ac];unfold af;rw[mK (by rw[List.length_map,List.length_map];omega),List.map_append]) ⟨z,rfl⟩ (by
    have:(rws d (n+1)).length<=27:=b1;unfold rws at this;simpa using this)
  refine⟨[sh (nD c),sh (nD d),sh (af (rws d (n+1))),sh (nD n),sh (af (rws d (n+1))),z'],sgo (U':=[sh (nD c),sh (nD d),sh (af (rws d n)),sh (nD n),sh (af []),z]) rfl (sgo (U':=[sh (nD c),sh (nD d),sh (af (rws d n)),sh (nD n),sh (af (rws d (n+1))),z']) ?_ (eC rfl)),_,_,_,rfl⟩
  ·rw[bA];exact e) (U:=[sh (nD c),sh (nD d),sh (af (rws d 0)),none,none,none]) ⟨none,none,none,rfl⟩
 have sr:bq (aC (vr 0) aN) [sh (nD c),sh (nD d),sh (af (rws d 0)),none,none,none]=.val (rng 0 c):=by rw[gv];exact dY rfl (by omega)
 show fin (sq _ _ [sh (nD c),sh (nD d),sh (af (rws d 0)),none,none,none])=_;rw[aL,bA,sr,ac,e];rfl
section
variable {en:List (Nat×Nat)} {re:List Nat} {tb:List (List Int)} {cs ds:List Int} {ms ns:List (List Int)} {L M:Nat}
theorem uZ (h:a_ en re tb) (r:IsR 40 en re tb cs ms) (q:IsR 40 en re tb ds ns) (s:Shw cs re.length G) (hB:∀b,b<re.length->∀x∈G.getD b [],0<=x/\x<ds.getD b (-1)) {p1 p2 p3 p4:D}:bC [.tup [aV en,p1,p2,p3,p4],rdD cs ms,rdD ds ns,af G]=.val (.bl (Bw en cs ms ns G)):=by
 simp only[bC,d_];show fin (sq _ _ [sh (.tup [aV en,p1,p2,p3,p4]),sh (rdD cs ms),sh (rdD ds ns),sh (af G),none,none,none,none,none])=_;have n40:=h.na40;have fe:=ky (src:=bq (aC (una aM (bin fix (vb 0) (kd (.int 0)))) aN)) (T:=tgN 4) (F:=sq (asT (tg2 5 6) (bin fix (bin fix (vb 0) (kd (.int 0))) (vb 4))) (aY (bq (aC (bin fix (bin fix (vb 1) (kd (.int 0))) (vb 5)) aN)) (tgN 7) (sq (asg 8 (bin fix (bin fix (bin fix (vb 1) (kd (.int 1))) (vb 4)) (vb 7))) (DL.iff (tst (bin fne (bin fix (bin fix (vb 3) (vb 6)) (vb 8)) (bin fix (bin fix (bin fix (vb 2) (kd (.int 1))) (vb 4)) (bin fix (bin fix (vb 3) (vb 5)) (vb 7))))) (ret (kd (.bl false))) nxt)))) (f:=nD) (ok:=λa=>(List.range (cs.getD (en.getD a (0,0)).1 (-1)).toNat).all (isA en ms ns G a)) (l:=List.range en.length) (U:=[sh (.tup [aV en,p1,p2,p3,p4]),sh (rdD cs ms),sh (rdD ds ns),sh (af G),none,none,none,none,none]) (λU=>∃a b c d e,U=[sh (.tup [aV en,p1,p2,p3,p4]),sh (rdD cs ms),sh (rdD ds ns),sh (af G),a,b,c,d,e]) (dY (zt en) (by omega)) (λi hi U hI=>by
  obtain⟨a0,a1,a2,a3,a4,rfl⟩:=hI;have hi:=List.mem_range.mp hi;have eb:=h.eb i hi;have cb:=r.cb _ eb.1;have g1:=s.2 _ eb.1;have g2:=s.2 _ eb.2;have gl:=s.1;have l1:=r.ml i hi;have l2:=q.ml i hi;refine⟨_,rfl,?_⟩;have lp:=mG (src:=bq (aC (bin fix (bin fix (vb 1) (kd (.int 0))) (vb 5)) aN)) (T:=tgN 7) (F:=sq (asg 8 (bin fix (bin fix (bin fix (vb 1) (kd (.int 1))) (vb 4)) (vb 7))) (DL.iff (tst (bin fne (bin fix (bin fix (vb 3) (vb 6)) (vb 8)) (bin fix (bin fix (bin fix (vb 2) (kd (.int 1))) (vb 4)) (bin fix (bin fix (vb 3) (vb 5)) (vb 7))))) (ret (kd (.bl false))) nxt)) (f:=nD) (ok:=isA en ms ns G i) (l:=List.range (cs.getD (en.getD i (0,0)).1 (-1)).toNat) (U:=[sh (.tup [aV en,p1,p2,p3,p4]),sh (rdD cs ms),sh (rdD ds ns),sh (af G),sh (nD i),sh (nD (en.getD i (0,0)).1),sh (nD (en.getD i (0,0)).2),a3,a4]) (λU=>∃d e,U=[sh (.tup [aV en,p1,p2,p3,p4]),sh (rdD cs ms),sh (rdD ds ns),sh (af G),sh (nD i),sh (nD (en.getD i (0,0)).1),sh (nD (en.getD i (0,0)).2),d,e]) (by
   rw[<- gv];have v:bin fix (bin fix (vb 1) (kd (.int 0))) (vb 5) [sh (.tup [aV en,p1,p2,p3,p4]),sh (rdD cs ms),sh (rdD ds ns),sh (af G),sh (nD i),sh (nD (en.getD i (0,0)).1),sh (nD (en.getD i (0,0)).2),a3,a4]=.val (.int (cs.getD (en.getD i (0,0)).1 (-1))):=bv (by rw[r.lc];exact eb.1);rw[mL,bZ,v];exact kf cb.1 (by omega)) (λt ht U hI=>by
   obtain⟨d,e,rfl⟩:=hI;have ht:=List.mem_range.mp ht;have ht':(t:Int)<cs.getD (en.getD i (0,0)).1 (-1):=by omega
   obtain⟨p0,p1'⟩:=Ah r hi ht';have bd:0<=(G.getD (en.getD i (0,0)).1 []).getD t (-1)/\(G.getD (en.getD i (0,0)).1 []).getD t (-1)<ds.getD (en.getD i (0,0)).1 (-1):=by
    have tl:t<(G.getD (en.getD i (0,0)).1 []).length:=by omega
    exact hB _ eb.1 _ (by rw[ar tl];exact List.getElem_mem tl)
   have s8:asg 8 (bin fix (bin fix (bin fix (vb 1) (kd (.int 1))) (vb 4)) (vb 7)) [sh (.tup [aV en,p1,p2,p3,p4]),sh (rdD cs ms),sh (rdD ds ns),sh (af G),sh (nD i),sh (nD (en.getD i (0,0)).1),sh (nD (en.getD i (0,0)).2),sh (nD t),e]=.val (.nx [sh (.tup [aV en,p1,p2,p3,p4]),sh (rdD cs ms),sh (rdD ds ns),sh (af G),sh (nD i),sh (nD (en.getD i (0,0)).1),sh (nD (en.getD i (0,0)).2),sh (nD t),sh (nD (aT ms t i))]):=by
    refine eC (x:=nD (aT ms t i)) ?_;show R.bind (fix (af ms) (.int (i:Int))) (λx=>fix x (.int (t:Int)))=_;rw[bX (by rw[r.lm];exact hi),ac,bv (by omega)];unfold aT nD;rw[Int.toNat_of_nonneg p0]
   have k:=wc (t:=tst (bin fne (bin fix (bin fix (vb 3) (vb 6)) (vb 8)) (bin fix (bin fix (bin fix (vb 2) (kd (.int 1))) (vb 4)) (bin fix (bin fix (vb 3) (vb 5)) (vb 7))))) (U:=[sh (.tup [aV en,p1,p2,p3,p4]),sh (rdD cs ms),sh (rdD ds ns),sh (af G),sh (nD i),sh (nD (en.getD i (0,0)).1),sh (nD (en.getD i (0,0)).2),sh (nD t),sh (nD (aT ms t i))]) (c:=isA en ms ns G i t) (by
    show R.bind (R.bind (R.bind (fix (af G) (.int ((en.getD i (0,0)).2:Int))) λx=>fix x (.int (aT ms t i:Int))) λx=>R.bind (R.bind (fix (af ns) (.int (i:Int))) λx=>R.bind (R.bind (fix (af G) (.int ((en.getD i (0,0)).1:Int))) λx=>fix x (.int (t:Int))) λy=>fix x y) λy=>fne x y) asB=_;have v1:=bX (tb:=G) (i:=(en.getD i (0,0)).2) (by omega);have v2:=bv (r:=G.getD (en.getD i (0,0)).2 []) (i:=aT ms t i) (by omega);have v3:=bX (tb:=ns) (i:=i) (by rw[q.lm];exact hi);have v4:=bX (tb:=G) (i:=(en.getD i (0,0)).1) (by omega);have v5:=bv (r:=G.getD (en.getD i (0,0)).1 []) (i:=t) (by omega);have v6:=tO (r:=ns.getD i []) (x:=(G.getD (en.getD i (0,0)).1 []).getD t (-1)) bd.1 (by rw[l2];exact bd.2);rw[v1,ac,v2,ac,v3,ac,v4,ac,v5,ac,v6,ac,zk];show R.val (decide (gI G (en.getD i (0,0)).2 (aT ms t i)≠aG ns (gI G (en.getD i (0,0)).1 t).toNat i))=_;unfold isA;rw[decide_not])
   exact⟨_,rfl,λz=>sgo s8 (k.1 z),λz=>⟨_,sgo s8 (k.2 z),_,_,rfl⟩⟩) ⟨_,_,rfl⟩
  have s5:asT (tg2 5 6) (bin fix (bin fix (vb 0) (kd (.int 0))) (vb 4)) [sh (.tup [aV en,p1,p2,p3,p4]),sh (rdD cs ms),sh (rdD ds ns),sh (af G),sh (nD i),a1,a2,a3,a4]=.val (.nx [sh (.tup [aV en,p1,p2,p3,p4]),sh (rdD cs ms),sh (rdD ds ns),sh (af G),sh (nD i),sh (nD (en.getD i (0,0)).1),sh (nD (en.getD i (0,0)).2),a3,a4]):=by
   show R.bind (fix (aV en) (.int (i:Int))) _=_;rw[ff hi];rfl
  have lr:=Fq lp;exact⟨λz=>sgo s5 (lr.1 z),λz=>by
   obtain⟨U',e',d,e,rfl⟩:=lr.2 z;exact⟨_,sgo s5 e',_,_,_,_,_,rfl⟩⟩) ⟨_,_,_,_,_,rfl⟩
 rw[fe];rfl
theorem BT (h:a_ en re tb) (r:IsR 40 en re tb cs ms) (q:IsR 40 en re tb ds ns) (c3:∀b,b<re.length->cs.getD b (-1)<=3/\ds.getD b (-1)<=3) (hp:∀b,b<=re.length->pws cs ds b<=20000) {p2 p3 p4:D}:bD [.tup [aV en,aJ re,p2,p3,p4],rdD cs ms,rdD ds ns]=.val (.lst ((due en re cs ds ms ns).map af)):=by
 simp only[bD,dw];show fin (sq _ _ [sh (.tup [aV en,aJ re,p2,p3,p4]),sh (rdD cs ms),sh (rdD ds ns),none,none,none,none,none])=_;have n6:=h.nb6;generalize hP:D.tup [aV en,aJ re,p2,p3,p4]=P;have ch1:∀G,Shw cs re.length G->(∀b,b<re.length->∀x∈G.getD b [],0<=x/\x<ds.getD b (-1))->bC [P,rdD cs ms,rdD ds ns,af G]=.val (.bl (Bw en cs ms ns G)):=λG s hB=>by rw[<- hP];exact uZ h r q s hB
 have hln:una aM (bin fix (vb 0) (kd (.int 1))) [sh P,sh (rdD cs ms),sh (rdD ds ns),sh (.lst [.lst []]),none,none,none,none]=.val (.int (re.length:Int)):=by
  rw[<- hP];exact zq re
 refine fgo (U':=[sh P,sh (rdD cs ms),sh (rdD ds ns),sh (.lst [.lst []]),none,none,none,none]) rfl ?_;obtain⟨U',e,x,y,z,w,rfl⟩:=dA (i:=4) (n:=re.length) (F:=sq (asg 5 (eL aN)) (sq (asg 6 (cal 2 dN (aC (bin fix (bin fix (vb 1) (kd (.int 0))) (vb 4)) (aC (bin fix (bin fix (vb 2) (kd (.int 0))) (vb 4)) aN)))) (sq (aY (fIt (vr 3)) (tgN 7) (asg 5 (bin bo (vb 5) (eLs (be (fIt (vr 6)) 1 (tgN 8) tT (bin bo (vb 7) (eL (aC (vr 8) aN)))))))) (asg 3 (vr 5))))) (λb U=>∃x y z w,U=[sh P,sh (rdD cs ms),sh (rdD ds ns),sh (.lst ((fms cs ds b).map af)),x,y,z,w]) (λb U hb hI=>by
  obtain⟨x,y,z,w,rfl⟩:=hI;have cb:=r.cb b hb;have db:=q.cb b hb;have c3b:=c3 b hb;have lrows:=zH (c:=(cs.getD b (-1)).toNat) (d:=(ds.getD b (-1)).toNat) (by omega) (by omega);have rl:(rws (ds.getD b (-1)).toNat (cs.getD b (-1)).toNat).length<=27:=by
   rw[mw];refine Nat.le_trans (Nat.pow_le_pow_left (show(ds.getD b (-1)).toNat<=3 by omega) _) (Nat.le_trans (Nat.pow_le_pow_right (by decide) (show(cs.getD b (-1)).toNat<=3 by omega)) (by decide))
  have fl:=mH (cs:=cs) (ds:=ds) (b+1);have fl1:=hp (b+1) (by omega);have i1:nD (cs.getD b (-1)).toNat=.int (cs.getD b (-1)):=by unfold nD;rw[Int.toNat_of_nonneg cb.1]
  have i2:nD (ds.getD b (-1)).toNat=.int (ds.getD b (-1)):=by unfold nD;rw[Int.toNat_of_nonneg db.1]
  rw[i1,i2]at lrows;generalize hrw:rws (ds.getD b (-1)).toNat (cs.getD b (-1)).toNat=rw' at *;have fs:fms cs ds (b+1)=(fms cs ds b).flatMap λch=>rw'.map λrow=>ch++[row]:=by rw[<- hrw];rfl
  obtain⟨U',e,w',rfl⟩:=nO (T:=tgN 7) (F:=asg 5 (bin bo (vb 5) (eLs (be (fIt (vr 6)) 1 (tgN 8) tT (bin bo (vb 7) (eL (aC (vr 8) aN))))))) (f:=af) (g:=λch=>rw'.map λrow=>ch++[row]) (N:=20000) (l:=fms cs ds b) (acc:=[]) (λacc U=>∃w,U=[sh P,sh (rdD cs ms),sh (rdD ds ns),sh (.lst ((fms cs ds b).map af)),sh (nD b),sh (.lst (acc.map af)),sh (af rw'),w]) (U:=[sh P,sh (rdD cs ms),sh (rdD ds ns),sh (.lst ((fms cs ds b).map af)),sh (nD b),sh (.lst []),sh (af rw'),w]) (λch hch acc U hI hN=>by
   obtain⟨w,rfl⟩:=hI;have cl:=((io λb' hb'=>(r.cb b' (by omega)).1).mp hch).1.1;refine⟨_,_,rfl,eC (x:=.lst ((acc++rw'.map λrow=>ch++[row]).map af)) ?_,_,rfl⟩;have c1:eLs (be (fIt (vr 6)) 1 (tgN 8) tT (bin bo (vb 7) (eL (aC (vr 8) aN)))) [sh P,sh (rdD cs ms),sh (rdD ds ns),sh (.lst ((fms cs ds b).map af)),sh (nD b),sh (.lst (acc.map af)),sh (af rw'),sh (af ch)]=.val (.lst ((rw'.map λrow=>ch++[row]).map af)):=by
    rw[bK,bw (f:=ao) (g:=λrow=>af (ch++[row])) (l:=rw') rfl (by omega) λrow _=>by
     show bo (af ch) (.lst [ao row])=_;unfold af;rw[mK (by rw[List.length_map];simp;omega),List.map_append];rfl,ac,List.map_map];rfl
   show R.bind (.val (.lst (acc.map af))) (λx=>R.bind (eLs (be (fIt (vr 6)) 1 (tgN 8) tT (bin bo (vb 7) (eL (aC (vr 8) aN)))) [sh P,sh (rdD cs ms),sh (rdD ds ns),sh (.lst ((fms cs ds b).map af)),sh (nD b),sh (.lst (acc.map af)),sh (af rw'),sh (af ch)]) λy=>bo x y)=_;rw[c1,ac,ac,mK (by rw[List.length_map,List.length_map];omega),List.map_append]) ⟨w,rfl⟩ (by rw[<- fs,fl];simpa using fl1)
  rw[List.nil_append,<- fs]at e;refine⟨[sh P,sh (rdD cs ms),sh (rdD ds ns),sh (.lst ((fms cs ds (b+1)).map af)),sh (nD b),sh (.lst ((fms cs ds (b+1)).map af)),sh (af rw'),w'],sgo (U':=[sh P,sh (rdD cs ms),sh (rdD ds ns),sh (.lst ((fms cs ds b).map af)),sh (nD b),sh (.lst []),z,w]) rfl (sgo (U':=[sh P,sh (rdD cs ms),sh (rdD ds ns),sh (.lst ((fms cs ds b).map af)),sh (nD b),sh (.lst []),sh (af rw'),w]) (eC (oF (a:=.int (cs.getD b (-1))) (b:=.int (ds.getD b (-1))) (bv (by rw[r.lc];exact hb)) (bv (by rw[q.lc];exact hb)) lrows)) (sgo (U':=[sh P,sh (rdD cs ms),sh (rdD ds ns),sh (.lst ((fms cs ds b).map af)),sh (nD b),sh (.lst ((fms cs ds (b+1)).map af)),sh (af rw'),w']) ?_ (eC rfl))),_,_,_,_,rfl⟩;rw[bA];exact e) (U:=[sh P,sh (rdD cs ms),sh (rdD ds ns),sh (.lst [.lst []]),none,none,none,none]) ⟨none,none,none,none,rfl⟩
 have sr:bq (aC (una aM (bin fix (vb 0) (kd (.int 1)))) aN) [sh P,sh (rdD cs ms),sh (rdD ds ns),sh (.lst [.lst []]),none,none,none,none]=.val (rng 0 re.length):=by
  rw[gv];exact dY hln (by omega)
 refine fgo (U':=[sh P,sh (rdD cs ms),sh (rdD ds ns),sh (.lst ((fms cs ds re.length).map af)),x,y,z,w]) (by rw[bA,sr,ac,e]) ?_;have fl:=mH (cs:=cs) (ds:=ds) re.length;have hf:=gZ (src:=fIt (vr 3)) (n:=1) (T:=tgN 8) (t:=tst (cal 4 bC (aC (vr 0) (aC (vr 1) (aC (vr 2) (aC (vr 8) aN)))))) (e:=vr 8) (f:=af) (g:=af) (p:=Bw en cs ms ns) (l:=fms cs ds re.length) (U:=[sh P,sh (rdD cs ms),sh (rdD ds ns),sh (.lst ((fms cs ds re.length).map af)),x,y,z,w]) rfl (by have:=hp re.length (Nat.le_refl _);omega) λG hG=>by
  obtain⟨s,hB⟩:=(io λb hb=>(r.cb b hb).1).mp hG;refine⟨_,rfl,?_,rfl⟩;rw[dW,GU (a:=P) (b:=rdD cs ms) (c:=rdD ds ns) (e:=af G) rfl rfl rfl rfl (ch1 G s hB)];rfl
 rw[cK,bK,hf];rfl
end
theorem uA {cs ds:List Int} {K n:Nat} (h:∀b,b<n->(ds.getD b (-1)).toNat ^ (cs.getD b (-1)).toNat<=K):∀b,b<=n->pws cs ds b<=K ^ b
 | 0,_=>Nat.le_refl _
 | b+1,hb=>by
  show pws cs ds b*_<=_;rw[Nat.pow_succ];exact Nat.mul_le_mul (uA h b (by omega)) (h b (by omega))
theorem pY {c m:Nat} (h1:k<=m) (h2:c<=m) (hm:1<=m):k ^ c<=m ^ m:=Nat.le_trans (Nat.pow_le_pow_left h1 c) (Nat.pow_le_pow_right hm h2)
section
variable {en:List (Nat×Nat)} {re:List Nat} {tb:List (List Int)} {cs ds:List Int} {ms ns:List (List Int)}
theorem zD (h:a_ en re tb) (r:IsR 40 en re tb cs ms) (q:IsR 40 en re tb ds ns):∃b:Bool,di [rdD cs ms,rdD ds ns]=.val (.bl b)/\(b=true->(∀i,i<re.length->cs.getD i (-1)<=3/\ds.getD i (-1)<=3)/\pws cs ds re.length<=600):=by
 simp only[di,gK];show ∃b:Bool,fin (sq _ _ [sh (rdD cs ms),sh (rdD ds ns),none,none,none])=_/\_;have n6:=h.nb6;have lc:=r.lc;have lp:=p5 (i:=3) (x:=.bl false) (ok:=λi=>decide (cs.getD i (-1)<=3/\ds.getD i (-1)<=3)) (n:=re.length) (s:=0) (F:=sq (DL.iff (tst (bin (iI fgt) (u_ (aC (bin fix (bin fix (vb 0) (kd (.int 0))) (vb 3)) (aC (bin fix (bin fix (vb 1) (kd (.int 0))) (vb 3)) aN))) (kd (.int 3)))) (ret (kd (.bl false))) nxt) (aY (bq (aC (bin fix (bin fix (vb 0) (kd (.int 0))) (vb 3)) aN)) (tgN 4) (asg 2 (bin (iI fV) (vb 2) (bin fix (bin fix (vb 1) (kd (.int 0))) (vb 3)))))) (λb U=>∃x y,U=[sh (rdD cs ms),sh (rdD ds ns),sh (.int (pws cs ds b:Int)),x,y]) (U:=[sh (rdD cs ms),sh (rdD ds ns),sh (.int 1),none,none]) (λb U _ hb hI=>by
  obtain⟨x,y,rfl⟩:=hI;have hb:b<re.length:=by omega
  have cb:=r.cb b hb;have db:=q.cb b hb;have v1:bin fix (bin fix (vb 0) (kd (.int 0))) (vb 3) [sh (rdD cs ms),sh (rdD ds ns),sh (.int (pws cs ds b:Int)),sh (nD b),y]=.val (.int (cs.getD b (-1))):=bv (by rw[r.lc];exact hb);have v2:bin fix (bin fix (vb 1) (kd (.int 0))) (vb 3) [sh (rdD cs ms),sh (rdD ds ns),sh (.int (pws cs ds b:Int)),sh (nD b),y]=.val (.int (ds.getD b (-1))):=bv (by rw[q.lc];exact hb);have t:tst (bin (iI fgt) (u_ (aC (bin fix (bin fix (vb 0) (kd (.int 0))) (vb 3)) (aC (bin fix (bin fix (vb 1) (kd (.int 0))) (vb 3)) aN))) (kd (.int 3))) [sh (rdD cs ms),sh (rdD ds ns),sh (.int (pws cs ds b:Int)),sh (nD b),y]=.val (!decide (cs.getD b (-1)<=3/\ds.getD b (-1)<=3)):=by
   rw[dW,ca,wD,bZ,v1,ac,bZ,v2];show R.val (decide (3<(if ds.getD b (-1)>cs.getD b (-1)then ds.getD b (-1)else cs.getD b (-1))))=_
   congr 1
   rw[Bool.eq_iff_iff];simp only[decide_eq_true_eq,Bool.not_eq_true',decide_eq_false_iff_not];split<;>omega
  have k:=wc t;refine⟨λz=>?_,λz=>?_⟩
  ·obtain⟨U',e,y',rfl⟩:=dA (i:=4) (n:=(cs.getD b (-1)).toNat) (F:=asg 2 (bin (iI fV) (vb 2) (bin fix (bin fix (vb 1) (kd (.int 0))) (vb 3)))) (λj U=>∃y,U=[sh (rdD cs ms),sh (rdD ds ns),sh (.int ((pws cs ds b*(ds.getD b (-1)).toNat ^ j:Nat):Int)),sh (nD b),y]) (λj U hj hI=>by
    obtain⟨y,rfl⟩:=hI;refine⟨_,eC (x:=.int ((pws cs ds b*(ds.getD b (-1)).toNat ^ (j+1):Nat):Int)) ?_,_,rfl⟩;show R.bind (fix (ao ds) (.int (b:Int))) (λy=>iI fV (.int ((pws cs ds b*(ds.getD b (-1)).toNat ^ j:Nat):Int)) y)=_;rw[bv (by rw[q.lc];exact hb),ac,qa,kz (by omega),Nat.pow_succ,<- Nat.mul_assoc,Int.natCast_mul (pws cs ds b*_),Int.toNat_of_nonneg db.1]) (U:=[sh (rdD cs ms),sh (rdD ds ns),sh (.int (pws cs ds b:Int)),sh (nD b),y]) ⟨y,by rw[Nat.pow_zero,Nat.mul_one]⟩
   have sr:bq (aC (bin fix (bin fix (vb 0) (kd (.int 0))) (vb 3)) aN) [sh (rdD cs ms),sh (rdD ds ns),sh (.int (pws cs ds b:Int)),sh (nD b),y]=.val (rng 0 (cs.getD b (-1)).toNat):=by
    rw[mL,bZ,v1];exact kf cb.1 (by omega)
   refine⟨[sh (rdD cs ms),sh (rdD ds ns),sh (.int (pws cs ds (b+1):Int)),sh (nD b),y'],sgo (k.2 z) ?_,sh (nD b),y',rfl⟩;rw[bA,sr,ac,e];rfl
  ·show sq _ _ [sh (rdD cs ms),sh (rdD ds ns),sh (.int (pws cs ds b:Int)),sh (nD b),y]=_;rw[aL,k.1 z];rfl) ⟨none,none,rfl⟩
 have sr:bq (aC (una aM (bin fix (vb 0) (kd (.int 0)))) aN) [sh (rdD cs ms),sh (rdD ds ns),sh (.int 1),none,none]=.val ((List.range' 0 re.length).map nD):=by
  rw[<- List.range_eq_range',<- lc];exact dY (zo cs) (by omega)
 rcases lp with⟨al,U',e,x,y,rfl⟩|⟨al,e⟩
 ·refine⟨decide ((pws cs ds re.length:Int)<=600),?_,λz=>⟨λi hi=>of_decide_eq_true (List.all_eq_true.mp al i (by rw[<- List.range_eq_range'];exact List.mem_range.mpr hi)),by have:=of_decide_eq_true z;omega⟩⟩;refine fgo (U':=[sh (rdD cs ms),sh (rdD ds ns),sh (.int 1),none,none]) rfl ?_;rw[aL,bA,sr,ac,e,Nat.zero_add];rfl
 ·refine⟨false,?_,λz=>by cases z⟩;refine fgo (U':=[sh (rdD cs ms),sh (rdD ds ns),sh (.int 1),none,none]) rfl ?_;rw[aL,bA,sr,ac,e];rfl
end
theorem vk {k k':OK} {e:Rho->R D} (h1:P U=.val pp) (h2:e U=.val x) (h3:U[i]?=some (some (.tre k d))) (h4:gF k pp=some (.l k')) (h5:gn d pp=some (.lst xs)) (h6:xs.length<100000):asO (apP i k' P e) U=.val (.nx (U.set i (some (.tre k (fR d pp (.lst (xs++[x]))))))):=by
 unfold asO apP;rw[h1,ac,h2,mD,ac];unfold sd;rw[h3];dsimp only;rw[if_pos h4,h5];dsimp only;unfold apF;rw[if_pos (show xs.length<LIM from h6)];rfl
theorem vZ {k k':OK} {b:Rho->R D} {n:Int} (h1:P U=.val pp) (h2:b U=.val (.int n)) (h3:U[i]?=some (some (.tre k d))) (h4:gF k pp=some (.l k')) (h5:gn d pp=some (.lst xs)) (h6:ixN xs.length n=some j):pN i P b U=.val (pp++[j]):=by
 unfold pN;rw[h1,ac,h2,ac,h3];dsimp only;unfold pIx;rw[h4,h5];dsimp only;rw[h6]
theorem Dc {c:Int} {k:OK} {rows:List D} (h1:P U=.val pp) (h2:U[i]?=some (some (.tre k d))) (h3:i≠j/\j<U.length/\gF k pp=some (.l (.l .s))) (h4:gn d pp=some (.lst rows)) (h5:rows.all rOk=true):rwA i j c P U=.val (.nx ((U.set j none).set i (some (.tre k (fR d pp (.lst (rows.map (sH c)))))))):=by
 unfold rwA;rw[h1,ac,h2];dsimp only;rw[if_pos h3,h4];dsimp only;rw[if_pos h5]
theorem wI (xs:List D) (x:D):vd (x::xs) (some 1) none=xs:=by
 have e:HT.sIx (x::xs).length 0 (some 1)=1:=by
  unfold HT.sIx;dsimp only;rw[if_neg (by decide),List.length_cons];show min 1 (xs.length+1)=1;omega
 have e0:HT.sIx (x::xs).length (x::xs).length none=(x::xs).length:=rfl;unfold vd;rw[e,e0,List.drop_one,List.tail_cons,List.take_of_length_le (by simp)]
theorem Fi {A B:Rho->R Bool} (h:A U=.val false) (k:B U=.val false):orB A B U=.val false:=by
 rw[j4,h,ac,if_neg (by decide),k]
theorem yS {F:Rho->R D} (h:F U=.val (.bl true)):cX (tst F) U=.val false:=by rw[e_,dW,h];rfl
theorem FF {F:Rho->R D} {b:Bool} (h:F U=.val (.bl b)):flF F U=.val (.bl b):=by
 unfold flF;rw[h];rfl
abbrev k3:OK:=.l (.l (.l .s))
def rLw (ns:List Int) (P H one other due hd:D) (x y:Option Slt):Rho:=[sh (.scr ns),sh P,sh H,sh one,sh other,sh due,sh hd,x,y]
theorem Gn (G:List (List Int)) (h:∀l∈G,l.length<=1000):(G.map ao).all rOk=true:=by
 rw[List.all_map,List.all_eq_true];intro l hl;show decide ((l.map D.int).length<LIM)=true;rw[List.length_map];exact decide_eq_true (Nat.lt_of_le_of_lt (h l hl) (by decide))
theorem EW (G:List (List Int)) (c:Int):(G.map ao).map (sH c)=(G.map λl=>l++[c]).map ao:=by
 rw[List.map_map,List.map_map];apply List.map_congr_left;intro l _;show D.lst (l.map D.int++[.int c])=D.lst ((l++[c]).map D.int);rw[List.map_append];rfl
theorem Gz {ns:List Int} {P H one other hd:D} {rest:List (List (List Int))} (hG:1<=G.length/\G.length<=1000) (hl:∀l∈G,l.length<=1000) (hr:∀K∈rest,(1<=K.length/\K.length<=1000)/\∀l∈K,l.length<=1000) (hn:rest.length<=1000) :
  ∃xs,xs.length<=1001/\sq (rwA 7 8 7 (pN 7 (pN0 7) (kd (.int 0))))
   (sq (DL.iff (cX (tst (flF (cal 2 bQ (aC (eLs (fSl (va 7) (oS (kd (.int 1))) oN)) (aC (eLs (fSl (vb 5) (oS (kd (.int 1))) oN)) aN)))))) (ret (kd (.bl false))) nxt)
   (sq (asO (apP 7 (.l .s) (pN 7 (pN0 7) (kd (.int 0))) (eLs (eE aN))))
   (asO (apP 7 .s (pN 7 (pN 7 (pN0 7) (una jI (kd (.int 1)))) (kd (.int 0))) (kd (.int 0))))))
   (rLw ns P H one other (.lst ((G::rest).map af)) hd (some (.tre k3 (.lst ((G::rest).map af)))) none)=.val (.nx (rLw ns P H one other (.lst ((G::rest).map af)) hd (some (.tre k3 (.lst xs))) none)):=by
 have told:=wt (Gs:=rest) (by omega) λK hK=>⟨by have:=(hr K hK).1;omega,λl hl=>Nat.le_trans ((hr K hK).2 l hl) (by decide)⟩;have i0':∀(x:D) (xs:List D),ixN (x::xs).length 0=some 0:=λx xs=>by
  have:=uS (n:=(x::xs).length) (i:=0) (by simp);exact this
 generalize hdue:D.lst ((G::rest).map af)=due;have p1:pN 7 (pN0 7) (kd (.int 0)) (rLw ns P H one other due hd (some (.tre k3 due)) none)=.val [0]:=by
  rw[<- hdue];exact vZ (k:=k3) (k':=.l (.l .s)) (pp:=[]) (d:=.lst ((G::rest).map af)) rfl rfl rfl rfl rfl (i0' _ _)
 have s1:rwA 7 8 7 (pN 7 (pN0 7) (kd (.int 0))) (rLw ns P H one other due hd (some (.tre k3 due)) none)=.val (.nx (rLw ns P H one other due hd (some (.tre k3 (.lst (af (G.map λl=>l++[7])::rest.map af)))) none)):=by
  have:=Dc (c:=7) (i:=7) (j:=8) (k:=k3) (d:=due) (rows:=G.map ao) p1 rfl ⟨by decide,by show 8<9;decide,rfl⟩ (by rw[<- hdue];rfl) (Gn G hl);rw[this,EW,<- hdue];rfl
 have s2:DL.iff (cX (tst (flF (cal 2 bQ (aC (eLs (fSl (va 7) (oS (kd (.int 1))) oN)) (aC (eLs (fSl (vb 5) (oS (kd (.int 1))) oN)) aN)))))) (ret (kd (.bl false))) nxt (rLw ns P H one other due hd (some (.tre k3 (.lst (af (G.map λl=>l++[7])::rest.map af)))) none)=.val (.nx (rLw ns P H one other due hd (some (.tre k3 (.lst (af (G.map λl=>l++[7])::rest.map af)))) none)):=by
  refine fU (yS (FF (oF (a:=.lst (rest.map af)) (b:=.lst (rest.map af)) ?_ ?_ told)))
  ·show R.val (D.lst (vd (af (G.map λl=>l++[7])::rest.map af) (some 1) none))=_;rw[wI]
  ·rw[<- hdue];show R.val (D.lst (vd (af G::rest.map af) (some 1) none))=_;rw[wI]
 have p3:pN 7 (pN0 7) (kd (.int 0)) (rLw ns P H one other due hd (some (.tre k3 (.lst (af (G.map λl=>l++[7])::rest.map af)))) none)=.val [0]:=vZ (k:=k3) (k':=.l (.l .s)) (pp:=[]) rfl rfl rfl rfl rfl (i0' _ _);have s3:asO (apP 7 (.l .s) (pN 7 (pN0 7) (kd (.int 0))) (eLs (eE aN))) (rLw ns P H one other due hd (some (.tre k3 (.lst (af (G.map λl=>l++[7])::rest.map af)))) none)=.val (.nx (rLw ns P H one other due hd (some (.tre k3 (.lst ((((G.map λl=>l++[7])++[[]])::rest).map af)))) none)):=by
  have:=vk (i:=7) (k':=.l .s) (e:=eLs (eE aN)) (x:=.lst []) (xs:=(G.map λl=>l++[7]).map ao) p3 (Eq.trans rfl rfl) rfl rfl rfl (by rw[List.length_map,List.length_map];omega);rw[this];show R.val (Out.nx (rLw ns P H one other due hd (some (.tre k3 (.lst (.lst ((G.map λl=>l++[7]).map ao++[.lst []])::rest.map af)))) none))=_;rw[List.map_cons];unfold af;rw[List.map_append (l₁:=G.map _)];rfl
 generalize hGs:((G.map λl=>l++[(7:Int)])++[[]])::rest=Gs at s3;have g1:1<=Gs.length:=by rw[<- hGs];simp
 have gl:Gs.length<=1001:=by rw[<- hGs,List.length_cons];omega
 have gm:∀K∈Gs,1<=K.length/\∀l∈K,l.length<=2000:=λK hK=>by
  rw[<- hGs]at hK;rcases List.mem_cons.mp hK with rfl|hK
  ·refine⟨by rw[List.length_append];simp,λl hl'=>?_⟩;rcases List.mem_append.mp hl' with z|z
   ·obtain⟨l',h',rfl⟩:=List.mem_map.mp z;have:=hl l' h';rw[List.length_append];simp;omega
   ·rw[List.mem_singleton.mp z];simp
  ·exact⟨(hr K hK).1.1,λl hl'=>Nat.le_trans ((hr K hK).2 l hl') (by decide)⟩
 have hm:Gs.length-1<Gs.length:=by omega
 have hK:=gm _ (List.getElem_mem hm);have ix1:ixN (Gs.map af).length (-1)=some (Gs.length-1):=by
  unfold ixN;rw[if_neg (by decide),List.length_map,if_pos (by omega)]
  congr 1
  omega
 have sd1:(Gs.map af)[Gs.length-1]?=some (af Gs[Gs.length-1]):=by
  rw[List.getElem?_map,List.getElem?_eq_getElem hm];rfl
 have sub1:gn (.lst (Gs.map af)) [Gs.length-1]=some (af Gs[Gs.length-1]):=by
  show(match(Gs.map af)[Gs.length-1]? with|some d=>gn d [] | none=>none)=_;rw[sd1];rfl
 have q1:pN 7 (pN0 7) (una jI (kd (.int 1))) (rLw ns P H one other due hd (some (.tre k3 (.lst (Gs.map af)))) none)=.val [Gs.length-1]:=vZ (k:=k3) (k':=.l (.l .s)) (pp:=[]) (n:=-1) rfl rfl rfl rfl rfl ix1;generalize Gs[Gs.length-1]=Kl at hK sd1 sub1;obtain⟨l0,Kr,rfl⟩:∃l0 Kr,Kl=l0::Kr:=by
  cases Kl with
  | nil=>simp at hK
  | cons a b=>exact⟨a,b,rfl⟩
 have q2:pN 7 (pN 7 (pN0 7) (una jI (kd (.int 1)))) (kd (.int 0)) (rLw ns P H one other due hd (some (.tre k3 (.lst (Gs.map af)))) none)=.val [Gs.length-1,0]:=vZ (k:=k3) (k':=.l .s) (pp:=[Gs.length-1]) (n:=0) q1 rfl rfl rfl sub1 (i0' _ _);have sub2:gn (.lst (Gs.map af)) [Gs.length-1,0]=some (.lst (l0.map D.int)):=by
  show(match(Gs.map af)[Gs.length-1]? with|some d=>gn d [0] | none=>none)=_;rw[sd1];rfl
 have s4:=vk (i:=7) (k':=.s) (e:=kd (.int 0)) (U:=rLw ns P H one other due hd (some (.tre k3 (.lst (Gs.map af)))) none) (x:=.int 0) q2 rfl rfl rfl sub2 (by rw[List.length_map];exact Nat.lt_of_le_of_lt (hK.2 l0 (by simp)) (by decide));have pt:∃xs,fR (.lst (Gs.map af)) [Gs.length-1,0] (.lst (l0.map D.int++[.int 0]))=.lst xs/\xs.length=Gs.length:=by
  refine⟨(Gs.map af).set (Gs.length-1) (fR (af (l0::Kr)) [0] (.lst (l0.map D.int++[.int 0]))),?_,by rw[List.length_set,List.length_map]⟩;show(match(Gs.map af)[Gs.length-1]? with|some d=>D.lst ((Gs.map af).set (Gs.length-1) (fR d [0] _))|none=>.lst (Gs.map af))=_;rw[sd1]
 obtain⟨xs,e1,e2⟩:=pt;rw[e1]at s4;exact⟨xs,by omega,sgo s1 (sgo s2 (sgo s3 s4))⟩
theorem law_val (ns:List Int) (hl:ns.length<=63):oz [.scr ns]=.val (.bl true):=by
 simp only[oz,rJ];show fin (sq _ _ [sh (.scr ns),none,none,none,none,none,none,none,none])=_;obtain⟨sz,kn,g,hp⟩:=zG ns 0;have hp:dn [.scr ns,.int 0]=.val (PK sz kn):=hp;have h:=rq g;have hh:dP [PK sz kn]=.val (hlD (bV kn) (bS sz kn) (dX kn)):=BV g _;obtain⟨cs,ms,r,r4,h4⟩:=qg g ns 4;have h4:aZ [.scr ns,.int 4,PK sz kn]=.val (rdD cs ms):=h4;obtain⟨ds,us,q,q4,h6⟩:=qg g ns 6;have h6:aZ [.scr ns,.int 6,PK sz kn]=.val (rdD ds us):=h6;have n40:=h.na40;have n6:=h.nb6;have n1:=h.nb1;have lm:=r.lm;have lq:=q.lm;have s4:=(fB sz g.szm).2.1;have rl:(bS sz kn).length=sz.length:=gG;obtain⟨sm,hsm,sok⟩:=zD h r q;refine fgo (eC (oF rfl rfl hp)) (fgo (eC (Er rfl hh)) (fgo (eC (t8 rfl rfl rfl h4)) (fgo (eC (t8 rfl rfl rfl h6)) ?_)));have ts:cX (tst (cal 2 di (aC (vr 3) (aC (vr 4) aN)))) [sh (.scr ns),sh (PK sz kn),sh (hlD (bV kn) (bS sz kn) (dX kn)),sh (rdD cs ms),sh (rdD ds us),none,none,none,none]=.val (!sm):=by
  rw[e_,dW,oF rfl rfl hsm];rfl
 show fin (sq _ _ [sh (.scr ns),sh (PK sz kn),sh (hlD (bV kn) (bS sz kn) (dX kn)),sh (rdD cs ms),sh (rdD ds us),none,none,none,none])=_;cases sm with
 | false=>rw[aL,bB,ts,ac,if_pos (by decide)];rfl
 | true =>
  obtain⟨c3,c600⟩:=sok rfl;have hpw:∀b,b<=(bS sz kn).length->pws cs ds b<=20000:=λb hb=>by
   by_cases e4:sz.length=4
   ·refine Nat.le_trans (uA (K:=4) (n:=(bS sz kn).length) (λb hb=>?_) b hb) (Nat.le_trans (Nat.pow_le_pow_right (by decide) (show b<=4 by omega)) (by decide));have a1:=r4 e4 b hb;have a2:=q4 e4 b hb;exact pY (m:=2) (by omega) (by omega) (by decide)
   ·refine Nat.le_trans (uA (K:=27) (n:=(bS sz kn).length) (λb hb=>?_) b hb) (Nat.le_trans (Nat.pow_le_pow_right (by decide) (show b<=3 by omega)) (by decide));have:=c3 b hb;exact pY (m:=3) (by omega) (by omega) (by decide)
  have hdu:=BT h r q c3 hpw (p2:=af (dX kn)) (p3:=.lst (kn.map aq)) (p4:=aJ sz);rw[zT h r q]at hdu;have hdu:bD [PK sz kn,rdD cs ms,rdD ds us]=_:=hdu;have ch:=u0 h r q (by omega);have mem:=λG=>nK h r q (G:=G);have iG:∀G∈jk (bV kn) (bS sz kn) cs ds ms us,(1<=G.length/\G.length<=1000)/\∀l∈G,l.length<=1000:=λG hG=>by
   have c:=(mem G).mp hG;have gl:=c.1.1;refine⟨by omega,λl hl=>?_⟩;obtain⟨b,hb,rfl⟩:=List.mem_iff_getElem.mp hl;have e:=c.1.2 b (by omega);rw[ar hb]at e;have:=r.cb b (by omega);omega
  have aln:(jk (bV kn) (bS sz kn) cs ds ms us).length<=600:=by
   rw[<- zT h r q];unfold due;refine Nat.le_trans (List.length_filter_le _ _) ?_;rw[mH];exact c600
  have told:=wt (Gs:=jk (bV kn) (bS sz kn) cs ds ms us) (by omega) λG hG=>⟨by have:=(iG G hG).1;omega,λl hl=>Nat.le_trans ((iG G hG).2 l hl) (by decide)⟩;generalize jk (bV kn) (bS sz kn) cs ds ms us=al at *;generalize hlD (bV kn) (bS sz kn) (dX kn)=H at *;generalize PK sz kn=P at *;have m1:=wv (ms:=ms) (by omega);have m2:=wv (ms:=us) (by omega);have px:pln 8 (rdD cs ms)=true:=ki (by simp[fI,vT]);have py:pln 8 (rdD ds us)=true:=ki (by simp[fI,vT]);refine fgo (fU ts) (fgo (eC (t8 rfl rfl rfl hdu)) (fgo (eC (x:=.lst [rdD cs ms,rdD ds us]) ?_) (fgo (U':=rLw ns P H (rdD cs ms) (rdD ds us) (.lst (al.map af)) (.lst [rdD cs ms,rdD ds us]) (some (.tre k3 (.lst (al.map af)))) none) ?_ (fgo (fU (Fi (yS (FF (oF rfl rfl told))) ?_)) ?_))))
  ·show eL _ [sh (.scr ns),sh P,sh H,sh (rdD cs ms),sh (rdD ds us),sh (.lst (al.map af)),none,none,none]=_;have e1:cal 1 cF (aC (bin fix (vb 3) (kd (.int 1))) aN) [sh (.scr ns),sh P,sh H,sh (rdD cs ms),sh (rdD ds us),sh (.lst (al.map af)),none,none,none]=.val (af ms):=Er (a:=af ms) rfl m1;have e2:cal 1 cF (aC (bin fix (vb 4) (kd (.int 1))) aN) [sh (.scr ns),sh P,sh H,sh (rdD cs ms),sh (rdD ds us),sh (.lst (al.map af)),none,none,none]=.val (af us):=Er (a:=af us) rfl m2;rw[FP,bZ,jN,bZ,bZ,e1,bZ,jN,bZ,bZ,e2];rfl
  ·unfold trS;rw[t8 (a:=H) (b:=rdD cs ms) (c:=rdD ds us) rfl rfl rfl ch];rfl
  ·show R.bind (fne (.lst [rdD cs ms,rdD ds us]) (.lst [rdD cs ms,rdD ds us])) asB=_;rw[i7 (qO (by simp[px,py]))];rfl
  have ends:∀xs:List D,xs.length<=1001->fin (sq (asO (apP 7 (.l (.l .s)) (pN0 7) (eLs (eE aN)))) (ret (cal 2 bQ (aC (cal 3 dI (aC (vr 2) (aC (bin fix (vb 6) (kd (.int 0))) (aC (bin fix (vb 6) (kd (.int 1))) aN)))) (aC (vr 5) aN)))) (rLw ns P H (rdD cs ms) (rdD ds us) (.lst (al.map af)) (.lst [rdD cs ms,rdD ds us]) (some (.tre k3 (.lst xs))) none))=.val (.bl true):=λxs hx=>by
   refine fgo (vk (k:=k3) (k':=.l (.l .s)) (pp:=[]) (x:=.lst []) (d:=.lst xs) (xs:=xs) rfl (Eq.trans rfl rfl) rfl rfl rfl (by omega)) ?_;rw[cK,oF (a:=.lst (al.map af)) (b:=.lst (al.map af)) (t8 rfl rfl rfl ch) rfl told];rfl
  have tl:tst (bin (iI fgt) (una aM (va 7)) (kd (.int 0))) (rLw ns P H (rdD cs ms) (rdD ds us) (.lst (al.map af)) (.lst [rdD cs ms,rdD ds us]) (some (.tre k3 (.lst (al.map af)))) none)=.val (decide ((0:Int)<((al.map af).length:Int))):=Eq.trans rfl rfl;cases al with
  | nil=>exact fgo (fU (by rw[tl];rfl)) (ends _ (by simp))
  | cons G rest =>
   obtain⟨xs,x1,x2⟩:=Gz (ns:=ns) (P:=P) (H:=H) (one:=rdD cs ms) (other:=rdD ds us) (hd:=.lst [rdD cs ms,rdD ds us]) (G:=G) (rest:=rest) (iG G (by simp)).1 (iG G (by simp)).2 (λK hK=>iG K (by simp[hK])) (by simp at aln;omega);refine fgo (U':=rLw ns P H (rdD cs ms) (rdD ds us) (.lst ((G::rest).map af)) (.lst [rdD cs ms,rdD ds us]) (some (.tre k3 (.lst xs))) none) ?_ (ends _ x1);rw[bB,tl,ac,if_pos (decide_eq_true (by rw[List.length_map,List.length_cons];omega))];exact x2
end DL
namespace DL
open PySem PySem.Spec PyProof.Rows L2
variable {us:List Value}
theorem uP {n:Nat} (h:us.length=n+1):∃y l,us=y::l/\l.length=n:=by
 cases us with
 | nil=>cases h
 | cons y l=>exact⟨y,l,rfl,Nat.succ.inj h⟩
theorem tH (h:us.length=1):∃y0,us=[y0]:=by
 obtain⟨y,l,e,h⟩:=uP h;exact⟨y,by rw[e,List.eq_nil_of_length_eq_zero h]⟩
theorem gJ (h:us.length=2):∃y0 y1,us=[y0,y1]:=by
 obtain⟨y,l,rfl,g⟩:=uP h;obtain⟨y1,rfl⟩:=tH g;exact⟨y,y1,rfl⟩
theorem me (h:us.length=3):∃y0 y1 y2,us=[y0,y1,y2]:=by
 obtain⟨y,l,rfl,g⟩:=uP h;obtain⟨y1,y2,rfl⟩:=gJ g;exact⟨y,y1,y2,rfl⟩
theorem yZ (h:us.length=4):∃y0 y1 y2 y3,us=[y0,y1,y2,y3]:=by
 obtain⟨y,l,rfl,g⟩:=uP h;obtain⟨y1,y2,y3,rfl⟩:=me g;exact⟨y,y1,y2,y3,rfl⟩
theorem Gx (h:us.length=5):∃y0 y1 y2 y3 y4,us=[y0,y1,y2,y3,y4]:=by
 obtain⟨y,l,rfl,g⟩:=uP h;obtain⟨y1,y2,y3,y4,rfl⟩:=yZ g;exact⟨y,y1,y2,y3,y4,rfl⟩
theorem Fs (h:us.length=6):∃y0 y1 y2 y3 y4 y5,us=[y0,y1,y2,y3,y4,y5]:=by
 obtain⟨y,l,rfl,g⟩:=uP h;obtain⟨y1,y2,y3,y4,y5,rfl⟩:=Gx g;exact⟨y,y1,y2,y3,y4,y5,rfl⟩
theorem Gw (h:us.length=7):∃y0 y1 y2 y3 y4 y5 y6,us=[y0,y1,y2,y3,y4,y5,y6]:=by
 obtain⟨y,l,rfl,g⟩:=uP h;obtain⟨y1,y2,y3,y4,y5,y6,rfl⟩:=Fs g;exact⟨y,y1,y2,y3,y4,y5,y6,rfl⟩
def vD (K:Frag):Sp:=λvs H Q _=>∃(a:Addr) (ns:List Int),vs=[.ref a]/\SqL K H a (ns.map V.int)/\ns.length<=63/\∀H',Q (.bl true) H'
theorem Br {P:Program} {w:World} {K:Frag} {mg:Str->Option Value} {base:Heap} {C:Addr} {k:Nat} {f:Addr} {fd:FuncData} (hval:∀ns:List Int,ns.length<=63->oz [.scr ns]=.val (.bl true)) (F:FnOk P w K mg base CX0 k f fd ["script"] (spD K C 1 oz)):FnOk P w K mg base CX0 k f fd ["script"] (vD K) :=
 F.imp λvs H Q E ⟨a,ns,e,hS,hl,q⟩=>by
  subst e;refine⟨rfl,[.scr ns],.cons (.scr hS) .nil,?_⟩;rw[hval ns hl];intro v H' _ hv;cases hv;exact q H'
abbrev NI (K:Frag) (x:Str) (f:Addr):Prop:=nsIn K mainGlobals x=some (some (.ref f))
abbrev NN (K:Frag) (x:Str):Prop:=nsIn K mainGlobals x=some none
abbrev LK (K:Frag) (f:Addr) (n q:Str) (s:Stmt) (oc:Value) (od:Option Addr) (kV dc pm:Value) (an:Option Addr) (cd ct:Value) (sl:Array (Option Value)):Prop:=K.lookup f=some ⟨oc,od,.func (fnOf n q (jA s) (bY s) (aj s) .none kV dc pm an cd ct),sl⟩
abbrev CI (K:Frag) (c:Value) (n:Str):Prop:=codeIn K c n=true
abbrev KP (K:Frag) (f:Addr):Prop:=keepIn K (.ref f)=true
abbrev KO (K:Frag) (a b:Value) (c:Bool):Prop:=kitOne K a b=some c
set_option autoImplicit true in
theorem all_mk {l:PySem.W.OpenLaw} {w:World} {K:Frag} {h:Heap} {mg:Str->Option Value} {fa C f1 f2 f3 f4 f5 f6 f7 f8 f9 f10 f11 f12 f13 f14 f15 f16 f17 f18 f19 f20 f21 f22 f23 f24 f25 f26 f27 f28 f29 f30 f31 f32 f33 f34 f35 f36 f37 f38 f39 f40 f41 f42 f43 f44:Addr} {tb ta tMOST_THINGS:Tok} (hval:∀ns:List Int,ns.length<=63->oz [.scr ns]=.val (.bl true)) (X:K.In h) (G:h.Ns mainGlobals mg) (hfa:mg "law"=some (.ref fa))
    (aC:NI K "Hall" C)
    (a1:NI K "_law_cell" f1) (l1:LK K f1 "_law_cell" "_law_cell" hX oc1 od1 kV1 dc1 pm1 an1 cd1 ct1 sl1) (c1:CI K cd1 "_law_cell") (k1:KP K f1)
    (a2:NI K "_law_sizes" f2) (l2:LK K f2 "_law_sizes" "_law_sizes" gr oc2 od2 kV2 dc2 pm2 an2 cd2 ct2 sl2) (c2:CI K cd2 "_law_sizes") (k2:KP K f2)
    (a3:NI K "_law_next" f3) (l3:LK K f3 "_law_next" "_law_next" hJ oc3 od3 kV3 dc3 pm3 an3 cd3 ct3 sl3) (c3:CI K cd3 "_law_next") (k3:KP K f3)
    (a4:NI K "_law_closed" f4) (l4:LK K f4 "_law_closed" "_law_closed" cJ oc4 od4 kV4 dc4 pm4 an4 cd4 ct4 sl4) (c4:CI K cd4 "_law_closed") (k4:KP K f4)
    (a5:NI K "_law_arrows" f5) (l5:LK K f5 "_law_arrows" "_law_arrows" fE oc5 od5 kV5 dc5 pm5 an5 cd5 ct5 sl5) (c5:CI K cd5 "_law_arrows") (k5:KP K f5)
    (a6:NI K "_law_parts" f6) (l6:LK K f6 "_law_parts" "_law_parts" gt oc6 od6 kV6 dc6 pm6 an6 cd6 ct6 sl6) (c6:CI K cd6 "_law_parts") (k6:KP K f6)
    (a7:NI K "check_counts" f7) (l7:LK K f7 "check_counts" "check_counts" d6 oc7 od7 kV7 dc7 pm7 an7 cd7 ct7 sl7) (c7:CI K cd7 "check_counts") (k7:KP K f7)
    (a8:NI K "is_below" f8) (l8:LK K f8 "is_below" "is_below" hZ oc8 od8 kV8 dc8 pm8 an8 cd8 ct8 sl8) (c8:CI K cd8 "is_below") (k8:KP K f8)
    (a9:NI K "check_ends" f9) (l9:LK K f9 "check_ends" "check_ends" fH oc9 od9 kV9 dc9 pm9 an9 cd9 ct9 sl9) (c9:CI K cd9 "check_ends") (k9:KP K f9)
    (a10:NI K "check_rests" f10) (l10:LK K f10 "check_rests" "check_rests" eW oc10 od10 kV10 dc10 pm10 an10 cd10 ct10 sl10) (c10:CI K cd10 "check_rests") (k10:KP K f10)
    (a11:NI K "check_form" f11) (l11:LK K f11 "check_form" "check_form" fG oc11 od11 kV11 dc11 pm11 an11 cd11 ct11 sl11) (c11:CI K cd11 "check_form") (k11:KP K f11)
    (a12:NI K "check_entry" f12) (l12:LK K f12 "check_entry" "check_entry" eX oc12 od12 kV12 dc12 pm12 an12 cd12 ct12 sl12) (c12:CI K cd12 "check_entry") (k12:KP K f12)
    (a13:NI K "check_table" f13) (l13:LK K f13 "check_table" "check_table" eV oc13 od13 kV13 dc13 pm13 an13 cd13 ct13 sl13) (c13:CI K cd13 "check_table") (k13:KP K f13)
    (a14:NI K "check_beside_rests" f14) (l14:LK K f14 "check_beside_rests" "check_beside_rests" ci oc14 od14 kV14 dc14 pm14 an14 cd14 ct14 sl14) (c14:CI K cd14 "check_beside_rests") (k14:KP K f14)
    (a15:NI K "check_thirds" f15) (l15:LK K f15 "check_thirds" "check_thirds" d5 oc15 od15 kV15 dc15 pm15 an15 cd15 ct15 sl15) (c15:CI K cd15 "check_thirds") (k15:KP K f15)
    (a16:NI K "check_threes" f16) (l16:LK K f16 "check_threes" "check_threes" dZ oc16 od16 kV16 dc16 pm16 an16 cd16 ct16 sl16) (c16:CI K cd16 "check_threes") (k16:KP K f16)
    (a17:findIn K (.ref C) "__init__"=some (some (.ref f17))) (i17:PySem.W.isFn K (.ref f17)=true) (l17:LK K f17 "__init__" "Hall.__init__" bG oc17 od17 kV17 dc17 pm17 an17 cd17 ct17 sl17) (c17:CI K cd17 "Hall.__init__") (k17:KP K f17)
    (a18:NI K "_law_hall" f18) (l18:LK K f18 "_law_hall" "_law_hall" hV oc18 od18 kV18 dc18 pm18 an18 cd18 ct18 sl18) (c18:CI K cd18 "_law_hall") (k18:KP K f18)
    (a19:NI K "_law_reading_of" f19) (l19:LK K f19 "_law_reading_of" "_law_reading_of" dg oc19 od19 kV19 dc19 pm19 an19 cd19 ct19 sl19) (c19:CI K cd19 "_law_reading_of") (k19:KP K f19)
    (a20:NI K "_law_beside" f20) (l20:LK K f20 "_law_beside" "_law_beside" fD oc20 od20 kV20 dc20 pm20 an20 cd20 ct20 sl20) (c20:CI K cd20 "_law_beside") (k20:KP K f20)
    (a21:NI K "_law_between" f21) (l21:LK K f21 "_law_between" "_law_between" eR oc21 od21 kV21 dc21 pm21 an21 cd21 ct21 sl21) (c21:CI K cd21 "_law_between") (k21:KP K f21)
    (a22:NI K "_law_out" f22) (l22:LK K f22 "_law_out" "_law_out" jo oc22 od22 kV22 dc22 pm22 an22 cd22 ct22 sl22) (c22:CI K cd22 "_law_out") (k22:KP K f22)
    (a23:NI K "_law_drawn_reading" f23) (l23:LK K f23 "_law_drawn_reading" "_law_drawn_reading" cy oc23 od23 kV23 dc23 pm23 an23 cd23 ct23 sl23) (c23:CI K cd23 "_law_drawn_reading") (k23:KP K f23)
    (a24:NI K "_law_rows" f24) (l24:LK K f24 "_law_rows" "_law_rows" hE oc24 od24 kV24 dc24 pm24 an24 cd24 ct24 sl24) (c24:CI K cd24 "_law_rows") (k24:KP K f24)
    (a25:NI K "_law_is_change" f25) (l25:LK K f25 "_law_is_change" "_law_is_change" dD oc25 od25 kV25 dc25 pm25 an25 cd25 ct25 sl25) (c25:CI K cd25 "_law_is_change") (k25:KP K f25)
    (a26:NI K "_law_all_changes" f26) (l26:LK K f26 "_law_all_changes" "_law_all_changes" cU oc26 od26 kV26 dc26 pm26 an26 cd26 ct26 sl26) (c26:CI K cd26 "_law_all_changes") (k26:KP K f26)
    (a27:NI K "are_below" f27) (l27:LK K f27 "are_below" "are_below" gu oc27 od27 kV27 dc27 pm27 an27 cd27 ct27 sl27) (c27:CI K cd27 "are_below") (k27:KP K f27)
    (a28:NI K "has_form" f28) (l28:LK K f28 "has_form" "has_form" h9 oc28 od28 kV28 dc28 pm28 an28 cd28 ct28 sl28) (c28:CI K cd28 "has_form") (k28:KP K f28)
    (a29:NI K "keeps_rests" f29) (l29:LK K f29 "keeps_rests" "keeps_rests" eU oc29 od29 kV29 dc29 pm29 an29 cd29 ct29 sl29) (c29:CI K cd29 "keeps_rests") (k29:KP K f29)
    (a30:NI K "followed" f30) (l30:LK K f30 "followed" "followed" h_ oc30 od30 kV30 dc30 pm30 an30 cd30 ct30 sl30) (c30:CI K cd30 "followed") (k30:KP K f30)
    (a31:NI K "keeps_table" f31) (l31:LK K f31 "keeps_table" "keeps_table" eS oc31 od31 kV31 dc31 pm31 an31 cd31 ct31 sl31) (c31:CI K cd31 "keeps_table") (k31:KP K f31)
    (a32:NI K "is_reading" f32) (l32:LK K f32 "is_reading" "is_reading" fF oc32 od32 kV32 dc32 pm32 an32 cd32 ct32 sl32) (c32:CI K cd32 "is_reading") (k32:KP K f32)
    (a33:NI K "check_reading" f33) (l33:LK K f33 "check_reading" "check_reading" dE oc33 od33 kV33 dc33 pm33 an33 cd33 ct33 sl33) (c33:CI K cd33 "check_reading") (k33:KP K f33)
    (a34:NI K "has_room" f34) (l34:LK K f34 "has_room" "has_room" h8 oc34 od34 kV34 dc34 pm34 an34 cd34 ct34 sl34) (c34:CI K cd34 "has_room") (k34:KP K f34)
    (a35:NI K "settle" f35) (l35:LK K f35 "settle" "settle" fQ oc35 od35 kV35 dc35 pm35 an35 cd35 ct35 sl35) (c35:CI K cd35 "settle") (k35:KP K f35)
    (a36:NI K "told_along" f36) (l36:LK K f36 "told_along" "told_along" fC oc36 od36 kV36 dc36 pm36 an36 cd36 ct36 sl36) (c36:CI K cd36 "told_along") (k36:KP K f36)
    (a37:NI K "told_on" f37) (l37:LK K f37 "told_on" "told_on" dM oc37 od37 kV37 dc37 pm37 an37 cd37 ct37 sl37) (c37:CI K cd37 "told_on") (k37:KP K f37)
    (a38:NI K "changes" f38) (l38:LK K f38 "changes" "changes" jp oc38 od38 kV38 dc38 pm38 an38 cd38 ct38 sl38) (c38:CI K cd38 "changes") (k38:KP K f38)
    (a39:NI K "_law_ints" f39) (l39:LK K f39 "_law_ints" "_law_ints" hU oc39 od39 kV39 dc39 pm39 an39 cd39 ct39 sl39) (c39:CI K cd39 "_law_ints") (k39:KP K f39)
    (a40:NI K "_law_lists_like" f40) (l40:LK K f40 "_law_lists_like" "_law_lists_like" dh oc40 od40 kV40 dc40 pm40 an40 cd40 ct40 sl40) (c40:CI K cd40 "_law_lists_like") (k40:KP K f40)
    (a41:NI K "_law_told" f41) (l41:LK K f41 "_law_told" "_law_told" hC oc41 od41 kV41 dc41 pm41 an41 cd41 ct41 sl41) (c41:CI K cd41 "_law_told") (k41:KP K f41)
    (a42:NI K "_law_small" f42) (l42:LK K f42 "_law_small" "_law_small" gq oc42 od42 kV42 dc42 pm42 an42 cd42 ct42 sl42) (c42:CI K cd42 "_law_small") (k42:KP K f42)
    (a43:NI K "_law_copy" f43) (l43:LK K f43 "_law_copy" "_law_copy" hW oc43 od43 kV43 dc43 pm43 an43 cd43 ct43 sl43) (c43:CI K cd43 "_law_copy") (k43:KP K f43)
    (a44:NI K "law" f44) (l44:LK K f44 "law" "law" ke oc44 od44 kV44 dc44 pm44 an44 cd44 ct44 sl44) (c44:CI K cd44 "law") (k44:KP K f44)
    (pg:plainGet K C Str.empty=true) (hd:hasDictIn K C=true) (po:PySem.W.plainOver K C=true) (sa:findIn K (.ref C) "__setattr__"=some (some (.builtin "object.__setattr__"))) (mk:PySem.W.makesIn K C=true) (kc:keepIn K (.ref C)=true)
    (nE:findIn K (.ref C) "ends"=some none) (nR:findIn K (.ref C) "rests"=some none) (nT:findIn K (.ref C) "table"=some none)
    (z_len:NN K "len")
    (z_list:NN K "list")
    (z_tuple:NN K "tuple")
    (z_range:NN K "range")
    (z_enumerate:NN K "enumerate")
    (z_max:NN K "max")
    (z_isinstance:NN K "isinstance")
    (z_all:NN K "all")
    (z_zip:NN K "zip")
    (z_int:NN K "int")
    (z_bool:NN K "bool")
    (mb:nsIn K mainGlobals "MOST_BOXES"=some (some (.int 6 tb))) (ma:nsIn K mainGlobals "MOST_ARROWS"=some (some (.int 40 ta))) (mMOST_THINGS:nsIn K mainGlobals "MOST_THINGS"=some (some (.int 40 tMOST_THINGS)))
    (ih1:findIn K (.ref C) "__class__"=some (some (.builtin "object.__class__"))) (ih2:PySem.W.specialIn K (.builtin "object.__class__") "__get__"=some (some (.builtin "getset_descriptor.__get__"))) (ih3:PySem.W.takesIn K (.builtin "object.__class__")=some true)
    (ih4:PySem.W.mroIn K C (.type "object")=some true)
    (kii:KO K (.type "int") (.type "int") true)
    (kbi:KO K (.type "bool") (.type "int") true)
    (kNi:KO K (.type "NoneType") (.type "int") false)
    (kli:KO K (.type "list") (.type "int") false)
    (kti:KO K (.type "tuple") (.type "int") false)
    (kib:KO K (.type "int") (.type "bool") false)
    (kbb:KO K (.type "bool") (.type "bool") true)
    (kNb:KO K (.type "NoneType") (.type "bool") false)
    (klb:KO K (.type "list") (.type "bool") false)
    (ktb:KO K (.type "tuple") (.type "bool") false)
    (kil:KO K (.type "int") (.type "list") false)
    (kbl:KO K (.type "bool") (.type "list") false)
    (kNl:KO K (.type "NoneType") (.type "list") false)
    (kll:KO K (.type "list") (.type "list") true)
    (ktl:KO K (.type "tuple") (.type "list") false)
 :
    ∃fd:FuncData,(∀(s:Shared) (v:Value),BindsTo s fd ⟨[v],[]⟩ [("script",v)])/\∀base:Heap,K.In base->base.Ns mainGlobals mg->FnOk l.prog w K mg base CX0 7 fa fd ["script"] (vD K):=by
  have e:=hfa.symm.trans (mg_of X G a44);cases e;have cl:Cls K C:=⟨pg,hd,po,sa⟩;have T:Txt K mg C:=⟨cl,nE,nR,nT,mg_none_of X G z_len,mg_none_of X G z_list,mg_none_of X G z_tuple,mg_none_of X G z_range,mg_none_of X G z_enumerate,mg_none_of X G z_max,mg_none_of X G z_isinstance,mg_none_of X G z_all,mg_none_of X G z_zip,mg_none_of X G z_int,mg_none_of X G z_bool,⟨cl,ih1,ih2,ih3,ih4⟩,mg_of X G aC,⟨tb,mg_of X G mb⟩,⟨ta,mg_of X G ma⟩,⟨tMOST_THINGS,mg_of X G mMOST_THINGS⟩,⟨kii,kbi,kNi,kli,kti⟩,⟨kib,kbb,kNb,klb,ktb⟩,⟨kil,kbl,kNl,kll,ktl⟩⟩;have F1:=aS (st:=hX) l1 c1 k1;have b1:=F1.binds (ps:=["script","k"]) λ_ _ _ _ _ _ us hl=>by obtain⟨y0,y1,rfl⟩:=gJ hl;rfl
  have F2:=aS (st:=gr) l2 c2 k2;have b2:=F2.binds (ps:=["script","k"]) λ_ _ _ _ _ _ us hl=>by obtain⟨y0,y1,rfl⟩:=gJ hl;rfl
  have F3:=aS (st:=hJ) l3 c3 k3;have b3:=F3.binds (ps:=["step"]) λ_ _ _ _ _ _ us hl=>by obtain⟨y0,rfl⟩:=tH hl;rfl
  have F4:=aS (st:=cJ) l4 c4 k4;have b4:=F4.binds (ps:=["known"]) λ_ _ _ _ _ _ us hl=>by obtain⟨y0,rfl⟩:=tH hl;rfl
  have F5:=aS (st:=fE) l5 c5 k5;have b5:=F5.binds (ps:=["script","k","sizes"]) λ_ _ _ _ _ _ us hl=>by obtain⟨y0,y1,y2,rfl⟩:=me hl;rfl
  have F6:=aS (st:=gt) l6 c6 k6;have b6:=F6.binds (ps:=["script","k"]) λ_ _ _ _ _ _ us hl=>by obtain⟨y0,y1,rfl⟩:=gJ hl;rfl
  have F7:=aS (st:=d6) l7 c7 k7;have b7:=F7.binds (ps:=["ends","rests"]) λ_ _ _ _ _ _ us hl=>by obtain⟨y0,y1,rfl⟩:=gJ hl;rfl
  have F8:=aS (st:=hZ) l8 c8 k8;have b8:=F8.binds (ps:=["number","count"]) λ_ _ _ _ _ _ us hl=>by obtain⟨y0,y1,rfl⟩:=gJ hl;rfl
  have F9:=aS (st:=fH) l9 c9 k9;have b9:=F9.binds (ps:=["ends","boxes"]) λ_ _ _ _ _ _ us hl=>by obtain⟨y0,y1,rfl⟩:=gJ hl;rfl
  have F10:=aS (st:=eW) l10 c10 k10;have b10:=F10.binds (ps:=["ends","rests"]) λ_ _ _ _ _ _ us hl=>by obtain⟨y0,y1,rfl⟩:=gJ hl;rfl
  have F11:=aS (st:=fG) l11 c11 k11;have b11:=F11.binds (ps:=["table","arrows"]) λ_ _ _ _ _ _ us hl=>by obtain⟨y0,y1,rfl⟩:=gJ hl;rfl
  have F12:=aS (st:=eX) l12 c12 k12;have b12:=F12.binds (ps:=["ends","one","other","made"]) λ_ _ _ _ _ _ us hl=>by obtain⟨y0,y1,y2,y3,rfl⟩:=yZ hl;rfl
  have F13:=aS (st:=eV) l13 c13 k13;have b13:=F13.binds (ps:=["ends","table"]) λ_ _ _ _ _ _ us hl=>by obtain⟨y0,y1,rfl⟩:=gJ hl;rfl
  have F14:=aS (st:=ci) l14 c14 k14;have b14:=F14.binds (ps:=["ends","rests","table"]) λ_ _ _ _ _ _ us hl=>by obtain⟨y0,y1,y2,rfl⟩:=me hl;rfl
  have F15:=aS (st:=d5) l15 c15 k15;have b15:=F15.binds (ps:=["table","one","other","made"]) λ_ _ _ _ _ _ us hl=>by obtain⟨y0,y1,y2,y3,rfl⟩:=yZ hl;rfl
  have F16:=aS (st:=dZ) l16 c16 k16;have b16:=F16.binds (ps:=["table"]) λ_ _ _ _ _ _ us hl=>by obtain⟨y0,rfl⟩:=tH hl;rfl
  have F17:=aS (st:=bG) l17 c17 k17;have b17:=F17.binds (ps:=["self","ends","rests","table"]) λ_ _ _ _ _ _ us hl=>by obtain⟨y0,y1,y2,y3,rfl⟩:=yZ hl;rfl
  have F18:=aS (st:=hV) l18 c18 k18;have b18:=F18.binds (ps:=["parts"]) λ_ _ _ _ _ _ us hl=>by obtain⟨y0,rfl⟩:=tH hl;rfl
  have F19:=aS (st:=dg) l19 c19 k19;have b19:=F19.binds (ps:=["parts"]) λ_ _ _ _ _ _ us hl=>by obtain⟨y0,rfl⟩:=tH hl;rfl
  have F20:=aS (st:=fD) l20 c20 k20;have b20:=F20.binds (ps:=["parts","one","other"]) λ_ _ _ _ _ _ us hl=>by obtain⟨y0,y1,y2,rfl⟩:=me hl;rfl
  have F21:=aS (st:=eR) l21 c21 k21;have b21:=F21.binds (ps:=["parts","box","other"]) λ_ _ _ _ _ _ us hl=>by obtain⟨y0,y1,y2,rfl⟩:=me hl;rfl
  have F22:=aS (st:=jo) l22 c22 k22;have b22:=F22.binds (ps:=["parts","box"]) λ_ _ _ _ _ _ us hl=>by obtain⟨y0,y1,rfl⟩:=gJ hl;rfl
  have F23:=aS (st:=cy) l23 c23 k23;have b23:=F23.binds (ps:=["script","k","parts"]) λ_ _ _ _ _ _ us hl=>by obtain⟨y0,y1,y2,rfl⟩:=me hl;rfl
  have F24:=aS (st:=hE) l24 c24 k24;have b24:=F24.binds (ps:=["size","most"]) λ_ _ _ _ _ _ us hl=>by obtain⟨y0,y1,rfl⟩:=gJ hl;rfl
  have F25:=aS (st:=dD) l25 c25 k25;have b25:=F25.binds (ps:=["parts","one","other","change"]) λ_ _ _ _ _ _ us hl=>by obtain⟨y0,y1,y2,y3,rfl⟩:=yZ hl;rfl
  have F26:=aS (st:=cU) l26 c26 k26;have b26:=F26.binds (ps:=["parts","one","other"]) λ_ _ _ _ _ _ us hl=>by obtain⟨y0,y1,y2,rfl⟩:=me hl;rfl
  have F27:=aS (st:=gu) l27 c27 k27;have b27:=F27.binds (ps:=["numbers","count"]) λ_ _ _ _ _ _ us hl=>by obtain⟨y0,y1,rfl⟩:=gJ hl;rfl
  have F28:=aS (st:=h9) l28 c28 k28;have b28:=F28.binds (ps:=["hall","counts","maps"]) λ_ _ _ _ _ _ us hl=>by obtain⟨y0,y1,y2,rfl⟩:=me hl;rfl
  have F29:=aS (st:=eU) l29 c29 k29;have b29:=F29.binds (ps:=["hall","counts","maps"]) λ_ _ _ _ _ _ us hl=>by obtain⟨y0,y1,y2,rfl⟩:=me hl;rfl
  have F30:=aS (st:=h_) l30 c30 k30;have b30:=F30.binds (ps:=["first","second"]) λ_ _ _ _ _ _ us hl=>by obtain⟨y0,y1,rfl⟩:=gJ hl;rfl
  have F31:=aS (st:=eS) l31 c31 k31;have b31:=F31.binds (ps:=["hall","maps"]) λ_ _ _ _ _ _ us hl=>by obtain⟨y0,y1,rfl⟩:=gJ hl;rfl
  have F32:=aS (st:=fF) l32 c32 k32;have b32:=F32.binds (ps:=["hall","counts","maps"]) λ_ _ _ _ _ _ us hl=>by obtain⟨y0,y1,y2,rfl⟩:=me hl;rfl
  have F33:=aS (st:=dE) l33 c33 k33;have b33:=F33.binds (ps:=["hall","reading"]) λ_ _ _ _ _ _ us hl=>by obtain⟨y0,y1,rfl⟩:=gJ hl;rfl
  have F34:=aS (st:=h8) l34 c34 k34;have b34:=F34.binds (ps:=["counts","others"]) λ_ _ _ _ _ _ us hl=>by obtain⟨y0,y1,rfl⟩:=gJ hl;rfl
  have F35:=aS (st:=fQ) l35 c35 k35;have b35:=F35.binds (ps:=["things","thing","goal"]) λ_ _ _ _ _ _ us hl=>by obtain⟨y0,y1,y2,rfl⟩:=me hl;rfl
  have F36:=aS (st:=fC) l36 c36 k36;have b36:=F36.binds (ps:=["hall","one","other","change","box","thing","goal"]) λ_ _ _ _ _ _ us hl=>by obtain⟨y0,y1,y2,y3,y4,y5,y6,rfl⟩:=Gw hl;rfl
  have F37:=aS (st:=dM) l37 c37 k37;have b37:=F37.binds (ps:=["hall","one","other","begun","box","thing"]) λ_ _ _ _ _ _ us hl=>by obtain⟨y0,y1,y2,y3,y4,y5,rfl⟩:=Fs hl;rfl
  have F38:=aS (st:=jp) l38 c38 k38;have b38:=F38.binds (ps:=["hall","one","other"]) λ_ _ _ _ _ _ us hl=>by obtain⟨y0,y1,y2,rfl⟩:=me hl;rfl
  have F39:=aS (st:=hU) l39 c39 k39;have b39:=F39.binds (ps:=["found","due"]) λ_ _ _ _ _ _ us hl=>by obtain⟨y0,y1,rfl⟩:=gJ hl;rfl
  have F40:=aS (st:=dh) l40 c40 k40;have b40:=F40.binds (ps:=["found","due"]) λ_ _ _ _ _ _ us hl=>by obtain⟨y0,y1,rfl⟩:=gJ hl;rfl
  have F41:=aS (st:=hC) l41 c41 k41;have b41:=F41.binds (ps:=["found","due"]) λ_ _ _ _ _ _ us hl=>by obtain⟨y0,y1,rfl⟩:=gJ hl;rfl
  have F42:=aS (st:=gq) l42 c42 k42;have b42:=F42.binds (ps:=["one","other"]) λ_ _ _ _ _ _ us hl=>by obtain⟨y0,y1,rfl⟩:=gJ hl;rfl
  have F43:=aS (st:=hW) l43 c43 k43;have b43:=F43.binds (ps:=["rows"]) λ_ _ _ _ _ _ us hl=>by obtain⟨y0,rfl⟩:=tH hl;rfl
  have F44:=aS (st:=ke) l44 c44 k44;have b44:=F44.binds (ps:=["script"]) λ_ _ _ _ _ _ us hl=>by obtain⟨y0,rfl⟩:=tH hl;rfl
  refine⟨fnOf "law" "law" (jA ke) (bY ke) (aj ke) .none kV44 dc44 pm44 an44 cd44 ct44,λs v=>.of_eq rfl,λbase _ _=>?_⟩;have r1:=tf (P:=l.prog) (w:=w) (base:=base) T F1 (mg_of X G a1) b1;have r2:=qW T r1 F2 (mg_of X G a2) b2;have r3:=sY (P:=l.prog) (w:=w) (base:=base) T F3 (mg_of X G a3) b3;have r4:=pb (P:=l.prog) (w:=w) (base:=base) T F4 (mg_of X G a4) b4;have r5:=pf T r1 r4 r3 F5 (mg_of X G a5) b5;have r6:=qX T r5 r2 F6 (mg_of X G a6) b6;have r7:=l_ (P:=l.prog) (w:=w) (base:=base) T F7 (mg_of X G a7) b7;have r8:=tm (P:=l.prog) (w:=w) (base:=base) T F8 (mg_of X G a8) b8;have r9:=pj T r8 F9 (mg_of X G a9) b9;have r10:=nH T r8 F10 (mg_of X G a10) b10;have r11:=pi (P:=l.prog) (w:=w) (base:=base) T F11 (mg_of X G a11) b11;have r12:=nI T r8 F12 (mg_of X G a12) b12;have r13:=nG T r12 F13 (mg_of X G a13) b13;have r14:=iO (P:=l.prog) (w:=w) (base:=base) T F14 (mg_of X G a14) b14;have r15:=lZ (P:=l.prog) (w:=w) (base:=base) T F15 (mg_of X G a15) b15;have r16:=lY T r15 F16 (mg_of X G a16) b16;have r17:=nJ T r14 r7 r9 r11 r10 r13 r16 F17 ⟨mk,a17,i17,kc⟩ b17;have r18:=s_ T r17 F18 (mg_of X G a18) b18;have r19:=ko (P:=l.prog) (w:=w) (base:=base) T F19 (mg_of X G a19) b19;have r20:=pc (P:=l.prog) (w:=w) (base:=base) T F20 (mg_of X G a20) b20;have r21:=nB (P:=l.prog) (w:=w) (base:=base) T F21 (mg_of X G a21) b21;have r22:=uJ T r21 F22 (mg_of X G a22) b22;have r23:=i4 T r1 r20 r22 r19 F23 (mg_of X G a23) b23;have r24:=sX (P:=l.prog) (w:=w) (base:=base) T F24 (mg_of X G a24) b24;have r25:=ll (P:=l.prog) (w:=w) (base:=base) T F25 (mg_of X G a25) b25;have r26:=j5 T r25 r24 F26 (mg_of X G a26) b26;have r27:=qY T r8 F27 (mg_of X G a27) b27;have r28:=tu T r27 F28 (mg_of X G a28) b28;have r29:=nF (P:=l.prog) (w:=w) (base:=base) T F29 (mg_of X G a29) b29;have r30:=tw (P:=l.prog) (w:=w) (base:=base) T F30 (mg_of X G a30) b30;have r31:=nC T r30 F31 (mg_of X G a31) b31;have r32:=ph T r28 r29 r31 F32 (mg_of X G a32) b32;have r33:=lu T r32 F33 (mg_of X G a33) b33;have r34:=tq (P:=l.prog) (w:=w) (base:=base) T F34 (mg_of X G a34) b34;have r35:MvB l.prog w K mg base C 1 "settle" [(.l .s)] 2 dR:=xm (P:=l.prog) (w:=w) (base:=base) T F35 (mg_of X G a35) b35;have r36:=o_ T r35 F36 (mg_of X G a36) b36;have r37:FnW l.prog w K mg base C 3 "told_on" 6 3 (.l (.l .s)) cN:=uH T r36 F37 (mg_of X G a37) b37;have r38:=uK T r33 r34 r37 F38 (mg_of X G a38) b38;have r39:=sZ (P:=l.prog) (w:=w) (base:=base) T F39 (mg_of X G a39) b39;have r40:=kt T r39 F40 (mg_of X G a40) b40;have r41:=sW T r40 F41 (mg_of X G a41) b41;have r42:=qV (P:=l.prog) (w:=w) (base:=base) T F42 (mg_of X G a42) b42;have r43:=td (P:=l.prog) (w:=w) (base:=base) T F43 (mg_of X G a43) b43;exact Br hval (bb (C:=C) F44 Hi (λcdv A outer s H E hr=>z9 cdv A outer s H E T r26 r43 r23 r18 r6 r42 r41 r38 hr))
theorem walk {l:PySem.W.OpenLaw} {q:Program} {loose:List Str} {XP:(Str->Option Value)->Heap->Prop} {YP:World->Heap->Prop} {d:DefRec} {K:Params->Frag} (hn:l.most=some 63) (hdf:d.params.defaults=[])
  (hY:∀(w:World) (h:Heap),YP w h->(K w.params).In h)
  (F:∀(w:World) (mg:Str->Option Value) (fa:Addr) (h:Heap),(K w.params).In h->h.Ns mainGlobals mg->mg d.name=some (.ref fa) ->
   ∃fd:FuncData,(∀(s:Shared) (u:Value),BindsTo s fd ⟨[u],[]⟩ [("script",u)])/\∀base:Heap,(K w.params).In base->base.Ns mainGlobals mg->FnOk l.prog w (K w.params) mg base CX0 7 fa fd ["script"] (vD (K w.params))) :
  PySem.W.WalkO q loose XP YP l.row.toRowW d [] (λf vs=>PySem.call f vs) :=
 L2.walk_of (n:=63) (k:=7) (x:="script") (CX:=λ_=>CX0) (sp:=λw=>vD (K w.params)) hn (by decide) hdf ⟨rfl,by decide,by decide⟩ hY F (λ_ _ a ns hl _ hS=>⟨a,ns,rfl,hS,hl,λ_=>rfl⟩) λ_ _ _ _ _ z=>z
end DL
namespace PySem.W.Fast
def tw10992420652307707968:=0
def tw13546560719812082848:=0
def tw1744252936920737952:=0
def tw12786429504186332544:=0
def tw13077609695760379328:=0
def tw18074780654621897312:=0
def tw13851788828794613504:=0
def tw4959574030108362881:=0
def tw15814630879768465889:=0
def tw15598211424966503969:=0
def tw17041653687977282305:=0
def tw18305917844337030049:=0
def tw10048377397357566913:=0
def tw9096875638478489569:=0
def tw11609323449242809346:=0
def tw16171956127776612418:=0
def tw6968667777777688642:=0
def tw5590108404620787042:=0
def tw11929832969546709442:=0
def tw12907576988789698050:=0
def tw1989716205388532258:=0
def tw17767246831702660674:=0
def tw14174674155755388514:=0
def tw345289212222568098:=0
def tw2525051037105749890:=0
def tw665217062470176803:=0
def tw17843040145187953955:=0
def tw7350580259981519139:=0
def tw5693444349720856899:=0
def tw17828876510045923747:=0
def tw3548475067507890627:=0
def tw10879114078945794531:=0
def tw3994652834446990883:=0
def tw11327675201639024227:=0
def tw4570759943046205187:=0
def tw7057043406434683747:=0
def tw9771749435318861763:=0
def tw6099034244067584036:=0
def tw16480032492323049572:=0
def tw14611344231688165540:=0
def tw18153925931320125604:=0
def tw12826146079646687428:=0
def tw9173756424670699748:=0
def tw12609120556484243876:=0
def tw17229918929132241348:=0
def tw1020637946166518308:=0
def tw12050962345103745604:=0
def tw5510641129388242532:=0
def tw7854867401298828964:=0
def tw17873997127678087908:=0
def tw15869818900422612772:=0
def tw11689371409655604036:=0
def tw7150853420784865124:=0
def tw13914447128238964708:=0
def tw180243766086067493:=0
def tw4868831350926769477:=0
def tw17761351012976774469:=0
def tw4942853180904325637:=0
def tw9594415993955267141:=0
def tw2580077625962785381:=0
def tw11881294534204398341:=0
def tw13489138720642484005:=0
def tw1817414571094782885:=0
def tw14694425919738843077:=0
def tw11080042204494532581:=0
def tw17006434905156371686:=0
def tw4038462814086695270:=0
def tw4583754835080672678:=0
def tw1800726972739031622:=0
def tw7315584351629495303:=0
def tw13545432850168262727:=0
def tw17607280287446021255:=0
def tw5564450709248149703:=0
def tw18162965765696324967:=0
def tw18115138994446349799:=0
def tw11336271060739383783:=0
def tw9758974258987323975:=0
def tw2530501785267040839:=0
def tw12616643528716147367:=0
def tw5618153866460456615:=0
def tw7746153058054100839:=0
def tw213667089896670344:=0
def tw5211375456728712424:=0
def tw9987318226605867336:=0
def tw5918062926756704872:=0
def tw16685893199181448904:=0
def tw13630175423921566408:=0
def tw8999671960183558984:=0
def tw14260205839951453160:=0
def tw17744006109885685736:=0
def tw4683187425485581288:=0
def tw11568874031457864745:=0
def tw1183071590959925321:=0
def tw16864669588903901321:=0
def tw6436175283482501353:=0
def tw4165323771457313033:=0
def tw2761533570023574889:=0
def tw9210674345691594153:=0
def tw17028158635787450857:=0
def tw13399313300281159209:=0
def tw5743014080580676233:=0
def tw17363832970294857449:=0
def tw1685596884289018633:=0
def tw7788646380215393097:=0
def tw7856235981552308073:=0
def tw4706559854135596905:=0
def tw15947182273714758601:=0
def tw9127766524893768714:=0
def tw16504903273809005578:=0
def tw14930288747403907178:=0
def tw17226390833283029130:=0
def tw7879923689022380234:=0
def tw12145326518389297514:=0
def tw10760461836939631978:=0
def tw8953401472577436106:=0
def tw4990875120685335018:=0
def tw7740929334181189098:=0
def tw1524692212966046314:=0
def tw6553461792484516458:=0
def tw12763243281283995274:=0
def tw4036418006533433994:=0
def tw6244202479970435786:=0
def tw6300444568773708490:=0
def tw215585910601473738:=0
def tw16469849254904803082:=0
def tw2036907374752870186:=0
def tw853346478932860746:=0
def tw1162523124913183851:=0
def tw9902472985852286059:=0
def tw16868650034220153067:=0
def tw13768184308616147211:=0
def tw13415296011269668107:=0
def tw17396958521039956363:=0
def tw3865129156199114187:=0
def tw13799814555613452779:=0
def tw7067585019009292843:=0
def tw11793103130502728299:=0
def tw6196450925204639339:=0
def tw13227873373284806347:=0
def tw9812762246291876587:=0
def tw211482032960655179:=0
def tw17574463226157402987:=0
def tw4440202191863062668:=0
def tw17079675854373007500:=0
def tw3754333424737739948:=0
def tw2628941580009977100:=0
def tw1880816587237637452:=0
def tw8558048172664931756:=0
def tw4901972905899463116:=0
def tw7321664878144928300:=0
def tw6685537736504664716:=0
def tw7221259060679112460:=0
def tw18380047899368415052:=0
def tw14705381752293221196:=0
def tw6666297775922647980:=0
def tw17729860321739656301:=0
def tw8989017107286047885:=0
def tw8409379557451138413:=0
def tw5982593533142843821:=0
def tw9540291790452770221:=0
def tw3192200452057990637:=0
def tw4603182835082920781:=0
def tw14080252348218031981:=0
def tw13144976512815373165:=0
def tw13822895586291711917:=0
def tw16392983690015383566:=0
def tw12517366053556452622:=0
def tw2539469284475155726:=0
def tw17509214282854711694:=0
def tw10225736225428109006:=0
def tw7504167149634113454:=0
def tw13166815042688486415:=0
def tw1227446239101369551:=0
def tw14467069800124828975:=0
def tw17659930331365967151:=0
def tw8122989295977369967:=0
def tw6087232604764706479:=0
def tw6013087919506520847:=0
def tw11724609008109662031:=0
def tw2255663845675577199:=0
def tw11014205311876783983:=0
def tw3675824869638277999:=0
def tw895216696659617743:=0
def tw3168386602735637487:=0
def tw10961728239290366288:=0
def tw12626648723365132656:=0
def tw3966241739370538352:=0
def tw11509864015739449776:=0
def tw6500432632299716048:=0
def tw6048562735620681168:=0
def tw11492273506841862768:=0
def tw17117164980144309904:=0
def tw217557653325225648:=0
def tw16484080613626682096:=0
def tw17669160351177930704:=0
def tw10370334285358366833:=0
def tw10027748365717392785:=0
def tw6561556616890491345:=0
def tw8231694381989465585:=0
def tw7510501142590888433:=0
def tw2371476173248887441:=0
def tw10136098661388962449:=0
def tw7280194086200778513:=0
def tw5245776704014714673:=0
def tw10868606465329490769:=0
def tw18041585084804401073:=0
def tw2520959701203975121:=0
def tw12462725484172425330:=0
def tw13763902311795813490:=0
def tw6110396633501632754:=0
def tw4387660506767794546:=0
def tw13335333734504360338:=0
def tw12777319989396100498:=0
def tw9613887540987900338:=0
def tw4323989957028596178:=0
def tw18418731071187645938:=0
def tw17708304382435342930:=0
def tw15605872814088243794:=0
def tw2431677618944054034:=0
def tw15356703891091338194:=0
def tw4535798667586959411:=0
def tw6633793542802843763:=0
def tw1138835789193083059:=0
def tw17987618942916307251:=0
def tw7010316346679577939:=0
def tw4614787244012813683:=0
def tw16611684736624991667:=0
def tw14047979543670621651:=0
def tw1533863760269818323:=0
def tw9210785698900461107:=0
def tw767302931643659827:=0
def tw13060461213515251315:=0
def tw3380170636250608275:=0
def tw9428368536680279731:=0
def tw17806758557613183699:=0
def tw5222454802369548115:=0
def tw3957694456609536244:=0
def tw7546935071380456724:=0
def tw16624378077962384884:=0
def tw6856407102348442132:=0
def tw17735711443738907188:=0
def tw3735963390878330420:=0
def tw1141446958835220052:=0
def tw9674331229863023252:=0
def tw11714624107946185524:=0
def tw18244236972154390452:=0
def tw7753592387475372309:=0
def tw10384201423289159093:=0
def tw4489891667066206709:=0
def tw11043572635610458645:=0
def tw16478285800395390613:=0
def tw15925272882292062965:=0
def tw16690200327857137557:=0
def tw8891083701509490934:=0
def tw12865441091703156982:=0
def tw14020437755568667990:=0
def tw7722091259574337078:=0
def tw6160782347804806006:=0
def tw7619984286309696438:=0
def tw16272286050040452022:=0
def tw16250022818249709526:=0
def tw6254290047711049847:=0
def tw2493615156994852151:=0
def tw17309283619944353143:=0
def tw476619024488191511:=0
def tw708616913698724631:=0
def tw17011086262300308279:=0
def tw17097178285342746551:=0
def tw5139958712686342264:=0
def tw2540265851238311192:=0
def tw6012665780884898072:=0
def tw283927451030888856:=0
def tw2374910393950298808:=0
def tw12137054246076440312:=0
def tw9950982221314437912:=0
def tw14709530862719009592:=0
def tw2728513627047638872:=0
def tw16752856307390952280:=0
def tw17962203503672244088:=0
def tw15155354176261481368:=0
def tw11337474109602605048:=0
def tw2175134513271650296:=0
def tw6858074790634089561:=0
def tw1332603111592429753:=0
def tw6333299093218821369:=0
def tw6451425870994337081:=0
def tw2080314123644772793:=0
def tw14201660382854021721:=0
def tw777722720579049305:=0
def tw10127078950669196185:=0
def tw10342920566770350009:=0
def tw8105660041249587290:=0
def tw17869500715672370266:=0
def tw4575853508652989594:=0
def tw15406895627711655098:=0
def tw17277584188098107642:=0
def tw9062152014641093050:=0
def tw1500772058699206234:=0
def tw18007199277800613690:=0
def tw3909487567296828314:=0
def tw788589313253337082:=0
def tw3053684513447080987:=0
def tw10256109166339798075:=0
def tw2190526434395909243:=0
def tw17353504791801228443:=0
def tw13135589512895996155:=0
def tw15637982188839107867:=0
def tw1887357898051989819:=0
def tw4472047311010421179:=0
def tw10614334819405030907:=0
def tw10488271890054543867:=0
def tw16792231965801719355:=0
def tw6695171722922686171:=0
def tw6644617836391551803:=0
def tw560071758909077371:=0
def tw11896043038469191643:=0
def tw1787739355302861852:=0
def tw17356220108044703868:=0
def tw7071485236211859772:=0
def tw12866105630893138300:=0
def tw7074616143856246524:=0
def tw223418321468825500:=0
def tw15926711321860833276:=0
def tw15312762357577106493:=0
def tw9695495386964165981:=0
def tw9648578887095328317:=0
def tw3510377364393642717:=0
def tw11782693300173722589:=0
def tw13000866087668618205:=0
def tw4111838843404960862:=0
def tw15014720478835213438:=0
def tw5555493390255518878:=0
def tw9013282775533435070:=0
def tw14246223116041863358:=0
def tw5653761203854151006:=0
def tw10317308247748424030:=0
def tw3872268857795953022:=0
def tw9068140153078991230:=0
def tw15973627305666641278:=0
def tw13839669576338764350:=0
def tw12423301022916079230:=0
def tw7094939926790995614:=0
def tw14193831624300002142:=0
def tw16618015014542139262:=0
def tw192682460695933854:=0
def tw3198835739383624702:=0
def tw5450472888017321982:=0
def tw1660003402466203807:=0
def tw17849768891910209727:=0
def tw4016126517148555487:=0
def tw3137762461130214655:=0
def tw6215132704587233599:=0
def tw258934670808391039:=0
def tw12874328728738562591:=0
def tw1028181435798893119:=0
def tw16301481590873947775:=0
def tw11997198534748243711:=0
def tw17913478671782380415:=0
def tw10590185496183348127:=0
end PySem.W.Fast
open PySem PySem.W PyProof.Rows
set_option maxRecDepth 100000 in
set_option maxHeartbeats 0 in
theorem PySem.Challenge.cw_arrowhall_k11_all_changes_holds : PySem.Challenge.rw_arrowhall_k11_all_changes.Holds := by
 w_on;o_law;k_head;(case hw=>w_witness2)
 k_fill
 refine DL.walk (l:=PySem.Challenge.rw_arrowhall_k11_all_changes) rfl rfl (fun w h HD=>PySem.W.kIn_of HD) ?F
 case F =>
  intro w mg fa h KX G hmg
  refine' DL.all_mk DL.law_val KX G hmg ?aC ?a1 ?l1 ?c1 ?k1 ?a2 ?l2 ?c2 ?k2 ?a3 ?l3 ?c3 ?k3 ?a4 ?l4 ?c4 ?k4 ?a5 ?l5 ?c5 ?k5 ?a6 ?l6 ?c6 ?k6 ?a7 ?l7 ?c7 ?k7 ?a8 ?l8 ?c8 ?k8 ?a9 ?l9 ?c9 ?k9 ?a10 ?l10 ?c10 ?k10 ?a11 ?l11 ?c11 ?k11 ?a12 ?l12 ?c12 ?k12 ?a13 ?l13 ?c13 ?k13 ?a14 ?l14 ?c14 ?k14 ?a15 ?l15 ?c15 ?k15 ?a16 ?l16 ?c16 ?k16 ?a17 ?i17 ?l17 ?c17 ?k17 ?a18 ?l18 ?c18 ?k18 ?a19 ?l19 ?c19 ?k19 ?a20 ?l20 ?c20 ?k20 ?a21 ?l21 ?c21 ?k21 ?a22 ?l22 ?c22 ?k22 ?a23 ?l23 ?c23 ?k23 ?a24 ?l24 ?c24 ?k24 ?a25 ?l25 ?c25 ?k25 ?a26 ?l26 ?c26 ?k26 ?a27 ?l27 ?c27 ?k27 ?a28 ?l28 ?c28 ?k28 ?a29 ?l29 ?c29 ?k29 ?a30 ?l30 ?c30 ?k30 ?a31 ?l31 ?c31 ?k31 ?a32 ?l32 ?c32 ?k32 ?a33 ?l33 ?c33 ?k33 ?a34 ?l34 ?c34 ?k34 ?a35 ?l35 ?c35 ?k35 ?a36 ?l36 ?c36 ?k36 ?a37 ?l37 ?c37 ?k37 ?a38 ?l38 ?c38 ?k38 ?a39 ?l39 ?c39 ?k39 ?a40 ?l40 ?c40 ?k40 ?a41 ?l41 ?c41 ?k41 ?a42 ?l42 ?c42 ?k42 ?a43 ?l43 ?c43 ?k43 ?a44 ?l44 ?c44 ?k44 ?pg ?hd ?po ?sa ?mk ?kc ?nE ?nR ?nT ?z_len ?z_list ?z_tuple ?z_range ?z_enumerate ?z_max ?z_isinstance ?z_all ?z_zip ?z_int ?z_bool ?mb ?ma ?mMOST_THINGS ?ih1 ?ih2 ?ih3 ?ih4 ?kii ?kbi ?kNi ?kli ?kti ?kib ?kbb ?kNb ?klb ?ktb ?kil ?kbl ?kNl ?kll ?ktl
  all_goals try unfold DL.NI
  all_goals try unfold DL.NN
  all_goals try unfold DL.LK
  all_goals try unfold DL.CI
  all_goals try unfold DL.KP
  all_goals try unfold DL.KO
  all_goals try first | k_is | kit_is
