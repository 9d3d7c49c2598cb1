import PyProof.Rows.All
import Wide.All
import OpenK.AllK
import Wide.FinOn
import Lean
import PyProof.EqAt
import PyProof.EqKinds
import PyProof.TupleCall
import PyProof.NeKinds
import PyProof.ListRange
import PyProof.TupleOfGen
import PyProof.DictRoadsH
import PyProof.Rows.FStr
import PyProof.ExcBaseAll.ValueError
import PyProof.ExcClass2
import PyProof.ExcArgsOwn
import PyProof.ExcAttrAll.ValueError
import KE.KIsAll
import PyProof.RulesAs
import PyProof.NsDelKeeps
import PyProof.ConsumeWalk
import PyProof.ZipIter
import PyProof.Rows.ZipGen
import PyProof.Rows.SeqGen
import PyProof.Rows.FactsT2
import PyProof.WalkInts
import PyProof.Rows.MinMaxN
import KE.KSortAsk
import PyProof.Rows.FactsT3
import PyProof.Rows.CallKwBuiltin
import KE.KMinKey
import PyProof.Conv_int_bool
import PySem.Challenge.RW_arrowhall_k12_whole_as_many_as_things
set_option Elab.async false
set_option linter.all false
set_option maxRecDepth 100000
set_option maxHeartbeats 4000000
open PySem.W (instObj Frag plainGet hasDictIn findIn emptyDict kitOne kia_one keepIn fnOf codeIn nsIn callWith_K mg_of mg_none_of)
noncomputable section
namespace L2
open PySem PySem.Spec PyProof.Rows
abbrev Key:=Sum Int Str
def Dj:Key->Value->Bool
 | .inl k,v=>Value.isInt k v
 | .inr x,v=>Value.isStrOf x v
def G8 (w:World):Key->Int
 | .inl k=>hashInt k
 | .inr x=>hashStr w x
theorem cj:∀{k:Key} {v:Value},Dj k v=true->(∃i t,k=Sum.inl i/\v=Value.int i t)\/(∃x t,k=Sum.inr x/\v=Value.str x t)
 | .inl i,v,h=>by
  obtain⟨t,e⟩:=Value.isInt_shape (k:=i) (v:=v) h;exact .inl ⟨i,t,rfl,e⟩
 | .inr x,v,h=>by
  obtain⟨t,e⟩:=Value.isStrOf_shape (x:=x) (v:=v) h;exact .inr ⟨x,t,rfl,e⟩
theorem EK (a b:Int):decide ((Sum.inl a:Key)=Sum.inl b)=(a==b):=by
 by_cases e:a=b
 ·subst e;simp
 ·have h:¬ (Sum.inl a:Key)=Sum.inl b:=λq=>e (Sum.inl.inj q);rw[decide_eq_false h];exact(beq_eq_false_iff_ne.mpr e).symm
theorem EH (a b:Str):decide ((Sum.inr a:Key)=Sum.inr b)=decide (a=b):=by
 by_cases e:a=b
 ·subst e;simp
 ·have h:¬ (Sum.inr a:Key)=Sum.inr b:=λq=>e (Sum.inr.inj q);rw[decide_eq_false h,decide_eq_false e]
theorem EJ (a:Int) (b:Str):decide ((Sum.inl a:Key)=Sum.inr b)=false:=decide_eq_false (λq=>nomatch q)
theorem EI (a:Str) (b:Int):decide ((Sum.inr a:Key)=Sum.inl b)=false:=decide_eq_false (λq=>nomatch q)
def xh (prog:Program) (w:World):PySem.KeyKind prog w Key where
 is:=Dj
 hash:=G8 w
 inj:=λv a b ha hb=>by
  rcases cj ha with⟨i,t,rfl,rfl⟩|⟨x,t,rfl,rfl⟩
  ·rcases cj hb with⟨j,u,rfl,e⟩|⟨y,u,rfl,e⟩
   ·injection e with e1 _;rw[e1]
   ·exact nomatch e
  ·rcases cj hb with⟨j,u,rfl,e⟩|⟨y,u,rfl,e⟩
   ·exact nomatch e
   ·injection e with e1 _;rw[e1]
 byValue:=λk v h=>by
  rcases cj h with⟨i,t,rfl,rfl⟩|⟨x,t,rfl,rfl⟩<;>rfl
 pyHash:=λhv h=>by
  rcases cj hv with⟨i,t,rfl,rfl⟩|⟨x,t,rfl,rfl⟩
  ·exact wpAny_pyHash_int h
  ·exact wpAny_pyHash_str h
 eqBool:=λhu hv h=>by
  rcases cj hu with⟨i,t,rfl,rfl⟩|⟨x,t,rfl,rfl⟩
  ·rcases cj hv with⟨j,u,rfl,rfl⟩|⟨y,u,rfl,rfl⟩
   ·rw[EK]at h;exact wpAny_eqBool_int h
   ·rw[EJ]at h;exact SeqAt.EqAt.int_str i t y u _ _ _ _ h
  ·rcases cj hv with⟨j,u,rfl,rfl⟩|⟨y,u,rfl,rfl⟩
   ·rw[EI]at h;exact SeqAt.EqAt.str_int x t j u _ _ _ _ h
   ·rw[EH]at h;exact wpAny_eqBool_str h
 «strs»:=λk x t v h=>by
  rcases cj h with⟨i,u,rfl,e⟩|⟨y,u,rfl,e⟩
  ·exact nomatch e
  ·injection e with e1 _;subst e1;cases v<;>rfl
end L2
namespace L2
open PySem PySem.Spec PyProof.Rows
inductive V where
 | non|bl (b:Bool)|int (i:Int)|str (x:Str)|byt (b:Array UInt8)|flt (b:UInt64)|ref (a:Addr)|ty (n:String)
 deriving DecidableEq
def RelV:V->Value->Prop
 | .non,u=>u=Value.none
 | .bl b,u=>u=Value.bool b
 | .int i,u=>∃t,u=Value.int i t
 | .str x,u=>∃t,u=Value.str x t
 | .byt b,u=>∃t,u=Value.bytes b t
 | .flt b,u=>∃t,u=Value.float b t
 | .ref a,u=>u=Value.ref a
 | .ty n,u=>u=Value.type n
abbrev Vals:List V->List Value->Prop:=Paired RelV
theorem Vals.length {xs:List V} {us:List Value} (r:Vals xs us):xs.length=us.length:=Paired.length r
theorem Vals.get:∀{xs:List V} {us:List Value} {i:Nat} {x:V},Vals xs us->xs[i]?=some x->∃u,us[i]?=some u/\RelV x u
 | _,_,_,_,.nil,e=>by simp at e
 | _,_,0,_,.cons r _,e=>by simp at e;subst e;exact⟨_,rfl,r⟩
 | _,_,i+1,x,.cons _ t,e=>by
  obtain⟨u,h1,h2⟩:=Vals.get (i:=i) (x:=x) t (by simpa using e);exact⟨u,by simpa using h1,h2⟩
theorem Vals.set {x:V} {u:Value} (r:RelV x u):∀{xs:List V} {us:List Value} (i:Nat),Vals xs us->Vals (xs.set i x) (us.set i u)
 | _,_,_,.nil=>.nil
 | _,_,0,.cons _ t=>.cons r t
 | _,_,i+1,.cons q t=>.cons q (Vals.set r i t)
theorem Vals.append:∀{xs ys:List V} {us ws:List Value},Vals xs us->Vals ys ws->Vals (xs++ys) (us++ws)
 | _,_,_,_,.nil,s=>s
 | _,_,_,_,.cons r t,s=>.cons r (Vals.append t s)
theorem Vals.take:∀{xs:List V} {us:List Value} (n:Nat),Vals xs us->Vals (xs.take n) (us.take n)
 | _,_,0,_=>.nil
 | _,_,_+1,.nil=>.nil
 | _,_,n+1,.cons r t=>.cons r (Vals.take n t)
theorem Vals.drop:∀{xs:List V} {us:List Value} (n:Nat),Vals xs us->Vals (xs.drop n) (us.drop n)
 | _,_,0,r=>r
 | _,_,_+1,.nil=>.nil
 | _,_,n+1,.cons _ t=>Vals.drop n t
def RelO:Option V->Option Value->Prop
 | some v,some u=>RelV v u
 | none,none=>True
 | _,_=>False
def KV {κ:Type}:List (κ×V)->List (κ×Value)->Prop:=Paired λ(p:κ×V) (q:κ×Value)=>p.1=q.1/\RelV p.2 q.2
def kV:Key->V
 | .inl i=>.int i
 | .inr x=>.str x
inductive HO where
  | lst (xs:List V)
  | tup (xs:List V)
  | dK (kvs:List (Key×V))|dT (kvs:List (List Key×V))
  | set (S:Int->Bool) (n:Nat)
  | ins (C dx:Addr) (fs:List (Str×V))
  | own (x:Addr)
  | xd (fs:List (Str×V))
  | met (f x:Addr)
  | rng (lo hi:Int)
  | frz (o:Obj) (u:HO)
  | tbl (ps:Array Value)
  | ext (φ:Heap->Prop)
abbrev Hp:=Addr->Option HO
def upd (H:Hp) (a:Addr) (o:HO):Hp:=λb=>if b=a then some o else H b
variable {H:Hp} {a:Addr}
theorem aY {o:HO}:upd H a o a=some o:=by unfold upd;rw[if_pos rfl]
variable {b:Addr}
theorem az {o:HO} (h:b≠a):upd H a o b=H b:=by unfold upd;rw[if_neg h]
theorem bc {o:HO} (h:H a=some o) (h':H b=none):a≠b:=by
 intro e;subst e;rw[h]at h';cases h'
section
variable (P:Program) (w:World)
def ObjOk (H:Hp) (h:Heap) (a:Addr):HO->Prop
 | .lst xs=>xs.length<=sizeLine/\∃(its:List Value) (n:Nat),Vals xs its/\h.get? a=some { cls:=.type "list",data:=.seq its.toArray n }
 | .tup xs=>xs.length<=sizeLine/\∃its:List Value,Vals xs its/\IsTup h a its.toArray
 | .dK kvs=>kvs.length<=sizeLine/\(a==sysModules)=false/\∃vs,KV kvs vs/\h.DictOf (xh P w) a vs
 | .dT kvs=>kvs.length<=sizeLine/\(a==sysModules)=false/\∃xs:List (List Key×Addr×Value),
   Paired (λ(p:List Key×V) (q:List Key×Addr×Value)=>p.1=q.1/\H q.2.1=some (.tup (p.1.map kV))/\RelV p.2 q.2.2) kvs xs /\
   ∃o es ep,h.get? a=some o/\o.ExactDict/\o.data=.dict es ep/\es.toList=xs.map (entryOfKey (tupleKind (xh P w)))/\(xs.map (·.1)).Nodup
 | .set S n=>h.SetOf (intKind P w) a S n
 | .ins C dx fs=>H dx=some (.own a)/\fs.length<=1000/\dx≠a/\h.get? a=some (instObj C dx) /\
   ∃mA,h.Ns1 dx mA/\(∀f,RelO (fs.lookup f) (mA f))/\PySem.Within mA (fs.map (·.1))
 | .own _=>∃o,h.get? a=some o
 | .xd fs=>∃mA,h.Ns1 a mA/\∀f,RelO (fs.lookup f) (mA f)
 | .rng lo hi=>∃t u v,h.get? a=some { cls:=.type "range",data:=.fields #[.int lo t,.int hi u,.int 1 v] }
 | .frz o u=>h.get? a=some o/\ObjOk H h a u
 | .tbl ps=>h.get? a=some { cls:=.none,data:=.fields ps }
 | .met f x=>h.get? a=some (PySem.W.methodObj (.ref f) (.ref x))
 | .ext φ=>φ h/\(∃o,h.get? a=some o)/\∀h1 h2:Heap,φ h1->(∀o,h1.get? a=some o->h2.get? a=some o)->φ h2
def HOk (H:Hp) (h:Heap):Prop:=∀a o,H a=some o->ObjOk P w H h a o
end
section
variable {P:Program} {w:World} {H H':Hp} {h h':Heap} {a:Addr} {o:HO}
theorem ObjOk.lt (x:ObjOk P w H h a o):a<h.objs.size:=by
 cases o with
 | lst xs=>obtain⟨_,_,_,_,e⟩:=x;exact Heap.lt_size e
 | tup xs=>obtain⟨_,_,_,p⟩:=x;exact p.lt
 | dK kvs=>obtain⟨_,_,_,_,o,_,_,e,_⟩:=x;exact Heap.lt_size e
 | dT kvs=>obtain⟨_,_,_,_,o,_,_,e,_⟩:=x;exact Heap.lt_size e
 | set S n=>obtain⟨o,_,_,_,e,_⟩:=x;exact Heap.lt_size e
 | ins C dx fs=>obtain⟨_,_,_,e,_⟩:=x;exact Heap.lt_size e
 | own y=>obtain⟨_,e⟩:=x;exact Heap.lt_size e
 | xd fs=>obtain⟨_,⟨_,_,_,e,_⟩,_⟩:=x;exact Heap.lt_size e
 | rng lo hi=>obtain⟨_,_,_,e⟩:=x;exact Heap.lt_size e
 | frz ob u=>obtain⟨e,_⟩:=x;exact Heap.lt_size e
 | tbl ps=>exact Heap.lt_size (show h.get? a=some _ from x)
 | met f y=>exact Heap.lt_size (show h.get? a=some _ from x)
 | ext φ=>obtain⟨_,⟨_,e⟩,_⟩:=x;exact Heap.lt_size e
theorem Paired.mapP {Y β:Type} {F G:Y->β->Prop}:∀{l₁:List Y} {l₂:List β},Paired F l₁ l₂->(∀a b,F a b->G a b)->Paired G l₁ l₂
 | _,_,.nil,_=>.nil
 | _,_,.cons r t,f=>.cons (f _ _ r) (Paired.mapP t f)
theorem ObjOk.stay (x:ObjOk P w H h a o) (k:∀b u,(b=a\/H b=some (.own a))->h.get? b=some u->h'.get? b=some u)
  (ho:∀b,H b=some (.own a)->H' b=some (.own a)) (ht:∀b xs,H b=some (.tup xs)->H' b=some (.tup xs)):ObjOk P w H' h' a o:=by
 induction o with
 | lst xs=>obtain⟨z,its,n,r,e⟩:=x;exact⟨z,its,n,r,k _ _ (.inl rfl) e⟩
 | tup xs=>obtain⟨z,its,r,ob,e,c⟩:=x;exact⟨z,its,r,ob,k _ _ (.inl rfl) e,c⟩
 | dK kvs=>obtain⟨z,y,vs,r,ob,es,ep,e,c⟩:=x;exact⟨z,y,vs,r,ob,es,ep,k _ _ (.inl rfl) e,c⟩
 | dT kvs =>
  obtain⟨z,y,xs,r,ob,es,ep,e,c⟩:=x;exact⟨z,y,xs,Paired.mapP r λp q z=>⟨z.1,ht _ _ z.2.1,z.2.2⟩,ob,es,ep,k _ _ (.inl rfl) e,c⟩
 | set S n=>obtain⟨ob,es,ep,t,e,c⟩:=x;exact⟨ob,es,ep,t,k _ _ (.inl rfl) e,c⟩
 | ins C dx fs =>
  obtain⟨d,z,ne,e,mA,⟨od,es,ep,e2,c⟩,r⟩:=x;exact⟨ho _ d,z,ne,k _ _ (.inl rfl) e,mA,⟨od,es,ep,k _ _ (.inr d) e2,c⟩,r⟩
 | own y=>obtain⟨ob,e⟩:=x;exact⟨ob,k _ _ (.inl rfl) e⟩
 | xd fs=>obtain⟨mA,⟨od,es,ep,e,c⟩,r⟩:=x;exact⟨mA,⟨od,es,ep,k _ _ (.inl rfl) e,c⟩,r⟩
 | rng lo hi=>obtain⟨t,u,v,e⟩:=x;exact⟨t,u,v,k _ _ (.inl rfl) e⟩
 | frz ob u ih=>obtain⟨e,q⟩:=x;exact⟨k _ _ (.inl rfl) e,ih q⟩
 | tbl ps =>
  have e:h.get? a=some { cls:=.none,data:=.fields ps }:=x;show h'.get? a=some { cls:=.none,data:=.fields ps };exact k a _ (.inl rfl) e
 | met f y =>
  have e:h.get? a=some (PySem.W.methodObj (.ref f) (.ref y)):=x;show h'.get? a=some (PySem.W.methodObj (.ref f) (.ref y));exact k a _ (.inl rfl) e
 | ext φ=>obtain⟨p,⟨o,e⟩,st⟩:=x;exact⟨st _ _ p λo q=>k _ _ (.inl rfl) q,⟨o,k _ _ (.inl rfl) e⟩,st⟩
theorem HOk.lt (x:HOk P w H h) (e:H a=some o):a<h.objs.size:=(x a o e).lt
theorem HOk.fresh (x:HOk P w H h) (e:h.objs.size<=a):H a=none:=by
 cases q:H a with
 | none=>rfl
 | some u=>exact absurd (Nat.lt_of_lt_of_le (x.lt q) e) (Nat.lt_irrefl _)
theorem HOk.kept (x:HOk P w H h) (k:∀b u,h.get? b=some u->h'.get? b=some u):HOk P w H h':=λa o e =>
 (x a o e).stay (λb u _ q=>k b u q) (λ_ q=>q) λ_ _ q=>q
theorem HOk.laid (x:HOk P w H h) (k:∀b u,h.get? b=some u->h'.get? b=some u) (hp:h.objs.size<=a) (new:ObjOk P w (upd H a o) h' a o):HOk P w (upd H a o) h':=λb u e=>by
 have hn:=x.fresh hp;by_cases hb:b=a
 ·subst hb;rw[aY]at e;cases e;exact new
 ·rw[az hb]at e;exact(x b u e).stay (λc v _ q=>k c v q) (λc q=>by rw[az (bc q hn)];exact q) λc xs q=>by rw[az (bc q hn)];exact q
end
def Rd (H:Hp) (a:Addr) (u:HO):Prop:=H a=some u\/∃o,H a=some (.frz o u)
variable {h:Heap}
theorem Rd.ok {P:Program} {w:World} {u:HO} (r:Rd H a u) (x:HOk P w H h):ObjOk P w H h a u:=by
 rcases r with r|⟨o,r⟩
 ·exact x a u r
 ·obtain⟨_,q⟩:=x a _ r;exact q
def Mut:Option HO->Prop
 | some (.lst _)=>True
 | some (.dK _)=>True
 | some (.dT _)=>True
 | some (.set _ _)=>True
 | some (.ins _ _ _)=>True
 | some (.ext _)=>True
 | _=>False
section
variable {P:Program} {w:World} {H:Hp} {h h':Heap} {x e:Addr} {o':HO}
theorem HOk.write (ok:HOk P w H h) (mu:Mut (H x)) (he:e=x\/H e=some (.own x)) (k:∀b u,b≠e->h.get? b=some u->h'.get? b=some u) (heo:∃u,h'.get? e=some u)
  (new:ObjOk P w (upd H x o') h' x o'):HOk P w (upd H x o') h':=λb u q=>by
 have nown:∀c y,H c=some (.own y)->c≠x:=λc y r z=>by subst z;rw[r]at mu;exact mu
 have ntup:∀c xs,H c=some (.tup xs)->c≠x:=λc xs r z=>by subst z;rw[r]at mu;exact mu
 by_cases hb:b=x
 ·subst hb;rw[aY]at q;cases q;exact new
 ·rw[az hb]at q;by_cases hbe:b=e
  ·have q':H b=some (.own x):=by
    rcases he with z|z
    ·exact absurd (hbe.trans z) hb
    ·rw[hbe];exact z
   rw[q]at q';cases q';obtain⟨v,hv⟩:=heo;exact⟨v,by rw[hbe];exact hv⟩
  ·refine(ok b u q).stay (λc v hc r=>k c v ?_ r) (λc r=>by rw[az (nown c b r)];exact r) λc xs r=>by rw[az (ntup c xs r)];exact r
   rcases hc with rfl|hc
   ·exact hbe
   ·rintro rfl;rcases he with z|z
    ·exact nown c b hc z
    ·rw[hc]at z;cases z;exact hb rfl
end
structure Un (fs ex:List Addr) (H H':Hp) (h h':Heap):Prop where
 keep:∀b o,h.get? b=some o->H b=none->b∉fs->b∉ex->h'.get? b=some o
 slot:∀b o,h.get? b=some o->H b=none->b∈fs->b∉ex->∃sl,h'.get? b=some { o with slots:=sl }
 free:∀b o,h.get? b=some o->H b=none->b∉ex->H' b=none
 there:∀b o,h.get? b=some o->b∉ex->∃o',h'.get? b=some o'
 tups:∀b xs,H b=some (.tup xs)->H' b=some (.tup xs)
 frzs:∀b o u,H b=some (.frz o u)->H' b=some (.frz o u)
 tbls:∀b ps,H b=some (.tbl ps)->∃more,H' b=some (.tbl (ps++more))
section
variable {fs fs' ex ex':List Addr} {H H1 H2:Hp} {h h1 h2 h':Heap} {a x e:Addr} {o:HO}
theorem Un.any (u:Un fs ex H H1 h h1) {ob:Obj} (q:h.get? b=some ob) (n:H b=none) (hx:b∉ex):∃sl,h1.get? b=some { ob with slots:=sl }:=by
 by_cases hb:b∈fs
 ·exact u.slot b ob q n hb hx
 ·exact⟨ob.slots,u.keep b ob q n hb hx⟩
theorem Un.kept (k:∀b u,h.get? b=some u->h'.get? b=some u):Un fs ex H H h h' :=
 ⟨λb ob q _ _ _=>k b ob q,λb ob q _ _ _=>⟨ob.slots,k b ob q⟩,λ_ _ _ n _=>n,λb ob q _=>⟨ob,k b ob q⟩,λ_ _ q=>q,λ_ _ _ q=>q,λ_ ps q=>⟨#[],by rw[q];simp⟩⟩
theorem Un.refl:Un fs ex H H h h:=Un.kept λ_ _ q=>q
theorem Un.laid (k:∀b u,h.get? b=some u->h'.get? b=some u) (hp:h.objs.size<=a) (hn:H a=none):Un fs ex H (upd H a o) h h' where
 keep:=λb u q _ _ _=>k b u q
 slot:=λb u q _ _ _=>⟨u.slots,k b u q⟩
 free:=λb u q n _=>by rw[az (Nat.ne_of_lt (Nat.lt_of_lt_of_le (Heap.lt_size q) hp))];exact n
 there:=λb u q _=>⟨u,k b u q⟩
 tups:=λb xs q=>by rw[az (bc q hn)];exact q
 frzs:=λb u xs q=>by rw[az (bc q hn)];exact q
 tbls:=λb ps q=>⟨#[],by rw[az (bc q hn),q];simp⟩
theorem Un.write (mu:Mut (H x)) (he:e=x\/H e=some (.own x)) (k:∀b u,b≠e->h.get? b=some u->h'.get? b=some u) (heo:∃u,h'.get? e=some u):Un fs ex H (upd H x o) h h':=by
 have hx:∀b,H b=none->b≠x:=λb n z=>by subst z;rw[n]at mu;exact mu
 have hb:∀b,H b=none->b≠e:=λb n z=>by
  subst z;rcases he with r|r
  ·exact hx b n r
  ·rw[n]at r;cases r
 have hm:∀b u,H b=some u->¬ Mut (some u)->b≠x:=λb u q nm z=>by subst z;rw[q]at mu;exact nm mu
 refine⟨λb u q n _ _=>k b u (hb b n) q,λb u q n _ _=>⟨u.slots,k b u (hb b n) q⟩,λb u q n _=>by rw[az (hx b n)];exact n,λb u q _=>?_,
  λb xs q=>by rw[az (hm b _ q λz=>z)];exact q,λb u xs q=>by rw[az (hm b _ q λz=>z)];exact q,λb ps q=>⟨#[],by rw[az (hm b _ q λz=>z),q];simp⟩⟩
 by_cases hbe:b=e
 ·subst hbe;exact heo
 ·exact⟨u,k b u hbe q⟩
end
def trk (h:Heap) (H:Hp):List Addr:=(List.range h.objs.size).filter λa=>(H a).isSome
def sD (h:Heap) (H:Hp):Heap:=PySem.W.hideAll h (trk h H)
theorem yw (h:Heap) (H:Hp):(sD h H).objs.size=h.objs.size:=PySem.W.hideAll_size _ _
theorem An {o:Obj} (e:h.get? b=some o) (n:H b=none):(sD h H).get? b=some o :=
 PySem.W.hideAll_get _ e λhm=>by
  have q:(H b).isSome=true:=(List.mem_filter.mp hm).2;rw[n]at q;simp at q
theorem B5 {o:Obj} (e:(sD h H).get? b=some o):h.get? b=some o/\H b=none:=by
 have e':h.get? b=some o:=PySem.W.of_hideAll (trk h H) e;refine⟨e',?_⟩;cases q:H b with
 | none=>rfl
 | some x =>
  have hm:b∈trk h H:=List.mem_filter.mpr ⟨List.mem_range.mpr (Heap.lt_size e'),by simp[q]⟩;have z:(sD h H).get? b=none:=PySem.W.hideAll_none (trk h H) hm;rw[z]at e;cases e
end L2
namespace L2
open PySem PySem.Spec PyProof.Rows
structure Mod (K:Frag) (mg:Str->Option Value) (base:Heap):Prop where
 kin:K.In base
 glob:base.Ns mainGlobals mg
 blt:∃mb,base.Ns builtinsNs mb/\∀x:Str,x ≠ "__name__"->mb x=bootBuiltins x
 nolimit:base.NoLimit
structure Cx where
 prog:Program
 w:World
 K:Frag
 mg:Str->Option Value
 base:Heap
 A:Around
 N:List Str
 s₀:Shared
 H₀:Hp
 env:Env
 outer:List Env
 stack:List Env
 ex:List Addr
 fn:Str->Bool
 calm:Bool
 pn:List (Addr×Obj)
 xe:Value->Shared->Prop
def frs (l:List Env):List Addr:=l.filterMap (·.frame)
abbrev Cx.fs (X:Cx):List Addr:=frs X.outer
def Vis (sc:Scope) (x:Str):Prop:=sc.names.lookup x=some .local\/sc.names.lookup x=some .cell\/sc.names.lookup x=some .free
def Loc (sc:Scope) (x:Str):Prop:=sc.names.lookup x=some .local\/sc.names.lookup x=some .cell
def Hy (env:Env) (h:Heap) (m:Str->Option Value) (x:Str) (u:Value):Prop :=
 (env.kindOf x=some .local/\m x=some u)\/((env.kindOf x=some .cell\/env.kindOf x=some .free)/\∃c,env.cells.lookup x=some c/\h.IsCell c (some u))
structure Cx.Ok (X:Cx):Prop where
 mod:Mod X.K X.mg X.base
 kind:X.env.scope.kind=.function
 glob:X.env.globals=mainGlobals
 blt:X.env.builtins=builtinsNs
 above:X.s₀.heap.objs.size<=X.env.locals
 inj:∀x y c,X.env.cells.lookup x=some c->X.env.cells.lookup y=some c->x=y
 has:∀x,(X.env.kindOf x=some .cell\/X.env.kindOf x=some .free)->∃c,X.env.cells.lookup x=some c
 cab:∀x c,X.fn x=true->X.env.cells.lookup x=some c->X.s₀.heap.objs.size<=c
 hd:X.calm=true->X.A.handled=none
 frames:X.A.frames=some X.stack
 stk:X.stack=X.outer\/(X.stack=X.env::X.outer/\X.env.frame=some X.env.locals)
 exf:∀b∈X.ex,b≠X.env.locals/\∀x c,X.env.cells.lookup x=some c->c≠b
 bs:∀b o,X.base.get? b=some o->X.s₀.heap.get? b=some o/\X.H₀ b=none
 bsz:X.base.objs.size<=X.s₀.heap.objs.size
 noex:∀b o,X.base.get? b=some o->b∉X.ex
 exfs:∀b∈X.ex,b∉X.fs
 funs:X.s₀.heap.FunFrames X.base X.outer
 frf:∀b∈X.fs,X.H₀ b=none
structure Inv (X:Cx) (pins:List (Addr×Obj)) (O:List (Option V)) (H:Hp) (s:Shared):Prop where
 ok:X.Ok
 os:s.os=X.s₀.os
 bare:AllBare s.gens
 base:Un X.fs X.ex X.H₀ H X.s₀.heap s.heap
 loc:∃m,s.heap.Ns X.env.locals m/\∀(i:Nat) (x:Str) (v:V),X.N[i]?=some x->O[i]?=some (some v)->Vis X.env.scope x->∃u,RelV v u/\Hy X.env s.heap m x u
 cell:∀x c,X.env.cells.lookup x=some c->∃v,s.heap.IsCell c v
 free:H X.env.locals=none
 freeC:∀x c,X.env.cells.lookup x=some c->H c=none
 pin:∀p∈X.pn++pins,s.heap.get? p.1=some p.2/\H p.1=none/\p.1≠X.env.locals/\p.1∉X.fs/\∀v,p.2.data ≠ .cell v
 hok:HOk X.prog X.w H s.heap
 len:O.length=X.N.length
variable {t' i:Nat} {ch:List Addr} {x:Str} {M:Model} {A:Around} {E:Value->Shared->Prop}
section
variable {X:Cx} {pins:List (Addr×Obj)} {O:List (Option V)} {H H':Hp} {s:Shared} {h':Heap}
theorem Cx.Ok.nofr (ok:X.Ok) {b:Addr} {o:Obj} (e:X.base.get? b=some o):b∉X.fs:=λhb=>by
 have:=(ok.funs.mem hb).1;rw[e]at this;cases this
theorem Inv.bs (I:Inv X pins O H s):∀b o,X.base.get? b=some o->s.heap.get? b=some o/\H b=none:=λb o e =>
 ⟨I.base.keep b o (I.ok.bs b o e).1 (I.ok.bs b o e).2 (I.ok.nofr e) (I.ok.noex b o e),I.base.free b o (I.ok.bs b o e).1 (I.ok.bs b o e).2 (I.ok.noex b o e)⟩
theorem Inv.bk (I:Inv X pins O H s):∀b o,X.base.get? b=some o->s.heap.get? b=some o:=λb o e=>(I.bs b o e).1
theorem Inv.mod (I:Inv X pins O H s):Mod X.K X.mg X.base:=I.ok.mod
theorem Inv.kIn (I:Inv X pins O H s):X.K.In s.heap:=I.ok.mod.kin.keeps I.bk
theorem Inv.lt (I:Inv X pins O H s):X.env.locals<s.heap.objs.size:=let ⟨_,hn,_⟩:=I.loc;hn.lt
theorem Inv.sz (I:Inv X pins O H s):X.s₀.heap.objs.size<=s.heap.objs.size:=Nat.le_trans I.ok.above (Nat.le_of_lt I.lt)
theorem Inv.nofs (I:Inv X pins O H s) {a:Addr} (h:s.heap.objs.size<=a):a∉X.fs:=λhb=>by
 obtain⟨_,o,ho,_⟩:=I.ok.funs.mem hb;exact absurd (Nat.lt_of_lt_of_le (Heap.lt_size ho) (Nat.le_trans I.sz h)) (Nat.lt_irrefl _)
theorem Inv.cne (I:Inv X pins O H s):∀x c,X.env.cells.lookup x=some c->c≠X.env.locals:=λx c e z=>by
 obtain⟨v,o,ho,hd⟩:=I.cell x c e;obtain⟨m,⟨o',es,ep,ho',hd',_⟩,_⟩:=I.loc;rw[z,ho']at ho;cases ho;rw[hd']at hd;cases hd
theorem Inv.funs (I:Inv X pins O H s):s.heap.FunFrames X.base X.outer:=by
 have all:∀(l:List Env),(∀b∈frs l,b∈X.fs)->X.s₀.heap.FunFrames X.base l->s.heap.FunFrames X.base l:=by
  intro l
  induction l with
  | nil=>intro _ _;trivial
  | cons env r ih =>
   intro hs hl;obtain⟨hk,⟨L,o,hf,hn,ho,hd⟩,hr⟩:=hl;have hL:L∈X.fs:=hs L (by unfold frs;rw[List.filterMap_cons,hf];exact List.mem_cons_self);obtain⟨sl,e⟩:=I.base.slot L o ho (I.ok.frf L hL) hL λz=>I.ok.exfs L z hL;exact⟨hk,⟨L,_,hf,hn,e,hd⟩,ih (λb hb=>hs b (by unfold frs;rw[List.filterMap_cons,hf];exact List.mem_cons_of_mem _ hb)) hr⟩
 exact all X.outer (λ_ hb=>hb) I.ok.funs
theorem Inv.stack (I:Inv X pins O H s):s.heap.FunFrames X.base X.stack:=by
 rcases I.ok.stk with e|⟨e,hf⟩
 ·rw[e];exact I.funs
 ·rw[e];obtain⟨m,hn,_⟩:=I.loc;refine .cons (by rw[I.ok.kind];decide) hf hn ?_ I.funs;exact Heap.get?_none_of_le (Nat.le_trans I.ok.bsz I.ok.above)
theorem Inv.stkSub (I:Inv X pins O H s):∀b∈frs X.stack,b∈X.env.locals::X.fs:=λb hb=>by
 rcases I.ok.stk with e|⟨e,hf⟩
 ·rw[e]at hb;exact List.mem_cons_of_mem _ hb
 ·rw[e]at hb;unfold frs at hb;rw[List.filterMap_cons,hf]at hb;exact hb
theorem Inv.stkFree (I:Inv X pins O H s):∀b∈frs X.stack,H b=none:=λb hb=>by
 rcases List.mem_cons.mp (I.stkSub b hb)with e|hb
 ·rw[e];exact I.free
 ·obtain⟨_,o,ho,_⟩:=I.ok.funs.mem hb;exact I.base.free b o ho (I.ok.frf b hb) λz=>I.ok.exfs b z hb
theorem Inv.step {g':Array GenState} {d':Drawn} (I:Inv X pins O H s)
  (hch:∀b∈ch,(b∈X.ex\/X.s₀.heap.objs.size<=b)/\b≠X.env.locals/\(∀x c,X.env.cells.lookup x=some c->c≠b)/\∀p∈X.pn++pins,p.1≠b)
  (keep:∀b o,b≠X.env.locals->b∉X.fs->b∉ch->s.heap.get? b=some o->H b=none->h'.get? b=some o)
  (slot:∀b o,b≠X.env.locals->b∈X.fs->b∉ch->s.heap.get? b=some o->H b=none->∃sl,h'.get? b=some { o with slots:=sl }) (free:∀b o,b∉ch->s.heap.get? b=some o->H b=none->H' b=none)
  (there:∀b o,b∉ch->s.heap.get? b=some o->∃o',h'.get? b=some o')
  (tups:∀b xs,H b=some (.tup xs)->H' b=some (.tup xs)) (frzs:∀b o u,H b=some (.frz o u)->H' b=some (.frz o u)) (tbls:∀b ps,H b=some (.tbl ps)->∃more,H' b=some (.tbl (ps++more)))
  (ns:∀m,s.heap.Ns X.env.locals m->h'.Ns X.env.locals m) (hok:HOk X.prog X.w H' h') (hg:AllBare g') :
  Inv X pins O H' { s with heap:=h',gens:=g',drawn:=d',toks:=t' }:=by
 have neL:∀b o,X.s₀.heap.get? b=some o->b≠X.env.locals:=λb o e=>Nat.ne_of_lt (Nat.lt_of_lt_of_le (Heap.lt_size e) I.ok.above);have neC:∀b o,X.s₀.heap.get? b=some o->b∉X.ex->b∉ch:=λb o e hx hb=>by
  rcases(hch b hb).1 with z|z
  ·exact hx z
  ·exact absurd (Nat.lt_of_lt_of_le (Heap.lt_size e) z) (Nat.lt_irrefl _)
 have cellK:∀x c,X.env.cells.lookup x=some c->∀v,s.heap.IsCell c v->h'.IsCell c v:=λx c e v ⟨o,ho,hd⟩=>by
  have nch:c∉ch:=λz=>(hch c z).2.2.1 x c e rfl;by_cases hc:c∈X.fs
  ·obtain⟨sl,q⟩:=slot c o (I.cne x c e) hc nch ho (I.freeC x c e);exact⟨_,q,hd⟩
  ·exact⟨o,keep c o (I.cne x c e) hc nch ho (I.freeC x c e),hd⟩
 refine⟨I.ok,I.os,hg,⟨λb o e n hb hx=>?_,λb o e n hb hx=>?_,λb o e n hx=>?_,λb o e hx=>?_,λb xs e=>tups b xs (I.base.tups b xs e),λb o xs e=>frzs b o xs (I.base.frzs b o xs e),λb ps e=>?_⟩,?_,λx c e=>?_,?_,λx c e=>?_,λp hp=>?_,hok,I.len⟩
 ·exact keep b o (neL b o e) hb (neC b o e hx) (I.base.keep b o e n hb hx) (I.base.free b o e n hx)
 ·obtain⟨sl,e1⟩:=I.base.slot b o e n hb hx;obtain⟨sl',e2⟩:=slot b _ (neL b o e) hb (neC b o e hx) e1 (I.base.free b o e n hx);exact⟨sl',e2⟩
 ·obtain⟨o',e1⟩:=I.base.there b o e hx;exact free b o' (neC b o e hx) e1 (I.base.free b o e n hx)
 ·obtain⟨o',e1⟩:=I.base.there b o e hx;exact there b o' (neC b o e hx) e1
 ·obtain⟨m1,e1⟩:=I.base.tbls b ps e;obtain⟨m2,e2⟩:=tbls b _ e1;exact⟨m1++m2,by rw[e2,Array.append_assoc]⟩
 ·obtain⟨m,hn,hl⟩:=I.loc;refine⟨m,ns m hn,λi x v e1 e2 e3=>?_⟩;obtain⟨u,r,l⟩:=hl i x v e1 e2 e3;refine⟨u,r,?_⟩;rcases l with l|⟨k,c,e,z⟩
  ·exact .inl l
  ·exact .inr ⟨k,c,e,cellK x c e _ z⟩
 ·obtain⟨v,z⟩:=I.cell x c e;exact⟨v,cellK x c e v z⟩
 ·obtain⟨m,⟨o,_,_,ho,_⟩,_⟩:=I.loc;exact free _ o (λz=>(hch _ z).2.1 rfl) ho I.free
 ·obtain⟨v,o,ho,hd⟩:=I.cell x c e;exact free c o (λz=>(hch c z).2.2.1 x c e rfl) ho (I.freeC x c e)
 ·obtain⟨e,n,ne,nf,d⟩:=I.pin p hp;have nch:p.1∉ch:=λz=>(hch p.1 z).2.2.2 p hp rfl;exact⟨keep p.1 p.2 ne nf nch e n,free p.1 p.2 nch e n,ne,nf,d⟩
theorem Inv.un (I:Inv X pins O H s) (u:Un X.fs [] H H' s.heap h') (hok:HOk X.prog X.w H' h'):Inv X pins O H' { s with heap:=h',toks:=t' }:=by
 obtain⟨m,⟨o,es,ep,ho,r⟩,_⟩:=id I.loc;obtain⟨sl,hL⟩:=u.any ho I.free (by simp);exact I.step (g':=s.gens) (d':=s.drawn) (ch:=[]) (λ_ z=>nomatch z) (λb o _ hb _ e n=>u.keep b o e n hb (by simp)) (λb o _ hb _ e n=>u.slot b o e n hb (by simp)) (λb o _ e n=>u.free b o e n (by simp)) (λb o _ e=>u.there b o e (by simp)) u.tups u.frzs u.tbls (λm' hm=>by
  obtain⟨o',es',ep',ho',r'⟩:=hm;rw[ho]at ho';cases ho';exact⟨_,es',ep',hL,r'⟩) hok I.bare
theorem Inv.call {g':Array GenState} {d':Drawn} (I:Inv X pins O H s) (u:Un (frs X.stack) ch H H' s.heap h') (hok:HOk X.prog X.w H' h') (hg:AllBare g')
  (hch:∀b∈ch,(b∈X.ex\/X.s₀.heap.objs.size<=b)/\b≠X.env.locals/\(∀x c,X.env.cells.lookup x=some c->c≠b)/\∀p∈X.pn++pins,p.1≠b) :
  Inv X pins O H' { s with heap:=h',gens:=g',drawn:=d',toks:=t' }:=by
 obtain⟨m,⟨o,es,ep,ho,r⟩,_⟩:=id I.loc;obtain⟨sl,hL⟩:=u.any ho I.free λz=>(hch _ z).2.1 rfl;exact I.step (ch:=ch) hch (λb o hL hb hc e n=>u.keep b o e n (λz=>(List.mem_cons.mp (I.stkSub b z)).elim hL hb) hc) (λb o _ _ hc e n=>u.any e n hc) (λb o hc e n=>u.free b o e n hc) (λb o hc e=>u.there b o e hc) u.tups u.frzs u.tbls (λm' hm=>by
  obtain⟨o',es',ep',ho',r'⟩:=hm;rw[ho]at ho';cases ho';exact⟨_,es',ep',hL,r'⟩) hok hg
theorem Inv.turned {it:Addr} (I:Inv X pins O H s) (k:∀b o,b≠it->s.heap.get? b=some o->h'.get? b=some o) (hn:H it=none) (hL:it≠X.env.locals)
  (h1:it∈X.ex\/X.s₀.heap.objs.size<=it) (h2:∀x c,X.env.cells.lookup x=some c->c≠it) (h3:∀p∈X.pn++pins,p.1≠it):Inv X pins O H { s with heap:=h',toks:=t' }:=by
 have nit:∀b u,H b=some u->b≠it:=λb u e z=>by rw[z,hn]at e;cases e
 refine I.step (g':=s.gens) (d':=s.drawn) (ch:=[it]) (λb hb=>?_) (λb o _ _ hc e _=>k b o (λz=>hc (by simp[z])) e) (λb o _ _ hc e _=>⟨o.slots,k b o (λz=>hc (by simp[z])) e⟩) (λ_ _ _ _ n=>n)
  (λb o hc e=>⟨o,k b o (λz=>hc (by simp[z])) e⟩) (λ_ _ e=>e) (λ_ _ _ e=>e) (λb ps e=>⟨#[],by rw[e];simp⟩) (λm hm=>?_) (λb u e=>?_) I.bare
 ·have e:b=it:=by simpa using hb
  subst e;exact⟨h1,hL,h2,h3⟩
 ·obtain⟨o,es,ep,ho,r⟩:=hm;exact⟨o,es,ep,k _ o (Ne.symm hL) ho,r⟩
 ·refine(I.hok b u e).stay (λc v hc q=>k c v ?_ q) (λ_ q=>q) λ_ _ q=>q;rcases hc with z|z
  ·rw[z];exact nit b u e
  ·exact nit c _ z
theorem Inv.tok (I:Inv X pins O H s) (t:Nat):Inv X pins O H { s with toks:=t }:=I.un (h':=s.heap) (t':=t) Un.refl I.hok
theorem Inv.kept (I:Inv X pins O H s) (k:∀b u,s.heap.get? b=some u->h'.get? b=some u):Inv X pins O H { s with heap:=h',toks:=t' }:=I.un (Un.kept k) (I.hok.kept k)
theorem Inv.laid {a:Addr} {o:HO} (I:Inv X pins O H s) (k:∀b u,s.heap.get? b=some u->h'.get? b=some u) (hp:s.heap.objs.size<=a) (new:ObjOk X.prog X.w (upd H a o) h' a o) :
  Inv X pins O (upd H a o) { s with heap:=h',toks:=t' }:=I.un (Un.laid k hp (I.hok.fresh hp)) (I.hok.laid k hp new)
theorem Inv.write {x e:Addr} {o:HO} (I:Inv X pins O H s) (mu:Mut (H x)) (he:e=x\/H e=some (.own x)) (k:∀b u,b≠e->s.heap.get? b=some u->h'.get? b=some u) (heo:∃u,h'.get? e=some u)
  (new:ObjOk X.prog X.w (upd H x o) h' x o):Inv X pins O (upd H x o) { s with heap:=h',toks:=t' }:=I.un (Un.write mu he k heo) (I.hok.write mu he k heo new)
theorem Inv.pins_of {pins':List (Addr×Obj)} (I:Inv X pins O H s) (h:∀p∈pins',s.heap.get? p.1=some p.2/\H p.1=none/\p.1≠X.env.locals/\p.1∉X.fs/\∀v,p.2.data ≠ .cell v):Inv X pins' O H s :=
 ⟨I.ok,I.os,I.bare,I.base,I.loc,I.cell,I.free,I.freeC,λp hp=>(List.mem_append.mp hp).elim (λz=>I.pin p (List.mem_append_left _ z)) (h p),I.hok,I.len⟩
theorem ug {N:List Str} (hN:N.Nodup) {j:Nat} (a:N[i]?=some x) (b:N[j]?=some x):i=j:=by
 obtain⟨h1,e1⟩:=List.getElem?_eq_some_iff.mp a;obtain⟨h2,e2⟩:=List.getElem?_eq_some_iff.mp b;exact(List.getElem_inj hN).mp (e1.trans e2.symm)
theorem xV {v:V} {u:Value} {Q:Unit->Shared->Prop} (I:Inv X pins O H s) (hN:X.N.Nodup) (hi:X.N[i]?=some x) (hx:Loc X.env.scope x) (r:RelV v u)
  (h:∀s',Inv X pins (O.set i (some v)) H s'->(∃a,Heap.SameBut a s.heap s'.heap/\(a=X.env.locals\/X.env.cells.lookup x=some a))->Q () s') (hf:X.fn x=true\/X.env.scope.names.lookup x=some .local:=by first|exact .inl rfl|exact .inr rfl|assumption):wpAny M A (storeName X.env x u) Q E s:=by
 obtain⟨m,hn,hl⟩:=id I.loc;have hcls:(X.env.scope.kind == .class||(X.env.scope.kind == .module&&X.env.locals != X.env.globals))=false:=by rw[I.ok.kind];rfl
 have hiO:i<O.length:=by rw[I.len];exact(List.getElem?_eq_some_iff.mp hi).1
 have cne:=I.cne;have tracked:∀{a:Addr} {h':Heap},(∃o,s.heap.get? a=some o/\H a=none)->Heap.SameBut a s.heap h'->HOk X.prog X.w H h':=λ{a h'} ha hs b ob e=>by
  obtain⟨_,_,hfree⟩:=ha;refine(I.hok b ob e).stay (λc w' hc q=>(hs.2 c ?_).trans q) (λ_ q=>q) λ_ _ q=>q;rintro rfl;rcases hc with rfl|hc
  ·rw[hfree]at e;cases e
  ·rw[hfree]at hc;cases hc
 rcases hx with hk|hk
 ·refine wpAny_storeName_local hk hn (λh' hn' hs=>?_) hcls;obtain⟨oL,_,_,hoL,_⟩:=id hn;refine h _ ⟨I.ok,I.os,I.bare,⟨λb o e n hb hx=>?_,λb o e n hb hx=>?_,I.base.free,λb o e hx=>?_,I.base.tups,I.base.frzs,I.base.tbls⟩,⟨_,hn',λj y v' e1 e2 e3=>?_⟩,λy c e=>?_,I.free,I.freeC,λp hp=>?_,tracked ⟨oL,hoL,I.free⟩ hs,by simpa using I.len⟩ ⟨_,hs,.inl rfl⟩
  ·exact(hs.2 b (Nat.ne_of_lt (Nat.lt_of_lt_of_le (Heap.lt_size e) I.ok.above))).trans (I.base.keep b o e n hb hx)
  ·obtain⟨sl,e1⟩:=I.base.slot b o e n hb hx;exact⟨sl,(hs.2 b (Nat.ne_of_lt (Nat.lt_of_lt_of_le (Heap.lt_size e) I.ok.above))).trans e1⟩
  ·obtain⟨o',e1⟩:=I.base.there b o e hx;exact⟨o',(hs.2 b (Nat.ne_of_lt (Nat.lt_of_lt_of_le (Heap.lt_size e) I.ok.above))).trans e1⟩
  ·by_cases hj:j=i
   ·subst hj;rw[hi]at e1;cases e1;rw[List.getElem?_set_self hiO]at e2;cases e2;exact⟨u,r,.inl ⟨hk,by simp⟩⟩
   ·rw[List.getElem?_set_ne (Ne.symm hj)]at e2;obtain⟨u',r',q⟩:=hl j y v' e1 e2 e3;refine⟨u',r',?_⟩;rcases q with⟨k,e⟩|⟨k,c,e,z⟩
    ·refine .inl ⟨k,?_⟩;have:y≠x:=λe=>hj (ug hN e1 (e▸hi));simp[this,e]
    ·exact .inr ⟨k,c,e,z.sameBut hs (cne y c e)⟩
  ·obtain⟨w',z⟩:=I.cell y c e;exact⟨w',z.sameBut hs (cne y c e)⟩
  ·obtain⟨e,n,ne,nf,d⟩:=I.pin p hp;exact⟨(hs.2 p.1 ne).trans e,n,ne,nf,d⟩
 ·have hfn:X.fn x=true:=by
   rcases hf with z|z
   ·exact z
   ·rw[z]at hk;cases hk
  obtain⟨c,hc⟩:=I.ok.has x (.inl hk);obtain⟨w',z⟩:=I.cell x c hc;refine wpAny_storeName_cell I.ok.kind hk hc z (λh' hc' hs=>?_);obtain⟨oc,hoc,hocd⟩:=id z;refine h { s with heap:=h' } ⟨I.ok,I.os,I.bare,⟨λb o e n hb hx=>?_,λb o e n hb hx=>?_,I.base.free,λb o e hx=>?_,I.base.tups,I.base.frzs,I.base.tbls⟩,⟨m,hn.sameBut hs (Ne.symm (cne x c hc)),λj y v' e1 e2 e3=>?_⟩,λy c' e=>?_,I.free,I.freeC,λp hp=>?_,tracked ⟨oc,hoc,I.freeC x c hc⟩ hs,by simpa using I.len⟩ ⟨c,hs,.inr hc⟩
  ·exact(hs.2 b (Nat.ne_of_lt (Nat.lt_of_lt_of_le (Heap.lt_size e) (I.ok.cab x c hfn hc)))).trans (I.base.keep b o e n hb hx)
  ·obtain⟨sl,e1⟩:=I.base.slot b o e n hb hx;exact⟨sl,(hs.2 b (Nat.ne_of_lt (Nat.lt_of_lt_of_le (Heap.lt_size e) (I.ok.cab x c hfn hc)))).trans e1⟩
  ·obtain⟨o',e1⟩:=I.base.there b o e hx;exact⟨o',(hs.2 b (Nat.ne_of_lt (Nat.lt_of_lt_of_le (Heap.lt_size e) (I.ok.cab x c hfn hc)))).trans e1⟩
  ·by_cases hj:j=i
   ·subst hj;rw[hi]at e1;cases e1;rw[List.getElem?_set_self hiO]at e2;cases e2;exact⟨u,r,.inr ⟨.inl hk,c,hc,hc'⟩⟩
   ·rw[List.getElem?_set_ne (Ne.symm hj)]at e2;obtain⟨u',r',q⟩:=hl j y v' e1 e2 e3;refine⟨u',r',?_⟩;rcases q with q|⟨k,c',e,z'⟩
    ·exact .inl q
    ·refine .inr ⟨k,c',e,z'.sameBut hs ?_⟩;rintro rfl;exact hj (ug hN e1 (I.ok.inj _ _ _ e hc▸hi))
  ·by_cases hcc:c'=c
   ·subst hcc;exact⟨_,hc'⟩
   ·obtain⟨w2,z2⟩:=I.cell y c' e;exact⟨w2,z2.sameBut hs hcc⟩
  ·obtain⟨e,n,ne,nf,d⟩:=I.pin p hp;refine⟨(hs.2 p.1 ?_).trans e,n,ne,nf,d⟩;intro q;rw[q,hoc]at e;have q':oc=p.2:=Option.some.inj e;exact d w' (by rw[<- q'];exact hocd)
theorem tN {v:V} {u:Value} {Q:Unit->Shared->Prop} (I:Inv X pins O H s) (hN:X.N.Nodup) (hi:X.N[i]?=some x) (hx:Loc X.env.scope x) (r:RelV v u)
  (h:∀s',Inv X pins (O.set i (some v)) H s'->Q () s') (hf:X.fn x=true\/X.env.scope.names.lookup x=some .local:=by first|exact .inl rfl|exact .inr rfl|assumption):wpAny M A (storeName X.env x u) Q E s :=
 xV I hN hi hx r (λs' I' _=>h s' I') hf
theorem Inv.call' {s':Shared} (I:Inv X pins O H s) (ho:s'.os=s.os) (u:Un (frs X.stack) ch H H' s.heap s'.heap) (hok:HOk X.prog X.w H' s'.heap) (hg:AllBare s'.gens)
  (hch:∀b∈ch,(b∈X.ex\/X.s₀.heap.objs.size<=b)/\b≠X.env.locals/\(∀x c,X.env.cells.lookup x=some c->c≠b)/\∀p∈X.pn++pins,p.1≠b):Inv X pins O H' s':=by
 obtain⟨h',g',d',t',o'⟩:=s';have e:o'=s.os:=ho;subst e;exact I.call (g':=g') (t':=t') (d':=d') u hok hg hch
end
abbrev XK:=Value->Option Addr->Hp->Prop
abbrev St:=List (Option V)
abbrev VK:=V->Hp->Prop
abbrev TE:=St->Hp->VK->Prop
abbrev TT:=St->Hp->(Bool->Hp->Prop)->Prop
abbrev TA:=St->Hp->(List V->Hp->Prop)->Prop
structure j6 where
 nx:St->Hp->Prop
 rt:VK
 bk:St->Hp->Prop:=λ_ _=>False
 ct:St->Hp->Prop:=λ_ _=>False
abbrev TS:=j6->St->Hp->Prop
def EP (X:Cx) (pins:List (Addr×Obj)) (O:St) (Q:VK) (u:Value) (s':Shared):Prop:=∃v H',Inv X pins O H' s'/\RelV v u/\Q v H'
def TP (X:Cx) (pins:List (Addr×Obj)) (O:St) (Q:Bool->Hp->Prop) (b:Bool) (s':Shared):Prop:=∃H',Inv X pins O H' s'/\Q b H'
def AP (X:Cx) (pins:List (Addr×Obj)) (O:St) (Q:List V->Hp->Prop) (us:List Value) (s':Shared):Prop:=∃vs H',Inv X pins O H' s'/\Vals vs us/\Q vs H'
def SP (X:Cx) (pins:List (Addr×Obj)) (D:j6) (f:Flow) (s':Shared):Prop :=
 match f with
 | .next=>∃σ' H',Inv X pins σ' H' s'/\D.nx σ' H'
 | .brk=>∃σ' H',Inv X pins σ' H' s'/\D.bk σ' H'
 | .cont=>∃σ' H',Inv X pins σ' H' s'/\D.ct σ' H'
 | .ret u=>∃v σ' H',Inv X pins σ' H' s'/\RelV v u/\D.rt v H'
def PE (X:Cx) (e:Expr) (t:TE):Prop :=
 ∀(pins:List (Addr×Obj)) (s:Shared) (O:St) (H:Hp) (Q:VK),Inv X pins O H s->t O H Q->wpAny (model X.prog X.w) X.A (eval e X.env) (EP X pins O Q) X.xe s
def PT (X:Cx) (e:Expr) (t:TT):Prop :=
 ∀(pins:List (Addr×Obj)) (s:Shared) (O:St) (H:Hp) (Q:Bool->Hp->Prop),Inv X pins O H s->t O H Q->wpAny (model X.prog X.w) X.A (isTrue e X.env (eval e X.env)) (TP X pins O Q) X.xe s
def PW (X:Cx) (e:Expr) (t:TT):Prop :=
 ∀(whole:Sem Value) (pins:List (Addr×Obj)) (s:Shared) (O:St) (H:Hp) (Q:Bool->Hp->Prop),Inv X pins O H s->t O H Q->wpAny (model X.prog X.w) X.A (isTrue e X.env whole) (TP X pins O Q) X.xe s
theorem PW.pt {X:Cx} {e:Expr} {t:TT} (h:PW X e t):PT X e t:=h _
def PA (X:Cx) (es:List Expr) (t:TA):Prop :=
 ∀(pos:Pos) (pins:List (Addr×Obj)) (s:Shared) (O:St) (H:Hp) (Q:List V->Hp->Prop),Inv X pins O H s->t O H Q->wpAny (model X.prog X.w) X.A (spliced (backTo pos (starEach es X.env))) (AP X pins O Q) X.xe s
def PS (X:Cx) (st:Stmt) (t:TS):Prop :=
 ∀(pins:List (Addr×Obj)) (s:Shared) (O:St) (H:Hp) (D:j6),Inv X pins O H s->t D O H->wpAny (model X.prog X.w) X.A (exec st X.env) (SP X pins D) X.xe s
def PSs (X:Cx) (st:List Stmt) (t:TS):Prop :=
 ∀(pins:List (Addr×Obj)) (s:Shared) (O:St) (H:Hp) (D:j6),Inv X pins O H s->t D O H->wpAny (model X.prog X.w) X.A (execs st X.env) (SP X pins D) X.xe s
theorem thn {Y:Type} {t:Sem Y} {Q Q':Y->Shared->Prop} {s:Shared} (h:wpAny M A t Q E s) (hQ:∀a s,Q a s->Q' a s):wpAny M A t Q' E s:=wpAny_mono h hQ λ_ _ x=>x
end L2
namespace L2
open PySem PySem.Spec PyProof.Rows
variable {x:Str} {u:Value}
section
variable {X:Cx}
def fv (i:Nat):TE:=λO H Q=>∃v,O[i]?=some (some v)/\Q v H
def tC (v:V):TE:=λ_ H Q=>Q v H
theorem Ea {i:Nat} {pos:Pos} (hN:X.N[i]?=some x) (hv:Vis X.env.scope x) (hd:(x==("__debug__":Str))=false:=by decide) (hcd:(x==("__classdict__":Str))=false:=by decide):PE X (.Name x pos) (fv i):=by
 intro pins s O H Q I h;obtain⟨v,e,h⟩:=h;obtain⟨m,hn,hl⟩:=I.loc;obtain⟨u,r,l⟩:=hl i x v hN e hv;have fin:EP X pins O Q u s:=⟨v,H,I,r,h⟩;rcases l with⟨hk,hm⟩|⟨hk,c,hc,hcell⟩
 ·exact wpAny_Name (wpAny_loadName_local I.ok.kind hk hn hm fin) hd
 ·rcases hk with hk|hk
  ·exact wpAny_Name (wpAny_loadName_cell I.ok.kind hk hc hcell fin) hd
  ·exact wpAny_Name (wpAny_loadName_free I.ok.kind hk hc hcell fin hcd) hd
theorem Eg {i j pos}:PE X (.Constant (.int i) j pos) (tC (.int i)):=λ_ _ _ H _ I h=>wpAny_Constant_int ⟨.int i,H,I.tok _,⟨_,rfl⟩,h⟩
theorem De {b j pos}:PE X (.Constant (.bool b) j pos) (tC (.bl b)):=λ_ _ _ H _ I h=>Constant_bool ⟨.bl b,H,I,rfl,h⟩
theorem Ee {j pos}:PE X (.Constant .none j pos) (tC .non):=λ_ _ _ H _ I h=>Constant_none ⟨.non,H,I,rfl,h⟩
def Gl (X:Cx) (x:Str):Prop:=X.env.kindOf x=some .globalImplicit
theorem kX {E:Value->Shared->Prop} {pins:List (Addr×Obj)} {s:Shared} {O:St} {H:Hp} {pos:Pos} {Q:Value->Shared->Prop} (I:Inv X pins O H s) (hg:Gl X x) (hm:X.mg x=some u) (h:Q u s)
  (hd:(x==("__debug__":Str))=false:=by decide):wpAny (model X.prog X.w) X.A (eval (.Name x pos) X.env) Q E s :=
 Calls.Name_function_global I.ok.kind hg (Calls.loadGlobal_global (by rw[I.ok.glob];exact I.mod.glob.keeps I.bk) hm h) hd
theorem jp {E:Value->Shared->Prop} {pins:List (Addr×Obj)} {s:Shared} {O:St} {H:Hp} {pos:Pos} {Q:Value->Shared->Prop} (I:Inv X pins O H s) (hg:Gl X x) (hm:X.mg x=none) (hv:bootBuiltins x=some u) (h:Q u s)
  (hn:x ≠ "__name__":=by decide) (hd:(x==("__debug__":Str))=false:=by decide):wpAny (model X.prog X.w) X.A (eval (.Name x pos) X.env) Q E s:=by
 obtain⟨mb,h1,h2⟩:=I.mod.blt;exact Calls.Name_function_global I.ok.kind hg (Calls.loadGlobal_builtin (by rw[I.ok.glob];exact I.mod.glob.keeps I.bk) hm (by rw[I.ok.blt];exact h1.keeps I.bk) ((h2 x hn).trans hv) h) hd
theorem BS {v:V} {pos:Pos} (hg:Gl X x) (hm:X.mg x=some u) (r:RelV v u) (hd:(x==("__debug__":Str))=false:=by decide):PE X (.Name x pos) (tC v) :=
 λ_ _ _ H _ I h=>kX I hg hm ⟨v,H,I,r,h⟩ hd
variable {a b:Expr} {ta tb:TE} {pos:Pos}
def PC (X:Cx) (op:CmpOp) (a b:Expr) (t:TE):Prop :=
 ∀(pins:List (Addr×Obj)) (s:Shared) (O:St) (H:Hp) (Q:VK),Inv X pins O H s->t O H Q ->
  wpAny (model X.prog X.w) X.A (eval a X.env) (λv s₁=>wpAny (model X.prog X.w) X.A (eval b X.env) (λu s₂=>wpAny (model X.prog X.w) X.A (compareOp op v u) (EP X pins O Q) X.xe s₂) X.xe s₁) X.xe s
theorem zX (b:Expr) {op:CmpOp} (h:op ≠ .In) (h2:op ≠ .NotIn):behindInMarks op b=false:=by
 have e1:(op==CmpOp.In)=false:=by cases op<;>first|rfl|exact absurd rfl h
 have e2:(op==CmpOp.NotIn)=false:=by cases op<;>first|rfl|exact absurd rfl h2
 cases b<;>simp[behindInMarks,e1,e2]
def GY (ta:TE):TE:=λO H Q=>ta O H λx H1=>Q (.bl (decide (x=.non))) H1
def FB (ta:TE):TE:=λO H Q=>ta O H λx H1=>Q (.bl (!decide (x=.non))) H1
theorem RelV.none_iff {x:V} {v:Value} (r:RelV x v):(v==Value.none)=decide (x=.non):=by
 cases x with
 | non=>cases r;rfl
 | bl _=>cases r;rfl
 | int _=>obtain⟨t,rfl⟩:=r;rfl
 | str _=>obtain⟨t,rfl⟩:=r;rfl
 | byt _=>obtain⟨t,rfl⟩:=r;rfl
 | flt _=>obtain⟨t,rfl⟩:=r;rfl
 | ref _=>cases r;rfl
 | ty _=>cases r;rfl
theorem Ej {j pos'} (ha:PE X a ta):PC X .Is a (.Constant .none j pos') (GY ta):=by
 intro pins s O H Q I h;refine thn (ha pins s O H _ I h) λv s1 ⟨x,H1,I1,r1,q1⟩=>?_;exact Constant_none (is_none_gen ⟨.bl _,H1,I1,by rw[r1.none_iff];rfl,q1⟩)
theorem BU {j pos'} (ha:PE X a ta):PC X .IsNot a (.Constant .none j pos') (FB ta):=by
 intro pins s O H Q I h;refine thn (ha pins s O H _ I h) λv s1 ⟨x,H1,I1,r1,q1⟩=>?_;exact Constant_none (isnot_none_gen ⟨.bl _,H1,I1,by rw[r1.none_iff];rfl,q1⟩)
def tB (t:TE):TT:=λO H Q=>t O H λx H1=>∃c,x=.bl c/\Q c H1
theorem zw {op:CmpOp} {t:TE} (h:PC X op a b t) (h1:behindInMarks op b=false:=by first|exact zX _ (by decide) (by decide)|rfl):PT X (.Compare a [op] [b] pos) (tB t):=by
 intro pins s O H Q I hw;refine wpAny_isTrue_Compare1 (thn (h pins s O H _ I hw) λv s1 h1=>thn h1 λu s2 h2=>thn h2 λc s3 ⟨x,H1,I1,r1,q1⟩=>?_) h1;obtain⟨d,rfl,q⟩:=q1;cases r1;exact wpAny_truthy_bool ⟨H1,I1,q⟩
theorem zu {e:Expr} {t:TE} (h:PE X e t) (he:∀whole,isTrue e X.env whole=(do let v <- whole;standAt e.pos;holding [v] (truthy v)):=by intro _;rfl):PT X e (tB t):=by
 intro pins s O H Q I hw;refine isTrue_plain (thn (h pins s O H _ I hw) λv s1 ⟨x,H1,I1,r1,q1⟩=>?_) (he _);obtain⟨d,rfl,q⟩:=q1;cases r1;exact wpAny_truthy_bool ⟨H1,I1,q⟩
variable {tA tB':TT} {rest:List Expr}
def G1 (t u:TT):TT:=λO H Q=>t O H λc H1=>if c=true then u O H1 Q else Q false H1
def tOr (t u:TT):TT:=λO H Q=>t O H λc H1=>if c=true then Q true H1 else u O H1 Q
def GV (t:TT):TT:=λO H Q=>t O H λc H1=>Q (!c) H1
theorem wV (ha:PT X a tA):PW X (.BoolOp .And [a] pos) tA:=by
 intro wh pins s O H Q I h;refine isTrue_and (thn (ha pins s O H Q I h) λc s1 e=>?_);cases c with
 | true=>exact isTrue_and_nil e
 | false=>exact e
theorem DX (ha:PT X a tA):PW X (.BoolOp .Or [a] pos) tA:=by
 intro wh pins s O H Q I h;refine isTrue_or (thn (ha pins s O H Q I h) λc s1 e=>?_);cases c with
 | false=>exact isTrue_or_nil e
 | true=>exact e
theorem zt (ha:PT X a tA) (hb:PW X (.BoolOp .And (b::rest) pos) tB'):PW X (.BoolOp .And (a::b::rest) pos) (G1 tA tB'):=by
 intro wh pins s O H Q I h;refine isTrue_and (thn (ha pins s O H _ I h) λc s1 ⟨H1,I1,q1⟩=>?_);cases c with
 | true=>exact hb wh pins s1 O H1 Q I1 q1
 | false=>exact⟨H1,I1,q1⟩
theorem FU (ha:PT X a tA) (hb:PW X (.BoolOp .Or (b::rest) pos) tB'):PW X (.BoolOp .Or (a::b::rest) pos) (tOr tA tB'):=by
 intro wh pins s O H Q I h;refine isTrue_or (thn (ha pins s O H _ I h) λc s1 ⟨H1,I1,q1⟩=>?_);cases c with
 | true=>exact⟨H1,I1,q1⟩
 | false=>exact hb wh pins s1 O H1 Q I1 q1
theorem zv (ha:PT X a tA):PT X (.UnaryOp .Not a pos) (GV tA):=by
 intro pins s O H Q I h;exact isTrue_not (ha pins s O H (λc H1=>Q (!c) H1) I h)
def FH (ta tb:TE):TE:=λO H Q=>ta O H λx H1=>∃c,x=.bl c/\if c=true then tb O H1 Q else Q (.bl false) H1
def GU (ta tb:TE):TE:=λO H Q=>ta O H λx H1=>∃c,x=.bl c/\if c=true then Q (.bl true) H1 else tb O H1 Q
def FA (ta:TE):TE:=λO H Q=>ta O H λx H1=>∃c,x=.bl c/\Q (.bl (!c)) H1
theorem Ec {op} {t:TE} (h:PE X a t):PE X (.BoolOp op [a] pos) t:=λpins s O H Q I hw=>BoolOp_one (h pins s O H Q I hw)
theorem Ei (ha:PE X a ta) (hb:PE X (.BoolOp .And (b::rest) pos) tb):PE X (.BoolOp .And (a::b::rest) pos) (FH ta tb):=by
 intro pins s O H Q I h;refine BoolOp_and (thn (ha pins s O H _ I h) λv s1 ⟨x,H1,I1,r1,q1⟩=>?_);obtain⟨c,rfl,q1⟩:=q1;cases r1;refine wpAny_truthy_bool ?_;cases c with
 | true=>exact hb pins s1 O H1 Q I1 q1
 | false=>exact⟨.bl false,H1,I1,rfl,q1⟩
theorem Ga (ha:PE X a ta) (hb:PE X (.BoolOp .Or (b::rest) pos) tb):PE X (.BoolOp .Or (a::b::rest) pos) (GU ta tb):=by
 intro pins s O H Q I h;refine BoolOp_or (thn (ha pins s O H _ I h) λv s1 ⟨x,H1,I1,r1,q1⟩=>?_);obtain⟨c,rfl,q1⟩:=q1;cases r1;refine wpAny_truthy_bool ?_;cases c with
 | false=>exact hb pins s1 O H1 Q I1 q1
 | true=>exact⟨.bl true,H1,I1,rfl,q1⟩
theorem Ed (ha:PE X a ta):PE X (.UnaryOp .Not a pos) (FA ta):=by
 intro pins s O H Q I h;refine UnaryOp_ (thn (ha pins s O H _ I h) λv s1 ⟨x,H1,I1,r1,q1⟩=>?_);obtain⟨c,rfl,q1⟩:=q1;cases r1;exact not_of (wpAny_truthy_bool ⟨.bl (!c),H1,I1,rfl,q1⟩)
end
end L2
namespace L2
open PySem PySem.Spec PyProof.Rows
def SqL (K:Frag) (H:Hp) (a:Addr) (xs:List V):Prop :=
 Rd H a (.lst xs) \/
  ∃(o:Obj) (its:Array Value) (n:Nat),K.lookup a=some o/\o.cls=.type "list"/\o.dict=none/\o.data=.seq its n/\its.size<=sizeLine/\Vals xs its.toList
def SqT (K:Frag) (H:Hp) (a:Addr) (xs:List V):Prop :=
 Rd H a (.tup xs) \/
  ∃(o:Obj) (its:Array Value) (n:Nat),K.lookup a=some o/\o.cls=.type "tuple"/\o.data=.seq its n/\its.size<=sizeLine/\Vals xs its.toList
def Hx:Value->Option V
 | .none=>some .non
 | .bool b=>some (.bl b)
 | .int i _=>some (.int i)
 | .str x _=>some (.str x)
 | .bytes b _=>some (.byt b)
 | .float b _=>some (.flt b)
 | .ref a=>some (.ref a)
 | .type n=>some (.ty n)
 | _=>none
variable {u:Value}
theorem RelV.abs {x:V} (r:RelV x u):Hx u=some x:=by
 cases x with
 | non=>cases r;rfl
 | bl _=>cases r;rfl
 | int _=>obtain⟨t,rfl⟩:=r;rfl
 | str _=>obtain⟨t,rfl⟩:=r;rfl
 | byt _=>obtain⟨t,rfl⟩:=r;rfl
 | flt _=>obtain⟨t,rfl⟩:=r;rfl
 | ref _=>cases r;rfl
 | ty _=>cases r;rfl
theorem RelV.inj {x y:V} (r:RelV x u) (q:RelV y u):x=y:=Option.some.inj (r.abs.symm.trans q.abs)
theorem Vals.inj:∀{xs ys:List V} {us:List Value},Vals xs us->Vals ys us->xs=ys
 | _,_,_,.nil,.nil=>rfl
 | _,_,_,.cons r t,.cons r' t'=>by rw[r.inj r',Vals.inj t t']
variable {K:Frag}
section
variable {X:Cx} {pins:List (Addr×Obj)} {O:St} {H:Hp} {s:Shared} {a:Addr} {xs ys:List V}
theorem SqL.of (h:H a=some (.lst xs)):SqL K H a xs:=.inl (.inl h)
theorem SqT.of (h:H a=some (.tup xs)):SqT K H a xs:=.inl (.inl h)
theorem Inv.list (I:Inv X pins O H s) (h:SqL X.K H a xs):∃its:List Value,Vals xs its/\PlainL s.heap a its.toArray/\xs.length<=sizeLine:=by
 rcases h with h|⟨o,its,n,hk,hc,hd,hs,hz,r⟩
 ·obtain⟨z,its,n,r,e⟩:=h.ok I.hok;exact⟨its,r,⟨_,n,e,rfl,rfl,rfl⟩,z⟩
 ·refine⟨its.toList,r,⟨o,n,I.kIn a o hk,hc,hd,by simpa using hs⟩,?_⟩;have e:=r.length;simp only[Array.length_toList]at e;omega
theorem Inv.tuple (I:Inv X pins O H s) (h:SqT X.K H a xs):∃its:List Value,Vals xs its/\IsTup s.heap a its.toArray/\xs.length<=sizeLine:=by
 rcases h with h|⟨o,its,n,hk,hc,hs,hz,r⟩
 ·obtain⟨z,its,r,p⟩:=h.ok I.hok;exact⟨its,r,p,z⟩
 ·refine⟨its.toList,r,⟨o,I.kIn a o hk,hc,n,by simpa using hs⟩,?_⟩;have e:=r.length;simp only[Array.length_toList]at e;omega
theorem Inv.list_inj (I:Inv X pins O H s) (h:SqL X.K H a xs) (h':SqL X.K H a ys):xs=ys:=by
 obtain⟨its,r,⟨o,n,e,_,_,d⟩,_⟩:=I.list h;obtain⟨its',r',⟨o',n',e',_,_,d'⟩,_⟩:=I.list h';rw[e]at e';cases e';rw[d]at d';injection d' with d1 _;have:its=its':=by simpa using congrArg Array.toList d1
 subst this;exact r.inj r'
theorem Inv.tuple_inj (I:Inv X pins O H s) (h:SqT X.K H a xs) (h':SqT X.K H a ys):xs=ys:=by
 obtain⟨its,r,⟨o,e,_,n,d⟩,_⟩:=I.tuple h;obtain⟨its',r',⟨o',e',_,n',d'⟩,_⟩:=I.tuple h';rw[e]at e';cases e';rw[d]at d';injection d' with d1 _;have:its=its':=by simpa using congrArg Array.toList d1
 subst this;exact r.inj r'
end
abbrev Cx.wish (X:Cx) (E:Value->Shared->Prop):Cx:={ X with xe:=E }
abbrev Cx.nox (X:Cx):Cx:=X.wish λ_ _=>False
theorem Cx.Ok.wish {X:Cx} (ok:X.Ok) (E:Value->Shared->Prop):(X.wish E).Ok :=
 ⟨ok.mod,ok.kind,ok.glob,ok.blt,ok.above,ok.inj,ok.has,ok.cab,ok.hd,ok.frames,ok.stk,ok.exf,ok.bs,ok.bsz,ok.noex,ok.exfs,ok.funs,ok.frf⟩
theorem Cx.Ok.unwish {X:Cx} {E:Value->Shared->Prop} (ok:(X.wish E).Ok):X.Ok :=
 ⟨ok.mod,ok.kind,ok.glob,ok.blt,ok.above,ok.inj,ok.has,ok.cab,ok.hd,ok.frames,ok.stk,ok.exf,ok.bs,ok.bsz,ok.noex,ok.exfs,ok.funs,ok.frf⟩
section
variable {X:Cx} {pins:List (Addr×Obj)} {O:St} {H:Hp} {s:Shared} {E:Value->Shared->Prop}
theorem Inv.wish (I:Inv X pins O H s) (E:Value->Shared->Prop):Inv (X.wish E) pins O H s:=⟨I.ok.wish E,I.os,I.bare,I.base,I.loc,I.cell,I.free,I.freeC,I.pin,I.hok,I.len⟩
theorem Inv.unwish (I:Inv (X.wish E) pins O H s):Inv X pins O H s:=⟨I.ok.unwish,I.os,I.bare,I.base,I.loc,I.cell,I.free,I.freeC,I.pin,I.hok,I.len⟩
theorem SP.unwish {D:j6} {f:Flow} {s':Shared} (h:SP (X.wish E) pins D f s'):SP X pins D f s':=by
 cases f with
 | next=>obtain⟨σ',H',I,q⟩:=h;exact⟨σ',H',I.unwish,q⟩
 | brk=>obtain⟨σ',H',I,q⟩:=h;exact⟨σ',H',I.unwish,q⟩
 | cont=>obtain⟨σ',H',I,q⟩:=h;exact⟨σ',H',I.unwish,q⟩
 | ret u=>obtain⟨v,σ',H',I,r,q⟩:=h;exact⟨v,σ',H',I.unwish,r,q⟩
theorem PSs.nox {st:List Stmt} {t:TS} (h:PSs X.nox st t):PSs X st t:=λpins s O H D I hw =>
 wpAny_mono (h pins s O H D (I.wish _) hw) (λ_ _ q=>q.unwish) λ_ _ z=>False.elim z
end
variable {s:Shared}
section
variable {X:Cx} {st:Stmt} {rest:List Stmt} {t u:TS} {e:Expr} {te:TE} {pos:Pos}
def FC:TS:=λD O H=>D.nx O H
def Bw (t u:TS):TS:=λD O H=>t { D with nx:=u D } O H
theorem wX:PSs X [] FC:=λ_ _ O H _ I h=>wpAny_execs_nil ⟨O,H,I,h⟩
theorem jj (h1:PS X st t) (h2:PSs X rest u):PSs X (st::rest) (Bw t u):=by
 intro pins s O H D I h;refine wpAny_execs_cons (thn (h1 pins s O H { D with nx:=u D } I h) λf s1 q=>?_);cases f with
 | next =>
  obtain⟨σ',H',I',q⟩:=q;exact h2 pins s1 σ' H' D I' q
 | ret v=>exact q
 | brk=>exact q
 | cont=>exact q
theorem kN (h1:PS X st t):PSs X [st] t:=by
 intro pins s O H D I h;refine wpAny_execs_cons (thn (h1 pins s O H D I h) λf s1 q=>?_);cases f with
 | next=>exact wpAny_execs_nil q
 | ret v=>exact q
 | brk=>exact q
 | cont=>exact q
theorem Inv.quiet {pins:List (Addr×Obj)} {O:St} {H:Hp} (I:Inv X pins O H s):interactive X.env=false:=by simp[interactive,I.ok.kind]
def nF (te:TE):TS:=λD O H=>te O H λ_ H1=>D.nx O H1
theorem kO (he:PE X e te) (hs:swapsWith e none pos.line X.env=pure false:=by rfl):PS X (.Expr e pos) (nF te):=by
 intro pins s O H D I h;exact wpAny_Expr_any (thn (he pins s O H _ I h) λv s1 ⟨x,H1,I1,r1,q1⟩=>⟨O,H1,I1,q1⟩) I.quiet hs
def GT (te:TE):TS:=λD O H=>te O H D.rt
theorem zB (he:PE X e te):PS X (.Return (some e) pos) (GT te):=by
 intro pins s O H D I h;exact wpAny_Return_some (thn (he pins s O H _ I h) λv s1 ⟨x,H1,I1,r1,q1⟩=>⟨x,O,H1,I1,r1,q1⟩)
def GZ (c:TT) (t u:TS):TS:=λD O H=>c O H λb H1=>if b=true then t D O H1 else u D O H1
theorem zD {c:Expr} {a b:List Stmt} {tc:TT} (hc:PT X c tc) (ha:PSs X a t) (hb:PSs X b u):PS X (.If c a b pos) (GZ tc t u):=by
 intro pins s O H D I h;refine wpAny_If (thn (hc pins s O H _ I h) λd s1 ⟨H1,I1,q1⟩=>?_);cases d with
 | true=>exact ha pins s1 O H1 D I1 q1
 | false=>exact hb pins s1 O H1 D I1 q1
def DD:TS:=λ_ _ _=>False
theorem zC:PS X st DD:=λ_ _ _ _ _ _ h=>h.elim
end
abbrev TG:=V->St->Hp->(St->Hp->Prop)->Prop
abbrev TGs:=List V->St->Hp->(St->Hp->Prop)->Prop
def PG (X:Cx) (target:Expr) (t:TG):Prop :=
 ∀(pins:List (Addr×Obj)) (s:Shared) (O:St) (H:Hp) (v:V) (u:Value) (Q:St->Hp->Prop),Inv X pins O H s->RelV v u->t v O H Q ->
  wpAny (model X.prog X.w) X.A (assign target X.env u) (λ_ s'=>∃σ' H',Inv X pins σ' H' s'/\Q σ' H') X.xe s
def PGs (X:Cx) (ts:List Expr) (t:TGs):Prop :=
 ∀(pins:List (Addr×Obj)) (s:Shared) (O:St) (H:Hp) (vs:List V) (us:List Value) (Q:St->Hp->Prop),Inv X pins O H s->Vals vs us->t vs O H Q ->
  wpAny (model X.prog X.w) X.A (assignInOrder ((assignEach ts X.env).map (·.2)) us) (λ_ s'=>∃σ' H',Inv X pins σ' H' s'/\Q σ' H') X.xe s
abbrev C6:=V->V->V->Hp->(Hp->Prop)->Prop
def Fp (X:Cx) (t:C6):Prop :=
 ∀(pins:List (Addr×Obj)) (s:Shared) (O:St) (H:Hp) (o i v:V) (ov iv u:Value) (Q:Hp->Prop),Inv X pins O H s->RelV o ov->RelV i iv->RelV v u->t o i v H Q ->
  wpAny (model X.prog X.w) X.A (setItem ov iv u) (λ_ s'=>∃H',Inv X pins O H' s'/\Q H') X.xe s
variable {tg:Expr}
section
variable {X:Cx} {pos:Pos}
def i4 (i:Nat):TG:=λv O H Q=>Q (O.set i (some v)) H
theorem ay {i:Nat} {x:Str} (hN:X.N.Nodup) (hi:X.N[i]?=some x) (hx:Loc X.env.scope x) (hf:X.fn x=true\/X.env.scope.names.lookup x=some .local:=by first|exact .inl rfl|exact .inr rfl|assumption):PG X (.Name x pos) (i4 i):=by
 intro pins s O H v u Q I r h;exact wpAny_assign_Name (tN I hN hi hx r (λs' I'=>⟨_,H,I',h⟩) hf)
def Hd:TGs:=λvs O H Q=>vs=[]/\Q O H
def Gq (t:TG) (u:TGs):TGs:=λvs O H Q=>∃v r,vs=v::r/\t v O H λσ' H'=>u r σ' H' Q
theorem BQ:PGs X [] Hd:=by
 intro pins s O H vs us Q I r h;obtain⟨e,h⟩:=h;subst e;cases r;exact assignInOrder_nil ⟨O,H,I,h⟩
theorem ub {e:Expr} {es:List Expr} {t:TG} {u:TGs} (h1:PG X e t) (h2:PGs X es u)
  (hs:(assignEach (e::es) X.env).map (·.2)=assign e X.env::(assignEach es X.env).map (·.2):=by rfl):PGs X (e::es) (Gq t u):=by
 intro pins s O H vs us Q I r h;obtain⟨v,vr,e1,h⟩:=h;subst e1;cases r with
 | cons r rr =>
  rw[hs];refine assignInOrder_cons (thn (h1 pins s O H _ _ _ I r h) λ_ s1 ⟨O1,H1,I1,q1⟩=>?_);exact h2 pins s1 O1 H1 _ _ Q I1 rr q1
def G9 (K:Frag) (n:Nat) (t:TGs):TG:=λv O H Q=>∃a xs,v=.ref a/\SqT K H a xs/\xs.length=n/\t xs O H Q
theorem D9 {es:List Expr} {k:Nat} {t:TGs} {n:Nat} (hc:X.calm=true) (h:PGs X es t)
  (hn:(assignEach es X.env).length=n:=by rfl) (hst:(assignEach es X.env).findIdx? (·.1)=none:=by rfl):PG X (.Tuple es k pos) (G9 X.K n t):=by
 intro pins s O H v u Q I r hw;obtain⟨a,xs,e1,hq,hl,hw⟩:=hw;subst e1;cases r;obtain⟨its,rv,ht,hz⟩:=I.tuple hq;refine assign_Tuple_tuple (I.ok.hd hc) ht (by simp[hn,<- hl,rv.length]) hst λh' hx=>?_;have I1:Inv X pins O H { s with heap:=h' }:=I.kept (t':=s.toks) λb o e=>hx b o (Nat.ne_of_lt (Heap.lt_size e)) e;exact h pins _ O H xs _ Q I1 (by simpa using rv) hw
def G_ (to ti:TE) (t:C6):TG:=λv O H Q=>to O H λo H1=>ti O H1 λi H2=>t o i v H2 λH3=>Q O H3
theorem vR {o i:Expr} {to ti:TE} {t:C6} (ho:PE X o to) (hi:PE X i ti) (hs:Fp X t)
  (ha:∀v,assign (.Subscript o i pos) X.env v=(do
   let ov <- holding [v] (eval o X.env)
   let iv <- holding [v,ov] (eval i X.env)
   standAt pos
   holding [v,ov,iv] (setItem ov iv v)
   release [v,ov,iv] []):=by intro _;rfl):PG X (.Subscript o i pos) (G_ to ti t):=by
 intro pins s O H v u Q I r h;rw[ha];refine wpAny_bind (wpAny_holding (thn (ho pins s O H _ I h) λov s1 ⟨x,H1,I1,r1,q1⟩=>?_));refine wpAny_bind (wpAny_holding (thn (hi pins s1 O H1 _ I1 q1) λiv s2 ⟨y,H2,I2,r2,q2⟩=>?_));refine wpAny_bind (wpAny_standAt (wpAny_bind (wpAny_holding (thn (hs pins s2 O H2 x y v ov iv u _ I2 r1 r2 r q2) λ_ s3 ⟨H3,I3,q3⟩=>?_))));exact wpAny_release ⟨O,H3,I3,q3⟩
def vC (te:TE) (g:TG):TS:=λD O H=>te O H λx H1=>g x O H1 D.nx
theorem rN {e:Expr} {te:TE} {g:TG} (he:PE X e te) (hg:PG X tg g) (hs:swapsWithSole [tg] e pos.line X.env=pure false:=by rfl) (hw:swappedStores [tg] e X.env=pure none:=by rfl)
  (h1:(assignEach [tg] X.env).map (·.2)=[assign tg X.env]:=by rfl):PS X (.Assign [tg] e pos) (vC te g):=by
 intro pins s O H D I h;refine wpAny_Assign_stores (thn (he pins s O H _ I h) λv s1 ⟨x,H1,I1,r1,q1⟩=>?_) hs hw;rw[h1];exact thn (hg pins s1 O H1 x v _ I1 r1 q1) λ_ s2 q=>q
theorem rM {i:Nat} {x:Str} {e:Expr} {te:TE} {pos':Pos} (hN:X.N.Nodup) (hi:X.N[i]?=some x) (hx:Loc X.env.scope x) (he:PE X e te) (hs:swapsWith e (some (.Name x pos')) pos.line X.env=pure false:=by rfl) (hf:X.fn x=true\/X.env.scope.names.lookup x=some .local:=by first|exact .inl rfl|exact .inr rfl|assumption) :
  PS X (.Assign [.Name x pos'] e pos) (vC te (i4 i)):=by
 intro pins s O H D I h;refine wpAny_Assign_Name (thn (he pins s O H _ I h) λv s1 ⟨y,H1,I1,r1,q1⟩=>?_) hs;exact tN I1 hN hi hx r1 (λs2 I2=>⟨_,H1,I2,q1⟩) hf
end
section
variable {X:Cx} {pos:Pos}
def DC (c:TT) (tb:TS):TS:=λD O H=>∃W:Nat->St->Hp->Prop,(∃m,W m O H)/\∀m O H,W m O H ->
 c O H λb H1=>if b=true then ∃N:St->Hp->Prop,(∀σ' H',N σ' H'->∃m',m'<m/\W m' σ' H')/\tb { D with nx:=N,ct:=N,bk:=D.nx } O H1 else D.nx O H1
theorem zy {c:Expr} {body:List Stmt} {tc:TT} {tb:TS} (hp:PassesOwn (model X.prog X.w) X.A X.env X.xe) (hc:PT X c tc) (hb:PSs X body tb):PS X (.While c body [] pos) (DC tc tb):=by
 intro pins s O H D I h;obtain⟨W,⟨m0,w0⟩,lJ⟩:=h;refine wpAny_While (codeAny_whileLoop (λn s'=>∃σ' H',Inv X pins σ' H' s'/\W n σ' H') ?_ m0 ⟨O,H,I,w0⟩);rintro n s1 ⟨O1,H1,I1,w1⟩;refine wpAny_passesOwn hp (thn (hc pins s1 O1 H1 _ I1 (lJ n O1 H1 w1)) λb s2 ⟨H2,I2,q2⟩=>?_);cases b with
 | true =>
  obtain⟨N,hN,q2⟩:=q2;rw[if_pos rfl];refine wpAny_passesOwn hp (thn (hb pins s2 O1 H2 _ I2 q2) λf s3 q3=>?_);cases f with
  | next =>
   obtain⟨O3,H3,I3,n3⟩:=q3;obtain⟨m',hm,w3⟩:=hN O3 H3 n3;exact⟨m',hm,O3,H3,I3,w3⟩
  | cont =>
   obtain⟨O3,H3,I3,n3⟩:=q3;obtain⟨m',hm,w3⟩:=hN O3 H3 n3;exact⟨m',hm,O3,H3,I3,w3⟩
  | brk=>exact q3
  | ret v=>exact q3
 | false =>
  rw[if_neg Bool.false_ne_true];exact wpAny_execs_nil ⟨O1,H2,I2,q2⟩
end
structure It where
 go:Nat->Hp->Prop
 yld:Nat->Hp->V->Hp->Prop
 stop:Nat->Hp->Prop
def qh (X:Cx) (pins:List (Addr×Obj)) (H:Hp) (b:Addr):Prop :=
 H b=none/\b≠X.env.locals/\b∉X.fs/\(b∈X.ex\/X.s₀.heap.objs.size<=b)/\(∀x c,X.env.cells.lookup x=some c->c≠b)/\∀p∈X.pn++pins,p.1≠b
theorem Inv.fpOk {X:Cx} {pins:List (Addr×Obj)} {O:St} {H H':Hp} {b:Addr} (I:Inv X pins O H s) (hb:s.heap.objs.size<=b) (hn:H' b=none):qh X pins H' b:=by
 refine⟨hn,Nat.ne_of_gt (Nat.lt_of_lt_of_le I.lt hb),I.nofs hb,.inr (Nat.le_trans I.sz hb),λx c e z=>?_,λp hp z=>?_⟩
 ·obtain⟨v,q⟩:=I.cell x c e;exact absurd (Nat.lt_of_lt_of_le q.lt (by rw[z];exact hb)) (Nat.lt_irrefl _)
 ·exact absurd (Nat.lt_of_lt_of_le (Heap.lt_size (I.pin p hp).1) (by rw[z];exact hb)) (Nat.lt_irrefl _)
structure wC (P:Program) (w:World) (K:Frag) (tg:Expr) (J:It) (fp:List Addr) (it:Addr) (tn:Nat->Heap->Prop):Prop where
 mem:it∈fp
 obj:∀i h,tn i h->∀b∈fp,∃o,h.get? b=some o/\∀v,o.data ≠ .cell v
 keep:∀i h h',tn i h->(∀b∈fp,∀o,h.get? b=some o->h'.get? b=some o)->tn i h'
 item:∀(X:Cx),X.prog=P->X.w=w->X.K=K->X.calm=true->∀(i:Nat) (pins:List (Addr×Obj)) (s:Shared) (O:St) (H:Hp) (E:Value->Shared->Prop),Inv X pins O H s->(∀b∈fp,qh X pins H b)->tn i s.heap->J.go i H ->
  wpAny (model P w) X.A (pyNext (.ref it)) (λr s1=>∃u,r=some u /\
   wpAny (model P w) X.A (letOwnedTupleGo tg (.ref it) u) (λ_ s2=>∃x H',Inv X pins O H' s2/\RelV x u/\J.yld i H x H'/\tn (i+1) s2.heap/\∀b∈fp,H' b=none) E s1) E s
 done:∀(X:Cx),X.prog=P->X.w=w->X.K=K->X.calm=true->∀(i:Nat) (pins:List (Addr×Obj)) (s:Shared) (O:St) (H:Hp) (E:Value->Shared->Prop),Inv X pins O H s->(∀b∈fp,qh X pins H b)->tn i s.heap->J.stop i H ->
  wpAny (model P w) X.A (pyNext (.ref it)) (λr s1=>r=none/\Inv X pins O H s1) E s
 self:∀(A:Around) (i:Nat) (s:Shared) (Q:Value->Shared->Prop) (E:Value->Shared->Prop),tn i s.heap->Q (.ref it) s->wpAny (model P w) A (pyIter (.ref it)) Q E s
abbrev TI:=St->Hp->(It->Hp->Prop)->Prop
def PIE (X:Cx) (pins:List (Addr×Obj)) (O:St) (tg:Expr) (R:It->Hp->Prop) (itv:Value) (s2:Shared):Prop :=
 ∃(it:Addr) (fp:List Addr) (tn:Nat->Heap->Prop) (J:It) (H':Hp),itv=.ref it/\Inv X pins O H' s2/\wC X.prog X.w X.K tg J fp it tn/\tn 0 s2.heap/\(∀b∈fp,qh X pins H' b)/\R J H'
def PI (X:Cx) (tg iter:Expr) (wi:TI):Prop :=
 ∀(pins:List (Addr×Obj)) (s:Shared) (O:St) (H:Hp) (R:It->Hp->Prop),Inv X pins O H s->wi O H R ->
  wpAny (model X.prog X.w) X.A (eval iter X.env) (λv s1=>wpAny (model X.prog X.w) X.A (pyIter v) (PIE X pins O tg R) X.xe s1) X.xe s
theorem Ao {M:Model} {A:Around} {E:Value->Shared->Prop} {it:Addr} {o:Obj} {n:String} {vs:Array Value} {Q:Unit->Shared->Prop} (ho:s.heap.get? it=some o) (hc:o.cls=.type n) (hd:o.data=.fields vs)
    (hn:["enumerate","zip","dict_itemiterator","dict_reverseitemiterator","odict_iterator","itertools.zip_longest","itertools.pairwise"].contains n=false) (hQ:Q () s):wpAny M A (letOwnedTupleGo tg (.ref it) u) Q E s:=by
  unfold letOwnedTupleGo;cases tg<;>first
    | exact wpAny_pure hQ
    | (cases u<;>first
        | exact wpAny_pure hQ
        | (refine wpAny_bind (wpAny_load ho ?_)
           rw[hc,hd];show wpAny M A (if(["enumerate","zip","dict_itemiterator","dict_reverseitemiterator","odict_iterator","itertools.zip_longest","itertools.pairwise"].contains n&&vs[0]?==some (rawInt _))=true then _ else _) Q E s;rw[if_neg (by intro h;rw[hn,Bool.false_and]at h;cases h)];exact wpAny_pure hQ))
def Itl (K:Frag) (a:Addr):It :=
 ⟨λi H=>∃xs x,SqL K H a xs/\xs[i]?=some x,λi H x H'=>H'=H/\∀xs,SqL K H a xs->xs[i]?=some x,λi H=>∃xs,SqL K H a xs/\xs.length<=i⟩
def Itt (K:Frag) (a:Addr):It :=
 ⟨λi H=>∃xs x,SqT K H a xs/\xs[i]?=some x,λi H x H'=>H'=H/\∀xs,SqT K H a xs->xs[i]?=some x,λi H=>∃xs,SqT K H a xs/\xs.length<=i⟩
def Itr (lo:Int) (n:Nat):It:=⟨λi _=>i<n,λi H x H'=>H'=H/\x=.int (lo+i),λi _=>n<=i⟩
variable {P:Program} {w:World}
theorem qj (a it:Addr):wC P w K tg (Itl K a) [it] it (λi h=>h.IsListIter it a i) where
 mem:=by simp
 obj:=λi h st b hb=>by
  have e:b=it:=by simpa using hb
  subst e;obtain⟨o,e,c,d⟩:=st;exact⟨o,e,λv z=>by rw[d]at z;cases z⟩
 keep:=λi h h' st k=>st.at λo e=>k it (by simp) o e
 item:=by
  intro X hP hw hK hc i pins s O H E I hf st hg;subst hP hw hK;obtain⟨xs,x,hq,hx⟩:=hg;obtain⟨its,rv,p,hz⟩:=I.list hq;obtain⟨u,hu,ru⟩:=rv.get hx;obtain⟨f0,f1,f2,f3,f4,f5⟩:=hf it (by simp);refine wpAny_pyNext_list_item st p.isList (x:=u) (by simpa using hu) λh' st' sb=>?_;have I1:Inv X pins O H { s with heap:=h' }:=I.turned (t':=s.toks) (λb o hb e=>(sb.2 b hb).trans e) f0 f1 f3 f4 f5;obtain⟨o,e,c,d⟩:=id st';exact⟨u,rfl,Ao (s:={ s with heap:=h' }) e c d (by decide) ⟨x,H,I1,ru,⟨rfl,λys hy=>by rw[I.list_inj hy hq];exact hx⟩,st',λb hb=>(hf b hb).1⟩⟩
 done:=by
  intro X hP hw hK hc i pins s O H E I hf st hg;subst hP hw hK;obtain⟨xs,hq,hx⟩:=hg;obtain⟨its,rv,p,hz⟩:=I.list hq;obtain⟨f0,f1,f2,f3,f4,f5⟩:=hf it (by simp);have hl:=rv.length;exact wpAny_pyNext_list_end (I.ok.hd hc) st p.isList (by simp;omega) λh' eb=>⟨rfl,I.turned (t':=s.toks) (λb o hb e=>eb b o hb e) f0 f1 f3 f4 f5⟩
 self:=λ_ _ _ _ _ st h=>wpAny_pyIter_listiter st h
theorem vv (a it:Addr):wC P w K tg (Itt K a) [it] it (λi h=>h.IsTupleIter it a i) where
 mem:=by simp
 obj:=λi h st b hb=>by
  have e:b=it:=by simpa using hb
  subst e;obtain⟨o,e,c,d⟩:=st;exact⟨o,e,λv z=>by rw[d]at z;cases z⟩
 keep:=λi h h' st k=>st.at λo e=>k it (by simp) o e
 item:=by
  intro X hP hw hK hc i pins s O H E I hf st hg;subst hP hw hK;obtain⟨xs,x,hq,hx⟩:=hg;obtain⟨its,rv,p,hz⟩:=I.tuple hq;obtain⟨u,hu,ru⟩:=rv.get hx;obtain⟨f0,f1,f2,f3,f4,f5⟩:=hf it (by simp);refine wpAny_pyNext_tuple_item st (show s.heap.IsTuple a its.toArray from p) (x:=u) (by simpa using hu) λh' st' sb=>?_;have I1:Inv X pins O H { s with heap:=h' }:=I.turned (t':=s.toks) (λb o hb e=>(sb.2 b hb).trans e) f0 f1 f3 f4 f5;obtain⟨o,e,c,d⟩:=id st';exact⟨u,rfl,Ao (s:={ s with heap:=h' }) e c d (by decide) ⟨x,H,I1,ru,⟨rfl,λys hy=>by rw[I.tuple_inj hy hq];exact hx⟩,st',λb hb=>(hf b hb).1⟩⟩
 done:=by
  intro X hP hw hK hc i pins s O H E I hf st hg;subst hP hw hK;obtain⟨xs,hq,hx⟩:=hg;obtain⟨its,rv,p,hz⟩:=I.tuple hq;obtain⟨f0,f1,f2,f3,f4,f5⟩:=hf it (by simp);have hl:=rv.length;exact wpAny_pyNext_tuple_end (I.ok.hd hc) st (show s.heap.IsTuple a its.toArray from p) (by simp;omega) λh' eb=>⟨rfl,I.turned (t':=s.toks) (λb o hb e=>eb b o hb e) f0 f1 f3 f4 f5⟩
 self:=λ_ _ _ _ _ st h=>wpAny_pyIter_tupleiter st h
theorem vw (it:Addr) (lo:Int) (n:Nat):wC P w K tg (Itr lo n) [it] it (λi h=>IsRangeIter h it (lo+(i:Nat)*1) ((n:Int)-(i:Nat)) 1) where
 mem:=by simp
 obj:=λi h st b hb=>by
  have e:b=it:=by simpa using hb
  subst e;exact⟨_,st,λv z=>by
   have z':Data.fields _=Data.cell v:=z;cases z'⟩
 keep:=λi h h' st k=>k it (by simp) _ st
 item:=by
  intro X hP hw hK hc i pins s O H E I hf st hg;subst hP hw hK;obtain⟨f0,f1,f2,f3,f4,f5⟩:=hf it (by simp);have W:=Walks.range (prog:=X.prog) (w:=X.w) (I.ok.hd hc) it lo 1 n;refine W.item i s _ _ hg st λv h' tk hv st' kk=>?_;obtain⟨t,rfl⟩:=hv;have I1:Inv X pins O H { s with heap:=h',toks:=tk }:=I.turned (λb o hb e=>kk b o (by simpa using hb) e) f0 f1 f3 f4 f5;refine⟨_,rfl,Ao (s:={ s with heap:=h',toks:=tk }) (n:="range_iterator") st' rfl rfl (by decide) ⟨.int (lo+i),H,I1,⟨t,?_⟩,⟨rfl,rfl⟩,st',λb hb=>(hf b hb).1⟩⟩;rw[Int.mul_one]
 done:=by
  intro X hP hw hK hc i pins s O H E I hf st hg;subst hP hw hK;obtain⟨f0,f1,f2,f3,f4,f5⟩:=hf it (by simp);exact wpAny_pyNext_range_end (I.ok.hd hc) st (by have:n<=i:=hg;omega) λh' eb=>⟨rfl,I.turned (t':=s.toks) (λb o hb e=>eb b o hb e) f0 f1 f3 f4 f5⟩
 self:=λ_ _ _ _ _ st h=>wpAny_pyIter_rangeiter st h
end L2
namespace L2
open PySem PySem.Spec PyProof.Rows
variable {pins:List (Addr×Obj)} {O:St} {H:Hp} {s:Shared} {fp:List Addr}
section
variable {X:Cx} {tg:Expr}
def Gp (K:Frag) (tl:TE):TI:=λO H R=>tl O H λx H1=>∃a,x=.ref a/\(∃xs,SqL K H1 a xs)/\R (Itl K a) H1
theorem BO {l:Expr} {tl:TE} (hl:PE X l tl):PI X tg l (Gp X.K tl):=by
 intro pins s O H R I h;refine thn (hl pins s O H _ I h) λv s1 ⟨x,H1,I1,r1,q1⟩=>?_;obtain⟨a,e,⟨xs,hq⟩,q⟩:=q1;subst e;cases r1;obtain⟨its,rv,p,hz⟩:=I1.list hq;refine wpAny_pyIter_list p.isList ?_;refine⟨s1.heap.objs.size,[s1.heap.objs.size],_,_,H1,rfl,I1.kept (t':=s1.toks) λb o e=>Heap.get?_push_of_some _ e,qj a _,⟨_,Heap.get?_push_size _ rfl,rfl,rfl⟩,λb hb=>?_,q⟩;have e:b=s1.heap.objs.size:=by simpa using hb
 subst e;exact I1.fpOk (Nat.le_refl _) (I1.hok.fresh (Nat.le_refl _))
theorem zo {R:It->Hp->Prop} {E:Value->Shared->Prop} {lo hi:Int} {t u v:Tok} {tk:Nat} (I:Inv X pins O H s) (h1:-(2 ^ 62)<=lo) (h2:lo<2 ^ 62) (h3:-(2 ^ 62)<=hi) (h4:hi<2 ^ 62)
  (q:R (Itr lo (hi-lo).toNat) H):wpAny (model X.prog X.w) X.A (pyIter (.ref s.heap.objs.size)) (PIE X pins O tg R) E { s with heap:=s.heap.push { cls:=.type "range",data:=.fields #[.int lo t,.int hi u,.int 1 v] },toks:=tk }:=by
 refine wpAny_pyIter_range (IsRange.new ..) (small_one h1 h2 h3 h4) ?_;have I1:Inv X pins O H { s with heap:=s.heap.push { cls:=.type "range",data:=.fields #[.int lo t,.int hi u,.int 1 v] },toks:=tk }:=I.kept λb o e=>Heap.get?_push_of_some _ e;refine⟨(s.heap.push { cls:=.type "range",data:=.fields #[.int lo t,.int hi u,.int 1 v] }).objs.size,[(s.heap.push { cls:=.type "range",data:=.fields #[.int lo t,.int hi u,.int 1 v] }).objs.size],_,_,H,rfl,
  I1.kept (t':=tk) λb o e=>Heap.get?_push_of_some _ e,vw _ lo (hi-lo).toNat,?_,λb hb=>?_,q⟩
 ·have e1:lo+((0:Nat):Int)*1=lo:=by simp
  have e2:(((hi-lo).toNat:Nat):Int)-((0:Nat):Int)=Builtin.Range.rangeSize lo hi 1:=by rw[rangeSize_one];split<;>omega
  show IsRangeIter _ _ (lo+((0:Nat):Int)*1) ((((hi-lo).toNat:Nat):Int)-((0:Nat):Int)) 1;rw[e1,e2];exact Heap.get?_push_size _ rfl
 ·have e:b=(s.heap.push { cls:=.type "range",data:=.fields #[.int lo t,.int hi u,.int 1 v] }).objs.size:=by simpa using hb
  subst e;exact I1.fpOk (Nat.le_refl _) (I1.hok.fresh (Nat.le_refl _))
def Go (ta:TA):TI:=λO H R=>ta O H λvs H1=>∃j:Int,vs=[.int j]/\-(2 ^ 62)<=j/\j<2 ^ 62/\R (Itr 0 j.toNat) H1
theorem yg {a:Expr} {ta:TA} {p pos:Pos} (hg:Gl X "range") (hm:X.mg "range"=none) (ha:PA X [a] ta) (hs:starEach [a] X.env=[(false,eval a X.env)]:=by rfl):PI X tg (.Call (.Name "range" p) [a] [] pos) (Go ta):=by
 intro pins s O H R I h;refine Call_ (jp I hg hm boot_range (PyProof.Rows.callWith_type1 (thn (ha pos pins s O H _ I h) λus s1 ⟨vs,H1,I1,r1,q1⟩=>?_) hs rfl));obtain⟨j,e,q1,q2,q⟩:=q1;subst e;cases r1 with
 | cons r rr =>
  cases rr;obtain⟨t,rfl⟩:=r;exact call_range_1 (zo I1 (by omega) (by omega) q1 q2 (by simpa using q))
def FE (wi:TI) (g:TG) (tb:TS):TS:=λD O H=>wi O H λJ H1=>∃W:Nat->Nat->St->Hp->Prop,(∃m,W 0 m O H1)/\∀i m O H,W i m O H ->
 (J.stop i H/\D.nx O H)\/(J.go i H/\∃N:St->Hp->Prop,(∀σ' H',N σ' H'->∃m',m'<m/\W (i+1) m' σ' H')/\∀x H',J.yld i H x H'->g x O H' λO2 H2=>tb { D with nx:=N,ct:=N,bk:=D.nx } O2 H2)
def dl (fp:List Addr) (h:Heap):List (Addr×Obj):=fp.filterMap λb=>(h.get? b).map λo=>(b,o)
theorem gf {h:Heap} {b:Addr} {o:Obj} (hb:b∈fp) (e:h.get? b=some o):(b,o)∈dl fp h:=List.mem_filterMap.mpr ⟨b,hb,by rw[e];rfl⟩
theorem jS {h:Heap} {p:Addr×Obj} (hp:p∈dl fp h):p.1∈fp/\h.get? p.1=some p.2:=by
 obtain⟨b,hb,e⟩:=List.mem_filterMap.mp hp;cases q:h.get? b with
 | none=>rw[q]at e;cases e
 | some o =>
  rw[q]at e;have e':(b,o)=p:=Option.some.inj e;subst e';exact⟨hb,q⟩
theorem Inv.pinned (I:Inv X pins O H s) (hf:∀b∈fp,qh X pins H b) (ho:∀b∈fp,∃o,s.heap.get? b=some o/\∀v,o.data ≠ .cell v):Inv X (pins++dl fp s.heap) O H s :=
 I.pins_of λp hp=>(List.mem_append.mp hp).elim (λz=>I.pin p (List.mem_append_right _ z)) λz=>by
  obtain⟨hb,e⟩:=jS z;obtain⟨f0,f1,f2,_⟩:=hf p.1 hb;obtain⟨o,e',d⟩:=ho p.1 hb;rw[e]at e';cases e';exact⟨e,f0,f1,f2,d⟩
theorem Inv.unpinned {pl:List (Addr×Obj)} (I:Inv X (pins++pl) O H s):Inv X pins O H s:=I.pins_of λp hp=>I.pin p (List.mem_append_right _ (List.mem_append_left _ hp))
theorem zE {iter:Expr} {body:List Stmt} {wi:TI} {g:TG} {tb:TS} {pos:Pos} (hp:PassesOwn (model X.prog X.w) X.A X.env X.xe) (hc:X.calm=true) (hi:PI X tg iter wi) (hg:PG X tg g) (hb:PSs X body tb)
  (hs:∀x,foldedSetIterable iter X.env x=pure x:=by intro _;rfl):PS X (.For tg iter body [] pos) (FE wi g tb):=by
 intro pins s O H D I h;refine wpAny_For (thn (hi pins s O H _ I h) λv s1 h1=>thn h1 λitv s2 h2=>?_) hs;obtain⟨it,fp,tn,J,H2,e,I2,T,st2,f2,W,⟨m0,w0⟩,lJ⟩:=h2;subst e;have stat:∀{H':Hp},(∀b∈fp,H' b=none)->∀b∈fp,qh X pins H' b:=λhn b hb=>⟨hn b hb,(f2 b hb).2⟩;refine codeAny_forLoop_any (λn s'=>∃i σ' H',Inv X pins σ' H' s'/\tn i s'.heap/\(∀b∈fp,H' b=none)/\W i n σ' H') ?_ m0 ⟨0,O,H2,I2,st2,λb hb=>(f2 b hb).1,w0⟩;rintro n s3 ⟨i,O3,H3,I3,st3,fr3,w3⟩;rcases lJ i n O3 H3 w3 with⟨stop,qn⟩|⟨go,N,hN,step⟩
 ·refine wpAny_passesOwn hp (thn (T.done X rfl rfl rfl hc i pins s3 O3 H3 X.xe I3 (stat fr3) st3 stop) λr s4 ⟨hr,I4⟩=>?_);subst hr;exact wpAny_execs_nil ⟨O3,H3,I4,qn⟩
 ·refine wpAny_passesOwn hp (thn (T.item X rfl rfl rfl hc i pins s3 O3 H3 X.xe I3 (stat fr3) st3 go) λr s4 ⟨u,hr,h4⟩=>?_);subst hr;refine wpAny_passesOwn hp (thn h4 λ_ s5 ⟨x,H5,I5,r5,y5,st5,fr5⟩=>?_);have I5':=I5.pinned (stat fr5) (T.obj _ _ st5);refine wpAny_passesOwn hp (thn (hg _ s5 O3 H5 x u _ I5' r5 (step x H5 y5)) λ_ s6 ⟨O6,H6,I6,q6⟩=>?_);refine wpAny_passesOwn hp (thn (hb _ s6 O6 H6 _ I6 q6) λf s7 q7=>?_);have again:∀{O7:St} {H7:Hp},Inv X (pins++dl fp s5.heap) O7 H7 s7->N O7 H7->∃m,m<n/\∃i σ' H',Inv X pins σ' H' s7/\tn i s7.heap/\(∀b∈fp,H' b=none)/\W i m σ' H':=λ{O7 H7} I7 n7=>by
   obtain⟨m',hm,w7⟩:=hN O7 H7 n7;refine⟨m',hm,i+1,O7,H7,I7.unpinned,T.keep _ _ _ st5 λb hb o e=>(I7.pin (b,o) (List.mem_append_right _ (List.mem_append_right _ (gf hb e)))).1,λb hb=>?_,w7⟩;obtain⟨o,e,d⟩:=T.obj _ _ st5 b hb;exact(I7.pin (b,o) (List.mem_append_right _ (List.mem_append_right _ (gf hb e)))).2.1
  cases f with
  | next=>obtain⟨O7,H7,I7,n7⟩:=q7;exact again I7 n7
  | cont=>obtain⟨O7,H7,I7,n7⟩:=q7;exact again I7 n7
  | brk=>obtain⟨O7,H7,I7,q7⟩:=q7;exact⟨O7,H7,I7.unpinned,q7⟩
  | ret v=>obtain⟨x7,O7,H7,I7,r7,q7⟩:=q7;exact⟨x7,O7,H7,I7.unpinned,r7,q7⟩
end
theorem As {K:Frag} {a:Addr} {xs:List V} {g:TG} {tb:TS} {D:j6} (Pv:Nat->St->Hp->Prop) (h0:Pv 0 O H) (hl:∀i O H,i<=xs.length->Pv i O H->SqL K H a xs)
  (hs:∀i x O H,xs[i]?=some x->Pv i O H->g x O H λO2 H2=>tb { D with nx:=Pv (i+1),ct:=Pv (i+1),bk:=D.nx } O2 H2) (hd:∀O H,Pv xs.length O H->D.nx O H) :
  ∃W:Nat->Nat->St->Hp->Prop,(∃m,W 0 m O H)/\∀i m O H,W i m O H ->
   ((Itl K a).stop i H/\D.nx O H)\/((Itl K a).go i H/\∃N:St->Hp->Prop,(∀σ' H',N σ' H'->∃m',m'<m/\W (i+1) m' σ' H')/\∀x H',(Itl K a).yld i H x H'->g x O H' λO2 H2=>tb { D with nx:=N,ct:=N,bk:=D.nx } O2 H2):=by
 refine⟨λi m O H=>m=xs.length-i/\i<=xs.length/\Pv i O H,⟨xs.length,by simp,Nat.zero_le _,h0⟩,?_⟩;rintro i m O H ⟨rfl,hi,p⟩;have q:=hl i O H hi p;by_cases hlt:i<xs.length
 ·refine .inr ⟨⟨xs,xs[i],q,by simp[hlt]⟩,Pv (i+1),λσ' H' p'=>⟨xs.length-(i+1),by omega,rfl,hlt,p'⟩,λx H' y=>?_⟩;obtain⟨e,y⟩:=y;subst e;exact hs i x O _ (y xs q) p
 ·have e:i=xs.length:=by omega
  subst e;exact .inl ⟨⟨xs,q,Nat.le_refl _⟩,hd O H p⟩
end L2
namespace L2
open PySem PySem.Spec PyProof.Rows
abbrev R2:=V->V->Hp->VK->Prop
def OpR (X:Cx) (f:Value->Value->Sem Value) (r:R2):Prop :=
 ∀(pins:List (Addr×Obj)) (s:Shared) (O:St) (H:Hp) (x y:V) (v u:Value) (Q:VK),Inv X pins O H s->RelV x v->RelV y u->r x y H Q ->
  wpAny (model X.prog X.w) X.A (f v u) (EP X pins O Q) X.xe s
def UnR (X:Cx) (f:Value->Sem Value) (r:V->Hp->VK->Prop):Prop :=
 ∀(pins:List (Addr×Obj)) (s:Shared) (O:St) (H:Hp) (x:V) (v:Value) (Q:VK),Inv X pins O H s->RelV x v->r x H Q ->
  wpAny (model X.prog X.w) X.A (f v) (EP X pins O Q) X.xe s
def jK (X:Cx) (f:Value) (r:List V->Hp->VK->Prop):Prop :=
 ∀(pins:List (Addr×Obj)) (s:Shared) (O:St) (H:Hp) (xs:List V) (us:List Value) (Q:VK),Inv X pins O H s->Vals xs us->r xs H Q ->
  wpAny (model X.prog X.w) X.A (call f us) (EP X pins O Q) X.xe s
def tOp (r:R2) (ta tb:TE):TE:=λO H Q=>ta O H λx H1=>tb O H1 λy H2=>r x y H2 Q
def tUn (r:V->Hp->VK->Prop) (ta:TE):TE:=λO H Q=>ta O H λx H1=>r x H1 Q
def rI (C:Int->Int->Prop) (g:Int->Int->V):R2:=λx y H Q=>∃i j,x=.int i/\y=.int j/\C i j/\Q (g i j) H
def rI0 (g:Int->Int->V):R2:=λx y H Q=>∃i j,x=.int i/\y=.int j/\Q (g i j) H
def rU (g:Int->V):V->Hp->VK->Prop:=λx H Q=>∃i,x=.int i/\Q (g i) H
variable {f:Value->Value->Sem Value} {r:R2}
section
variable {X:Cx} {a b c:Expr} {ta tb tc:TE} {pos:Pos}
theorem Fi (ha:PE X a ta) (hb:PE X b tb) {pins:List (Addr×Obj)} {s:Shared} {O:St} {H:Hp} {R:V->V->Hp->Prop} (I:Inv X pins O H s)
  (h:ta O H λx H1=>tb O H1 λy H2=>R x y H2) {Q:Value->Shared->Prop}
  (hf:∀v u s2 x y H2,Inv X pins O H2 s2->RelV x v->RelV y u->R x y H2->wpAny (model X.prog X.w) X.A (f v u) Q X.xe s2) :
  wpAny (model X.prog X.w) X.A (eval a X.env) (λv s₁=>wpAny (model X.prog X.w) X.A (eval b X.env) (λu s₂=>wpAny (model X.prog X.w) X.A (f v u) Q X.xe s₂) X.xe s₁) X.xe s:=by
 refine thn (ha pins s O H _ I h) λv s1 ⟨x,H1,I1,r1,q1⟩=>?_;refine thn (hb pins s1 O H1 _ I1 q1) λu s2 ⟨y,H2,I2,r2,q2⟩=>?_;exact hf v u s2 x y H2 I2 r1 r2 q2
theorem Gb {op:Operator} (ho:OpR X (binaryOp op) r) (ha:PE X a ta) (hb:PE X b tb):PE X (.BinOp a op b pos) (tOp r ta tb):=by
 intro pins s O H Q I h;exact wpAny_BinOp (Fi ha hb I h λv u s2 x y H2 I2 rx ry q=>ho pins s2 O H2 x y v u Q I2 rx ry q)
theorem F_ {op:UnaryOp} {r:V->Hp->VK->Prop} (ho:UnR X (unaryOp op) r) (ha:PE X a ta):PE X (.UnaryOp op a pos) (tUn r ta):=by
 intro pins s O H Q I h;exact UnaryOp_ (thn (ha pins s O H _ I h) λv s1 ⟨x,H1,I1,r1,q1⟩=>ho pins s1 O H1 x v Q I1 r1 q1)
theorem opI {C:Int->Int->Prop} {g:Int->Int->Int}
  (rule:∀(i j:Int) (t u:Tok) (s:Shared) (Q:Value->Shared->Prop) (E:Value->Shared->Prop),C i j->Q (.int (g i j) s.toks) { s with toks:=s.toks+1 }->wpAny (model X.prog X.w) X.A (f (.int i t) (.int j u)) Q E s) :
  OpR X f (rI C λi j=>.int (g i j)):=by
 intro pins s O H x y v u Q I rx ry h;obtain⟨i,j,rfl,rfl,hc,q⟩:=h;obtain⟨t,rfl⟩:=rx;obtain⟨t',rfl⟩:=ry;exact rule i j t t' s _ _ hc ⟨.int (g i j),H,I.tok _,⟨_,rfl⟩,q⟩
theorem G6 {g:Int->Int->Int}
  (rule:∀(i j:Int) (t u:Tok) (s:Shared) (Q:Value->Shared->Prop) (E:Value->Shared->Prop),Q (.int (g i j) s.toks) { s with toks:=s.toks+1 }->wpAny (model X.prog X.w) X.A (f (.int i t) (.int j u)) Q E s) :
  OpR X f (rI0 λi j=>.int (g i j)):=by
 intro pins s O H x y v u Q I rx ry h;obtain⟨i,j,rfl,rfl,q⟩:=h;obtain⟨t,rfl⟩:=rx;obtain⟨t',rfl⟩:=ry;exact rule i j t t' s _ _ ⟨.int (g i j),H,I.tok _,⟨_,rfl⟩,q⟩
theorem Ew {g:Int->Int->Bool}
  (rule:∀(i j:Int) (t u:Tok) (s:Shared) (Q:Value->Shared->Prop) (E:Value->Shared->Prop),Q (.bool (g i j)) s->wpAny (model X.prog X.w) X.A (f (.int i t) (.int j u)) Q E s) :
  OpR X f (rI0 λi j=>.bl (g i j)):=by
 intro pins s O H x y v u Q I rx ry h;obtain⟨i,j,rfl,rfl,q⟩:=h;obtain⟨t,rfl⟩:=rx;obtain⟨t',rfl⟩:=ry;exact rule i j t t' s _ _ ⟨.bl (g i j),H,I,rfl,q⟩
def GI (i j:Int):Prop:=0<j/\j<1073741824
def CMul (i j:Int):Prop:=(-(2 ^ 64)<i/\i<2 ^ 64)\/(-(2 ^ 64)<j/\j<2 ^ 64)
theorem CMul.ok {i j:Int} (h:CMul i j):IntMulOk i j:=by
 rcases h with⟨h1,h2⟩|⟨h1,h2⟩
 ·exact .of_left (intBits_le_64 h1 h2)
 ·exact .of_right (intBits_le_64 h1 h2)
theorem op_add:OpR X (binaryOp .Add) (rI0 λi j=>.int (i+j)):=G6 λ_ _ _ _ _ _ _ q=>add_int q
theorem Et:OpR X (binaryOp .Mult) (rI CMul λi j=>.int (i*j)):=opI λ_ _ _ _ _ _ _ hc q=>mul_int q hc.ok
theorem B2:OpR X (binaryOp .FloorDiv) (rI GI λi j=>.int (i/j)):=opI λi j _ _ _ _ _ hc q=>by
 have h1:(0:Int)<j:=hc.1;have h2:j<1073741824:=hc.2;exact floordiv_int (by omega) (by rw[Int.fdiv_eq_ediv_of_nonneg i (by omega)];exact q) (.inl (PyProof.noPylong_small (by omega)))
theorem Eu:OpR X (binaryOp .Mod) (rI (λ_ j=>0<j) λi j=>.int (i%j)):=opI λi j _ _ _ _ _ hc q=>by
 have h1:(0:Int)<j:=hc;exact mod_int' (by omega) (by rw[Int.fmod_eq_emod_of_nonneg i (by omega)];exact q)
theorem unI {f:Value->Sem Value} {g:Int->Int}
  (rule:∀(i:Int) (t:Tok) (s:Shared) (Q:Value->Shared->Prop) (E:Value->Shared->Prop),Q (.int (g i) s.toks) { s with toks:=s.toks+1 }->wpAny (model X.prog X.w) X.A (f (.int i t)) Q E s) :
  UnR X f (rU λi=>.int (g i)):=by
 intro pins s O H x v Q I rx h;obtain⟨i,rfl,q⟩:=h;obtain⟨t,rfl⟩:=rx;exact rule i t s _ _ ⟨.int (g i),H,I.tok _,⟨_,rfl⟩,q⟩
theorem Dv:UnR X (unaryOp .USub) (rU λi=>.int (-i)):=unI λ_ _ _ _ _ q=>neg_int q
end
variable {op:CmpOp} {r':R2}
section
variable {X:Cx} {a b c:Expr} {ta tb tc:TE} {pos:Pos}
theorem Dh:OpR X (compareOp .Lt) (rI0 λi j=>.bl (decide (i<j))):=Ew λ_ _ _ _ _ _ _ q=>lt_int q
theorem qs:OpR X (compareOp .LtE) (rI0 λi j=>.bl (decide (i<=j))):=Ew λ_ _ _ _ _ _ _ q=>le_int q
theorem Di:OpR X (compareOp .Gt) (rI0 λi j=>.bl (decide (j<i))):=Ew λ_ _ _ _ _ _ _ q=>gt_int q
theorem OpR.or (h:OpR X f r) (h':OpR X f r'):OpR X f (λx y H Q=>r x y H Q\/r' x y H Q):=by
 intro pins s O H x y v u Q I rx ry q;rcases q with q|q
 ·exact h pins s O H x y v u Q I rx ry q
 ·exact h' pins s O H x y v u Q I rx ry q
theorem km (b:Expr) (h:op ≠ .In:=by decide) (h2:op ≠ .NotIn:=by decide):behindInMarks op b=false:=by
 have e1:(op==CmpOp.In)=false:=by cases op<;>first|rfl|exact absurd rfl h
 have e2:(op==CmpOp.NotIn)=false:=by cases op<;>first|rfl|exact absurd rfl h2
 cases b<;>simp[behindInMarks,e1,e2]
theorem BT (ho:OpR X (compareOp op) r) (ha:PE X a ta) (hb:PE X b tb) (hm:behindInMarks op b=false):PE X (.Compare a [op] [b] pos) (tOp r ta tb):=by
 intro pins s O H Q I h;exact wpAny_Compare1 (Fi ha hb I h λv u s2 x y H2 I2 rx ry q=>ho pins s2 O H2 x y v u Q I2 rx ry q) hm
def C9 (t:TE):TT:=λO H Q=>t O H λx H'=>∃k,x=.bl k/\Q k H'
theorem wW (ho:OpR X (compareOp op) r) (ha:PE X a ta) (hb:PE X b tb) (hm:behindInMarks op b=false):PT X (.Compare a [op] [b] pos) (C9 (tOp r ta tb)):=by
 intro pins s O H Q I h;refine wpAny_isTrue_Compare1 (thn (ha pins s O H _ I h) λv s1 ⟨x,H1,I1,r1,q1⟩=>thn (hb pins s1 O H1 _ I1 q1) λu s2 ⟨y,H2,I2,r2,q2⟩ =>
  thn (ho pins s2 O H2 x y v u _ I2 r1 r2 q2) λc s3 ⟨z,H3,I3,r3,k,e,q3⟩=>?_) hm
 subst e;cases r3;exact wpAny_truthy_bool ⟨H3,I3,q3⟩
def vA (r r':R2) (ta tb tc:TE):TE:=λO H Q=>ta O H λx H1=>tb O H1 λy H2=>r x y H2 λz H3=>∃k,z=.bl k /\
 (if k=true then tc O H3 λw' H4=>r' y w' H4 Q else Q (.bl false) H3)
theorem zP {op':CmpOp} (ho:OpR X (compareOp op) r) (ho':OpR X (compareOp op') r') (ha:PE X a ta) (hb:PE X b tb) (hc:PE X c tc)
  (hm:lastMarks [op,op'] [b,c]=false:=by with_unfolding_all rfl):PE X (.Compare a [op,op'] [b,c] pos) (vA r r' ta tb tc):=by
 intro pins s O H Q I h;refine Compare_chain (thn (ha pins s O H _ I h) λv s1 ⟨x,H1,I1,r1,q1⟩=>chain_link (thn (hb pins s1 O H1 _ I1 q1) λu s2 ⟨y,H2,I2,r2,q2⟩ =>
  thn (ho pins s2 O H2 x y v u _ I2 r1 r2 q2) λd s3 ⟨z,H3,I3,r3,k,e,q3⟩=>?_)) hm
 subst e;cases r3;refine wpAny_truthy_bool ?_;cases k with
 | false=>exact ite_ff ⟨.bl false,H3,I3,rfl,q3⟩
 | true=>exact ite_tt (chain_last (thn (hc pins s3 O H3 _ I3 q3) λw' s4 ⟨z',H4,I4,r4,q4⟩=>ho' pins s4 O H4 y z' u w' Q I4 r2 r4 q4))
theorem zx {op':CmpOp} (ho:OpR X (compareOp op) r) (ho':OpR X (compareOp op') r') (ha:PE X a ta) (hb:PE X b tb) (hc:PE X c tc)
  (hm:lastMarks [op,op'] [b,c]=false:=by with_unfolding_all rfl):PT X (.Compare a [op,op'] [b,c] pos) (C9 (vA r r' ta tb tc)):=by
 intro pins s O H Q I h;refine isTrue_chain (thn (ha pins s O H _ I h) λv s1 ⟨x,H1,I1,r1,q1⟩=>test_link (thn (hb pins s1 O H1 _ I1 q1) λu s2 ⟨y,H2,I2,r2,q2⟩ =>
  thn (ho pins s2 O H2 x y v u _ I2 r1 r2 q2) λd s3 ⟨z,H3,I3,r3,k,e,q3⟩=>?_)) hm
 subst e;cases r3;refine wpAny_truthy_bool ?_;cases k with
 | false =>
  obtain⟨k',e',q'⟩:=q3;cases e';exact ite_ff ⟨H3,I3,q'⟩
 | true =>
  refine ite_tt (test_last (thn (hc pins s3 O H3 _ I3 q3) λw' s4 ⟨z',H4,I4,r4,q4⟩=>thn (ho' pins s4 O H4 y z' u w' _ I4 r2 r4 q4) λd' s5 ⟨z2,H5,I5,r5,k2,e2,q5⟩=>?_));subst e2;cases r5;exact wpAny_truthy_bool ⟨H5,I5,q5⟩
theorem ou:(sizeLine:Nat)<2 ^ 63:=by rw[sizeLine_eq];decide
theorem mo {x:V} {us:List Value} (r:Vals [x] us):∃u,us=[u]/\RelV x u:=by
 cases r with
 | cons r1 r2=>cases r2;exact⟨_,rfl,r1⟩
theorem Fy {x y:V} {us:List Value} (r:Vals [x,y] us):∃u w',us=[u,w']/\RelV x u/\RelV y w':=by
 cases r with
 | cons r1 r2 =>
  cases r2 with
  | cons r3 r4=>cases r4;exact⟨_,_,rfl,r1,r3⟩
theorem qM (hc:X.calm=true):jK X (.builtin "max") (λxs H Q=>∃i j,xs=[.int i,.int j]/\Q (.int (if j>i then j else i)) H):=by
 intro pins s O H xs us Q I r h;obtain⟨i,j,rfl,q⟩:=h;obtain⟨u,w',rfl,⟨t,rfl⟩,⟨t',rfl⟩⟩:=Fy r;refine max_two_ints (I.ok.hd hc) λh' tk k=>⟨_,H,I.kept k,?_,q⟩;by_cases hj:j>i
 ·rw[if_pos hj,if_pos hj];exact⟨_,rfl⟩
 ·rw[if_neg hj,if_neg hj];exact⟨_,rfl⟩
end
end L2
namespace L2
open PySem PySem.Spec PyProof.Rows
structure ObjM (h:Heap) (x dx C:Addr) (mA:Str->Option Value):Prop where
 obj:h.get? x=some (instObj C dx)
 ns:h.Ns1 dx mA
 ne:dx≠x
theorem yr {h:Heap} {dx:Addr} {mA:Str->Option Value} (n:h.Ns1 dx mA):∃od,h.get? dx=some od/\∀name,PySem.W.lookIn name od=some (mA name):=by
 obtain⟨o,es,ep,ho,hd,hk,_,hm⟩:=n;refine⟨o,ho,λname=>?_⟩;have e:=hm name;unfold nsFind findBy at e;rw[<- Array.find?_toList]at e;unfold PySem.W.lookIn;rw[hd];dsimp only;split
 ·rename_i y q;rw[q]at e;exact congrArg some e
 ·rename_i q;rw[q]at e;have a:es.toList.any (·.refKey)=false:=by
   rw[List.any_eq_false];intro y hy;obtain⟨z,t,hkey⟩:=hk y (Array.mem_toList_iff.mp hy);simp[DictEntry.refKey,hkey]
  have a':¬ es.toList.any (·.refKey)=true:=by rw[a];exact Bool.false_ne_true
  rw[if_neg a'];exact congrArg some e
variable {C:Addr}
theorem ObjM.look {h:Heap} {x dx:Addr} {mA:Str->Option Value} (I:ObjM h x dx C mA):∃od,PySem.W.InstAt h x (instObj C dx) C (some od)/\∀name,PySem.W.lookIn name od=some (mA name) :=
 let ⟨od,ho,hl⟩:=yr I.ns
 ⟨od,⟨I.obj,rfl,rfl,ho⟩,hl⟩
variable {Q:Value->Shared->Prop}
section
variable {prog:Program} {w:World} {A:Around} {E:Value->Shared->Prop} {s:Shared} {K:Frag} {x dx C f:Addr} {mA:Str->Option Value} {name:Str} {v:Value}
theorem Cp {expr:Bool} (X:K.In s.heap) (I:ObjM s.heap x dx C mA) (hg:plainGet K C name=true) (hh:hasDictIn K C=true)
  (ha:findIn K (.ref C) name=some none) (hv:mA name=some v) (hv':PySem.W.handedIn v=true) (h:Q v { s with toks:=s.toks+1 }) :
  wpAny (model prog w) A (getAttr (.ref x) name expr) Q E s:=by
 obtain⟨od,J,hl⟩:=I.look;exact PySem.W.get_value X J (PySem.W.plainGet_of hg).1 (PySem.W.findObj_own hh ha rfl (by rw[hl,hv])) hv' h
theorem Bz {ns:List Str} {Q:Unit->Shared->Prop} (X:K.In s.heap) (I:ObjM s.heap x dx C mA)
  (hs:findIn K (.ref C) "__setattr__"=some (some (.builtin "object.__setattr__"))) (hp:PySem.W.plainOver K C=true) (ht:PySem.W.takerIn K C name=some none) (hh:hasDictIn K C=true)
  (hw:PySem.Within mA ns) (hsz:ns.length<=sizeLine)
  (h:∀h',ObjM h' x dx C (λy=>if y=name then some v else mA y)->Heap.SameBut dx s.heap h'->Q () { s with heap:=h',toks:=s.toks+2 }) :
  wpAny (model prog w) A (setAttr (.ref x) name v) Q E s:=by
 obtain⟨od,J,hl⟩:=I.look;refine PySem.W.set_plain X J hs (PySem.W.osa_open (s:={ s with toks:=s.toks+1 }) (r:=none) X J hp ht λb=>?_);obtain⟨cd,hc,hd'⟩:=PySem.W.any_some hh;have hx:s.heap.get? x=some ⟨.ref C,some dx,.plain,#[]⟩:=I.obj;refine wpAny_bind (wpAny_pure (wpAny_bind (wpAny_bind (wpAny_loadPart hx (wpAny_bind (PySem.W.Looks.here (s:={ s with toks:=s.toks+1 }) (PySem.W.looks_clsIn X hc) ?_))))));rw[hd'];refine wpAny_pure (a:=some dx) (wpAny_bind (wpAny_pure (wpAny_bind ?_)));refine wpAny_nsSet1 (s:={ s with toks:=s.toks+1 }) I.ns λh' hn2 hs2=>?_;obtain⟨oD,esD,epD,hoD,hdD,hcD⟩:=hn2.count (PySem.Within.cons name v hw);refine wpAny_bind (wpAny_lookBehind hoD (by rw[hdD];exact pastItsLine_dict (Nat.le_trans hcD (by rw[List.length_cons];omega))) ?_);exact wpAny_pure (h _ ⟨(hs2.2 _ (Ne.symm I.ne)).trans I.obj,hn2,I.ne⟩ hs2)
theorem z9 {R:Result->Shared->Prop} {vs:List Value} {kw:List (Str×Value)} (X:K.In s.heap) (hm:PySem.W.makesIn K C=true)
  (hi:findIn K (.ref C) "__init__"=some (some (.ref f))) (hf:PySem.W.typeIn K (.ref f)=some (.type "function"))
  (h:codeAny (model prog w) (A.under (.builtin "type.__call__" ⟨.ref C::vs,kw⟩)) (.call (.ref f) ⟨.ref (s.heap.objs.size+1)::vs,kw⟩) (PySem.W.InitBack (s.heap.objs.size+1) R)
   {s with heap:=(s.heap.push emptyDict).push (instObj C s.heap.objs.size) }) :
  codeAny (model prog w) A (.call (.ref C) ⟨vs,kw⟩) R s:=by
 obtain⟨hh,g,d,t,os⟩:=s;exact PySem.W.make_core (PySem.W.makes_of X hm) (PySem.W.looks_findIn X hi) (λself=>PySem.W.bind_fn X self hf) (.inl rfl) h
end
def iD (f:Str) (v:V):List (Str×V)->List (Str×V)
 | []=>[(f,v)]
 | (g,x)::r=>if g=f then(g,v)::r else(g,x)::iD f v r
theorem mr (f g:Str) (v:V):∀fs:List (Str×V),(iD f v fs).lookup g=if g=f then some v else fs.lookup g
 | []=>by
  show List.lookup g [(f,v)]=_;by_cases h:g=f
  ·have hb:(g==f)=true:=beq_iff_eq.mpr h;simp only[List.lookup,hb,if_pos h]
  ·have hb:(g==f)=false:=beq_eq_false_iff_ne.mpr h;simp only[List.lookup,hb,if_neg h]
 | (k,x)::r=>by
  have ih:=mr f g v r;rw[show iD f v ((k,x)::r)=(if k=f then(k,v)::r else(k,x)::iD f v r)from rfl];by_cases hk:k=f
  ·rw[if_pos hk];by_cases h:g=k
   ·have hb:(g==k)=true:=beq_iff_eq.mpr h;simp only[List.lookup,hb,if_pos (h.trans hk)]
   ·have hb:(g==k)=false:=beq_eq_false_iff_ne.mpr h;simp only[List.lookup,hb,if_neg (λe:g=f=>h (e.trans hk.symm))]
  ·rw[if_neg hk];by_cases h:g=k
   ·have hb:(g==k)=true:=beq_iff_eq.mpr h;simp only[List.lookup,hb,if_neg (λe:g=f=>hk (h.symm.trans e))]
   ·have hb:(g==k)=false:=beq_eq_false_iff_ne.mpr h;simp only[List.lookup,hb];exact ih
theorem l0 (f:Str) (v:V):∀fs:List (Str×V),f∈(iD f v fs).map (·.1)/\∀g,g∈fs.map (·.1)->g∈(iD f v fs).map (·.1)
 | []=>⟨by simp[iD],λg h=>by simp at h⟩
 | (k,x)::r=>by
  obtain⟨i1,i2⟩:=l0 f v r;rw[show iD f v ((k,x)::r)=(if k=f then(k,v)::r else(k,x)::iD f v r)from rfl];by_cases hk:k=f
  ·rw[if_pos hk];subst hk;exact⟨by simp,λg h=>by simpa using h⟩
  ·rw[if_neg hk];refine⟨?_,λg h=>?_⟩
   ·rw[List.map_cons];exact List.mem_cons_of_mem _ i1
   ·rw[List.map_cons]at h ⊢;rcases List.mem_cons.mp h with e|e
    ·exact List.mem_cons.mpr (.inl e)
    ·exact List.mem_cons_of_mem _ (i2 g e)
theorem mt (f:Str) (v:V):∀fs:List (Str×V),(iD f v fs).length<=fs.length+1
 | []=>by simp[iD]
 | (k,x)::r=>by
  have ih:=mt f v r;rw[show iD f v ((k,x)::r)=(if k=f then(k,v)::r else(k,x)::iD f v r)from rfl];by_cases hk:k=f
  ·rw[if_pos hk,List.length_cons,List.length_cons];omega
  ·rw[if_neg hk,List.length_cons,List.length_cons];omega
theorem RelO.some_of {v:V} {o:Option Value} (r:RelO (some v) o):∃u,o=some u/\RelV v u:=by
 cases o with
 | none=>exact(show False from r).elim
 | some u=>exact⟨u,rfl,r⟩
variable {u:Value}
theorem yx {v:V} (r:RelV v u):PySem.W.handedIn u=true:=by
 cases v with
 | non=>cases(show u=Value.none from r);rfl
 | bl b=>cases(show u=Value.bool b from r);rfl
 | int i=>obtain⟨t,e⟩:=(show ∃t,u=Value.int i t from r);cases e;rfl
 | str x=>obtain⟨t,e⟩:=(show ∃t,u=Value.str x t from r);cases e;rfl
 | byt b=>obtain⟨t,e⟩:=(show ∃t,u=Value.bytes b t from r);cases e;rfl
 | flt b=>obtain⟨t,e⟩:=(show ∃t,u=Value.float b t from r);cases e;rfl
 | ref a=>cases(show u=Value.ref a from r);rfl
 | ty n=>cases(show u=Value.type n from r);rfl
section
variable {P:Program} {w:World} {H H':Hp} {h h':Heap} {a C dx:Addr} {fs fs':List (Str×V)}
theorem sx (hok:HOk P w H h) (e:H a=some (.ins C dx fs)):∃mA,ObjM h a dx C mA/\(∀f,RelO (fs.lookup f) (mA f))/\PySem.Within mA (fs.map (·.1))/\fs.length<=1000/\H dx=some (.own a):=by
 obtain⟨d,z,ne,ob,mA,n,r,q⟩:=(show ObjOk P w H h a (.ins C dx fs)from hok a _ e);exact⟨mA,⟨ob,n,ne⟩,r,q,z,d⟩
end
structure Cls (K:Frag) (C:Addr):Prop where
 pg:plainGet K C Str.empty=true
 hd:hasDictIn K C=true
 po:PySem.W.plainOver K C=true
 sa:findIn K (.ref C) "__setattr__"=some (some (.builtin "object.__setattr__"))
theorem Cls.get {K:Frag} (c:Cls K C) (f:Str):plainGet K C f=true:=c.pg
def NoAttr (K:Frag) (C:Addr) (f:Str):Prop:=findIn K (.ref C) f=some none
theorem NoAttr.taker {K:Frag} {f:Str} (n:NoAttr K C f):PySem.W.takerIn K C f=some none:=by
 unfold PySem.W.takerIn;rw[show findIn K (.ref C) f=some none from n];rfl
section
variable {X:Cx} {pins:List (Addr×Obj)} {O:St} {H:Hp} {s:Shared} {a C dx:Addr} {fs:List (Str×V)} {f:Str} {v:V} {A:Around} {E:Value->Shared->Prop}
theorem wg {b:Bool} (I:Inv X pins O H s) (e:H a=some (.ins C dx fs)) (c:Cls X.K C) (n:NoAttr X.K C f) (l:fs.lookup f=some v)
  (h:∀u s',Inv X pins O H s'->RelV v u->Q u s'):wpAny (model X.prog X.w) A (getAttr (.ref a) f b) Q E s:=by
 obtain⟨mA,Il,r,_,_,_⟩:=sx I.hok e;obtain⟨u,hu,ru⟩:=RelO.some_of (v:=v) (o:=mA f) (by rw[<- l];exact r f);exact Cp I.kIn Il (c.get f) c.hd n hu (yx ru) (h u _ (I.tok _) ru)
theorem vH {y:V} {Q:Unit->Shared->Prop} (I:Inv X pins O H s) (e:H a=some (.ins C dx fs)) (c:Cls X.K C) (n:NoAttr X.K C f) (hl:fs.length<1000) (ry:RelV y u)
  (h:∀s',Inv X pins O (upd H a (.ins C dx (iD f y fs))) s'->Q () s'):wpAny (model X.prog X.w) A (setAttr (.ref a) f u) Q E s:=by
 obtain⟨mA,Il,r,wi,_,ho⟩:=sx I.hok e;have hz:(fs.map (·.1)).length<=sizeLine:=by rw[List.length_map,sizeLine_eq];omega
 refine Bz I.kIn Il c.sa c.po n.taker c.hd wi hz λh' O' sb=>h _ ?_;have hd:∃o,h'.get? dx=some o:=let ⟨o,_,_,e',_⟩:=O'.ns;⟨o,e'⟩;refine I.write (x:=a) (e:=dx) (by rw[e];exact True.intro) (.inr ho) (λb q hb z=>(sb.2 b hb).trans z) hd ?_;refine⟨by rw[az Il.ne];exact ho,?_,Il.ne,O'.obj,_,O'.ns,λg=>?_,λg hg=>?_⟩
 ·have:=mt f y fs;omega
 ·show RelO ((iD f y fs).lookup g) (if g=f then some u else mA g);rw[mr];by_cases q:g=f
  ·rw[if_pos q,if_pos q];exact ry
  ·rw[if_neg q,if_neg q];exact r g
 ·by_cases q:g=f
  ·rw[q];exact(l0 f y fs).1
  ·refine(l0 f y fs).2 g (wi g λz=>hg ?_);show(if g=f then some u else mA g)=none;rw[if_neg q];exact z
theorem Inv.made (I:Inv X pins O H s):Inv X pins O (upd (upd H s.heap.objs.size (.own (s.heap.objs.size+1))) (s.heap.objs.size+1) (.ins C s.heap.objs.size []))
  {s with heap:=(s.heap.push emptyDict).push (instObj C s.heap.objs.size) }:=by
 have e1:(s.heap.push emptyDict).get? s.heap.objs.size=some emptyDict:=Heap.get?_push_size s.heap rfl;have e2:((s.heap.push emptyDict).push (instObj C s.heap.objs.size)).get? (s.heap.objs.size+1)=some (instObj C s.heap.objs.size):=by
  have:=Heap.get?_push_size (s.heap.push emptyDict) (o:=instObj C s.heap.objs.size) rfl;rwa[Heap.size_push]at this
 have e3:(s.heap.push emptyDict).Ns s.heap.objs.size (λ_=>none):=⟨emptyDict,#[],_,e1,rfl,(λe he=>absurd he (by simp)),λ_=>rfl⟩;have I1:=I.laid (a:=s.heap.objs.size) (o:=.own (s.heap.objs.size+1)) (h':=s.heap.push emptyDict) (t':=s.toks) (λb u q=>Heap.get?_push_of_some _ q) (Nat.le_refl _) ⟨_,e1⟩;refine I1.laid (a:=s.heap.objs.size+1) (o:=.ins C s.heap.objs.size []) (t':=s.toks) (λb u q=>Heap.get?_push_of_some _ q) (Nat.le_of_eq (Heap.size_push _ _)) ?_;have ne:s.heap.objs.size≠s.heap.objs.size+1:=Nat.ne_of_lt (Nat.lt_succ_self _);refine⟨by rw[az ne,aY],Nat.zero_le _,ne,e2,λ_=>none,(Heap.Ns1.of_empty e3).at λo q=>Heap.get?_push_of_some _ q,λ_=>True.intro,λy hy=>absurd rfl hy⟩
theorem CY {prog:Program} {w:World} {env:Env} {e:Expr} {f:Str} {pos:Pos} {s:Shared} (hb:attributeBase e f env (eval e env)=eval e env)
  (h:wpAny (model prog w) A (eval e env) (λo s₁=>wpAny (model prog w) A (getAttr o f true) Q E s₁) E s):wpAny (model prog w) A (eval (.Attribute e f pos) env) Q E s :=
 Attribute_any_ h (by rw[arm_eval_Attribute,hb])
end
def G0 (K:Frag) (ta:TE) (f:Str):TE:=λO H Q=>ta O H λx H1=>∃a C dx fs v,x=.ref a/\H1 a=some (.ins C dx fs)/\Cls K C/\NoAttr K C f/\fs.lookup f=some v/\Q v H1
def rF (K:Frag) (ta tv:TE) (f:Str):TS:=λD O H=>tv O H λy H1=>ta O H1 λx H2=>∃a C dx fs,x=.ref a/\H2 a=some (.ins C dx fs)/\Cls K C/\NoAttr K C f/\fs.length<1000 /\
 D.nx O (upd H2 a (.ins C dx (iD f y fs)))
section
variable {X:Cx} {o e value:Expr} {f:Str} {pos pos' tpos:Pos} {ta tv:TE}
theorem Eh (he:PE X e ta) (hb:attributeBase e f X.env (eval e X.env)=eval e X.env):PE X (.Attribute e f pos) (G0 X.K ta f):=by
 intro pins s O H Q I h;refine CY hb (thn (he pins s O H _ I h) λu s1 ⟨x,H1,I1,rx,a,C,dx,fs,v,ex,ea,c,n,l,q⟩=>?_);subst ex;obtain rfl:u=Value.ref a:=rx;exact wg I1 ea c n l λu' s2 I2 ru=>⟨v,H1,I2,ru,q⟩
theorem D5 (ha:PE X o ta) (hv:PE X value tv) (hs:swapsWith value (some (.Attribute o f pos')) pos.line X.env=pure false):PS X (.Assign [.Attribute o f pos'] value pos) (rF X.K ta tv f):=by
 intro pins s O H D I h;refine plainObj_wpAny_Assign_Attribute (thn (hv pins s O H _ I h) λu s1 ⟨y,H1,I1,ry,q⟩=>thn (ha pins s1 O H1 _ I1 q) λov s2 ⟨x,H2,I2,rx,a,C,dx,fs,ex,ea,c,n,l,q2⟩=>?_) hs;subst ex;obtain rfl:ov=Value.ref a:=rx;exact vH I2 ea c n l ry λs3 I3=>⟨O,_,I3,q2⟩
end
section
variable {X:Cx} {pins:List (Addr×Obj)} {O:St} {H:Hp} {s:Shared} {A:Around} {E:Value->Shared->Prop} {Q:Value->Shared->Prop} {c:Value} {b:Bool}
inductive mj (K:Frag) (H:Hp):V->Value->Prop where
 | non:mj K H .non (.type "NoneType")
 | bl (x:Bool):mj K H (.bl x) (.type "bool")
 | int (i:Int):mj K H (.int i) (.type "int")
 | str (x:Str):mj K H (.str x) (.type "str")
 | flt (x:UInt64):mj K H (.flt x) (.type "float")
 | lst {a:Addr} {xs:List V} (e:H a=some (.lst xs)):mj K H (.ref a) (.type "list")
 | frz {a:Addr} {o:Obj} {xs:List V} (e:H a=some (.frz o (.lst xs))):mj K H (.ref a) (.type "list")
 | tup {a:Addr} {xs:List V} (e:H a=some (.tup xs)):mj K H (.ref a) (.type "tuple")
 | dK {a:Addr} {kvs:List (Key×V)} (e:H a=some (.dK kvs)):mj K H (.ref a) (.type "dict")
 | dT {a:Addr} {kvs:List (List Key×V)} (e:H a=some (.dT kvs)):mj K H (.ref a) (.type "dict")
 | ins {a C dx:Addr} {fs:List (Str×V)} (e:H a=some (.ins C dx fs)) (cl:Cls K C) (ha:findIn K (.ref C) "__class__"=some (some (.builtin "object.__class__")))
   (hn:PySem.W.specialIn K (.builtin "object.__class__") "__get__"=some (some (.builtin "getset_descriptor.__get__"))) (htk:PySem.W.takesIn K (.builtin "object.__class__")=some true)
   (hm:PySem.W.mroIn K C (.type "object")=some true):mj K H (.ref a) (.ref C)
theorem yt {x:V} {t:Value} (I:Inv X pins O H s) (rx:RelV x u) (ty:mj X.K H x t) (e:kitOne X.K t c=some b) (h:∀tk,Q (.bool b) { s with toks:=tk }) :
  wpAny (model X.prog X.w) A (call (.builtin "isinstance") [u,c]) Q E s:=by
 cases ty with
 | non=>cases(show u=Value.none from rx);exact kia_one PySem.W.kitx_none I.kIn True.intro e (λz=>nomatch z) h
 | bl y=>cases(show u=Value.bool y from rx);exact kia_one PySem.W.kitx_bool I.kIn True.intro e (λz=>nomatch z) h
 | int i=>obtain⟨t,q⟩:=(show ∃t,u=Value.int i t from rx);cases q;exact kia_one PySem.W.kitx_int I.kIn True.intro e (λz=>nomatch z) h
 | str y=>obtain⟨t,q⟩:=(show ∃t,u=Value.str y t from rx);cases q;exact kia_one PySem.W.kitx_str I.kIn True.intro e (λz=>nomatch z) h
 | flt y=>obtain⟨t,q⟩:=(show ∃t,u=Value.float y t from rx);cases q;exact kia_one PySem.W.kitx_float I.kIn True.intro e (λz=>nomatch z) h
 | @lst a xs ea =>
  cases(show u=Value.ref a from rx);obtain⟨_,_,n,_,h1⟩:=(show ObjOk X.prog X.w H s.heap a (.lst xs)from I.hok a _ ea);exact kia_one PySem.W.kitx_list I.kIn ⟨_,h1,rfl⟩ e (λz=>nomatch z) h
 | @frz a ob xs ea =>
  cases(show u=Value.ref a from rx);obtain⟨_,_,_,n,_,h1⟩:=(show ObjOk X.prog X.w H s.heap a (.frz ob (.lst xs))from I.hok a _ ea);exact kia_one PySem.W.kitx_list I.kIn ⟨_,h1,rfl⟩ e (λz=>nomatch z) h
 | @tup a xs ea =>
  cases(show u=Value.ref a from rx);obtain⟨_,_,_,p⟩:=(show ObjOk X.prog X.w H s.heap a (.tup xs)from I.hok a _ ea);obtain⟨o,h1,h2,_⟩:=p;exact kia_one PySem.W.kitx_tuple I.kIn ⟨o,h1,h2⟩ e (λz=>nomatch z) h
 | @dK a kvs ea =>
  cases(show u=Value.ref a from rx);obtain⟨_,_,vs,_,p⟩:=(show ObjOk X.prog X.w H s.heap a (.dK kvs)from I.hok a _ ea);obtain⟨o,es,ep,h1,h2,_⟩:=p;exact kia_one PySem.W.kitx_dict I.kIn ⟨o,h1,h2.1⟩ e (λz=>nomatch z) h
 | @dT a kvs ea =>
  cases(show u=Value.ref a from rx);obtain⟨_,_,xs,_,o,es,ep,h1,h2,_⟩:=(show ObjOk X.prog X.w H s.heap a (.dT kvs)from I.hok a _ ea);exact kia_one PySem.W.kitx_dict I.kIn ⟨o,h1,h2.1⟩ e (λz=>nomatch z) h
 | @ins a C dx fs ea cl ha hn htk hm =>
  cases(show u=Value.ref a from rx);obtain⟨mA,Il,_⟩:=sx I.hok ea;obtain⟨od,J,_⟩:=Il.look;exact kia_one (PySem.W.kitx_own (cl.get _) cl.hd ha hn htk hm) I.kIn J e (λz=>nomatch z) h
end
end L2
namespace L2
open PySem PySem.Spec PyProof.Rows
structure Room (k:Nat) (A:Around):Prop where
 hd:A.handled=none
 dp:A.depth+3*k+5<recursionLimit
 un:A.units+16*k+200<cLine
variable {k:Nat} {A:Around}
theorem Room.mono {j:Nat} (r:Room k A) (h:j<=k):Room j A:=⟨r.hd,by have:=r.dp;omega,by have:=r.un;omega⟩
theorem Room.deeper (r:Room (k+1) A) (env:Env):Room k (A.deeper env) :=
 ⟨r.hd,by have:=r.dp;show A.depth+1+3*k+5<_;omega,by have:=r.un;show A.units+3+16*k+200<_;omega⟩
variable {us:List Value}
theorem v_ {C:Addr} {kw:List (Str×Value)}:(A.under (.builtin "type.__call__" ⟨.ref C::us,kw⟩)).depth=A.depth+1:=by
 first|rfl|simp[Around.under,Code.weight,Code.isCreation,Code.isGuard,Code.isCaller,Code.frames,Code.isFrame,guardIds]
theorem v9 {C:Addr} {kw:List (Str×Value)}:(A.under (.builtin "type.__call__" ⟨.ref C::us,kw⟩)).units=A.units+1:=by
 first|rfl|simp[Around.under,Code.cUnits,Code.frames,Code.isFrame]
theorem Room.make (r:Room (k+1) A) (C:Addr) (us:List Value) (kw:List (Str×Value)):Room k (A.under (.builtin "type.__call__" ⟨.ref C::us,kw⟩)) :=
 ⟨r.hd,by have:=r.dp;rw[v_];omega,by have:=r.un;rw[v9];omega⟩
theorem Room.depth (r:Room k A):A.depth<recursionLimit:=by have:=r.dp;omega
def GW:TA:=λ_ H Q=>Q [] H
def FF (ta:TE) (tr:TA):TA:=λO H Q=>ta O H λx H1=>tr O H1 λxs H2=>Q (x::xs) H2
section
variable {X:Cx} {e:Expr} {es:List Expr} {te:TE} {t:TA} {pos:Pos}
theorem dD:PA X [] GW:=λ_ _ _ _ H Q I h=>Calls.spliced_nil ⟨[],H,I,.nil,h⟩
theorem ci (ha:PE X e te) (hr:PA X es t) (hs:starEach (e::es) X.env=(false,eval e X.env)::starEach es X.env:=by rfl):PA X (e::es) (FF te t):=by
 intro pos pins s O H Q I h;rw[hs];show wpAny _ _ (spliced ((false,eval e X.env)::backTo pos (starEach es X.env))) _ _ s;refine Calls.spliced_cons (thn (ha pins s O H _ I h) λu s1 ⟨x,H1,I1,r1,q1⟩=>?_);exact thn (hr pos pins s1 O H1 _ I1 q1) λus s2 ⟨xs,H2,I2,r2,q2⟩=>⟨x::xs,H2,I2,.cons r1 r2,q2⟩
def GR (t:TA):TE:=λO H Q=>t O H λxs H1=>xs.length<=sizeLine/\∀p,H1 p=none->Q (.ref p) (upd H1 p (.tup xs))
def GX (t:TA):TE:=λO H Q=>t O H λxs H1=>xs.length<=sizeLine/\∀p,H1 p=none->Q (.ref p) (upd H1 p (.lst xs))
theorem Eb {x1} (h:PA X es t):PE X (.Tuple es x1 pos) (GR t):=by
 intro pins s O H Q I hq;refine wpAny_Tuple_spliced (thn (h pos pins s O H _ I hq) λus s1 ⟨xs,H1,I1,r,z,q⟩=>⟨by rw[<- r.length];exact z,?_⟩);have hf:H1 s1.heap.objs.size=none:=I1.hok.fresh (Nat.le_refl _);refine⟨.ref s1.heap.objs.size,upd H1 s1.heap.objs.size (.tup xs),I1.laid (t':=s1.toks) (λb u e=>Heap.get?_push_of_some _ e) (Nat.le_refl _) ?_,rfl,q _ hf⟩;exact⟨z,us,r,⟨_,Heap.get?_push_size _ rfl,rfl,_,rfl⟩⟩
theorem zM (h:PA X es t):PE X (.List es pos) (GX t):=by
 intro pins s O H Q I hq;refine wpAny_List_spliced (thn (h pos pins s O H _ I hq) λus s1 ⟨xs,H1,I1,r,z,q⟩=>⟨by rw[<- r.length];exact z,?_⟩);have hf:H1 s1.heap.objs.size=none:=I1.hok.fresh (Nat.le_refl _);refine⟨.ref s1.heap.objs.size,upd H1 s1.heap.objs.size (.lst xs),I1.laid (t':=s1.toks) (λb u e=>Heap.get?_push_of_some _ e) (Nat.le_refl _) ?_,rfl,q _ hf⟩;exact⟨z,us,0,r,Heap.get?_push_size _ rfl⟩
end
abbrev Sp:=List V->Hp->VK->XK->Prop
abbrev CXT:=List Env->Hp->Shared->XK->Value->Shared->Prop
structure Env0 (P:Program) (w:World) (K:Frag) (mg:Str->Option Value) (base:Heap) (A:Around) (outer:List Env) (s:Shared) (H:Hp):Prop where
 frames:A.frames=some outer
 mod:Mod K mg base
 bs:∀b o,base.get? b=some o->s.heap.get? b=some o/\H b=none
 bsz:base.objs.size<=s.heap.objs.size
 funs:s.heap.FunFrames base outer
 frf:∀b∈frs outer,H b=none
 hok:HOk P w H s.heap
 bare:AllBare s.gens
def CE (outer:List Env) (P:Program) (w:World) (H:Hp) (s:Shared) (Q:VK) (u:Value) (s':Shared):Prop :=
 ∃v H',s'.os=s.os/\AllBare s'.gens/\Un (frs outer) [] H H' s.heap s'.heap/\HOk P w H' s'.heap/\RelV v u/\Q v H'
def CR (CX:CXT) (outer:List Env) (P:Program) (w:World) (H:Hp) (s:Shared) (Q:VK) (E:XK) (r:Result) (s':Shared):Prop :=
 match r with
 | .ok (.ret u)=>CE outer P w H s Q u s'
 | .ok _=>False
 | .error e=>CX outer H s E e s'
structure FnOk (P:Program) (w:World) (K:Frag) (mg:Str->Option Value) (base:Heap) (CX:CXT) (k:Nat) (f:Addr) (fd:FuncData) (ps:List Str) (sp:Sp):Prop where
 len:∀vs H Q E,sp vs H Q E->vs.length=ps.length
 run:∀(A:Around) (outer:List Env) (s:Shared) (H:Hp) (args:Args) (us:List Value) (vs:List V) (Q:VK) (E:XK),Room k A->Env0 P w K mg base A outer s H->BindsTo s fd args (ps.zip us)->Vals vs us->sp vs H Q E ->
  codeAny (model P w) A (.call (.ref f) args) (CR CX outer P w H s Q E) s
variable {P:Program} {w:World} {K:Frag} {mg:Str->Option Value} {CX:CXT} {f:Addr} {ps:List Str}
theorem FnOk.imp {base:Heap} {fd:FuncData} {sp sp':Sp} (F:FnOk P w K mg base CX k f fd ps sp)
  (h:∀vs H Q E,sp' vs H Q E->sp vs H Q E):FnOk P w K mg base CX k f fd ps sp' :=
 ⟨λvs H Q E q=>F.len vs H Q E (h _ _ _ _ q),λA outer s H args us vs Q E hr he hb hv hs=>F.run A outer s H args us vs Q E hr he hb hv (h _ _ _ _ hs)⟩
variable {s:Shared} {H:Hp}
theorem Env0.make {base:Heap} {outer:List Env} (e:Env0 P w K mg base A outer s H) (C:Addr) (us:List Value) (kw:List (Str×Value)) :
  Env0 P w K mg base (A.under (.builtin "type.__call__" ⟨.ref C::us,kw⟩)) outer s H:=⟨by first|exact e.frames|(simpa[Around.under,Code.envs,Code.isFrame,pushEnvs]using e.frames),e.mod,e.bs,e.bsz,e.funs,e.frf,e.hok,e.bare⟩
section
variable {X:Cx} {pins:List (Addr×Obj)} {O:St} {H:Hp} {s s':Shared}
theorem Inv.env0 (I:Inv X pins O H s):Env0 X.prog X.w X.K X.mg X.base X.A X.stack s H :=
 ⟨I.ok.frames,I.ok.mod,I.bs,Nat.le_trans I.ok.bsz I.sz,I.stack,I.stkFree,I.hok,I.bare⟩
theorem Inv.after {Q:VK} {u:Value} (I:Inv X pins O H s) (h:CE X.stack X.prog X.w H s Q u s'):EP X pins O Q u s':=by
 obtain⟨v,H',os,bare,un,hok,r,q⟩:=h;obtain⟨hh,g,d,t,os'⟩:=s';obtain rfl:os'=s.os:=os;exact⟨v,H',I.call (h':=hh) (g':=g) (d':=d) (t':=t) (ch:=[]) un hok bare (λb z=>absurd z (by simp)),r,q⟩
end
def Binds (K:Frag) (fd:FuncData) (ps:List Str) (ds:List Value):Prop :=
 ∀(s:Shared) (us:List Value),K.In s.heap->(us++ds).length=ps.length->BindsTo s fd ⟨us,[]⟩ (ps.zip (us++ds))
theorem Binds.all {fd:FuncData} (h:∀us:List Value,us.length=ps.length->bindArgs fd ⟨us,[]⟩=pure (ps.zip us)):Binds K fd ps []:=λs us _ hl=>by
 rw[List.append_nil]at hl ⊢;exact .of_eq (h us hl)
def tG (CX:CXT) (X:Cx) (E:XK):Prop:=∀(pins:List (Addr×Obj)) (O:St) (H:Hp) (s:Shared) (e:Value) (s':Shared),Inv X pins O H s->CX X.stack H s E e s'->X.xe e s'
variable {vs:List V}
section
variable {X:Cx} {CX:CXT} {k:Nat} {f C:Addr} {fd:FuncData} {ps:List Str} {sp:Sp} {dvs:List V} {ds:List Value} {E:XK} {x m:Str} {p pos apos:Pos} {e o:Expr} {es:List Expr} {ta:TE} {t:TA}
theorem vJ {pins:List (Addr×Obj)} {O:St} {Q:VK} (F:FnOk X.prog X.w X.K X.mg X.base CX k f fd ps sp) (hr:Room k X.A) (hb:Binds X.K fd ps ds) (hd:Vals dvs ds) (hx:tG CX X E)
  (I:Inv X pins O H s) (r:Vals vs us) (h:sp (vs++dvs) H Q E):wpAny (model X.prog X.w) X.A (call (.ref f) us) (EP X pins O Q) X.xe s:=by
 have r2:Vals (vs++dvs) (us++ds):=r.append hd;have hl:(us++ds).length=ps.length:=by rw[<- r2.length];exact F.len _ _ _ _ h
 refine wpAny_call (codeAny_mono (F.run X.A X.stack s H ⟨us,[]⟩ (us++ds) (vs++dvs) Q E hr I.env0 (hb s us I.kIn hl) r2 h) λr s' hq=>?_);cases r with
 | error e=>exact hx pins O H s e s' I hq
 | ok fl =>
  cases fl with
  | ret u=>exact I.after hq
  | next=>exact False.elim hq
  | brk=>exact False.elim hq
  | cont=>exact False.elim hq
structure Mk (K:Frag) (C f:Addr):Prop where
 makes:PySem.W.makesIn K C=true
 init:findIn K (.ref C) "__init__"=some (some (.ref f))
 fn:PySem.W.isFn K (.ref f)=true
 kp:keepIn K (.ref C)=true
theorem zj {pins:List (Addr×Obj)} {O:St} {Q:VK} (M:Mk X.K C f) (F:FnOk X.prog X.w X.K X.mg X.base CX k f fd ps sp) (hr:Room (k+1) X.A) (hb:Binds X.K fd ps ds) (hd:Vals dvs ds)
  (hx:tG CX X E) (I:Inv X pins O H s) (r:Vals vs us)
  (h:∀x dx,H x=none->H dx=none->dx≠x->sp (.ref x::(vs++dvs)) (upd (upd H dx (.own x)) x (.ins C dx [])) (λv H2=>v=.non/\Q (.ref x) H2) E) :
  wpAny (model X.prog X.w) X.A (call (.ref C) us) (EP X pins O Q) X.xe s:=by
 have hq:=h (s.heap.objs.size+1) s.heap.objs.size (I.hok.fresh (Nat.le_succ _)) (I.hok.fresh (Nat.le_refl _)) (Nat.ne_of_lt (Nat.lt_succ_self _));have I2:=Inv.made (C:=C) I;have r2:Vals (V.ref (s.heap.objs.size+1)::(vs++dvs)) (Value.ref (s.heap.objs.size+1)::(us++ds)):=.cons rfl (r.append hd);have hl:(Value.ref (s.heap.objs.size+1)::us++ds).length=ps.length:=by
  have e:=r2.length;rw[F.len _ _ _ _ hq]at e;exact e.symm
 refine wpAny_call (z9 (f:=f) I.kIn M.makes M.init (beq_iff_eq.mp M.fn) (codeAny_mono (F.run _ X.stack _ _ ⟨Value.ref (s.heap.objs.size+1)::us,[]⟩ (Value.ref (s.heap.objs.size+1)::(us++ds)) _ _ E (hr.make C us [])
  (I2.env0.make C us []) (hb _ (Value.ref (s.heap.objs.size+1)::us) I2.kIn hl) r2 hq) λr s' hq'=>?_))
 cases r with
 | error e=>exact hx pins O _ _ e s' I2 hq'
 | ok fl =>
  cases fl with
  | ret u =>
   obtain⟨v,H',I3,rv,ev,q3⟩:=I2.after hq';subst ev;exact⟨rv,⟨V.ref (s.heap.objs.size+1),H',I3,rfl,q3⟩⟩
  | next=>exact False.elim hq'
  | brk=>exact False.elim hq'
  | cont=>exact False.elim hq'
end
section
variable {X:Cx} {CX:CXT} {k:Nat} {f C:Addr} {fd:FuncData} {ps ks:List Str} {sp:Sp} {E:XK} {x m:Str} {p pos apos kpos:Pos} {e o:Expr} {es:List Expr} {kws:List Keyword} {te ta:TE} {t tk:TA} {nm:Option Str}
variable {g:List Value->List Value->List Value} {gV:List V->List V->List V}
end
structure ax (N P:List Str) (sc:Scope):Prop where
 kind:sc.kind=.function
 co:sc.isCoroutine=false
 gen:sc.isGenerator=false
 nd:N.Nodup
 pre:N.take P.length=P
 par:∀x∈P,sc.names.lookup x=some .local\/sc.names.lookup x=some .cell
 nofree:∀y∈sc.names,y.2 ≠ .free
theorem qO {kindOf:Str->Option NameKind} {x:Str}:∀{binds:List (Str×Value)} {m:Str->Option Value},(∀v,(x,v)∉binds)->bindL kindOf binds m x=m x
 | [],_,_=>rfl
 | (n,v)::r,m,h=>by
  unfold bindL;rw[qO λw hw=>h w (List.mem_cons_of_mem _ hw)];split
  ·have:x≠n:=by rintro rfl;exact h v List.mem_cons_self
   simp[this]
  ·rfl
theorem qQ {kindOf:Str->Option NameKind} {x:Str}:∀{binds:List (Str×Value)} {m:Str->Option Value},(∀v,(x,v)∉binds)->bindC kindOf binds m x=m x
 | [],_,_=>rfl
 | (n,v)::r,m,h=>by
  unfold bindC;rw[qQ λw hw=>h w (List.mem_cons_of_mem _ hw)];split
  ·rfl
  ·have:x≠n:=by rintro rfl;exact h v List.mem_cons_self
   simp[this]
theorem qP {kindOf:Str->Option NameKind} {x:Str} {v:Value}:∀{P:List Str} {vs:List Value} {i:Nat} {m:Str->Option Value},P.Nodup->P[i]?=some x->vs[i]?=some v->kindOf x=some .local ->
  bindL kindOf (P.zip vs) m x=some v
 | [],_,_,_,_,h,_,_=>by simp at h
 | _::_,[],_,_,_,_,h,_=>by simp at h
 | p::P,w::vs,0,m,nd,h1,h2,hk=>by
  simp at h1 h2;subst h1;subst h2;show bindL kindOf ((p,w)::P.zip vs) m p=_;unfold bindL;rw[qO λv hv=>(List.nodup_cons.mp nd).1 (List.of_mem_zip hv).1,if_pos hk];simp
 | p::P,w::vs,i+1,m,nd,h1,h2,hk=>by
  show bindL kindOf ((p,w)::P.zip vs) m x=_;unfold bindL;exact qP (i:=i) (List.nodup_cons.mp nd).2 (by simpa using h1) (by simpa using h2) hk
theorem qR {kindOf:Str->Option NameKind} {x:Str} {v:Value}:∀{P:List Str} {vs:List Value} {i:Nat} {m:Str->Option Value},P.Nodup->P[i]?=some x->vs[i]?=some v->kindOf x≠some .local ->
  bindC kindOf (P.zip vs) m x=some v
 | [],_,_,_,_,h,_,_=>by simp at h
 | _::_,[],_,_,_,_,h,_=>by simp at h
 | p::P,w::vs,0,m,nd,h1,h2,hk=>by
  simp at h1 h2;subst h1;subst h2;show bindC kindOf ((p,w)::P.zip vs) m p=_;unfold bindC;rw[qQ λv hv=>(List.nodup_cons.mp nd).1 (List.of_mem_zip hv).1,if_neg hk];simp
 | p::P,w::vs,i+1,m,nd,h1,h2,hk=>by
  show bindC kindOf ((p,w)::P.zip vs) m x=_;unfold bindC;exact qR (i:=i) (List.nodup_cons.mp nd).2 (by simpa using h1) (by simpa using h2) hk
def start (N:List Str) (vs:List V):St:=vs.map some++List.replicate (N.length-vs.length) none
def jb (CX:CXT) (P:Program) (w:World) (K:Frag) (mg:Str->Option Value) (base:Heap) (N:List Str) (qual:Str) (scope:Scope) (f:Addr) (cd:Value) (A:Around) (outer:List Env) (s:Shared) (H:Hp) (E:XK):Cx where
 prog:=P
 w:=w
 K:=K
 mg:=mg
 base:=base
 A:=A.deeper (envOfC qual scope s.heap.objs.size f cd)
 N:=N
 s₀:=s
 H₀:=H
 env:=envOfC qual scope s.heap.objs.size f cd
 outer:=outer
 stack:=envOfC qual scope s.heap.objs.size f cd::outer
 ex:=[]
 calm:=true
 fn:=λ_=>true
 pn:=[]
 xe:=λe s'=>wpAny (model P w) (A.deeper (envOfC qual scope s.heap.objs.size f cd)) (leaving (envOfC qual scope s.heap.objs.size f cd) e) (λ_ s''=>CX outer H s E e s'') (λe' s''=>CX outer H s E e' s'') s'
theorem vg {sc:Scope} {n:Nat} {x:Str} (h:sc.names.lookup x=some .cell):∃c,(cellsFrom n sc.names []).lookup x=some c:=by
 have q:=PySem.W.cellsFrom_some sc.names n [] (.inl h);exact Option.isSome_iff_exists.mp q
theorem yu {base:Heap} {N:List Str} {qual:Str} {scope:Scope} {cd:Value} {outer:List Env} {s1:Shared} {E:XK}
  (S:ax N ps scope) (hd:A.handled=none) (e0:Env0 P w K mg base A outer s H) (hl:vs.length=ps.length) (r:Vals vs us)
  (x:InCallC s s.heap.objs.size (bindL (envOfC qual scope s.heap.objs.size f cd).kindOf (ps.zip us) λ_=>none) (cellsFrom (s.heap.objs.size+1) scope.names []) (bindC (envOfC qual scope s.heap.objs.size f cd).kindOf (ps.zip us) λ_=>none) s1) :
  Inv (jb CX P w K mg base N qual scope f cd A outer s H E) [] (start N vs) H s1:=by
 have hpl:ps.length<=N.length:=by have:=congrArg List.length S.pre;rw[List.length_take]at this;omega
 obtain⟨h1,tk,rfl,hk⟩:=x.done;have noA:∀b:Addr,b∉(jb CX P w K mg base N qual scope f cd A outer s H E).ex:=λb z=>absurd (show b∈([]:List Addr)from z) (by simp);refine⟨⟨e0.mod,S.kind,rfl,rfl,Nat.le_refl _,λy z c h1 h2=>?_,λy hy=>?_,λy c _ h=>?_,λ_=>hd,Around.frames_deeper e0.frames,.inr ⟨rfl,rfl⟩,λb z=>absurd z (noA b),e0.bs,e0.bsz,λb _ _=>noA b,λb z=>absurd z (noA b),e0.funs,e0.frf⟩,
  rfl,e0.bare,Un.kept hk,⟨_,x.toInCall.ns,λi y v h1 h2 h3=>?_⟩,λy c h=>⟨_,x.cell y c h⟩,e0.hok.fresh (Nat.le_refl _),λy c h=>?_,λp hp=>absurd (show p∈([]:List (Addr×Obj))from hp) (by simp),e0.hok.kept hk,?_⟩
 ·exact name_of_addr x.apart (PySem.mem_of_lookup h1) (PySem.mem_of_lookup h2)
 ·have hy:scope.names.lookup y=some .cell\/scope.names.lookup y=some .free:=hy;rcases hy with hy|hy
  ·exact vg hy
  ·exact absurd rfl (S.nofree _ (PySem.mem_of_lookup hy))
 ·exact Nat.le_of_lt (x.above y c (PySem.mem_of_lookup h))
 ·have hi:i<vs.length:=by
   unfold start at h2;by_cases hi:i<vs.length
   ·exact hi
   ·rw[List.getElem?_append_right (by simpa using hi)]at h2;rw[List.getElem?_replicate]at h2;split at h2<;>cases h2
  have ha:vs[i]?=some v:=by
   unfold start at h2;rw[List.getElem?_append_left (by simpa using hi),List.getElem?_map]at h2;cases e:vs[i]? with
   | none=>rw[e]at h2;cases h2
   | some a=>rw[e]at h2;cases h2;rfl
  obtain⟨u,hu,rv⟩:=r.get ha;have hp:ps[i]?=some y:=by
   rw[<- S.pre,List.getElem?_take_of_lt (by omega)];exact h1
  have ndP:ps.Nodup:=by rw[<- S.pre];exact S.nd.sublist (List.take_sublist _ _)
  refine⟨u,rv,?_⟩;rcases S.par y (List.mem_of_getElem? hp)with k|k
  ·exact .inl ⟨k,qP ndP hp hu k⟩
  ·obtain⟨c,e⟩:=vg (n:=s.heap.objs.size+1) k;refine .inr ⟨.inl k,c,e,?_⟩;have q:=x.cell y c e;rw[qR ndP hp hu (by show scope.names.lookup y≠_;rw[k];decide)]at q;exact q
 ·exact e0.hok.fresh (Nat.le_of_lt (x.above y c (PySem.mem_of_lookup h)))
 ·unfold start;show _=N.length;rw[List.length_append,List.length_map,List.length_replicate];omega
theorem Gr {base:Heap} {name qual:Str} {params:Arguments} {body:List Stmt} {scope:Scope} {dV kV doc pm cdv ct oc:Value} {an od:Option Addr}
  {osl:Array (Option Value)} {N:List Str} {sp:Sp} (lk:K.lookup f=some ⟨oc,od,.func (fnOf name qual params body scope dV kV doc pm an cdv ct),osl⟩) (hcd:codeIn K cdv qual=true) (S:ax N ps scope)
  (len:∀vs H Q E,sp vs H Q E->vs.length=ps.length)
  (hbody:∀(A:Around) (outer:List Env) (s:Shared) (H:Hp) (vs:List V) (Q:VK) (E:XK),Room k (A.deeper (envOfC qual scope s.heap.objs.size f cdv))->sp vs H Q E ->
   ∃t,PSs (jb CX P w K mg base N qual scope f cdv A outer s H E) body t/\t { nx:=λ_ H'=>Q .non H',rt:=Q } (start N vs) H) :
  FnOk P w K mg base CX (k+1) f (fnOf name qual params body scope dV kV doc pm an cdv ct) ps sp:=by
 refine⟨len,λA outer s H args us vs Q E hr e0 hb r hsp=>?_⟩;have hl:=len _ _ _ _ hsp;have KX:K.In s.heap:=e0.mod.kin.keeps λb o e=>(e0.bs b o e).1;have lim:s.heap.NoLimit:=e0.mod.nolimit.keeps λb o e=>(e0.bs b o e).1;have hkind:∀y∈ps.zip us,scope.names.lookup y.1=some .local\/(scope.names.lookup y.1=some .cell/\((cellsFrom (s.heap.objs.size+1) scope.names []).lookup y.1).isSome=true):=λ⟨n,v⟩ hy=>by
  rcases S.par n (List.of_mem_zip hy).1 with q|q
  ·exact .inl q
  ·exact .inr ⟨q,PySem.W.cellsFrom_some _ _ _ (.inl q)⟩
 refine codeAny_call_function hr.depth (KX _ _ lk) rfl S.co S.gen rfl (PySem.W.codeRec_of KX hcd) (hb _ _ _ _ ?_);refine wpAny_newFunctionEnv_cells S.kind hkind λenv he s1 x=>?_;subst he;refine⟨lim.keeps x.toInCall.keep,codeAny_func ?_⟩;obtain⟨t,ht,hq⟩:=hbody A outer s H vs Q E (hr.deeper _) hsp;have I:Inv (jb CX P w K mg base N qual scope f cdv A outer s H E) [] (start N vs) H s1:=yu S hr.hd e0 hl r x;refine wpAny_mono (ht [] s1 (start N vs) H _ I hq) (λfl s' hs=>?_) λe s' hs=>hs;have fin:∀{σ':St} {H':Hp} {v:V} {u:Value},Inv (jb CX P w K mg base N qual scope f cdv A outer s H E) [] σ' H' s'->RelV v u->Q v H'->CE outer P w H s Q u s' :=
  λ{σ' H' v u} J rv q=>⟨v,H',J.os,J.bare,J.base,J.hok,rv,q⟩
 cases fl with
 | ret u =>
  obtain⟨v,σ',H',J,rv,q⟩:=hs;exact fin J rv q
 | next =>
  obtain⟨σ',H',J,q⟩:=hs;exact fin (v:=V.non) (u:=Value.none) J rfl q
 | brk =>
  obtain⟨_,_,_,q⟩:=hs;exact False.elim q
 | cont =>
  obtain⟨_,_,_,q⟩:=hs;exact False.elim q
end L2
namespace L2
open PySem PySem.Spec PyProof.Rows
section
variable {X:Cx} {x:Str} {p pos:Pos} {e:Expr} {es:List Expr} {t:TA} {id T:String} {r:List V->Hp->VK->Prop}
def tCB (r:List V->Hp->VK->Prop) (t:TA):TE:=λO H Q=>t O H λvs H1=>r vs H1 Q
theorem gd (hc:jK X (.builtin id) r) (hg:Gl X x) (hm:X.mg x=none) (hv:bootBuiltins x=some (.builtin id)) (ha:PA X (e::es) t) (hn:x ≠ "__name__":=by decide) (hdb:(x==("__debug__":Str))=false:=by decide)
  (he:starEach (e::es) X.env=(false,eval e X.env)::starEach es X.env:=by rfl) (hpl:(backTo pos (starEach es X.env)).any (·.1)=false:=by rfl):PE X (.Call (.Name x p) (e::es) [] pos) (tCB r t):=by
 intro pins s O H Q I h;refine wpAny_Call_Name_kw (jp I hg hm hv ?_ hn hdb);exact PyProof.Rows.callWith_builtin1 (thn (ha pos pins s O H _ I h) λus s1 ⟨vs,H1,I1,r1,q1⟩=>hc pins s1 O H1 vs us Q I1 r1 q1) he hpl
theorem cA (hc:jK X (.type T) r) (hg:Gl X x) (hm:X.mg x=none) (hv:bootBuiltins x=some (.type T)) (ha:PA X (e::es) t) (hn:x ≠ "__name__":=by decide) (hdb:(x==("__debug__":Str))=false:=by decide)
  (he:starEach (e::es) X.env=(false,eval e X.env)::starEach es X.env:=by rfl) (hpl:(backTo pos (starEach es X.env)).any (·.1)=false:=by rfl):PE X (.Call (.Name x p) (e::es) [] pos) (tCB r t):=by
 intro pins s O H Q I h;refine wpAny_Call_Name_kw (jp I hg hm hv ?_ hn hdb);exact PyProof.Rows.callWith_type1 (thn (ha pos pins s O H _ I h) λus s1 ⟨vs,H1,I1,r1,q1⟩=>hc pins s1 O H1 vs us Q I1 r1 q1) he hpl
end
end L2
namespace HT
open PySem PyProof.Rows
section
open PySem.SeqAt
open PySem.AutoSeq1 (wpAny_loadPart')
open PySem.MeetsSeq PySem.MeetsSeq2 PySem.MeetsSeq3
end
section
variable {prog:Program} {w:World} {A:Around} {E:Value->Shared->Prop} {s:Shared}
end
end HT
namespace L2
open PySem PySem.Spec PyProof.Rows
theorem oA {ns:List Int}:∀{us:List Value},Vals (ns.map V.int) us->IntsAre us ns:=by
 induction ns with
 | nil=>intro us r;rw[List.map_nil]at r;cases r;exact .nil
 | cons n ns ih =>
  intro us r;rw[List.map_cons]at r;cases r with
  | cons r1 r2 =>
   obtain⟨t,e⟩:=r1;subst e;exact .cons n t (ih r2)
section
variable {X:Cx} {e:Expr} {te:TE} {lo hi:Option Expr} {tl th:TO} {pos p2:Pos}
end
end L2
namespace L2
open PySem PySem.Spec PyProof.Rows
def ixN (n:Nat) (i:Int):Option Nat:=if 0<=i then(if i<n then some i.toNat else none)else if -(n:Int)<=i then some (i+n).toNat else none
def atI {Y:Type} (xs:List Y) (i:Int):Option Y:=(ixN xs.length i).bind λj=>xs[j]?
theorem xm {n:Nat} {i:Int} {j:Nat} (h:ixN n i=some j):seqIndex? i n=some j/\j<n/\-(n:Int)<=i/\i<n:=by
 unfold ixN at h;by_cases h0:0<=i
 ·rw[if_pos h0]at h;by_cases h1:i<n
  ·rw[if_pos h1]at h;have e:i.toNat=j:=Option.some.inj h;exact⟨by rw[seqIndex_of h0 h1,e],by omega,by omega,h1⟩
  ·rw[if_neg h1]at h;cases h
 ·rw[if_neg h0]at h;by_cases h1:-(n:Int)<=i
  ·rw[if_pos h1]at h;have e:(i+n).toNat=j:=Option.some.inj h;exact⟨by rw[seqIndex_neg (by omega) h1,e],by omega,h1,by omega⟩
  ·rw[if_neg h1]at h;cases h
theorem tE {Y:Type} {xs:List Y} {i:Int} {v:Y} (h:atI xs i=some v):∃j,seqIndex? i xs.length=some j/\xs[j]?=some v/\j<xs.length/\-(xs.length:Int)<=i/\i<xs.length:=by
 unfold atI at h;cases e:ixN xs.length i with
 | none=>rw[e]at h;cases h
 | some j =>
  rw[e]at h;obtain⟨h1,h2,h3,h4⟩:=xm e;exact⟨j,h1,h,h2,h3,h4⟩
def lz (b:Expr):Prop:=∀o i,subscripted b false o i=operate [o,i] (getItem o i)
def IxR (X:Cx) (r:R2):Prop :=
 ∀(value slice:Expr) (pins:List (Addr×Obj)) (s:Shared) (O:St) (H:Hp) (x y:V) (v u:Value) (Q:VK),Inv X pins O H s->RelV x v->RelV y u->r x y H Q ->
  subscripted slice false v u=operate [v,u] (getItem v u)->wpAny (model X.prog X.w) X.A (subscriptTail value slice v u) (EP X pins O Q) X.xe s
def MtR (X:Cx) (id:String) (r:V->List V->Hp->VK->Prop):Prop :=
 ∀(pins:List (Addr×Obj)) (s:Shared) (O:St) (H:Hp) (x:V) (xs:List V) (v:Value) (us:List Value) (Q:VK),Inv X pins O H s->RelV x v->Vals xs us->r x xs H Q ->
  wpAny (model X.prog X.w) X.A (call (.builtin id) (v::us)) (EP X pins O Q) X.xe s
section
variable {X:Cx} {a b:Expr} {ta tb:TE} {pos:Pos}
theorem IxR.or {r r':R2} (h:IxR X r) (h':IxR X r'):IxR X (λx y H Q=>r x y H Q\/r' x y H Q):=by
 intro value slice pins s O H x y v u Q I rx ry q hs;rcases q with q|q
 ·exact h value slice pins s O H x y v u Q I rx ry q hs
 ·exact h' value slice pins s O H x y v u Q I rx ry q hs
theorem zN {r:R2} (hr:IxR X r) (ha:PE X a ta) (hb:PE X b tb) (hs:lz b):PE X (.Subscript a b pos) (tOp r ta tb):=by
 intro pins s O H Q I h;exact Subscript_ (Fi ha hb I h λv u s2 x y H2 I2 rx ry q=>hr a b pins s2 O H2 x y v u Q I2 rx ry q (hs _ _))
def FR (K:Frag):R2:=λx y H Q=>∃p xs i v,x=.ref p/\y=.int i/\SqL K H p xs/\atI xs i=some v/\Q v H
def FP (K:Frag):R2:=λx y H Q=>∃p xs i v,x=.ref p/\y=.int i/\SqT K H p xs/\atI xs i=some v/\Q v H
def FQ:R2:=λx y H Q=>∃z i c,x=.str z/\y=.int i/\z.length<=sizeLine/\atI z.cps.toList i=some c/\Q (.str ⟨#[c]⟩) H
theorem ix_list:IxR X (FR X.K):=by
 intro value slice pins s O H x y v u Q I rx ry h hs;obtain⟨p,xs,i,z,rfl,rfl,hq,he,q⟩:=h;cases rx;obtain⟨t,rfl⟩:=ry;obtain⟨its,r,pl,hz⟩:=I.list hq;obtain⟨j,h1,h2,h3,h4,h5⟩:=tE he;obtain⟨w,ew,rw'⟩:=r.get h2;have hl:=r.length;have hn:=ou;have fin:EP X pins O Q w s:=⟨z,H,I,rw',q⟩;by_cases h0:0<=i
 ·have hj:i.toNat=j:=by
   rw[seqIndex_of h0 h5]at h1;exact Option.some.inj h1
  exact item_listR pl.isList h0 (by omega) (by rw[hj];simpa using ew) fin hs
 ·have hj:(i+(its.toArray.size:Int)).toNat=j:=by
   rw[seqIndex_neg (by omega) h4]at h1;rw[List.size_toArray,<- hl];exact Option.some.inj h1
  exact subscriptTail_builtinR (x:=w) pl.isList.typeIs slot_list_getitem.lookup
   (wpAny_getItem_list_neg (Q:=λr s'=>r=w/\EP X pins O Q r s') pl.isList (by omega) (by rw[List.size_toArray]<;>omega) (by omega) (by rw[hj];simpa using ew) ⟨rfl,fin⟩) hs
theorem ix_tup:IxR X (FP X.K):=by
 intro value slice pins s O H x y v u Q I rx ry h hs;obtain⟨p,xs,i,z,rfl,rfl,hq,he,q⟩:=h;cases rx;obtain⟨t,rfl⟩:=ry;obtain⟨its,r,pl,hz⟩:=I.tuple hq;obtain⟨j,h1,h2,h3,h4,h5⟩:=tE he;obtain⟨w,ew,rw'⟩:=r.get h2;have hl:=r.length;have hn:=ou;have fin:EP X pins O Q w s:=⟨z,H,I,rw',q⟩;exact subscriptTail_builtinR (x:=w) pl.typeIs slot_tuple_getitem.lookup
  (getItem_tuple (j:=j) (Q:=λr s'=>r=w/\EP X pins O Q r s') pl (by omega) (by omega) (by rw[List.size_toArray,<- hl];exact h1) (by simpa using ew) ⟨rfl,fin⟩) hs
theorem EL:IxR X FQ:=by
 intro value slice pins s O H x y v u Q I rx ry h hs;obtain⟨z,i,c,rfl,rfl,hz,he,q⟩:=h;obtain⟨t,rfl⟩:=rx;obtain⟨t',rfl⟩:=ry;obtain⟨j,h1,h2,h3,h4,h5⟩:=tE he;have hl:z.cps.toList.length=z.length:=by simp[Str.length]
 rw[hl]at h1 h4 h5;have hn:=ou;exact tail_any (typeIs_str s z t) slot_str_getitem.lookup (getItem_str (c:=c) (by
  have e1:decide (i < -(2 ^ 63:Int))=false:=decide_eq_false (by omega);have e2:decide (i ≥ 2 ^ 63)=false:=decide_eq_false (by omega);rw[e1,e2,Bool.or_false]) (by rw[h1];simpa using h2) ⟨.str ⟨#[c]⟩,H,I.tok _,⟨_,rfl⟩,q⟩) hs
def rIx (K:Frag):R2:=λx y H Q=>FR K x y H Q\/FP K x y H Q\/FQ x y H Q
theorem Ah:IxR X (rIx X.K):=ix_list.or (ix_tup.or EL)
theorem v8 (its:List Value) (n j:Nat) (u:Value):Obj.mapSeq (·.setIfInBounds j u) { cls:=.type "list",data:=.seq its.toArray n }={ cls:=.type "list",data:=.seq (its.set j u).toArray n }:=by
 simp[Obj.mapSeq]
theorem Inv.lst {pins:List (Addr×Obj)} {O:St} {H:Hp} {s:Shared} {p:Addr} {xs:List V} (I:Inv X pins O H s) (h:H p=some (.lst xs)) :
  ∃(its:List Value) (n:Nat),Vals xs its/\s.heap.get? p=some { cls:=.type "list",data:=.seq its.toArray n }/\xs.length<=sizeLine:=by
 obtain⟨z,its,n,r,e⟩:=I.hok p _ h;exact⟨its,n,r,e,z⟩
theorem Inv.lstUpd {pins:List (Addr×Obj)} {O:St} {H:Hp} {s:Shared} {p:Addr} {xs ys:List V} {its its':List Value} {n n':Nat} {f:Obj->Obj} (I:Inv X pins O H s) (h:H p=some (.lst xs))
  (ho:s.heap.get? p=some { cls:=.type "list",data:=.seq its.toArray n }) (hf:f { cls:=.type "list",data:=.seq its.toArray n }={ cls:=.type "list",data:=.seq its'.toArray n' }) (r:Vals ys its') (hz:ys.length<=sizeLine) (t:Nat) :
  Inv X pins O (upd H p (.lst ys)) { s with heap:=s.heap.update p f,toks:=t }:=by
 have e:(s.heap.update p f).get? p=some { cls:=.type "list",data:=.seq its'.toArray n' }:=by
  rw[Heap.get?_update_self f ho (by rw[hf]<;>rfl),hf]
 refine I.write (x:=p) (e:=p) (by rw[h];trivial) (.inl rfl) (λb u hb q=>(Heap.get?_update_other _ _ (Ne.symm hb)).trans q) ⟨_,e⟩ ?_;exact⟨hz,its',n',r,e⟩
def FM:V->V->V->Hp->(Hp->Prop)->Prop:=λo i v H Q=>∃p xs k j,o=.ref p/\i=.int k/\H p=some (.lst xs)/\ixN xs.length k=some j/\Q (upd H p (.lst (xs.set j v)))
theorem zc:Fp X FM:=by
 intro pins s O H o i v ov iv u Q I ro ri rv h;obtain⟨p,xs,k,j,rfl,rfl,hp,hj,q⟩:=h;cases ro;obtain⟨t,rfl⟩:=ri;obtain⟨its,n,r,ho,hz⟩:=I.lst hp;obtain⟨h1,h2,h3,h4⟩:=xm hj;have hl:=r.length;have hn:=ou;have I':Inv X pins O (upd H p (.lst (xs.set j v))) { s with heap:=s.heap.update p (Obj.mapSeq (·.setIfInBounds j u)) } :=
  I.lstUpd hp ho (v8 its n j u) (r.set rv j) (by rw[List.length_set];exact hz) s.toks
 by_cases h0:0<=k
 ·have hk:k.toNat=j:=by
   rw[seqIndex_of h0 h4]at h1;exact Option.some.inj h1
  exact PySem.W.ki_setAt ho h0 (by omega) (by rw[List.size_toArray,<- hl];exact h4) (by rw[hk];exact⟨_,I',q⟩)
 ·have hk:(k+(its.toArray.size:Int)).toNat=j:=by
   rw[seqIndex_neg (by omega) h3]at h1;rw[List.size_toArray,<- hl];exact Option.some.inj h1
  exact PySem.W.ki_setBack ho (by omega) (by rw[List.size_toArray,<- hl];exact h3) (by omega) (by rw[hk];exact⟨_,I',q⟩)
theorem ly:jK X (.builtin "len") (λxs H Q=>∃p ys,xs=[.ref p]/\(SqL X.K H p ys\/SqT X.K H p ys)/\Q (.int ys.length) H):=by
 intro pins s O H xs us Q I r h;obtain⟨p,ys,rfl,hq,q⟩:=h;obtain⟨u,rfl,rx⟩:=mo r;cases rx;have hn:=ou;rcases hq with hq|hq
 ·obtain⟨its,r',pl,hz⟩:=I.list hq;have hlen:=r'.length;exact Calls.call_len_list pl.isList (by simp only[List.size_toArray]<;>omega) ⟨.int ys.length,H,I.tok _,⟨s.toks+1,by rw[List.size_toArray,hlen]⟩,q⟩
 ·obtain⟨its,r',pl,hz⟩:=I.tuple hq;have hlen:=r'.length;exact len_tuple pl (by simp only[List.size_toArray]<;>omega) ⟨.int ys.length,H,I.tok _,⟨s.toks+1,by rw[List.size_toArray,hlen]⟩,q⟩
theorem lx:jK X (.type "list") (λxs H Q=>∃p ys,xs=[.ref p]/\(SqL X.K H p ys\/SqT X.K H p ys)/\∀l,H l=none->Q (.ref l) (upd H l (.lst ys))):=by
 intro pins s O H xs us Q I r h;obtain⟨p,ys,rfl,hq,q⟩:=h;obtain⟨u,rfl,rx⟩:=mo r;cases rx;have fin:∀(its:List Value),Vals ys its->ys.length<=sizeLine->∀(h':Heap) (c':Nat),(∀b o',s.heap.get? b=some o'->h'.get? b=some o') ->
   h'.get? s.heap.objs.size=some { cls:=.type "list",dict:=none,data:=.seq its.toArray c',slots:=#[] }->EP X pins O Q (.ref s.heap.objs.size) { s with heap:=h' }:=λits r' hz h' c' kp e =>
  ⟨.ref s.heap.objs.size,_,I.laid (t':=s.toks) kp (Nat.le_refl _) (show ObjOk X.prog X.w _ h' _ (.lst ys)from⟨hz,its,c',r',e⟩),rfl,q _ (I.hok.fresh (Nat.le_refl _))⟩
 rcases hq with hq|hq
 ·obtain⟨its,r',pl,hz⟩:=I.list hq;have hlen:=r'.length;obtain⟨o,ho,hc,n,hd⟩:=pl.isList;exact call_list_seq p (.inl rfl) ho hc hd (λh' c' kp e=>fin its r' hz h' c' kp e) (by simp only[List.size_toArray]<;>omega)
 ·obtain⟨its,r',pl,hz⟩:=I.tuple hq;have hlen:=r'.length;obtain⟨o,ho,hc,n,hd⟩:=pl;exact call_list_seq p (.inr rfl) ho hc hd (λh' c' kp e=>fin its r' hz h' c' kp e) (by simp only[List.size_toArray]<;>omega)
theorem dw:jK X (.type "tuple") (λxs H Q=>∃p ys,xs=[.ref p]/\((SqL X.K H p ys/\∀l,H l=none->Q (.ref l) (upd H l (.tup ys)))\/(SqT X.K H p ys/\Q (.ref p) H))):=by
 intro pins s O H xs us Q I r h;obtain⟨p,ys,rfl,h⟩:=h;obtain⟨u,rfl,rx⟩:=mo r;cases rx;rcases h with⟨hq,q⟩|⟨hq,q⟩
 ·obtain⟨its,r',pl,hz⟩:=I.list hq;have hlen:=r'.length;refine call_tuple_list pl.isList (λh' kp=>?_) (by simp only[List.size_toArray]<;>omega);have I1:Inv X pins O H { s with heap:=h' }:=I.kept (t':=s.toks) kp;have I2:Inv X pins O (upd H h'.objs.size (.tup ys)) { s with heap:=h'.push { cls:=.type "tuple",data:=.seq its.toArray } } :=
   I1.laid (t':=s.toks) (λb o e=>Heap.get?_push_of_some _ e) (Nat.le_refl _) (show ObjOk X.prog X.w _ _ _ (.tup ys)from⟨hz,its,r',IsTup.new _ _⟩)
  exact⟨.ref h'.objs.size,_,I2,rfl,q _ (I1.hok.fresh (Nat.le_refl _))⟩
 ·obtain⟨its,r',pl,hz⟩:=I.tuple hq;exact call_tuple_same pl ⟨.ref p,H,I,rfl,q⟩
def tyV (K:Frag) (T:String) (x:V) (H:Hp):Prop:=match x with
 | .str _=>T="str"
 | .int _=>T="int"
 | .ref p=>(T="list"/\∃xs,SqL K H p xs)\/(T="tuple"/\∃o,K.lookup p=some o/\o.cls=.type "tuple"/\o.dict=none) \/
   (T="dict"/\((∃kvs,H p=some (.dK kvs))\/∃kvs,H p=some (.dT kvs)))\/(T="set"/\∃S n,H p=some (.set S n))
 | _=>False
theorem Dw {pins:List (Addr×Obj)} {O:St} {H:Hp} {s:Shared} {T:String} {x:V} {v:Value} (I:Inv X pins O H s) (r:RelV x v) (ty:tyV X.K T x H) :
  s.TypeIs v T/\∀a,v=.ref a->∃ob,s.heap.get? a=some ob/\ob.dict=none:=by
 cases x with
 | str z =>
  obtain⟨t,rfl⟩:=r;cases(show T="str" from ty);exact⟨typeIs_str s z t,λ_ e=>nomatch e⟩
 | int i =>
  obtain⟨t,rfl⟩:=r;cases(show T="int" from ty);exact⟨typeIs_int s i t,λ_ e=>nomatch e⟩
 | ref p =>
  cases r;rcases ty with⟨rfl,xs,hq⟩|⟨rfl,o,hk,hc,hd⟩|⟨rfl,hk⟩|⟨rfl,S,n,hk⟩
  ·obtain⟨its,_,pl,_⟩:=I.list hq;refine⟨pl.isList.typeIs,λa e=>?_⟩;cases e;obtain⟨o,n,e,c,hd,_⟩:=pl;exact⟨o,e,hd⟩
  ·refine⟨⟨o,I.kIn p o hk,hc⟩,λa e=>?_⟩;cases e;exact⟨o,I.kIn _ o hk,hd⟩
  ·have z:∃o,s.heap.get? p=some o/\o.ExactDict:=by
    rcases hk with⟨kvs,hk⟩|⟨kvs,hk⟩
    ·obtain⟨_,_,_,_,o,_,_,e,ex,_⟩:=I.hok p _ hk;exact⟨o,e,ex⟩
    ·obtain⟨_,_,_,_,o,_,_,e,ex,_⟩:=I.hok p _ hk;exact⟨o,e,ex⟩
   obtain⟨o,e,ex⟩:=z;refine⟨⟨o,e,ex.1⟩,λa e2=>?_⟩;cases e2;exact⟨o,e,ex.2.1⟩
  ·obtain⟨o,_,_,_,e,ex,_⟩:=I.hok p _ hk;refine⟨⟨o,e,ex.1⟩,λa e2=>?_⟩;cases e2;exact⟨o,e,ex.2.1⟩
 | _=>exact False.elim ty
def tBM (K:Frag) (T:String) (r:V->List V->Hp->VK->Prop) (to:TE) (t:TA):TE:=λO H Q=>to O H λx H1=>tyV K T x H1/\t O H1 λxs H2=>r x xs H2 Q
variable {o e:Expr} {es:List Expr} {to:TE} {t:TA} {name:Str} {apos cpos:Pos} {T id:String} {r:V->List V->Hp->VK->Prop}
theorem qr (pa:PlainAttrs T) (slot:Slot T name id) (hty:typeOf (.builtin id)=pure (.type "method_descriptor")) (hm:MtR X id r) (ho:PE X o to) (ha:PA X (e::es) t)
  (hbase:attributeBase o name X.env (eval o X.env)=eval o X.env:=by rfl)
  (hfew:((backTo cpos (starEach (e::es) X.env)).all (λx=>!x.1)&&(backToKw cpos (keywordEach [] X.env)).all (λx=>x.1.isSome)
   && decide ((e::es).length+([]:List Keyword).length+(if([]:List Keyword).isEmpty then 0 else 1)<30))=true:=by rfl)
  (hline:(apos.endLine==cpos.line)=true:=by rfl) (hs:starEach (e::es) X.env=(false,eval e X.env)::starEach es X.env:=by rfl) (hplain:(backTo cpos (starEach es X.env)).any (·.1)=false:=by rfl) :
  PE X (.Call (.Attribute o name apos) (e::es) [] cpos) (tBM X.K T r to t):=by
 intro pins s O H Q I h;refine wpAny_Call_method_late hbase hfew hline rfl (thn (ho pins s O H _ I h) λv s1 ⟨x,H1,I1,r1,ty,q1⟩=>?_);obtain⟨h1,h2⟩:=Dw I1 r1 ty;refine⟨T,id,pa,slot,hty,h1,h2,?_⟩;have hA:=ha cpos pins s1 O H1 _ I1 q1;rw[hs]at hA ⊢;refine Calls.callWith_builtin (by show(false||(backTo cpos (starEach es X.env)).any (·.1))=false;rw[hplain]<;>rfl) (Calls.evalArgs_plain ?_);exact thn hA λus s2 ⟨vs,H2,I2,r2,q2⟩=>hm pins s2 O H2 x vs v us Q I2 r1 r2 q2
end
end L2
namespace L2
open PySem PySem.Spec PyProof.Rows
def MtM (X:Cx) (id:String) (r:V->List V->Hp->VK->Prop):Prop :=
 ∀(pins:List (Addr×Obj)) (s:Shared) (O:St) (H:Hp) (x:V) (xs:List V) (v:Value) (us:List Value) (Q:VK),Inv X pins O H s->RelV x v->Vals xs us->r x xs H Q ->
  wpAny (model X.prog X.w) X.A (call (.builtin id) (v::us)) (EP X pins O Q) X.xe s
theorem Vals.one:∀{x:V} {us:List Value},Vals [x] us->∃u,us=[u]/\RelV x u
 | _,_,.cons r .nil=>⟨_,rfl,r⟩
theorem Vals.two:∀{x y:V} {us:List Value},Vals [x,y] us->∃u v,us=[u,v]/\RelV x u/\RelV y v
 | _,_,_,.cons r (.cons q .nil)=>⟨_,_,rfl,r,q⟩
theorem Vals.rep {xs:List V} {us:List Value} (h:Vals xs us):∀k:Nat,Vals (List.replicate k xs).flatten (List.replicate k us).flatten
 | 0=>.nil
 | k+1=>by
  rw[List.replicate_succ,List.replicate_succ,List.flatten_cons,List.flatten_cons];exact Vals.append h (Vals.rep h k)
theorem qD (its:List Value):∀(k:Nat) (acc:List Value),
  List.foldl (λx1 x2=>x1++x2) acc.toArray (List.replicate k its.toArray)=(acc++(List.replicate k its).flatten).toArray
 | 0,acc=>by simp
 | k+1,acc=>by
  have e:acc.toArray++its.toArray=(acc++its).toArray:=by simp
  have e2:(acc++its)++(List.replicate k its).flatten=acc++(List.replicate (k+1) its).flatten:=by
   rw[List.replicate_succ,List.flatten_cons,List.append_assoc]
  rw[<- e2,<- qD its k (acc++its),<- e,List.replicate_succ,List.foldl_cons]
section
variable {X:Cx} {pins:List (Addr×Obj)} {O:St} {H:Hp} {s:Shared} {l b:Addr} {xs ys zs:List V}
theorem Inv.lset {its its':List Value} {n:Nat} {f:Array Value->Array Value} {t':Nat} (I:Inv X pins O H s) (hH:H l=some (.lst xs))
  (e:s.heap.get? l=some { cls:=.type "list",data:=.seq its.toArray n }) (hf:f its.toArray=its'.toArray) (hv:Vals ys its') (hz:ys.length<=sizeLine) :
  Inv X pins O (upd H l (.lst ys)) { s with heap:=s.heap.update l (Obj.mapSeq f),toks:=t' }:=by
 have q:=PySem.IsL.update e f;rw[hf]at q;refine I.write (x:=l) (e:=l) (by rw[hH];exact trivial) (.inl rfl) (λb' u hb hu=>(Heap.get?_update_other s.heap (Obj.mapSeq f) (Ne.symm hb)).trans hu) ⟨_,q⟩ ?_;exact⟨hz,its',_,hv,q⟩
theorem Inv.lnew {its:List Value} {t':Nat} (I:Inv X pins O H s) (hv:Vals ys its) (hz:ys.length<=sizeLine) :
  Inv X pins O (upd H s.heap.objs.size (.lst ys)) { s with heap:=s.heap.push { cls:=.type "list",data:=.seq its.toArray },toks:=t' } :=
 I.laid (λ_ _ q=>Heap.get?_push_of_some _ q) (Nat.le_refl _) ⟨hz,its,0,hv,Heap.get?_push_size _ rfl⟩
theorem Inv.fresh (I:Inv X pins O H s):H s.heap.objs.size=none:=I.hok.fresh (Nat.le_refl _)
theorem Inv.lstM (I:Inv X pins O H s) (hH:H l=some (.lst xs)):xs.length<=sizeLine/\∃(its:List Value) (n:Nat),Vals xs its/\xs.length=its.length/\s.heap.get? l=some { cls:=.type "list",data:=.seq its.toArray n }:=by
 obtain⟨z,its,n,r,e⟩:=I.hok l _ hH;exact⟨z,its,n,r,r.length,e⟩
theorem uf {n:Nat} (h:n<=sizeLine):Builtin.List.listTooLong n=false:=by
 unfold Builtin.List.listTooLong;exact decide_eq_false (by omega)
end
section
variable {X:Cx}
def wT:V->List V->Hp->VK->Prop:=λx vs H Q=>∃l xs y,x=.ref l/\vs=[y]/\H l=some (.lst xs)/\xs.length<sizeLine/\Q .non (upd H l (.lst (xs++[y])))
theorem qt:MtM X "list.append" wT:=by
 intro pins s O H x vs v us Q I rx rv h;obtain⟨l,xs,y,rfl,rfl,hH,hz,q⟩:=h;cases rx;obtain⟨u,rfl,ru⟩:=rv.one;obtain⟨z,its,n,r,hl,e⟩:=I.lstM hH;refine call_meets F.slot_list_append ⟨_,e,rfl⟩ F.entry_list_append (F.args_list_append_2 _ _) (PySem.list_append l its.toArray n u (by rw[List.size_toArray];omega)) ⟨e,?_⟩;refine⟨.non,_,I.lset (its':=its++[u]) hH e (by simp) (r.append (.cons ru .nil)) ?_,rfl,q⟩;rw[List.length_append,List.length_singleton];omega
def wS:V->List V->Hp->VK->Prop:=λx vs H Q=>∃l b xs zs,x=.ref l/\vs=[.ref b]/\H l=some (.lst xs)/\H b=some (.lst zs)/\xs.length+zs.length<=sizeLine/\Q .non (upd H l (.lst (xs++zs)))
theorem ym:MtM X "list.extend" wS:=by
 intro pins s O H x vs v us Q I rx rv h;obtain⟨l,b,xs,zs,rfl,rfl,hH,hB,hz,q⟩:=h;cases rx;obtain⟨u,rfl,ru⟩:=rv.one;cases ru;obtain⟨z,its,n,r,hl,e⟩:=I.lstM hH;obtain⟨z2,its2,n2,r2,hl2,e2⟩:=I.lstM hB;have hsz:its.toArray.size+its2.toArray.size<=sizeLine:=by rw[List.size_toArray,List.size_toArray];omega
 have hlong:¬ (!its.toArray.isEmpty&&Builtin.List.listTooLong (its.toArray.size+its2.toArray.size))=true:=by
  rw[uf hsz,Bool.and_false];exact Bool.false_ne_true
 refine call_meets F.slot_list_extend ⟨_,e,rfl⟩ F.entry_list_extend (F.args_list_extend_2 _ _)
  (AutoSeq1.list_extend_list_list_0 l its.toArray n b its2.toArray n2 hlong (by rw[List.size_toArray];omega) (by omega)) ⟨e,e2,?_⟩
 refine⟨.non,_,I.lset (its':=its++its2) hH e (by simp) (r.append r2) ?_,rfl,q⟩;rw[List.length_append];omega
def DW:R2:=λx y H Q=>∃l b xs zs,x=.ref l/\y=.ref b/\H l=some (.lst xs)/\H b=some (.lst zs)/\xs.length+zs.length<=sizeLine/\∀p,H p=none->Q (.ref p) (upd H p (.lst (xs++zs)))
theorem Ev:OpR X (binaryOp .Add) DW:=by
 intro pins s O H x y v u Q I rx ry h;obtain⟨l,b,xs,zs,rfl,rfl,hH,hB,hz,q⟩:=h;cases rx;cases ry;obtain⟨z,its,n,r,hl,e⟩:=I.lstM hH;obtain⟨z2,its2,n2,r2,hl2,e2⟩:=I.lstM hB;refine PySem.P.add_list e e2 ?_ (by rw[List.size_toArray,List.size_toArray];omega);have ea:its.toArray++its2.toArray=(its++its2).toArray:=by simp
 rw[ea];exact⟨.ref _,_,I.lnew (t':=s.toks) (r.append r2) (by rw[List.length_append];omega),rfl,q _ I.fresh⟩
def G2:R2:=λx y H Q=>∃l k xs,x=.ref l/\y=.int k/\H l=some (.lst xs)/\-(2 ^ 63)<=k/\k<2 ^ 63/\xs.length*k.toNat<=sizeLine /\
 ∀p,H p=none->Q (.ref p) (upd H p (.lst (List.replicate k.toNat xs).flatten))
theorem Cf {Y:Type} (xs:List Y) (k:Nat):(List.replicate k xs).flatten.length=k*xs.length:=by
 induction k with
 | zero=>simp
 | succ k ih=>rw[List.replicate_succ,List.flatten_cons,List.length_append,ih,Nat.succ_mul,Nat.add_comm]
theorem Er:OpR X (binaryOp .Mult) G2:=by
 intro pins s O H x y v u Q I rx ry h;obtain⟨l,k,xs,rfl,rfl,hH,h1,h2,hz,q⟩:=h;cases rx;obtain⟨t,rfl⟩:=ry;obtain⟨z,its,n,r,hl,e⟩:=I.lstM hH;have hlen:its.toArray.size*k.toNat<=sizeLine:=by rw[List.size_toArray,<- hl];exact hz
 have hcap:¬ its.toArray.size*k.toNat>(2 ^ 63-1)/8:=by
  have:(sizeLine:Nat)<=(2 ^ 63-1)/8:=by decide
  omega
 have hfit:¬ (!Builtin.List.listFitsIndex k)=true:=by
  rw[fitsIndex_both h1 h2];exact Bool.false_ne_true
 have hlong:¬ Builtin.List.listTooLong (its.toArray.size*k.toNat)=true:=by
  rw[uf hlen];exact Bool.false_ne_true
 have hnew:List.foldl (λx1 x2=>x1++x2) #[] (List.replicate (if its.toArray.isEmpty=true then 0 else k.toNat) its.toArray)=(List.replicate k.toNat its).flatten.toArray:=by
  have f0:∀m:Nat,List.foldl (λx1 x2=>x1++x2) #[] (List.replicate m its.toArray)=(List.replicate m its).flatten.toArray:=λm=>by
   have:=qD its m [];rw[List.nil_append]at this;exact this
  rw[f0];cases its with
  | nil=>simp
  | cons a r'=>rw[if_neg (by simp)]
 refine wpAny_binaryOp_repeat_ref (T:="list") (U:="int") (by decide) ⟨_,e,rfl⟩ (λs'=>typeIs_int s' k t) noFill_list_mul F.fills_int_mul F.slot_int_rmul repeat_list F.slot_int_index.lookup
  (call_meets F.slot_int_rmul (typeIs_int s k t) F.entry_int_rmul (F.args_int_rmul_2 _ _) (int___rmul___int_list k t l its.toArray n)
   ⟨e,rfl,⟨_,e,rfl⟩,call_meets F.slot_list_mul ⟨_,e,rfl⟩ F.entry_list_mul (F.args_list_mul_2 _ _) (AutoListH.list___mul___list_int_3 l its.toArray n k t hfit hcap hlong) ⟨e,?_⟩⟩)
 rw[hnew];exact⟨.ref _,_,I.lnew (t':=s.toks) (r.rep k.toNat) (by rw[Cf,Nat.mul_comm];exact hz),rfl,q _ I.fresh⟩
end
section
variable {prog:Program} {w:World} {A:Around} {E:Value->Shared->Prop} {s:Shared}
end
section
variable {X:Cx}
end
end L2
namespace Att
open PySem PySem.W PySem.Calls PyProof.Rows
theorem mS {P:Params} {h:Heap}:∀(ns:List Int) (vs:List Value),WellAll P h vs (ns.map WData.int)->IntsAre vs ns:=by
 intro ns
 induction ns with
 | nil =>
  intro vs w;rw[List.map_nil]at w;cases w;exact .nil
 | cons n ns ih =>
  intro vs w;rw[List.map_cons]at w;cases w with
  | cons a b =>
   cases a;exact .cons _ _ (ih _ b)
theorem x8 {l:OpenLaw} {n:Nat} (hn:l.most=some n) {P:Params} {h:Heap} {args:List WData} {vals:List Value}
  (hpre:l.row.toRowW.claim.pre args=true) (hwl:WellAll P h vals args) :
  ∃a vs ns,vals=[Value.ref a]/\args=[WData.list (ns.map WData.int)]/\h.get? a=some { cls:=.type "list",data:=.seq vs.toArray }/\IntsAre vs ns/\ns.length<=n:=by
 have hsh:WShape.hasAll [] args [.list .int]=true:=(pre_splitW hpre).1;have hc:l.pre.holds [] { args:=args }=true:=(pre_splitW hpre).2;obtain⟨d,r,rfl,h1,h2⟩:=hasAllW_cons hsh;obtain rfl:=hasAllW_nil h2;obtain⟨xs,rfl,h3⟩:=hasW_list h1;obtain⟨ns,rfl⟩:=items_int h3;have hlen:ns.length<=n:=by
  unfold OpenLaw.pre at hc;have h4:(WTm.not (.lt (.lit (.int (n:Int))) (.len (.arg 0)))).holds [] { args:=[.list (ns.map .int)] }=true:=by
   have h4:=(holds_andW hc).1;rw[hn]at h4;exact h4
  have h5:=condW_of h4 (w_not (w_lt w_lit (w_len_list (w_arg rfl))));rw[List.length_map]at h5;refine Nat.le_of_not_lt λq=>?_;have q':(n:Int)<((ns.length:Nat):Int):=by omega
  first
   | (rw[decide_eq_true q']at h5;exact absurd h5 (by decide))
   | (simp at h5;omega)
 cases hwl with
 | cons w1 w2 =>
  cases w2;cases w1 with
  | list ho hall=>exact⟨_,_,ns,rfl,rfl,ho,mS ns _ hall,hlen⟩
theorem ye (l:OpenLaw) (args:List WData):l.row.toRowW.claim.post args (.bool true) args=true :=
 postW_of (r:=l.row.toRowW) (X:=(true==true))
  (show WShape.has [] (.bool true) .bool=true by first|rfl|decide|simp[WShape.has,WShape.arms,WShape.armsAll])
  (show(WTm.eq .res (.lit (.bool true))).value [] { args:=args,res:=some (.bool true),after:=args }=some (.bool (true==true))from w_eq_bool (w_res rfl) w_lit) rfl
theorem attach_call {l:OpenLaw} {n:Nat} {q:Program} {loose:List Str} {XP:(Str->Option Value)->Heap->Prop} {YP:World->Heap->Prop} {d:DefRec}
  (hn:l.most=some n) (hdf:d.params.defaults=[])
  (call:∀(w:World) (s₀ s₁:Shared) (mg mb:Str->Option Value) (fa:Addr) (o:Obj) (pm cd doc:Value) (a:Addr) (vs:List Value) (ns:List Int),
   Ground q loose [] XP w s₀ mg mb s₁.heap->YP w s₁.heap ->
   s₁.heap.get? fa=some o->o.data=.func (docDef d.name d.params d.body d.scope pm cd doc)->s₁.heap.CodeRec cd d.name->mg d.name=some (.ref fa) ->
   s₁.heap.get? a=some { cls:=.type "list",data:=.seq vs.toArray }->IntsAre vs ns->ns.length<=n->s₁.gens=#[] ->
   codeAny (model l.prog w) callerA (.call (.ref fa) ⟨[.ref a],[]⟩) (λr s'=>r=.ok (.ret (.bool true))/\OldK s₁.heap s'.heap/\s'.os=s₁.os/\AllBare s'.gens) s₁) :
  WalkO q loose XP YP l.row.toRowW d [] (λf vs=>PySem.call f vs):=by
 intro w s₀ s₁ mg mb G Im fa o pm cd doc dV kV ho hd hcd hD hmg hg args vals as hpre hlay hrd hwl hlo;obtain rfl:dV=.none:=Dflts.none hD hdf;obtain rfl:kV=.none:=Dflts.noKw hD;obtain⟨a,vs,ns,rfl,rfl,hobj,hints,hlen⟩:=x8 hn hpre hwl;refine enter_call (codeAny_mono (call w s₀ s₁ mg mb fa o pm cd doc a vs ns G Im ho (fd_plain hd) hcd hmg hobj hints hlen hg) λr s' hq=>?_);obtain⟨rfl,h2,h3,h4⟩:=hq;exact⟨.inl ⟨.bool true,.bool true,[],rfl,λ_=>rfl,.bool true,ye l _,λ_=>⟨List.Pairwise.nil,λ_ hm=>(nomatch hm)⟩⟩,h2,h3,h4⟩
section
variable {prog:Program} {w:World} {A:Around} {E:Value->Shared->Prop} {s:Shared} {K:Frag}
end
end Att
namespace L2
open PySem PySem.Spec PyProof.Rows
theorem qi:∀{vs:List Value} {ns:List Int},IntsAre vs ns->Vals (ns.map V.int) vs
 | _,_,.nil=>.nil
 | _,_,.cons n t h=>.cons ⟨t,rfl⟩ (qi h)
def Fq (H:Hp):Prop:=∀b,H b=none\/∃o xs,H b=some (.frz o (.lst xs))
theorem Af {P:Program} {w:World} {K:Frag} {mg mb:Str->Option Value} {CX:CXT} {k:Nat} {fa a:Addr} {fd:FuncData} {x:Str} {sp:Sp} {s₁:Shared} {vs:List Value} {ns:List Int}
  (KX:K.In s₁.heap) (hns:s₁.heap.Ns mainGlobals mg) (hb:s₁.heap.Ns builtinsNs mb) (hbb:∀x:Str,x ≠ "__name__"->mb x=bootBuiltins x) (hlim:s₁.heap.NoLimit) (hg:s₁.gens=#[])
  (ha:s₁.heap.get? a=some { cls:=.type "list",data:=.seq vs.toArray }) (hi:IntsAre vs ns) (hl:ns.length<=sizeLine) (hr:Room k callerA)
  (F:∀base:Heap,K.In base->base.Ns mainGlobals mg->FnOk P w K mg base CX k fa fd [x] sp) (hbind:∀(s:Shared) (u:Value),BindsTo s fd ⟨[u],[]⟩ [(x,u)])
  (hsp:∀H:Hp,Fq H->SqL K H a (ns.map V.int)->sp [.ref a] H (λv _=>v=.bl true) λ_ _ _=>False)
  (hCX:∀H e s',CX [] H s₁ (λ_ _ _=>False) e s'->False) :
  codeAny (model P w) callerA (.call (.ref fa) ⟨[.ref a],[]⟩) (λr s'=>r=.ok (.ret (.bool true))/\OldK s₁.heap s'.heap/\s'.os=s₁.os/\AllBare s'.gens) s₁:=by
 have rv:=qi hi;have lenV:=hi.length;have core:∀H:Hp,Fq H->SqL K H a (ns.map V.int)->HOk P w H s₁.heap->(∀b,H b≠none->b=a)->(H a≠none->K.lookup a=none) ->
   codeAny (model P w) callerA (.call (.ref fa) ⟨[.ref a],[]⟩) (λr s'=>r=.ok (.ret (.bool true))/\OldK s₁.heap s'.heap/\s'.os=s₁.os/\AllBare s'.gens) s₁:=by
  intro H hO hS hok hA hK;have base_of:∀{b:Addr} {o:Obj},s₁.heap.get? b=some o->H b=none->(sD s₁.heap H).get? b=some o:=λe n=>An e n;have noA:∀{b:Addr} {o:Obj} {es:Array DictEntry} {ep:Nat},s₁.heap.get? b=some o->o.data=.dict es ep->H b=none:=λ{b o es ep} e d=>by
   cases q:H b with
   | none=>rfl
   | some u =>
    have e':b=a:=hA b (by rw[q];simp);subst e';rw[ha]at e;cases e;have d':Data.seq vs.toArray _=Data.dict es ep:=d;cases d'
  have nsK:∀{b:Addr} {m:Str->Option Value},s₁.heap.Ns b m->(sD s₁.heap H).Ns b m:=λ{b m} ⟨o,es,ep,e,d,r⟩=>⟨o,es,ep,base_of e (noA e d),d,r⟩;have hKb:K.In (sD s₁.heap H):=λb o e=>base_of (KX b o e) (by
   cases q:H b with
   | none=>rfl
   | some u =>
    have e':b=a:=hA b (by rw[q];simp);subst e';rw[hK (by rw[q];simp)]at e;cases e)
  have hM:Mod K mg (sD s₁.heap H):=⟨hKb,nsK hns,⟨mb,nsK hb,hbb⟩,let ⟨mc,h1,h2⟩:=hlim;⟨mc,nsK h1,h2⟩⟩;have e0:Env0 P w K mg (sD s₁.heap H) callerA [] s₁ H:=⟨rfl,hM,λb o e=>B5 e,Nat.le_of_eq (yw _ _),trivial,λb hb=>absurd (show b∈([]:List Addr)from hb) (by simp),hok,.of_eq hg⟩;refine codeAny_mono ((F _ hKb (nsK hns)).run callerA [] s₁ H ⟨[.ref a],[]⟩ [.ref a] [.ref a] _ _ hr e0 (hbind s₁ (.ref a)) (.cons rfl .nil) (hsp H hO hS)) λr s' h=>?_;cases r with
  | error e=>exact(hCX H e s' h).elim
  | ok fl =>
   cases fl with
   | next=>exact False.elim h
   | brk=>exact False.elim h
   | cont=>exact False.elim h
   | ret u =>
    obtain⟨v,H',os,bare,un,hok',r',q⟩:=h;have q':v=.bl true:=q;subst q';obtain rfl:u=Value.bool true:=r';refine⟨rfl,OldK.of_keep λb o e=>?_,os,bare⟩;cases q:H b with
    | none=>exact un.keep b o e q (by intro z;exact absurd (show b∈([]:List Addr)from z) (by simp)) (by simp)
    | some u =>
     rcases hO b with z|⟨ob,xs,z⟩
     ·rw[q]at z;cases z
     ·have z2:=un.frzs b ob _ z;obtain⟨e1,_⟩:=hok b _ z;obtain⟨e2,_⟩:=hok' b _ z2;rw[e]at e1;cases e1;exact e2
 cases hk:K.lookup a with
 | some o =>
  have e:=KX a o hk;rw[ha]at e;cases e;refine core (λ_=>none) (λ_=>.inl rfl) (.inr ⟨_,vs.toArray,_,hk,rfl,rfl,rfl,by rw[List.size_toArray,lenV];exact hl,by simpa using rv⟩) (λb u z=>by have z':(none:Option HO)=some u:=z;cases z') (λb z=>absurd rfl z) λz=>absurd rfl z
 | none =>
  refine core (λb=>if b=a then some (.frz { cls:=.type "list",data:=.seq vs.toArray } (.lst (ns.map V.int)))else none) (λb=>?_) (.inl (.inr ⟨{ cls:=.type "list",data:=.seq vs.toArray },if_pos rfl⟩)) (λb u z=>?_) (λb z=>?_) λ_=>hk
  ·by_cases hb:b=a
   ·exact .inr ⟨_,_,if_pos hb⟩
   ·exact .inl (if_neg hb)
  ·by_cases hb:b=a
   ·have z':=(if_pos hb).symm.trans z;cases z';subst hb;exact⟨ha,by rw[List.length_map];exact hl,vs,_,rv,ha⟩
   ·have z':=(if_neg hb).symm.trans z;cases z'
  ·by_cases hb:b=a
   ·exact hb
   ·exact absurd (if_neg hb) z
end L2
namespace L2
open PySem PySem.Spec PyProof.Rows
theorem walk_of {l:PySem.W.OpenLaw} {n k:Nat} {q:Program} {loose:List Str} {XP:(Str->Option Value)->Heap->Prop} {YP:World->Heap->Prop} {d:DefRec} {K:Params->Frag} {CX:World->CXT} {sp:World->Sp} {x:Str}
  (hn:l.most=some n) (hn2:n<=sizeLine) (hdf:d.params.defaults=[]) (hr:Room k callerA)
  (hY:∀(w:World) (h:Heap),YP w h->(K w.params).In h)
  (F:∀(w:World) (mg:Str->Option Value) (fa:Addr) (h:Heap),(K w.params).In h->h.Ns mainGlobals mg->mg d.name=some (.ref fa) ->
   ∃fd:FuncData,(∀(s:Shared) (u:Value),BindsTo s fd ⟨[u],[]⟩ [(x,u)]) /\
    ∀base:Heap,(K w.params).In base->base.Ns mainGlobals mg->FnOk l.prog w (K w.params) mg base (CX w) k fa fd [x] (sp w))
  (hsp:∀(w:World) (H:Hp) (a:Addr) (ns:List Int),ns.length<=n->Fq H->SqL (K w.params) H a (ns.map V.int)->sp w [.ref a] H (λv _=>v=.bl true) λ_ _ _=>False)
  (hCX:∀(w:World) (H:Hp) (s:Shared) (e:Value) (s':Shared),CX w [] H s (λ_ _ _=>False) e s'->False) :
  PySem.W.WalkO q loose XP YP l.row.toRowW d [] (λf vs=>PySem.call f vs):=by
 refine Att.attach_call hn hdf λw s₀ s₁ mg mb fa o pm cd doc a vs ns G Im ho hd hcd hmg hobj hints hlen hg=>?_;have KX:=hY w _ Im;obtain⟨fd,hb,hF⟩:=F w mg fa _ KX G.T.g hmg;exact Af KX G.T.g G.T.b G.T.builtins G.T.nolimit hg hobj hints (Nat.le_trans hlen hn2) hr hF hb (λH hO hS=>hsp w H a ns hlen hO hS) λH e s'=>hCX w H s₁ e s'
end L2
namespace L2
open PySem PySem.Spec PyProof.Rows
def Co (s:Stmt) (j:Nat):Stmt:=match s with
 | .ClassDef _ _ _ body _ _ _ _ _ _ _=>body.getD j (.Pass ⟨0,0,0,0⟩)
 | _=>.Pass ⟨0,0,0,0⟩
def jY (s:Stmt):Arguments:=match s with
 | .FunctionDef _ a _ _ _ _ _ _ _ _=>a
 | _=>{ posonlyargs:=[],args:=[],vararg:=none,kwonlyargs:=[],kw_defaults:=[],kwarg:=none,defaults:=[] }
def cJ (s:Stmt):List Stmt:=match s with
 | .FunctionDef _ _ b _ _ _ _ _ _ _=>b
 | _=>[]
def ao (s:Stmt):Scope:=match s with
 | .FunctionDef _ _ _ _ _ _ sc _ _ _=>sc
 | _=>{ kind:=.function,names:=[],isGenerator:=false,isCoroutine:=false }
abbrev CX0:CXT:=λ_ _ _ _ _ _=>False
abbrev E0:XK:=λ_ _ _=>False
theorem w8 {X:Cx}:tG CX0 X E0:=λ_ _ _ _ _ _ _ h=>h.elim
structure Fun (K:Frag) (x qual:Str) (st:Stmt) (f:Addr) (fd:FuncData):Prop where
 ex:∃(oc:Value) (od:Option Addr) (kV doc pm:Value) (an:Option Addr) (cdv ct:Value) (osl:Array (Option Value)),
  fd=fnOf x qual (jY st) (cJ st) (ao st) .none kV doc pm an cdv ct/\K.lookup f=some ⟨oc,od,.func fd,osl⟩/\codeIn K cdv qual=true
 kp:keepIn K (.ref f)=true
variable {x qual:Str} {st:Stmt} {f:Addr}
section
variable {P:Program} {w:World} {K:Frag} {mg:Str->Option Value} {base:Heap}
theorem Fun.ok {fd:FuncData} {N ps:List Str} {k:Nat} {sp:Sp} (F:Fun K x qual st f fd) (S:ax N ps (ao st)) (len:∀vs H Q E,sp vs H Q E->vs.length=ps.length)
  (hbody:∀(cdv:Value) (A:Around) (outer:List Env) (s:Shared) (H:Hp) (vs:List V) (Q:VK) (E:XK),Room k (A.deeper (envOfC qual (ao st) s.heap.objs.size f cdv))->sp vs H Q E ->
   ∃t,PSs (jb CX0 P w K mg base N qual (ao st) f cdv A outer s H E).nox (cJ st) t/\t { nx:=λ_ H'=>Q .non H',rt:=Q } (start N vs) H):FnOk P w K mg base CX0 (k+1) f fd ps sp:=by
 obtain⟨oc,od,kV,doc,pm,an,cdv,ct,osl,rfl,lk,hcd⟩:=F.ex;refine Gr lk hcd S len λA outer s H vs Q E hr hsp=>?_;obtain⟨t,h,q⟩:=hbody cdv A outer s H vs Q E hr hsp;exact⟨t,h.nox,q⟩
theorem Fun.binds {fd:FuncData} {ps:List Str} (F:Fun K x qual st f fd)
  (h:∀(kV doc pm:Value) (an:Option Addr) (cdv ct:Value) (us:List Value),us.length=ps.length->bindArgs (fnOf x qual (jY st) (cJ st) (ao st) .none kV doc pm an cdv ct) ⟨us,[]⟩=pure (ps.zip us)):Binds K fd ps []:=by
 obtain⟨oc,od,kV,doc,pm,an,cdv,ct,osl,rfl,lk,hcd⟩:=F.ex;exact .all (h kV doc pm an cdv ct)
theorem aM {oc:Value} {od an:Option Addr} {osl:Array (Option Value)} {kV doc pm cdv ct:Value} (l:K.lookup f=some ⟨oc,od,.func (fnOf x qual (jY st) (cJ st) (ao st) .none kV doc pm an cdv ct),osl⟩)
  (c:codeIn K cdv qual=true) (k:keepIn K (.ref f)=true):Fun K x qual st f (fnOf x qual (jY st) (cJ st) (ao st) .none kV doc pm an cdv ct):=⟨⟨oc,od,kV,doc,pm,an,cdv,ct,osl,rfl,l,c⟩,k⟩
end
section
variable {X:Cx}
theorem pv (i:Nat) {pos:Pos} (hN:X.N[i]?=some x:=by rfl) (hv:Vis X.env.scope x:=by first|exact Or.inl rfl|exact Or.inr (Or.inl rfl)|exact Or.inr (Or.inr rfl)) (hd:(x==("__debug__":Str))=false:=by decide)
  (hcd:(x==("__classdict__":Str))=false:=by decide):PE X (.Name x pos) (fv i):=Ea hN hv hd hcd
end
theorem we {A B:Prop} (h:B):if false=true then A else B:=by
 rw[if_neg Bool.false_ne_true];exact h
theorem wd {A B:Prop} (h:A):if true=true then A else B:=by
 rw[if_pos rfl];exact h
def Same (H H':Hp):Prop:=∀b o,H b=some o->H' b=some o
theorem Same.refl (H:Hp):Same H H:=λ_ _ h=>h
theorem Same.trans {H H1 H2:Hp} (a:Same H H1) (b:Same H1 H2):Same H H2:=λc o h=>b c o (a c o h)
theorem Same.seq {K:Frag} {H H':Hp} {a:Addr} {xs:List V} (e:Same H H') (h:SqL K H a xs):SqL K H' a xs:=by
 rcases h with(h|⟨o,h⟩)|h
 ·exact .inl (.inl (e _ _ h))
 ·exact .inl (.inr ⟨o,e _ _ h⟩)
 ·exact .inr h
end L2
set_option compiler.extract_closed false
set_option genSizeOf true
set_option genInjectivity true
set_option autoImplicit false
namespace DL
open PySem PySem.Spec PyProof.Rows L2
abbrev St:=L2.St
def exN (c:Nat):Str:=match c with
 | 0=>"NoHall"
 | 1=>"NoArrow"
 | 2=>"NoBox"
 | 3=>"NoPicture"
 | 4=>"NoReading"
 | 5=>"NoThing"
 | _=>"NoSending"
structure Fs (h:Heap) (e:Addr) (cls:Value) (ch:List Addr):Prop where
 mem:e∈ch
 at_:∃oe vs,h.get? e=some oe/\oe.cls=cls/\oe.dict=none/\oe.data=.fields vs/\1<vs.size/\(vs[1]?=some .none\/∃T oT ts fl,vs[1]?=some (.ref T)/\T≠e/\T∈ch/\h.get? T=some oT/\oT.data=.fields ts/\ts[3]?=some fl)
 thr:∀b∈ch,∃o vs,h.get? b=some o/\o.data=.fields vs
section
variable {M:Model} {A:Around} {E:Value->Shared->Prop} {s:Shared}
end
variable {X:Cx} {O:St} {H:Hp} {s:Shared}
theorem _root_.L2.Inv.frn {pins:List (Addr×Obj)} (I:Inv X pins O H s):∀b∈X.fs,H b=none:=λb hb=>by
 obtain⟨_,o,ho,_⟩:=I.ok.funs.mem hb;exact I.base.free b o ho (I.ok.frf b hb) λz=>I.ok.exfs b z hb
def Hz (X:Cx) (pins:List (Addr×Obj)) (H:Hp) (b:Addr):Prop :=
 H b=none/\X.s₀.heap.get? b=none/\b≠X.env.locals/\b∉frs X.stack/\(∀x c,X.env.cells.lookup x=some c->c≠b)/\∀p∈X.pn++pins,p.1≠b
section
variable {X:Cx} {pins:List (Addr×Obj)} {O:St} {H:Hp} {s:Shared} {h':Heap} {ch:List Addr}
end
inductive D where
 | non|bl (b:Bool)|int (i:Int)|lst (xs:List D)|tup (xs:List D)|ob (e r t:D)|scr (ns:List Int)|exn (c:Nat)
abbrev KA:=Int×Int×List Int
inductive OK where
 | s|l (k:OK)|p (j k:OK)
 deriving DecidableEq
inductive Slt where
 | shr (d:D)|own (xs:List D)|dic (kvs:List (KA×D))|tre (k:OK) (d:D)
abbrev Rho:=List (Option Slt)
structure RB where
 rho:Rho
 ad:Nat->List Addr
instance:Coe RB Rho:=⟨RB.rho⟩
inductive R (Y:Type) where
 | val (a:Y)|exc (c:Nat)|bad
def R.bind {Y β:Type}:R Y->(Y->R β)->R β
 | .val a,f=>f a
 | .exc c,_=>.exc c
 | .bad,_=>.bad
inductive Out where
 | nx (U:Rho)|rt (d:D)|bk (U:Rho)|ct (U:Rho)
def exP (K:Frag) (c:Nat) (a:Addr):Heap->Prop:=λh=>∃ox Cc,h.get? a=some ox/\ox.cls=.ref Cc/\ox.dict=none/\(∃vs,ox.data=.fields vs)/\nsIn K mainGlobals (exN c)=some (some (.ref Cc))
def Gw (e r t:V):List (Str×V):=[("ends",e),("rests",r),("table",t)]
mutual
inductive Has (K:Frag) (C:Addr) (H:Hp):V->D->Prop where
 | non:Has K C H .non .non
 | bl (b:Bool):Has K C H (.bl b) (.bl b)
 | int (i:Int):Has K C H (.int i) (.int i)
 | lst {a:Addr} {vs:List V} {xs:List D}:H a=some (.lst vs)->HasL K C H vs xs->Has K C H (.ref a) (.lst xs)
 | tup {a:Addr} {vs:List V} {xs:List D}:H a=some (.tup vs)->HasL K C H vs xs->Has K C H (.ref a) (.tup xs)
 | scr {a:Addr} {ns:List Int}:SqL K H a (ns.map V.int)->Has K C H (.ref a) (.scr ns)
 | exn {a:Addr} {c:Nat}:H a=some (.ext (exP K c a))->Has K C H (.ref a) (.exn c)
 | ob {a dx:Addr} {ve vr vt:V} {e r t:D}:H a=some (.ins C dx (Gw ve vr vt))->Has K C H ve e->Has K C H vr r->Has K C H vt t->Has K C H (.ref a) (.ob e r t)
inductive HasL (K:Frag) (C:Addr) (H:Hp):List V->List D->Prop where
 | nil:HasL K C H [] []
 | cons {v:V} {d:D} {vs:List V} {ds:List D}:Has K C H v d->HasL K C H vs ds->HasL K C H (v::vs) (d::ds)
end
section
variable {K:Frag} {C:Addr} {H H':Hp}
mutual
theorem Has.mono (s:Same H H'):∀{v:V} {d:D},Has K C H v d->Has K C H' v d
 | _,_,.non=>.non
 | _,_,.bl b=>.bl b
 | _,_,.int i=>.int i
 | _,_,.lst q h=>.lst (s _ _ q) (HasL.mono s h)
 | _,_,.tup q h=>.tup (s _ _ q) (HasL.mono s h)
 | _,_,.scr q=>.scr (s.seq q)
 | _,_,.exn q=>.exn (s _ _ q)
 | _,_,.ob q a b c=>.ob (s _ _ q) (Has.mono s a) (Has.mono s b) (Has.mono s c)
theorem HasL.mono (s:Same H H'):∀{vs:List V} {ds:List D},HasL K C H vs ds->HasL K C H' vs ds
 | _,_,.nil=>.nil
 | _,_,.cons a b=>.cons (Has.mono s a) (HasL.mono s b)
end
theorem HasL.len:∀{vs:List V} {ds:List D},HasL K C H vs ds->vs.length=ds.length
 | _,_,.nil=>rfl
 | _,_,.cons _ b=>by simp[HasL.len b]
theorem HasL.app:∀{vs:List V} {ds:List D} {ws:List V} {es:List D},HasL K C H vs ds->HasL K C H ws es->HasL K C H (vs++ws) (ds++es)
 | _,_,_,_,.nil,h=>h
 | _,_,_,_,.cons a b,h=>.cons a (HasL.app b h)
theorem HasL.get:∀{vs:List V} {ds:List D} {i:Nat} {d:D},HasL K C H vs ds->ds[i]?=some d->∃v,vs[i]?=some v/\Has K C H v d
 | _,_,_,_,.nil,e=>by simp at e
 | _,_,0,_,.cons a _,e=>by simp at e;subst e;exact⟨_,rfl,a⟩
 | _,_,i+1,d,.cons _ b,e=>by
  obtain⟨v,h1,h2⟩:=HasL.get (i:=i) (d:=d) b (by simpa using e);exact⟨v,by simpa using h1,h2⟩
theorem HasL.get':∀{vs:List V} {ds:List D} {i:Nat} {v:V},HasL K C H vs ds->vs[i]?=some v->∃d,ds[i]?=some d/\Has K C H v d
 | _,_,_,_,.nil,e=>by simp at e
 | _,_,0,_,.cons a _,e=>by simp at e;subst e;exact⟨_,rfl,a⟩
 | _,_,i+1,v,.cons _ b,e=>by
  obtain⟨d,h1,h2⟩:=HasL.get' (i:=i) (v:=v) b (by simpa using e);exact⟨d,by simpa using h1,h2⟩
theorem HasL.drop:∀{vs:List V} {ds:List D} (n:Nat),HasL K C H vs ds->HasL K C H (vs.drop n) (ds.drop n)
 | _,_,0,h=>h
 | _,_,_+1,.nil=>.nil
 | _,_,n+1,.cons _ b=>HasL.drop n b
theorem HasL.take:∀{vs:List V} {ds:List D} (n:Nat),HasL K C H vs ds->HasL K C H (vs.take n) (ds.take n)
 | _,_,0,_=>.nil
 | _,_,_+1,.nil=>.nil
 | _,_,n+1,.cons a b=>.cons a (HasL.take n b)
theorem HasL.ints:∀ns:List Int,HasL K C H (ns.map V.int) (ns.map D.int)
 | []=>.nil
 | n::ns=>.cons (.int n) (HasL.ints ns)
end
def Ak:Slt->Bool
 | .shr _=>false
 | _=>true
def Own (U:RB) (O:St) (b:Addr):Prop:=∃i:Nat,b∈U.ad i
open Classical in
def msk (U:RB) (O:St) (H:Hp):Hp:=λb=>if Own U O b then none else H b
section
variable {U:RB} {O:St} {H H':Hp} {b:Addr} {o:HO}
theorem msk_some:msk U O H b=some o↔¬ Own U O b/\H b=some o:=by
 unfold msk;by_cases h:Own U O b
 ·rw[if_pos h];exact⟨λe=>(by cases e),λe=>absurd h e.1⟩
 ·rw[if_neg h];exact⟨λe=>⟨h,e⟩,λe=>e.2⟩
theorem msk_sub:Same (msk U O H) H:=λb o e=>(msk_some.mp e).2
theorem aZ (s:Same H H'):Same (msk U O H) (msk U O H'):=λb o e=>msk_some.mpr ⟨(msk_some.mp e).1,s _ _ (msk_some.mp e).2⟩
end
def ni (k:KA):Int:=reduceHash (Builtin.Tuple.tupleHashOf [hashInt k.1,hashInt k.2.1,reduceHash (Builtin.Tuple.tupleHashOf (k.2.2.map hashInt))])
def Hr (x:KA×Addr×Value):DictEntry:=⟨ni x.1,.ref x.2.1,x.2.2⟩
def dOk (a:Addr) (xs:List (KA×Addr×Value)) (h:Heap):Prop:=(a==sysModules)=false/\xs.length<=100001/\∃o es ep,h.get? a=some o/\o.ExactDict/\o.data=.dict es ep/\es.toList=xs.map Hr
def lw (a:Addr) (xs:List (KA×Addr×Value)):HO:=.ext (dOk a xs)
def KeyIn (M:Hp) (k:KA) (a:Addr):Prop:=∃ta,M a=some (.tup [.int k.1,.int k.2.1,.ref ta])/\M ta=some (.tup (k.2.2.map V.int))
def EntOk (K:Frag) (C:Addr) (M:Hp) (p:KA×D) (q:KA×Addr×Value):Prop:=p.1=q.1/\KeyIn M p.1 q.2.1/\∃v,RelV v q.2.2/\Has K C M v p.2
structure DicAt (K:Frag) (C:Addr) (M H:Hp) (a:Addr) (kvs:List (KA×D)):Prop where
 ex:∃xs,H a=some (lw a xs)/\(xs.map (·.1)).Nodup/\Paired (EntOk K C M) kvs xs
variable {M M':Hp}
theorem KeyIn.mono {k:KA} {a:Addr} (m:Same M M') (h:KeyIn M k a):KeyIn M' k a:=by
 obtain⟨ta,h1,h2⟩:=h;exact⟨ta,m _ _ h1,m _ _ h2⟩
variable {K:Frag} {C:Addr}
theorem EntOk.mono {p:KA×D} {q:KA×Addr×Value} (m:Same M M') (h:EntOk K C M p q):EntOk K C M' p q:=by
 obtain⟨h1,h2,v,h3,h4⟩:=h;exact⟨h1,h2.mono m,v,h3,h4.mono m⟩
variable {H':Hp}
theorem DicAt.mono {a:Addr} {kvs:List (KA×D)} (e:∀o,H a=some o->H' a=some o) (m:Same M M') (h:DicAt K C M H a kvs):DicAt K C M' H' a kvs:=by
 obtain⟨xs,h1,h2,h3⟩:=h.ex;exact⟨xs,e _ h1,h2,Paired.mapP h3 λp q z=>z.mono m⟩
mutual
inductive Tre (K:Frag) (C:Addr) (M H:Hp):OK->V->D->List Addr->Prop where
 | s {v:V} {d:D}:Has K C M v d->Tre K C M H .s v d []
 | l {k:OK} {a:Addr} {vs:List V} {xs:List D} {A:List Addr}:H a=some (.lst vs)->TreP K C M H (vs.map λ_=>k) vs xs A->a∉A->Tre K C M H (.l k) (.ref a) (.lst xs) (a::A)
 | p {j k:OK} {a:Addr} {vs:List V} {xs:List D} {A:List Addr}:H a=some (.tup vs)->TreP K C M H [j,k] vs xs A->Tre K C M H (.p j k) (.ref a) (.tup xs) A
inductive TreP (K:Frag) (C:Addr) (M H:Hp):List OK->List V->List D->List Addr->Prop where
 | nil:TreP K C M H [] [] [] []
 | cons {k:OK} {ks:List OK} {v:V} {vs:List V} {d:D} {ds:List D} {A B:List Addr}:Tre K C M H k v d A->TreP K C M H ks vs ds B->(∀a∈A,a∉B)->TreP K C M H (k::ks) (v::vs) (d::ds) (A++B)
end
structure Stay (A:List Addr) (H H':Hp):Prop where
 at_:∀a∈A,∀o,H a=some o->H' a=some o
 tup:∀a vs,H a=some (.tup vs)->H' a=some (.tup vs)
variable {A:List Addr}
section
variable {K:Frag} {C:Addr} {H H' M M':Hp}
theorem Stay.of (s:Same H H'):Stay A H H':=⟨λa _ o e=>s a o e,λa vs e=>s a _ e⟩
theorem Stay.sub {B:List Addr} (h:Stay A H H') (hs:∀a∈B,a∈A):Stay B H H':=⟨λa ha=>h.at_ a (hs a ha),h.tup⟩
mutual
theorem Tre.stay (m:Same M M'):∀{k:OK} {v:V} {d:D} {A:List Addr},Stay A H H'->Tre K C M H k v d A->Tre K C M' H' k v d A
 | _,_,_,_,_,.s h=>.s (h.mono m)
 | _,_,_,_,y,.l e h n=>.l (y.at_ _ List.mem_cons_self _ e) (TreP.stay m (y.sub λ_ ha=>List.mem_cons_of_mem _ ha) h) n
 | _,_,_,_,y,.p e h=>.p (y.tup _ _ e) (TreP.stay m y h)
theorem TreP.stay (m:Same M M'):∀{ks:List OK} {vs:List V} {ds:List D} {A:List Addr},Stay A H H'->TreP K C M H ks vs ds A->TreP K C M' H' ks vs ds A
 | _,_,_,_,_,.nil=>.nil
 | _,_,_,_,y,.cons h t n=>.cons (Tre.stay m (y.sub λ_ ha=>List.mem_append_left _ ha) h) (TreP.stay m (y.sub λ_ ha=>List.mem_append_right _ ha) t) n
end
mutual
theorem Tre.lists:∀{k:OK} {v:V} {d:D} {A:List Addr},Tre K C M H k v d A->∀a∈A,∃vs,H a=some (.lst vs)
 | _,_,_,_,.s _,a,ha=>by cases ha
 | _,_,_,_,.l e h _,a,ha=>by
  rcases List.mem_cons.mp ha with rfl|ha
  ·exact⟨_,e⟩
  ·exact TreP.lists h a ha
 | _,_,_,_,.p _ h,a,ha=>TreP.lists h a ha
theorem TreP.lists:∀{ks:List OK} {vs:List V} {ds:List D} {A:List Addr},TreP K C M H ks vs ds A->∀a∈A,∃vs,H a=some (.lst vs)
 | _,_,_,_,.nil,a,ha=>by cases ha
 | _,_,_,_,.cons h t _,a,ha=>by
  rcases List.mem_append.mp ha with ha|ha
  ·exact Tre.lists h a ha
  ·exact TreP.lists t a ha
end
theorem TreP.len:∀{ks:List OK} {vs:List V} {ds:List D} {A:List Addr},TreP K C M H ks vs ds A->vs.length=ds.length/\ks.length=ds.length
 | _,_,_,_,.nil=>⟨rfl,rfl⟩
 | _,_,_,_,.cons _ t _=>⟨congrArg Nat.succ t.len.1,congrArg Nat.succ t.len.2⟩
theorem TreP.of:∀{vs:List V} {ds:List D},HasL K C M vs ds->TreP K C M H (vs.map λ_=>.s) vs ds []
 | _,_,.nil=>.nil
 | _,_,.cons h t=>.cons (A:=[]) (B:=[]) (.s h) (TreP.of t) λ_ ha=>by cases ha
theorem TreP.flat:∀{vs us:List V} {ds:List D} {A:List Addr},TreP K C M H (us.map λ_=>OK.s) vs ds A->A=[]/\HasL K C M vs ds
 | [],us,_,_,h=>by cases us with
  | nil=>cases h;exact⟨rfl,.nil⟩
  | cons _ _=>cases h
 | v::vs,us,_,_,h=>by cases us with
  | nil=>cases h
  | cons _ us=>cases h with
   | cons h t _=>cases h with
    | s h=>obtain⟨e,t'⟩:=TreP.flat t;subst e;exact⟨rfl,.cons h t'⟩
end
def SlotOk (K:Frag) (C:Addr) (M H:Hp) (A:List Addr):Slt->Option (Option V)->Prop
 | .shr d,o=>∃v,o=some (some v)/\Has K C M v d
 | .own xs,o=>∃a vs,o=some (some (.ref a))/\a∈A/\H a=some (.lst vs)/\HasL K C M vs xs
 | .dic kvs,o=>∃a,o=some (some (.ref a))/\a∈A/\DicAt K C M H a kvs
 | .tre k d,o=>∃v B,o=some (some v)/\(∀a∈B,a∈A)/\Tre K C M H k v d B
structure Rel (K:Frag) (C:Addr) (H0:Hp) (U:RB) (O:St) (H:Hp):Prop where
 len:U.rho.length=O.length
 keep:Same H0 (msk U O H)
 at_:∀(i:Nat) sl,U.rho[i]?=some (some sl)->SlotOk K C (msk U O H) H (U.ad i) sl O[i]?
 inj:∀(i j:Nat) a,a∈U.ad i->a∈U.ad j->i=j
 kin:∀(i:Nat) a,a∈U.ad i->(∃vs,H a=some (.lst vs))\/∃xs,H a=some (lw a xs)
 bnd:∀(i:Nat) a,a∈U.ad i->i<U.rho.length
def wD (K:Frag) (C:Addr) (H0:Hp) (U:Rho) (O:St) (H:Hp):Prop:=∃β:RB,β.rho=U/\Rel K C H0 β O H
def RB.put (U:RB) (i:Nat) (sl:Slt) (A:List Addr):RB:=⟨U.rho.set i (some sl),λj=>if j=i then(if i<U.rho.length then A else[])else U.ad j⟩
variable {sl:Slt} {o:HO} {i j:Nat} {σ':St} {Y:Type} {v:V} {d:D} {vs:List V} {xs:List D}
section
variable {K:Frag} {C:Addr} {H0 H H' M M':Hp} {U:RB} {O:St}
theorem SlotOk.stay {o:Option (Option V)} (y:Stay A H H') (m:Same M M') (h:SlotOk K C M H A sl o):SlotOk K C M' H' A sl o:=by
 cases sl with
 | shr d=>obtain⟨v,e,h⟩:=h;exact⟨v,e,h.mono m⟩
 | own xs=>obtain⟨a,vs,e,n,q,h⟩:=h;exact⟨a,vs,e,n,y.at_ _ n _ q,h.mono m⟩
 | dic kvs=>obtain⟨a,e,n,h⟩:=h;exact⟨a,e,n,h.mono (λo q=>y.at_ _ n _ q) m⟩
 | tre k d=>obtain⟨v,B,e,n,h⟩:=h;exact⟨v,B,e,n,h.stay m (y.sub n)⟩
theorem SlotOk.mono {o:Option (Option V)} (s:Same H H') (m:Same M M') (h:SlotOk K C M H A sl o):SlotOk K C M' H' A sl o:=h.stay (.of s) m
theorem Rel.mono (r:Rel K C H0 U O H) (s:Same H H'):Rel K C H0 U O H' :=
 ⟨r.len,r.keep.trans (aZ s),λi sl e=>(r.at_ i sl e).mono s (aZ s),r.inj,λi a h=>(r.kin i a h).imp (λ⟨vs,e⟩=>⟨vs,s _ _ e⟩) λ⟨xs,e⟩=>⟨xs,s _ _ e⟩,r.bnd⟩
theorem Rel.rebase (r:Rel K C H0 U O H):Rel K C (msk U O H) U O H:=⟨r.len,Same.refl _,r.at_,r.inj,r.kin,r.bnd⟩
theorem Rel.base {H1:Hp} (r:Rel K C H0 U O H) (s:Same H1 H0):Rel K C H1 U O H:=⟨r.len,s.trans r.keep,r.at_,r.inj,r.kin,r.bnd⟩
theorem Rel.ownAt (r:Rel K C H0 U O H) {b:Addr} (h:Own U O b):H b≠none:=by
 obtain⟨i,h⟩:=h;rcases r.kin i b h with⟨vs,e⟩|⟨xs,e⟩<;>(rw[e];exact λz=>by cases z)
theorem Rel.new (r:Rel K C H0 U O H) {p:Addr} (h:H p=none):msk U O (upd H p o) p=some o :=
 msk_some.mpr ⟨λz=>r.ownAt z h,aY⟩
theorem aP {p:Addr} (h:H p=none):Same H (upd H p o):=λb u e=>by
 rw[az (bc e h)];exact e
theorem fZ {a:Addr} (h:a∈(U.put i sl A).ad j):(j=i/\i<U.rho.length/\a∈A)\/(j≠i/\a∈U.ad j):=by
 unfold RB.put at h;dsimp only at h;split at h
 ·rename_i e;split at h
  ·exact .inl ⟨e,‹_›,h⟩
  ·cases h
 ·exact .inr ⟨‹_›,h⟩
theorem D0 {sl':Slt} (h:(U.put i sl A).rho[j]?=some (some sl')):(j=i/\i<U.rho.length/\sl'=sl)\/(j≠i/\U.rho[j]?=some (some sl')):=by
 unfold RB.put at h;dsimp only at h;by_cases e:i=j
 ·subst e;rw[List.getElem?_set]at h;simp only[if_true]at h;split at h
  ·cases h;exact .inl ⟨rfl,‹_›,rfl⟩
  ·cases h
 ·rw[List.getElem?_set_ne e]at h;exact .inr ⟨λz=>e z.symm,h⟩
theorem DZ {a:Addr} (hi:i<U.rho.length):(U.put i sl A).ad i=A:=by
 unfold RB.put;dsimp only;rw[if_pos rfl,if_pos hi]
theorem m_ (h:j≠i):(U.put i sl A).ad j=U.ad j:=by
 unfold RB.put;dsimp only;rw[if_neg h]
theorem Rel.put (r:Rel K C H0 U O H) (hl:σ'.length=O.length) (ho:∀j:Nat,j≠i->σ'[j]?=O[j]?)
  (fr:∀a∈A,a∈U.ad i\/H a=none) (st:∀j:Nat,j≠i->Stay (U.ad j) H H') (ks:∀b o,msk U O H b=some o->H' b=some o) (kA:∀a∈A,(∃vs,H' a=some (.lst vs))\/∃xs,H' a=some (lw a xs))
  (h:i<U.rho.length->Same (msk U O H) (msk (U.put i sl A) σ' H')->SlotOk K C (msk (U.put i sl A) σ' H') H' A sl σ'[i]?):Rel K C H0 (U.put i sl A) σ' H':=by
 have own:∀b,Own (U.put i sl A) σ' b->Own U O b\/H b=none:=λb z=>by
  obtain⟨j,z⟩:=z;rcases fZ z with⟨_,_,z⟩|⟨_,z⟩
  ·rcases fr b z with z|z
   ·exact .inl ⟨i,z⟩
   ·exact .inr z
  ·exact .inl ⟨j,z⟩
 have sub:Same (msk U O H) (msk (U.put i sl A) σ' H'):=λb o e=>by
  obtain⟨h1,h2⟩:=msk_some.mp e;refine msk_some.mpr ⟨λz=>?_,ks b o e⟩;rcases own b z with z|z
  ·exact h1 z
  ·rw[z]at h2;cases h2
 have kin':∀(j:Nat) a,j≠i->a∈U.ad j->(∃vs,H' a=some (.lst vs))\/∃xs,H' a=some (lw a xs):=λj a hj ha=>(r.kin j a ha).imp (λ⟨vs,e⟩=>⟨vs,(st j hj).at_ a ha _ e⟩) λ⟨xs,e⟩=>⟨xs,(st j hj).at_ a ha _ e⟩;refine⟨?_,r.keep.trans sub,λj sl' e=>?_,λj k a x y=>?_,λj a x=>?_,λj a x=>?_⟩
 ·show(U.rho.set i (some sl)).length=_;rw[List.length_set,hl];exact r.len
 ·rcases D0 e with⟨rfl,hi,rfl⟩|⟨hj,e⟩
  ·rw[DZ (a:=0) hi];exact h hi sub
  ·rw[m_ hj,ho j hj];exact(r.at_ j sl' e).stay (st j hj) sub
 ·rcases fZ x with⟨rfl,_,x⟩|⟨hj,x⟩
  ·rcases fZ y with⟨rfl,_,_⟩|⟨hk,y⟩
   ·rfl
   ·rcases fr a x with x|x
    ·exact r.inj _ _ a x y
    ·exact absurd x (r.ownAt ⟨k,y⟩)
  ·have x':=x;rcases fZ y with⟨rfl,_,y⟩|⟨hk,y⟩
   ·rcases fr a y with y|y
    ·exact r.inj _ _ a x' y
    ·exact absurd y (r.ownAt ⟨j,x'⟩)
   ·exact r.inj _ _ a x' y
 ·rcases fZ x with⟨_,_,x⟩|⟨hj,x⟩
  ·exact kA a x
  ·exact kin' j a hj x
 ·show j<(U.rho.set i (some sl)).length;rw[List.length_set];rcases fZ x with⟨rfl,hi,_⟩|⟨_,x⟩
  ·exact hi
  ·exact r.bnd j a x
theorem Rel.e (r:Rel K C H0 U O H):wD K C H0 U.rho O H:=⟨U,rfl,r⟩
theorem m7 {l:List Y} {a:Y}:(l.set i a).length=l.length:=List.length_set
theorem rq {O:St} (h:i<O.length):(O.set i (some v))[i]?=some (some v):=by
 rw[List.getElem?_set];simp[h]
theorem Rel.setShr (r:Rel K C H0 U O H) (h:Has K C (msk U O H) v d):Rel K C H0 (U.put i (.shr d) []) (O.set i (some v)) H :=
 r.put m7 (λj hj=>List.getElem?_set_ne λz=>hj z.symm) (λa ha=>by cases ha) (λj _=>.of (Same.refl _)) (λb o e=>(msk_some.mp e).2) (λa ha=>by cases ha) λhi s=>⟨v,rq (by rw[<- r.len];exact hi),h.mono s⟩
theorem Rel.setOwn (r:Rel K C H0 U O H) {a:Addr} (hn:H a=none) (h:HasL K C (msk U O H) vs xs):Rel K C H0 (U.put i (.own xs) [a]) (O.set i (some (.ref a))) (upd H a (.lst vs)) :=
 r.put m7 (λj hj=>List.getElem?_set_ne λz=>hj z.symm) (λb hb=>.inr (by cases List.mem_singleton.mp hb;exact hn)) (λj _=>.of (aP hn)) (λb o e=>aP hn b o (msk_some.mp e).2)
  (λb hb=>.inl (by cases List.mem_singleton.mp hb;exact⟨vs,aY⟩)) λhi s=>⟨a,vs,rq (by rw[<- r.len];exact hi),List.mem_singleton.mpr rfl,aY,h.mono s⟩
theorem Rel.apart (r:Rel K C H0 U O H) {a:Addr} (ha:a∈U.ad i) (hj:j≠i):Stay (U.ad j) H (upd H a o):=by
 refine⟨λb hb u e=>?_,λb vs e=>?_⟩
 ·rw[az λ(z:b=a)=>hj (r.inj j i b hb (z▸ha))];exact e
 ·have:b≠a:=λz=>by
   subst z;rcases r.kin i b ha with⟨us,e'⟩|⟨xs,e'⟩<;>(rw[e]at e';cases e')
  rw[az this];exact e
theorem Rel.shown (r:Rel K C H0 U O H) {a:Addr} (ha:a∈U.ad i):∀b u,msk U O H b=some u->upd H a o b=some u:=λb u e=>by
 obtain⟨h1,h2⟩:=msk_some.mp e;rw[az λ(z:b=a)=>h1 ⟨i,z▸ha⟩];exact h2
theorem Rel.write (r:Rel K C H0 U O H) {a:Addr} {ys:List D} {ws:List V} (e:U.rho[i]?=some (some (.own xs))) (q:O[i]?=some (some (.ref a))) (h:HasL K C (msk U O H) ws ys) :
  Rel K C H0 (U.put i (.own ys) [a]) O (upd H a (.lst ws)):=by
 obtain⟨b,vs,e1,ha,_,_⟩:=r.at_ i _ e;rw[q]at e1;cases e1;exact r.put rfl (λj _=>rfl) (λb hb=>.inl (by cases List.mem_singleton.mp hb;exact ha)) (λj hj=>r.apart ha hj) (r.shown ha) (λb hb=>.inl (by cases List.mem_singleton.mp hb;exact⟨ws,aY⟩))
  λhi s=>⟨a,ws,q,List.mem_singleton.mpr rfl,aY,h.mono s⟩
theorem Rel.freeze (r:Rel K C H0 U O H) (e:U.rho[i]?=some (some (.own xs))):Rel K C H0 (U.put i (.shr (.lst xs)) []) O H:=by
 obtain⟨a,vs,q,ha,h1,h2⟩:=r.at_ i _ e;refine r.put rfl (λj _=>rfl) (λb hb=>by cases hb) (λj _=>.of (Same.refl _)) (λb o z=>(msk_some.mp z).2) (λb hb=>by cases hb) λhi s=>⟨_,q,.lst (msk_some.mpr ⟨λz=>?_,h1⟩) (h2.mono s)⟩;obtain⟨j,z⟩:=z;rcases fZ z with⟨_,_,z⟩|⟨hj,z⟩
 ·cases z
 ·exact hj (r.inj j i a z ha)
mutual
theorem Tre.share (s:Same M M'):∀{k:OK} {v:V} {d:D} {A:List Addr},Tre K C M H k v d A->(∀a∈A,∀o,H a=some o->M' a=some o)->(∀a vs,H a=some (.tup vs)->M' a=some (.tup vs))->Has K C M' v d
 | _,_,_,_,.s h,_,_=>h.mono s
 | _,_,_,_,.l e h _,f,t=>.lst (f _ List.mem_cons_self _ e) (TreP.share s h (λa ha=>f a (List.mem_cons_of_mem _ ha)) t)
 | _,_,_,_,.p e h,f,t=>.tup (t _ _ e) (TreP.share s h f t)
theorem TreP.share (s:Same M M'):∀{ks:List OK} {vs:List V} {ds:List D} {A:List Addr},TreP K C M H ks vs ds A->(∀a∈A,∀o,H a=some o->M' a=some o)->(∀a vs,H a=some (.tup vs)->M' a=some (.tup vs))->HasL K C M' vs ds
 | _,_,_,_,.nil,_,_=>.nil
 | _,_,_,_,.cons h t _,f,u=>.cons (Tre.share s h (λa ha=>f a (List.mem_append_left _ ha)) u) (TreP.share s t (λa ha=>f a (List.mem_append_right _ ha)) u)
end
theorem Rel.tups (r:Rel K C H0 U O H) {a:Addr} (e:H a=some (.tup vs)):¬ Own U O a:=λ⟨i,h⟩=>by
 rcases r.kin i a h with⟨us,e'⟩|⟨xs,e'⟩<;>(rw[e]at e';cases e')
theorem Rel.thaw (r:Rel K C H0 U O H) {k:OK} (e:U.rho[i]?=some (some (.tre k d))):Rel K C H0 (U.put i (.shr d) []) O H:=by
 obtain⟨v,A,q,hA,h⟩:=r.at_ i _ e;have own:∀b,Own (U.put i (.shr d) []) O b->Own U O b/\b∉U.ad i:=λb z=>by
  obtain⟨j,z⟩:=z;rcases fZ z with⟨_,_,z⟩|⟨hj,z⟩
  ·cases z
  ·exact⟨⟨j,z⟩,λy=>hj (r.inj j i b z y)⟩
 refine r.put rfl (λj _=>rfl) (λb hb=>by cases hb) (λj _=>.of (Same.refl _)) (λb o z=>(msk_some.mp z).2) (λb hb=>by cases hb) λhi s=>⟨_,q,h.share s (λa ha o e=>?_) λa vs e=>?_⟩
 ·exact msk_some.mpr ⟨λz=>(own a z).2 (hA a ha),e⟩
 ·exact msk_some.mpr ⟨λz=>r.tups e (own a z).1,e⟩
end
def Fly (X:Cx) (pins:List (Addr×Obj)) (c:Nat) (H:Hp) (e:Value) (s:Shared):Prop:=∃ea Cc ch,e=.ref ea/\X.mg (exN c)=some (.ref Cc)/\Fs s.heap ea (.ref Cc) ch/\∀b∈ch,Hz X pins H b
def XE (X:Cx) (c:Nat) (O:St) (H:Hp):Prop:=∀pins H' e s',Inv X pins O H' s'->Same H H'->Fly X pins c H' e s'->X.xe e s'
def XS (X:Cx) (c:Nat) (H0:Hp):Prop:=∀pins σ' H' e s',Inv X pins σ' H' s'->Same H0 H'->Fly X pins c H' e s'->X.xe e s'
variable {c:Nat}
theorem XE.mono (s:Same H H') (h:XE X c O H):XE X c O H':=λpins H2 e s' I s2 f=>h pins H2 e s' I (s.trans s2) f
theorem XS.mono (s:Same H H') (h:XS X c H):XS X c H':=λpins O H2 e s' I s2 f=>h pins O H2 e s' I (s.trans s2) f
theorem XS.xe (s:Same H H') (h:XS X c H):XE X c O H':=λpins H2 e s' I s2 f=>h pins O H2 e s' I (s.trans s2) f
inductive Brw (K:Frag) (C:Addr) (M H:Hp):V->D->Prop where
 | cl {v:V} {d:D}:Has K C M v d->Brw K C M H v d
 | own {a:Addr} {vs:List V} {xs:List D}:H a=some (.lst vs)->HasL K C M vs xs->Brw K C M H (.ref a) (.lst xs)
theorem Brw.mono (m:Same M M') (s:Same H H') (h:Brw K C M H v d):Brw K C M' H' v d:=by
 cases h with
 | cl h=>exact .cl (h.mono m)
 | own e h=>exact .own (s _ _ e) (h.mono m)
section
variable (C:Addr) (X:Cx)
abbrev eG (H0:Hp) (U:RB) (O:St) (H:Hp):Prop:=Rel X.K C H0 U O H
abbrev mn (H0:Hp) (U:Rho) (O:St) (H:Hp):Prop:=wD X.K C H0 U O H
abbrev dv (U:RB) (O:St) (H:Hp) (v:V) (d:D):Prop:=Has X.K C (msk U O H) v d
abbrev jJ (U:RB) (O:St) (H:Hp) (v:List V) (d:List D):Prop:=HasL X.K C (msk U O H) v d
abbrev Fu (U:RB) (O:St) (H:Hp) (v:V) (d:D):Prop:=Brw X.K C (msk U O H) H v d
def pV (Rl:Hp->V->D->Prop) (r:R D) (O:St) (H:Hp) (Q:VK):Prop:=match r with
 | .val d=>∀v H',Same H H'->Rl H' v d->Q v H'
 | .exc c=>XE X c O H
 | .bad=>False
def pB (r:R Bool) (O:St) (H:Hp) (Q:Bool->Hp->Prop):Prop:=match r with
 | .val b=>∀H',Same H H'->Q b H'
 | .exc c=>XE X c O H
 | .bad=>False
def pL (Rl:Hp->List V->List D->Prop) (r:R (List D)) (O:St) (H:Hp) (Q:List V->Hp->Prop):Prop:=match r with
 | .val d=>∀v H',Same H H'->Rl H' v d->Q v H'
 | .exc c=>XE X c O H
 | .bad=>False
def teC (F:Rho->R D):TE:=λO H Q=>∃U:RB,(∃H0,eG C X H0 U O H)/\pV X (dv C X U O) (F U) O H Q
def teB (F:Rho->R D):TE:=λO H Q=>∃U:RB,(∃H0,eG C X H0 U O H)/\pV X (Fu C X U O) (F U) O H Q
def ttD (F:Rho->R Bool):TT:=λO H Q=>∃U:RB,(∃H0,eG C X H0 U O H)/\pB X (F U) O H Q
def taD (F:Rho->R (List D)):TA:=λO H Q=>∃U:RB,(∃H0,eG C X H0 U O H)/\pL X (jJ C X U O) (F U) O H Q
def ED (e:Expr) (F:Rho->R D):Prop:=PE X e (teC C X F)
def EB (e:Expr) (F:Rho->R D):Prop:=PE X e (teB C X F)
def TD (e:Expr) (F:Rho->R Bool):Prop:=PT X e (ttD C X F)
def AD (es:List Expr) (F:Rho->R (List D)):Prop:=PA X es (taD C X F)
def pS (o:R Out) (H0:Hp) (Dn:j6):Prop:=match o with
 | .val (.nx U')=>∀σ' H',mn C X H0 U' σ' H'->Dn.nx σ' H'
 | .val (.bk U')=>∀σ' H',mn C X H0 U' σ' H'->Dn.bk σ' H'
 | .val (.ct U')=>∀σ' H',mn C X H0 U' σ' H'->Dn.ct σ' H'
 | .val (.rt d)=>∀v H',Same H0 H'->Has X.K C H' v d->Dn.rt v H'
 | .exc c=>XS X c H0
 | .bad=>False
def tsD (F:Rho->R Out):TS:=λDn O H=>∃U H0,mn C X H0 U O H/\pS C X (F U) H0 Dn
def SD (st:Stmt) (F:Rho->R Out):Prop:=PS X st (tsD C X F)
def SDs (st:List Stmt) (F:Rho->R Out):Prop:=PSs X st (tsD C X F)
end
variable {a b:Expr} {r:R2} {Q:VK} {F Fa Fb:Rho->R D} {x:Str} {f:D->D->R D} {op:CmpOp} {rest es:List Expr} {n:Nat}
section
variable {C:Addr} {X:Cx} {U:RB} {O:St} {H H':Hp}
theorem aR {e:Expr} {t t':TE} (h:PE X e t) (hw:∀O H Q,t' O H Q->t O H Q):PE X e t':=λpins s O H Q I q=>h pins s O H Q I (hw O H Q q)
theorem fi {e:Expr} {t t':TT} (h:PT X e t) (hw:∀O H Q,t' O H Q->t O H Q):PT X e t':=λpins s O H Q I q=>h pins s O H Q I (hw O H Q q)
theorem w9 {e:List Expr} {t t':TA} (h:PA X e t) (hw:∀O H Q,t' O H Q->t O H Q):PA X e t':=λpos pins s O H Q I q=>h pos pins s O H Q I (hw O H Q q)
theorem bF {e:Stmt} {t t':TS} (h:PS X e t) (hw:∀D O H,t' D O H->t D O H):PS X e t':=λpins s O H Q I q=>h pins s O H Q I (hw Q O H q)
theorem hW {e:List Stmt} {t t':TS} (h:PSs X e t) (hw:∀D O H,t' D O H->t D O H):PSs X e t':=λpins s O H Q I q=>h pins s O H Q I (hw Q O H q)
theorem pV.mono {Rl:Hp->V->D->Prop} {r:R D} (s:Same H H') (h:pV X Rl r O H Q):pV X Rl r O H' Q:=by
 cases r with
 | val d=>exact λv H2 s2 q=>h v H2 (s.trans s2) q
 | exc c=>exact XE.mono s h
 | bad=>exact h
theorem pB.mono {r:R Bool} {Q:Bool->Hp->Prop} (s:Same H H') (h:pB X r O H Q):pB X r O H' Q:=by
 cases r with
 | val d=>exact λH2 s2=>h H2 (s.trans s2)
 | exc c=>exact XE.mono s h
 | bad=>exact h
theorem pL.mono {Rl:Hp->List V->List D->Prop} {r:R (List D)} {Q:List V->Hp->Prop} (s:Same H H') (h:pL X Rl r O H Q):pL X Rl r O H' Q:=by
 cases r with
 | val d=>exact λv H2 s2 q=>h v H2 (s.trans s2) q
 | exc c=>exact XE.mono s h
 | bad=>exact h
theorem aW {Rl:Hp->V->D->Prop} {r:R D} {k:D->R Y} {P:R Y->Hp->Prop} (hexc:∀c,P (.exc c) H->XE X c O H) (hbad:P .bad H->False) (h:P (r.bind k) H)
  (hk:∀d v H1,Same H H1->Rl H1 v d->P (k d) H->Q v H1):pV X Rl r O H Q:=by
 cases r with
 | val d=>exact λv H1 s q=>hk d v H1 s q h
 | exc c=>exact hexc c h
 | bad=>exact hbad h
theorem kQ {r:R Bool} {k:Bool->R Y} {P:R Y->Hp->Prop} {Q:Bool->Hp->Prop} (hexc:∀c,P (.exc c) H->XE X c O H) (hbad:P .bad H->False) (h:P (r.bind k) H)
  (hk:∀d H1,Same H H1->P (k d) H->Q d H1):pB X r O H Q:=by
 cases r with
 | val d=>exact λH1 s=>hk d H1 s h
 | exc c=>exact hexc c h
 | bad=>exact hbad h
theorem fS {Rl:Hp->List V->List D->Prop} {r:R (List D)} {k:List D->R Y} {P:R Y->Hp->Prop} {Q:List V->Hp->Prop} (hexc:∀c,P (.exc c) H->XE X c O H) (hbad:P .bad H->False) (h:P (r.bind k) H)
  (hk:∀d v H1,Same H H1->Rl H1 v d->P (k d) H->Q v H1):pL X Rl r O H Q:=by
 cases r with
 | val d=>exact λv H1 s q=>hk d v H1 s q h
 | exc c=>exact hexc c h
 | bad=>exact hbad h
theorem EB.of {e:Expr} (h:ED C X e F):EB C X e F:=aR h λO H Q yy0=>by
 obtain⟨U,r,q⟩:=yy0;exact⟨U,r,by
  cases z:F U with
  | val d=>rw[z]at q;exact λv H' s h=>q v H' s (.cl h)
  | exc c=>rw[z]at q;exact q
  | bad=>rw[z]at q;exact q⟩
def vr (i:Nat):Rho->R D:=λU=>match U[i]? with
 | some (some (.shr d))=>.val d
 | _=>.bad
def vb (i:Nat):Rho->R D:=λU=>match U[i]? with
 | some (some (.shr d))=>.val d
 | some (some (.own xs))=>.val (.lst xs)
 | some (some (.tre (.l .s) (.lst xs)))=>.val (.lst xs)
 | _=>.bad
theorem E6 {pos:Pos} (h:PE X (.Name x pos) (fv i)):ED C X (.Name x pos) (vr i):=by
 refine aR h λO H Q zz0=>?_;obtain⟨U,⟨H0,r⟩,q⟩:=zz0;unfold vr at q;split at q
 ·rename_i d e;obtain⟨v,e1,h1⟩:=r.at_ i _ e;exact⟨v,e1,q v H (Same.refl _) h1⟩
 ·exact q.elim
theorem Fe {pos:Pos} (h:PE X (.Name x pos) (fv i)):EB C X (.Name x pos) (vb i):=by
 refine aR h λO H Q zz1=>?_;obtain⟨U,⟨H0,r⟩,q⟩:=zz1;unfold vb at q;split at q
 ·rename_i d e;obtain⟨v,e1,h1⟩:=r.at_ i _ e;exact⟨v,e1,q v H (Same.refl _) (.cl h1)⟩
 ·rename_i xs e;obtain⟨a,vs,e1,_,h1,h2⟩:=r.at_ i _ e;exact⟨_,e1,q _ H (Same.refl _) (.own h1 h2)⟩
 ·rename_i xs e;obtain⟨v,B,e1,_,h⟩:=r.at_ i _ e;cases h with
  | l h1 h2 _=>exact⟨_,e1,q _ H (Same.refl _) (.own h1 h2.flat.2)⟩
 ·exact q.elim
def kd (d:D):Rho->R D:=λ_=>.val d
theorem bh {i j pos}:ED C X (.Constant (.int i) j pos) (kd (.int i)):=aR Eg λO H Q yy1=>by
 obtain⟨U,r,q⟩:=yy1;exact q _ H (Same.refl _) (.int i)
theorem eK {i j pos}:ED C X (.Constant (.bool i) j pos) (kd (.bl i)):=aR De λO H Q yy2=>by
 obtain⟨U,r,q⟩:=yy2;exact q _ H (Same.refl _) (.bl i)
theorem E9 {j pos}:ED C X (.Constant .none j pos) (kd .non):=aR Ee λO H Q yy3=>by
 obtain⟨U,r,q⟩:=yy3;exact q _ H (Same.refl _) .non
theorem o3 {i:Int} {t:Tok} {pos:Pos} (hg:Gl X x) (hm:X.mg x=some (.int i t)) (hd:(x==("__debug__":Str))=false:=by decide):ED C X (.Name x pos) (kd (.int i)) :=
  aR (BS (v:=.int i) hg hm ⟨t,rfl⟩ hd) λO H Q yy4=>by
   obtain⟨U,r,q⟩:=yy4;exact q _ H (Same.refl _) (.int i)
def bin (f:D->D->R D) (a b:Rho->R D):Rho->R D:=λU=>(a U).bind λx=>(b U).bind λy=>f x y
def OpD (C:Addr) (X:Cx) (r:R2) (f:D->D->R D):Prop:=∀U O H v w x y z (Q:VK),(∃H0,eG C X H0 U O H)->Fu C X U O H v x->Fu C X U O H w y->f x y=.val z->(∀u H',Same H H'->dv C X U O H' u z->Q u H')->r v w H Q
def ft (f:D->D->R D):Prop:=∀x y c,f x y ≠ .exc c
theorem rj (hf:ft f) (ho:OpD C X r f) {O:St} {H:Hp} (h:teC C X (bin f Fa Fb) O H Q):tOp r (teB C X Fa) (teB C X Fb) O H Q:=by
 obtain⟨U,⟨H0,r0⟩,q⟩:=h;refine⟨U,⟨H0,r0⟩,aW (P:=λz H=>pV X (dv C X U O) z O H Q) (λ_ h=>h) (λh=>h) q λx v H1 s1 h1 q1=>?_⟩;refine⟨U,⟨H0,r0.mono s1⟩,aW (P:=λz H=>pV X (dv C X U O) z O H Q) (λ_ h=>h) (λh=>h) (q1.mono s1) λy w H2 s2 h2 q2=>?_⟩;cases e:f x y with
 | val z =>
  rw[e]at q2;exact ho U O H2 v w x y z Q ⟨H0,(r0.mono s1).mono s2⟩ (h1.mono (aZ s2) s2) h2 e λu H3 s3 h3=>q2 u H3 (s2.trans s3) h3
 | exc c=>exact(hf x y c e).elim
 | bad=>rw[e]at q2;exact q2.elim
theorem u8 {op:Operator} {pos:Pos} (h:OpR X (binaryOp op) r) (hf:ft f) (ho:OpD C X r f) (ha:EB C X a Fa) (hb:EB C X b Fb) :
  ED C X (.BinOp a op b pos) (bin f Fa Fb):=aR (Gb h ha hb) λO H Q q=>rj hf ho q
theorem AW {pos:Pos} (h:OpR X (compareOp op) r) (hf:ft f) (ho:OpD C X r f) (ha:EB C X a Fa) (hb:EB C X b Fb) (hm:behindInMarks op b=false) :
  ED C X (.Compare a [op] [b] pos) (bin f Fa Fb):=aR (BT h ha hb hm) λO H Q q=>rj hf ho q
theorem GA {pos:Pos} (h:IxR X r) (hf:ft f) (ho:OpD C X r f) (ha:EB C X a Fa) (hb:EB C X b Fb) (hs:lz b) :
  ED C X (.Subscript a b pos) (bin f Fa Fb):=aR (zN h ha hb hs) λO H Q q=>rj hf ho q
def asB:D->R Bool
 | .bl b=>.val b
 | _=>.bad
def tst (F:Rho->R D):Rho->R Bool:=λU=>(F U).bind asB
theorem Brw.int {H:Hp} {i:Int} (h:Brw K C M H v (.int i)):v=.int i:=by
 cases h with
 | cl h=>cases h;rfl
theorem Brw.bl {H:Hp} {i:Bool} (h:Brw K C M H v (.bl i)):v=.bl i:=by
 cases h with
 | cl h=>cases h;rfl
theorem Has.bl' {i:Bool} (h:Has K C M v (.bl i)):v=.bl i:=by cases h;rfl
theorem FG {O:St} {H:Hp} {Q:Bool->Hp->Prop} (h:ttD C X (tst F) O H Q):teC C X F O H λx H1=>∃c,x=.bl c/\Q c H1:=by
 obtain⟨U,⟨H0,r0⟩,q⟩:=h;refine⟨U,⟨H0,r0⟩,aW (P:=λz H=>pB X z O H Q) (λ_ h=>h) (λh=>h) q λx v H1 s1 h1 q1=>?_⟩;cases x with
 | bl b=>exact⟨b,Has.bl' h1,q1 H1 s1⟩
 | _=>exact q1.elim
theorem dC {e:Expr} (h:ED C X e F) (he:∀whole,isTrue e X.env whole=(do let v <- whole;standAt e.pos;holding [v] (truthy v)):=by intro _;rfl):TD C X e (tst F) :=
 fi (zu h he) λO H Q q=>FG q
theorem lN {pos:Pos} (h:OpR X (compareOp op) r) (hf:ft f) (ho:OpD C X r f) (ha:EB C X a Fa) (hb:EB C X b Fb) (hm:behindInMarks op b=false) :
  TD C X (.Compare a [op] [b] pos) (tst (bin f Fa Fb)):=fi (wW h ha hb hm) λO H Q q=>by
 obtain⟨U,r0,q⟩:=q;refine rj hf ho ⟨U,r0,?_⟩;exact aW (P:=λz H=>pB X z O H Q) (λ_ h=>h) (λh=>h) q λx v H1 s1 h1 q1=>by
  cases x with
  | bl b=>exact⟨b,Has.bl' h1,q1 H1 s1⟩
  | _=>exact q1.elim
def yL (a b:Rho->R Bool):Rho->R Bool:=λU=>(a U).bind λx=>if x=true then b U else .val false
def orB (a b:Rho->R Bool):Rho->R Bool:=λU=>(a U).bind λx=>if x=true then .val true else b U
def dP (a:Rho->R Bool):Rho->R Bool:=λU=>(a U).bind λx=>.val (!x)
def WD (C:Addr) (X:Cx) (e:Expr) (F:Rho->R Bool):Prop:=PW X e (ttD C X F)
theorem wU {e:Expr} {t t':TT} (h:PW X e t) (hw:∀O H Q,t' O H Q->t O H Q):PW X e t':=λwh pins s O H Q I q=>h wh pins s O H Q I (hw O H Q q)
theorem wE {pos:Pos} {F:Rho->R Bool} (h:TD C X a F):WD C X (.BoolOp .And [a] pos) F:=wV h
theorem fX {pos:Pos} {F:Rho->R Bool} (h:TD C X a F):WD C X (.BoolOp .Or [a] pos) F:=DX h
theorem yT {pos:Pos} {Fa Fb:Rho->R Bool} (ha:TD C X a Fa) (hb:WD C X (.BoolOp .And (b::rest) pos) Fb):WD C X (.BoolOp .And (a::b::rest) pos) (yL Fa Fb) :=
  wU (zt ha hb) λO H Q yy5=>by
   obtain⟨U,⟨H0,r0⟩,q⟩:=yy5;exact⟨U,⟨H0,r0⟩,kQ (P:=λz H=>pB X z O H Q) (λ_ h=>h) (λh=>h) q λx H1 s1 q1=>by
    cases x with
    | true=>rw[if_pos rfl];rw[if_pos rfl]at q1;exact⟨U,⟨H0,r0.mono s1⟩,q1.mono s1⟩
    | false=>rw[if_neg Bool.false_ne_true];rw[if_neg Bool.false_ne_true]at q1;exact q1 H1 s1⟩
theorem hE {pos:Pos} {Fa Fb:Rho->R Bool} (ha:TD C X a Fa) (hb:WD C X (.BoolOp .Or (b::rest) pos) Fb):WD C X (.BoolOp .Or (a::b::rest) pos) (orB Fa Fb) :=
  wU (FU ha hb) λO H Q yy6=>by
   obtain⟨U,⟨H0,r0⟩,q⟩:=yy6;exact⟨U,⟨H0,r0⟩,kQ (P:=λz H=>pB X z O H Q) (λ_ h=>h) (λh=>h) q λx H1 s1 q1=>by
    cases x with
    | false=>rw[if_neg Bool.false_ne_true];rw[if_neg Bool.false_ne_true]at q1;exact⟨U,⟨H0,r0.mono s1⟩,q1.mono s1⟩
    | true=>rw[if_pos rfl];rw[if_pos rfl]at q1;exact q1 H1 s1⟩
theorem lM {e:Expr} {F:Rho->R Bool} (h:WD C X e F):TD C X e F:=h.pt
theorem cU {pos:Pos} {F:Rho->R Bool} (h:TD C X a F):TD C X (.UnaryOp .Not a pos) (dP F) :=
  fi (zv h) λO H Q yy7=>by
   obtain⟨U,r0,q⟩:=yy7;exact⟨U,r0,kQ (P:=λz H=>pB X z O H Q) (λ_ h=>h) (λh=>h) q λx H1 s1 q1=>q1 H1 s1⟩
def yK (a b:Rho->R D):Rho->R D:=λU=>(a U).bind λx=>(asB x).bind λc=>if c=true then b U else .val (.bl false)
def orV (a b:Rho->R D):Rho->R D:=λU=>(a U).bind λx=>(asB x).bind λc=>if c=true then .val (.bl true)else b U
def Gc (a:Rho->R D):Rho->R D:=λU=>(a U).bind λx=>(asB x).bind λc=>.val (.bl (!c))
theorem sT {op} {pos:Pos} (h:ED C X a F):ED C X (.BoolOp op [a] pos) F:=Ec h
theorem sV {pos:Pos} (ha:ED C X a Fa) (hb:ED C X (.BoolOp .And (b::rest) pos) Fb):ED C X (.BoolOp .And (a::b::rest) pos) (yK Fa Fb) :=
  aR (Ei ha hb) λO H Q yy8=>by
   obtain⟨U,⟨H0,r0⟩,q⟩:=yy8;exact⟨U,⟨H0,r0⟩,aW (P:=λz H=>pV X (dv C X U O) z O H Q) (λ_ h=>h) (λh=>h) q λx v H1 s1 h1 q1=>by
    cases x with
    | bl c =>
      refine⟨c,Has.bl' h1,?_⟩;cases c with
      | true=>exact wd ⟨U,⟨H0,r0.mono s1⟩,q1.mono s1⟩
      | false=>exact we (q1 _ H1 s1 (.bl false))
    | _=>exact q1.elim⟩
theorem Gz {pos:Pos} (ha:ED C X a Fa) (hb:ED C X (.BoolOp .Or (b::rest) pos) Fb):ED C X (.BoolOp .Or (a::b::rest) pos) (orV Fa Fb) :=
  aR (Ga ha hb) λO H Q yy9=>by
   obtain⟨U,⟨H0,r0⟩,q⟩:=yy9;exact⟨U,⟨H0,r0⟩,aW (P:=λz H=>pV X (dv C X U O) z O H Q) (λ_ h=>h) (λh=>h) q λx v H1 s1 h1 q1=>by
    cases x with
    | bl c =>
      refine⟨c,Has.bl' h1,?_⟩;cases c with
      | false=>exact we ⟨U,⟨H0,r0.mono s1⟩,q1.mono s1⟩
      | true=>exact wd (q1 _ H1 s1 (.bl true))
    | _=>exact q1.elim⟩
theorem E8 {pos:Pos} (h:ED C X a F):ED C X (.UnaryOp .Not a pos) (Gc F) :=
  aR (Ed h) λO H Q yy10=>by
   obtain⟨U,⟨H0,r0⟩,q⟩:=yy10;exact⟨U,⟨H0,r0⟩,aW (P:=λz H=>pV X (dv C X U O) z O H Q) (λ_ h=>h) (λh=>h) q λx v H1 s1 h1 q1=>by
    cases x with
    | bl c=>exact⟨c,Has.bl' h1,q1 _ H1 s1 (.bl _)⟩
    | _=>exact q1.elim⟩
def aN:Rho->R (List D):=λ_=>.val []
def aC (a:Rho->R D) (r:Rho->R (List D)):Rho->R (List D):=λU=>(a U).bind λx=>(r U).bind λxs=>.val (x::xs)
theorem af:AD C X [] aN:=w9 dD λO H Q yy12=>by
 obtain⟨U,r0,q⟩:=yy12;exact q [] H (Same.refl _) .nil
theorem ab {e:Expr} {Fr:Rho->R (List D)} (ha:ED C X e Fa) (hr:AD C X es Fr) (hs:starEach (e::es) X.env=(false,eval e X.env)::starEach es X.env:=by rfl):AD C X (e::es) (aC Fa Fr) :=
  w9 (ci ha hr hs) λO H Q yy13=>by
   obtain⟨U,⟨H0,r0⟩,q⟩:=yy13;exact⟨U,⟨H0,r0⟩,aW (P:=λz H=>pL X (jJ C X U O) z O H Q) (λ_ h=>h) (λh=>h) q λx v H1 s1 h1 q1 =>
    ⟨U,⟨H0,r0.mono s1⟩,fS (P:=λz H=>pL X (jJ C X U O) z O H Q) (λ_ h=>h) (λh=>h) (q1.mono s1) λxs vs H2 s2 h2 q2=>q2 _ H2 s2 (.cons (h1.mono (aZ s2)) h2)⟩⟩
def LIM:Nat:=100000
theorem su (h:n<=LIM):n<=sizeLine:=Nat.le_trans h (by decide)
theorem EG (h:n<=LIM):n<sizeLine:=Nat.lt_of_le_of_lt h (by decide)
def mkT (xs:List D):R D:=if xs.length<=LIM then .val (.tup xs)else .bad
def mkL (xs:List D):R D:=if xs.length<=LIM then .val (.lst xs)else .bad
def eT (a:Rho->R (List D)):Rho->R D:=λU=>(a U).bind mkT
def eL (a:Rho->R (List D)):Rho->R D:=λU=>(a U).bind mkL
theorem cq {x1} {pos : Pos} {F : Rho -> R (List D)} (h : AD C X es F) : ED C X (.Tuple es x1 pos) (eT F) :=
  aR (Eb h) fun O H Q yy14 => by
   obtain ⟨U, ⟨H0, r0⟩, q⟩ := yy14
   exact ⟨U, ⟨H0, r0⟩, fS (P := fun z H => pV X (dv C X U O) z O H Q) (fun _ h => h) (fun h => h) q fun xs vs H1 s1 h1 q1 => by
    unfold mkT at q1
    split at q1
    · rename_i hl
      refine ⟨by rw [h1.len]; exact su hl, fun p hp => q1 _ _ (s1.trans (aP hp)) ?_⟩
      exact .tup ((r0.mono s1).new hp) (h1.mono (aZ (aP hp)))
    · exact q1.elim⟩
theorem bX {pos : Pos} {F : Rho -> R (List D)} (h : AD C X es F) : ED C X (.List es pos) (eL F) :=
  aR (zM h) fun O H Q yy15 => by
   obtain ⟨U, ⟨H0, r0⟩, q⟩ := yy15
   exact ⟨U, ⟨H0, r0⟩, fS (P := fun z H => pV X (dv C X U O) z O H Q) (fun _ h => h) (fun h => h) q fun xs vs H1 s1 h1 q1 => by
    unfold mkL at q1
    split at q1
    · rename_i hl
      refine ⟨by rw [h1.len]; exact su hl, fun p hp => q1 _ _ (s1.trans (aP hp)) ?_⟩
      exact .lst ((r0.mono s1).new hp) (h1.mono (aZ (aP hp)))
    · exact q1.elim⟩
end
section
variable {C:Addr} {X:Cx} {U:RB} {O:St} {H H':Hp}
def iI (f:Int->Int->R D):D->D->R D
 | .int i,.int j=>f i j
 | _,_=>.bad
theorem jQ {f:Int->Int->R D} (h:∀i j c,f i j ≠ .exc c):ft (iI f):=by
 intro x y c;cases x<;>cases y<;>simp[iI]<;>exact h _ _ c
theorem vU {g:Int->Int->V} {f:Int->Int->R D} (h:∀i j z,f i j=.val z->∀K C H,Has K C H (g i j) z):OpD C X (rI0 g) (iI f):=by
 intro U O H v w x y z Q r hx hy e k;cases x with
 | int i =>
  cases y with
  | int j=>exact⟨i,j,hx.int,hy.int,k _ H (Same.refl _) (h i j z e _ _ _)⟩
  | _=>cases e
 | _=>cases e
theorem zT {P:Int->Int->Prop} {g:Int->Int->V} {f:Int->Int->R D} (h:∀i j z,f i j=.val z->P i j/\∀K C H,Has K C H (g i j) z):OpD C X (rI P g) (iI f):=by
 intro U O H v w x y z Q r hx hy e k;cases x with
 | int i =>
  cases y with
  | int j=>exact⟨i,j,hx.int,hy.int,(h i j z e).1,k _ H (Same.refl _) ((h i j z e).2 _ _ _)⟩
  | _=>cases e
 | _=>cases e
def gi (i j:Int):R D:=if(-(2 ^ 64)<i/\i<2 ^ 64)\/(-(2 ^ 64)<j/\j<2 ^ 64)then .val (.int (i*j))else .bad
def bn (i j:Int):R D:=if 0<j then .val (.int (i%j))else .bad
def dQ (i j:Int):R D:=if 0<j/\j<1073741824 then .val (.int (i/j))else .bad
def flt (i j:Int):R D:=.val (.bl (decide (i<j)))
def fle (i j:Int):R D:=.val (.bl (decide (i<=j)))
def fgt (i j:Int):R D:=.val (.bl (decide (j<i)))
theorem BX:OpD C X (rI CMul λi j=>.int (i*j)) (iI gi):=zT λi j z e=>by
 unfold gi at e;split at e
 ·cases e;exact⟨‹_›,λ_ _ _=>.int _⟩
 ·cases e
theorem BY:OpD C X (rI (λ_ j=>0<j) λi j=>.int (i%j)) (iI bn):=zT λi j z e=>by
 unfold bn at e;split at e
 ·cases e;exact⟨‹_›,λ_ _ _=>.int _⟩
 ·cases e
theorem BZ:OpD C X (rI GI λi j=>.int (i/j)) (iI dQ):=zT λi j z e=>by
 unfold dQ at e;split at e
 ·cases e;exact⟨‹_›,λ_ _ _=>.int _⟩
 ·cases e
theorem Em:OpD C X (rI0 λi j=>.bl (decide (i<j))) (iI flt):=vU λi j z e=>by cases e;exact λ_ _ _=>.bl _
theorem En:OpD C X (rI0 λi j=>.bl (decide (i<=j))) (iI fle):=vU λi j z e=>by cases e;exact λ_ _ _=>.bl _
theorem zR:OpD C X (rI0 λi j=>.bl (decide (j<i))) (iI fgt):=vU λi j z e=>by cases e;exact λ_ _ _=>.bl _
theorem D1:ft (iI gi):=jQ λi j c e=>by unfold gi at e;split at e<;>cases e
theorem D2:ft (iI bn):=jQ λi j c e=>by unfold bn at e;split at e<;>cases e
theorem D3:ft (iI dQ):=jQ λi j c e=>by unfold dQ at e;split at e<;>cases e
theorem FW:ft (iI flt):=jQ λi j c e=>by cases e
theorem FX:ft (iI fle):=jQ λi j c e=>by cases e
theorem Dc:ft (iI fgt):=jQ λi j c e=>by cases e
def b_:D->D->R D
 | .int i,.int j=>.val (.int (i+j))
 | .lst xs,.lst ys=>if xs.length+ys.length<=LIM then .val (.lst (xs++ys))else .bad
 | _,_=>.bad
theorem Brw.lst {K:Frag} {M H:Hp} {v:V} {xs:List D} (s:Same M H) (h:Brw K C M H v (.lst xs)):∃a vs,v=.ref a/\H a=some (.lst vs)/\HasL K C M vs xs:=by
 cases h with
 | cl h=>cases h with
  | lst q h=>exact⟨_,_,rfl,s _ _ q,h⟩
 | own e h=>exact⟨_,_,rfl,e,h⟩
theorem Brw.tup {K:Frag} {M H:Hp} {v:V} {xs:List D} (s:Same M H) (h:Brw K C M H v (.tup xs)):∃a vs,v=.ref a/\H a=some (.tup vs)/\HasL K C M vs xs:=by
 cases h with
 | cl h=>cases h with
  | tup q h=>exact⟨_,_,rfl,s _ _ q,h⟩
theorem Brw.scr {K:Frag} {M H:Hp} {v:V} {ns:List Int} (s:Same M H) (h:Brw K C M H v (.scr ns)):∃a,v=.ref a/\SqL K H a (ns.map V.int):=by
 cases h with
 | cl h=>cases h with
  | scr q=>exact⟨_,rfl,s.seq q⟩
theorem B0:OpD C X (λx y H Q=>rI0 (λi j=>.int (i+j)) x y H Q\/DW x y H Q) b_:=by
 intro U O H v w x y z Q r hx hy e k;obtain⟨H0,r⟩:=r;cases x with
 | int i =>
  cases y with
  | int j=>cases e;exact .inl ⟨i,j,hx.int,hy.int,k _ H (Same.refl _) (.int _)⟩
  | _=>cases e
 | lst xs =>
  cases y with
  | lst ys =>
   simp only[b_]at e;split at e
   ·rename_i hl;cases e;obtain⟨a,vs,rfl,q1,h1⟩:=hx.lst msk_sub;obtain⟨b,ws,rfl,q2,h2⟩:=hy.lst msk_sub;refine .inr ⟨a,b,vs,ws,rfl,rfl,q1,q2,by rw[h1.len,h2.len];exact su hl,λp hp=>k _ _ (aP hp) ?_⟩;exact .lst (r.new hp) ((h1.app h2).mono (aZ (aP hp)))
   ·cases e
  | _=>cases e
 | _=>cases e
theorem D4:ft b_:=by
 intro x y c e;unfold b_ at e;split at e
 ·cases e
 ·split at e<;>cases e
 ·cases e
theorem BW:OpR X (binaryOp .Add) (λx y H Q=>rI0 (λi j=>.int (i+j)) x y H Q\/DW x y H Q):=op_add.or Ev
def fix:D->D->R D
 | .lst xs,.int i=>match atI xs i with
  | some d=>.val d
  | none=>.bad
 | .tup xs,.int i=>match atI xs i with
  | some d=>.val d
  | none=>.bad
 | .scr ns,.int i=>match atI ns i with
  | some d=>.val (.int d)
  | none=>.bad
 | _,_=>.bad
theorem FY:ft fix:=by
 intro x y c e;unfold fix at e;split at e
 ·split at e<;>cases e
 ·split at e<;>cases e
 ·split at e<;>cases e
 ·cases e
theorem CZ {β:Type} (f:Y->β) (xs:List Y) (i:Int):L2.atI (xs.map f) i=(L2.atI xs i).map f:=by
 unfold L2.atI;rw[List.length_map];cases ixN xs.length i with
 | none=>rfl
 | some j=>simp
theorem HasL.atI {K:Frag} {vs:List V} {xs:List D} {i:Int} {d:D} (h:HasL K C H vs xs) (e:atI xs i=some d):∃v,L2.atI vs i=some v/\Has K C H v d:=by
 unfold L2.atI at e ⊢;rw[h.len];cases q:ixN xs.length i with
 | none=>rw[q]at e;cases e
 | some j =>
  rw[q]at e;exact h.get e
theorem Eo:OpD C X (rIx X.K) fix:=by
 intro U O H v w x y z Q r hx hy e k;unfold fix at e;split at e
 ·rename_i xs i;split at e
  ·rename_i d q;cases e;obtain⟨a,vs,rfl,q1,h1⟩:=hx.lst msk_sub;obtain⟨u,q2,h2⟩:=h1.atI q;exact .inl ⟨a,vs,i,u,rfl,hy.int,SqL.of q1,q2,k _ H (Same.refl _) h2⟩
  ·cases e
 ·rename_i xs i;split at e
  ·rename_i d q;cases e;obtain⟨a,vs,rfl,q1,h1⟩:=hx.tup msk_sub;obtain⟨u,q2,h2⟩:=h1.atI q;exact .inr (.inl ⟨a,vs,i,u,rfl,hy.int,SqT.of q1,q2,k _ H (Same.refl _) h2⟩)
  ·cases e
 ·rename_i ns i;split at e
  ·rename_i d q;cases e;obtain⟨a,rfl,q1⟩:=hx.scr msk_sub;exact .inl ⟨a,_,i,.int d,rfl,hy.int,q1,by rw[CZ,q];rfl,k _ H (Same.refl _) (.int d)⟩
  ·cases e
 ·cases e
theorem dF {pos:Pos} (ha:EB C X a Fa) (hb:EB C X b Fb):ED C X (.BinOp a .Add b pos) (bin b_ Fa Fb):=u8 BW D4 B0 ha hb
theorem oZ {pos:Pos} (ha:EB C X a Fa) (hb:EB C X b Fb):ED C X (.BinOp a .Mult b pos) (bin (iI gi) Fa Fb):=u8 Et D1 BX ha hb
theorem cQ {pos:Pos} (ha:EB C X a Fa) (hb:EB C X b Fb):ED C X (.BinOp a .Mod b pos) (bin (iI bn) Fa Fb):=u8 Eu D2 BY ha hb
theorem gR {pos:Pos} (ha:EB C X a Fa) (hb:EB C X b Fb):ED C X (.BinOp a .FloorDiv b pos) (bin (iI dQ) Fa Fb):=u8 B2 D3 BZ ha hb
theorem GB {pos:Pos} (ha:EB C X a Fa) (hb:EB C X b Fb):ED C X (.Compare a [.Gt] [b] pos) (bin (iI fgt) Fa Fb):=AW Di Dc zR ha hb (km _)
theorem C8 {pos:Pos} (ha:EB C X a Fa) (hb:EB C X b Fb):TD C X (.Compare a [.Lt] [b] pos) (tst (bin (iI flt) Fa Fb)):=lN Dh FW Em ha hb (km _)
theorem Fz {pos:Pos} (ha:EB C X a Fa) (hb:EB C X b Fb):TD C X (.Compare a [.LtE] [b] pos) (tst (bin (iI fle) Fa Fb)):=lN qs FX En ha hb (km _)
theorem tJ {pos:Pos} (ha:EB C X a Fa) (hb:EB C X b Fb):TD C X (.Compare a [.Gt] [b] pos) (tst (bin (iI fgt) Fa Fb)):=lN Di Dc zR ha hb (km _)
theorem ak {pos:Pos} (ha:EB C X a Fa) (hb:EB C X b Fb) (hs:lz b:=by exact λ_ _=>rfl):ED C X (.Subscript a b pos) (bin fix Fa Fb):=GA Ah FY Eo ha hb hs
def mU:D->R D
 | .int i=>.val (.int (-i))
 | _=>.bad
def una (f:D->R D) (a:Rho->R D):Rho->R D:=λU=>(a U).bind f
theorem oY {pos:Pos} (h:EB C X a F):ED C X (.UnaryOp .USub a pos) (una mU F) :=
  aR (F_ Dv h) λO H Q yy0=>by
   obtain⟨U,r0,q⟩:=yy0;exact⟨U,r0,aW (P:=λz H=>pV X (dv C X U O) z O H Q) (λ_ h=>h) (λh=>h) q λx v H1 s1 h1 q1=>by
    cases x with
    | int i=>exact⟨i,h1.int,q1 _ H1 s1 (.int _)⟩
    | _=>exact q1.elim⟩
def p9:D->D
 | .non=>.bl true
 | _=>.bl false
def eR:D->D
 | .non=>.bl false
 | _=>.bl true
theorem Brw.isN {H:Hp} (h:Brw K C M H v d):p9 d=.bl (decide (v=.non))/\eR d=.bl (!decide (v=.non)):=by
 cases h with
 | cl h=>cases h<;>simp[p9,eR]
 | own e h=>simp[p9,eR]
theorem DB {j pos pos'} (h:EB C X a F):TD C X (.Compare a [.Is] [.Constant .none j pos'] pos) (tst (una (λd=>.val (p9 d)) F)) :=
 fi (zw (Ej h)) λO H Q zz0=>by
  obtain⟨U,r0,q⟩:=zz0;refine⟨U,r0,?_⟩;cases e:F U with
  | val d =>
   intro v H1 s1 h1;refine⟨_,rfl,?_⟩;have z:tst (una (λd=>.val (p9 d)) F) U=.val (decide (v=.non)):=by
    unfold tst una;rw[e];show asB (p9 d)=_;rw[(h1.isN).1];rfl
   rw[z]at q;exact q H1 s1
  | exc c =>
   have z:tst (una (λd=>.val (p9 d)) F) U=.exc c:=by unfold tst una;rw[e];rfl
   rw[z]at q;exact q
  | bad =>
   have z:tst (una (λd=>.val (p9 d)) F) U=.bad:=by unfold tst una;rw[e];rfl
   rw[z]at q;exact q
theorem Bs {j pos pos'} (h:EB C X a F):TD C X (.Compare a [.IsNot] [.Constant .none j pos'] pos) (tst (una (λd=>.val (eR d)) F)) :=
 fi (zw (BU h)) λO H Q zz1=>by
  obtain⟨U,r0,q⟩:=zz1;refine⟨U,r0,?_⟩;cases e:F U with
  | val d =>
   intro v H1 s1 h1;refine⟨_,rfl,?_⟩;have z:tst (una (λd=>.val (eR d)) F) U=.val (!decide (v=.non)):=by
    unfold tst una;rw[e];show asB (eR d)=_;rw[(h1.isN).2];rfl
   rw[z]at q;exact q H1 s1
  | exc c =>
   have z:tst (una (λd=>.val (eR d)) F) U=.exc c:=by unfold tst una;rw[e];rfl
   rw[z]at q;exact q
  | bad =>
   have z:tst (una (λd=>.val (eR d)) F) U=.bad:=by unfold tst una;rw[e];rfl
   rw[z]at q;exact q
def chn (f g:Int->Int->Bool) (a b c:Rho->R D):Rho->R D:=λU=>(a U).bind λx=>(b U).bind λy=>match x,y with
 | .int i,.int j=>if f i j=true then(c U).bind λz=>match z with
   | .int k=>.val (.bl (g j k))
   | _=>.bad
  else .val (.bl false)
 | _,_=>.bad
end
variable {k:Nat} {p:Pos} {g:Int->Int->Bool} {Fc:Rho->R D} {st:Stmt} {H0:Hp}
section
variable {C:Addr} {X:Cx} {U:RB} {O:St} {H H':Hp}
theorem qk {f:Int->Int->Bool} {O:St} {H:Hp} (h:teC C X (chn f g Fa Fb Fc) O H Q) :
  vA (rI0 λi j=>.bl (f i j)) (rI0 λi j=>.bl (g i j)) (teB C X Fa) (teB C X Fb) (teB C X Fc) O H Q:=by
 obtain⟨U,⟨H0,r0⟩,q⟩:=h;refine⟨U,⟨H0,r0⟩,aW (P:=λz H=>pV X (dv C X U O) z O H Q) (λ_ h=>h) (λh=>h) q λx v H1 s1 h1 q1=>?_⟩;refine⟨U,⟨H0,r0.mono s1⟩,aW (P:=λz H=>pV X (dv C X U O) z O H Q) (λ_ h=>h) (λh=>h) (q1.mono s1) λy w H2 s2 h2 q2=>?_⟩;cases x with
 | int i =>
  cases y with
  | int j =>
   refine⟨i,j,h1.int,h2.int,f i j,rfl,?_⟩;cases e:f i j with
   | false =>
    simp only[e,Bool.false_eq_true,if_false]at q2 ⊢;exact q2 _ H2 s2 (.bl false)
   | true =>
    simp only[e,if_true]at q2 ⊢;refine⟨U,⟨H0,(r0.mono s1).mono s2⟩,aW (P:=λz H=>pV X (dv C X U O) z O H Q) (λ_ h=>h) (λh=>h) (q2.mono s2) λz w' H3 s3 h3 q3=>?_⟩;cases z with
    | int k=>exact⟨j,k,h2.int,h3.int,q3 _ H3 s3 (.bl _)⟩
    | _=>exact q3.elim
  | _=>exact q2.elim
 | _=>exact q2.elim
theorem AX {c:Expr} {op':CmpOp} {pos:Pos} {f:Int->Int->Bool} (ho:OpR X (compareOp op) (rI0 λi j=>.bl (f i j))) (ho':OpR X (compareOp op') (rI0 λi j=>.bl (g i j)))
  (ha:EB C X a Fa) (hb:EB C X b Fb) (hc:EB C X c Fc) (hm:lastMarks [op,op'] [b,c]=false:=by with_unfolding_all rfl):ED C X (.Compare a [op,op'] [b,c] pos) (chn f g Fa Fb Fc) :=
 aR (zP ho ho' ha hb hc hm) λO H Q q=>qk q
theorem tK {c:Expr} {op':CmpOp} {pos:Pos} {f:Int->Int->Bool} (ho:OpR X (compareOp op) (rI0 λi j=>.bl (f i j))) (ho':OpR X (compareOp op') (rI0 λi j=>.bl (g i j)))
  (ha:EB C X a Fa) (hb:EB C X b Fb) (hc:EB C X c Fc) (hm:lastMarks [op,op'] [b,c]=false:=by with_unfolding_all rfl):TD C X (.Compare a [op,op'] [b,c] pos) (tst (chn f g Fa Fb Fc)) :=
 fi (zx ho ho' ha hb hc hm) λO H Q q=>by
  obtain⟨U,r0,q⟩:=q;refine qk ⟨U,r0,?_⟩;exact aW (P:=λz H=>pB X z O H Q) (λ_ h=>h) (λh=>h) q λx v H1 s1 h1 q1=>by
   cases x with
   | bl b=>exact⟨b,Has.bl' h1,q1 H1 s1⟩
   | _=>exact q1.elim
def du (f:Nat):D->R D
 | .ob e r t=>match f with
  | 0=>.val e
  | 1=>.val r
  | _=>.val t
 | _=>.bad
theorem dE {e:Expr} {f:Str} {pos:Pos} (h:EB C X e F) (c:Cls X.K C) (n:NoAttr X.K C f) (hb:attributeBase e f X.env (eval e X.env)=eval e X.env)
    (hk:∀ve vr vt,(Gw ve vr vt).lookup f=some (match k with|0=>ve|1=>vr|_=>vt)):ED C X (.Attribute e f pos) (una (du k) F) :=
  aR (Eh h hb) λO H Q yy0=>by
   obtain⟨U,r0,q⟩:=yy0;exact⟨U,r0,aW (P:=λz H=>pV X (dv C X U O) z O H Q) (λ_ h=>h) (λh=>h) q λx v H1 s1 h1 q1=>by
    cases x with
    | ob de dr dt =>
      cases h1 with
      | cl h1 =>
        cases h1 with
        | @ob a dx ve vr vt _ _ _ e1 g1 g2 g3 =>
          refine⟨a,C,dx,_,_,rfl,msk_sub _ _ e1,c,n,hk ve vr vt,?_⟩
          match k with
          | 0=>exact q1 _ H1 s1 g1
          | 1=>exact q1 _ H1 s1 g2
          | _+2=>exact q1 _ H1 s1 g3
    | _=>exact q1.elim⟩
def aJ:D->R D
 | .lst xs=>.val (.int xs.length)
 | .tup xs=>.val (.int xs.length)
 | .scr ns=>.val (.int ns.length)
 | _=>.bad
theorem Fd {e:Expr} {pos:Pos} (h:EB C X e F) (hg:Gl X "len") (hm:X.mg "len"=none) (hst:starEach [e] X.env=(false,eval e X.env)::starEach [] X.env:=by rfl)
    (hs:∀t:TA,PA X [e] t->PE X (.Call (.Name "len" p) [e] [] pos) (tCB (λxs H Q=>∃p ys,xs=[.ref p]/\(SqL X.K H p ys\/SqT X.K H p ys)/\Q (.int ys.length) H) t):=by
      exact λt ha=>gd ly (by assumption) (by assumption) PySem.boot_len ha):ED C X (.Call (.Name "len" p) [e] [] pos) (una aJ F) :=
  aR (hs _ (ci h dD hst)) λO H Q yy1=>by
   obtain⟨U,r0,q⟩:=yy1;exact⟨U,r0,aW (P:=λz H=>pV X (dv C X U O) z O H Q) (λ_ h=>h) (λh=>h) q λx v H1 s1 h1 q1=>by
    cases x with
    | lst xs =>
      obtain⟨a,vs,rfl,e1,h2⟩:=h1.lst msk_sub;exact⟨a,vs,rfl,.inl (SqL.of e1),q1 _ H1 s1 (by rw[h2.len];exact .int _)⟩
    | tup xs =>
      obtain⟨a,vs,rfl,e1,h2⟩:=h1.tup msk_sub;exact⟨a,vs,rfl,.inr (SqT.of e1),q1 _ H1 s1 (by rw[h2.len];exact .int _)⟩
    | scr ns =>
      obtain⟨a,rfl,e1⟩:=h1.scr msk_sub;exact⟨a,_,rfl,.inl e1,q1 _ H1 s1 (by rw[List.length_map];exact .int _)⟩
    | _=>exact q1.elim⟩
def Cs:List D->R D
 | [.int i,.int j]=>.val (.int (if j>i then j else i))
 | _=>.bad
def CL (F:Rho->R (List D)):Rho->R D:=λU=>(F U).bind Cs
theorem E_ {pos : Pos} {F : Rho -> R (List D)} (hc : X.calm = true) (h : AD C X [a, b] F) (hg : Gl X "max") (hm : X.mg "max" = none)
    (hs : ∀ t : TA, PA X [a, b] t -> PE X (.Call (.Name "max" p) [a, b] [] pos) (tCB (fun xs H Q => ∃ i j, xs = [.int i, .int j] /\ Q (.int (if j > i then j else i)) H) t) := by
      exact fun t ha => gd (qM (by assumption)) (by assumption) (by assumption) PySem.boot_max ha) : ED C X (.Call (.Name "max" p) [a, b] [] pos) (CL F) :=
  aR (hs _ h) fun O H Q yy2 => by
   obtain ⟨U, r0, q⟩ := yy2
   exact ⟨U, r0, fS (P := fun z H => pV X (dv C X U O) z O H Q) (fun _ h => h) (fun h => h) q fun xs vs H1 s1 h1 q1 => by
    unfold Cs at q1
    split at q1
    · rename_i i j
      cases h1 with
      | cons a1 b1 => cases b1 with
        | cons a2 b2 => cases b2; cases a1; cases a2; exact ⟨i, j, rfl, q1 _ H1 s1 (.int _)⟩
    · exact q1.elim⟩
def pF (Rl:Hp->List V->List D->Prop) (r:R (List D)) (O:St) (H:Hp) (Q:VK):Prop:=match r with
 | .val xs=>∀a vs H1,Same H H1->H1 a=none->Rl H1 vs xs->Q (.ref a) (upd H1 a (.lst vs))
 | .exc c=>XE X c O H
 | .bad=>False
variable (C X) in
def teF (F:Rho->R (List D)):TE:=λO H Q=>∃U:RB,(∃H0,eG C X H0 U O H)/\pF (X:=X) (jJ C X U O) (F U) O H Q
variable (C X) in
def FD (e:Expr) (F:Rho->R (List D)):Prop:=PE X e (teF C X F)
def EF (r:R (List D)):R D:=r.bind λxs=>.val (.lst xs)
def eLs (F:Rho->R (List D)):Rho->R D:=λU=>EF (F U)
theorem bB {e:Expr} {F:Rho->R (List D)} (h:FD C X e F):ED C X e (eLs F):=aR h λO H Q yy3=>by
 obtain⟨U,⟨H0,r0⟩,q⟩:=yy3;exact⟨U,⟨H0,r0⟩,by
  unfold eLs at q;cases e:F U with
  | val xs =>
    rw[e]at q;exact λa vs H1 s1 hn h1=>q _ _ (s1.trans (aP hn)) (.lst ((r0.mono s1).new hn) (h1.mono (aZ (aP hn))))
  | exc c=>rw[e]at q;exact q
  | bad=>rw[e]at q;exact q⟩
def lim (r:R (List D)):R (List D):=r.bind λxs=>if xs.length<=LIM then .val xs else .bad
def ku (F:Rho->R (List D)):Rho->R (List D):=λU=>lim (F U)
theorem kt {pos : Pos} {F : Rho -> R (List D)} (h : AD C X es F) : FD C X (.List es pos) (ku F) :=
  aR (zM h) fun O H Q yy4 => by
   obtain ⟨U, ⟨H0, r0⟩, q⟩ := yy4
   exact ⟨U, ⟨H0, r0⟩, fS (P := fun z H => pF (X := X) (jJ C X U O) z O H Q) (fun _ h => h) (fun h => h) q fun xs vs H1 s1 h1 q1 => by
    split at q1
    · rename_i hl
      exact ⟨by rw [h1.len]; exact su hl, fun p hp => q1 p vs H1 s1 hp h1⟩
    · exact q1.elim⟩
def itD:D->R (List D)
 | .lst xs=>.val xs
 | .tup xs=>.val xs
 | .scr ns=>.val (ns.map .int)
 | _=>.bad
def fIt (F:Rho->R D):Rho->R (List D):=λU=>(F U).bind itD
theorem Cu {e:Expr} {pos:Pos} (h:EB C X e F) (hg:Gl X "list") (hm:X.mg "list"=none) (hst:starEach [e] X.env=(false,eval e X.env)::starEach [] X.env:=by rfl)
    (hs:∀t:TA,PA X [e] t->PE X (.Call (.Name "list" p) [e] [] pos) (tCB (λxs H Q=>∃p ys,xs=[.ref p]/\(SqL X.K H p ys\/SqT X.K H p ys)/\∀l,H l=none->Q (.ref l) (upd H l (.lst ys))) t):=by
      exact λt ha=>cA lx (by assumption) (by assumption) PySem.boot_list ha):FD C X (.Call (.Name "list" p) [e] [] pos) (fIt F) :=
  aR (hs _ (ci h dD hst)) λO H Q yy5=>by
   obtain⟨U,r0,q⟩:=yy5;exact⟨U,r0,aW (P:=λz H=>pF (X:=X) (jJ C X U O) z O H Q) (λ_ h=>h) (λh=>h) q λx v H1 s1 h1 q1=>by
    cases x with
    | lst xs =>
      obtain⟨a,vs,rfl,e1,h2⟩:=h1.lst msk_sub;exact⟨a,vs,rfl,.inl (SqL.of e1),λl hl=>q1 l vs H1 s1 hl h2⟩
    | tup xs =>
      obtain⟨a,vs,rfl,e1,h2⟩:=h1.tup msk_sub;exact⟨a,vs,rfl,.inr (SqT.of e1),λl hl=>q1 l vs H1 s1 hl h2⟩
    | scr ns =>
      obtain⟨a,rfl,e1⟩:=h1.scr msk_sub;exact⟨a,_,rfl,.inl e1,λl hl=>q1 l _ H1 s1 hl (HasL.ints ns)⟩
    | _=>exact q1.elim⟩
def j4:D->R D
 | .lst xs=>.val (.tup xs)
 | .tup xs=>.val (.tup xs)
 | _=>.bad
theorem lu {e:Expr} {pos:Pos} (h:EB C X e F) (hg:Gl X "tuple") (hm:X.mg "tuple"=none) (hst:starEach [e] X.env=(false,eval e X.env)::starEach [] X.env:=by rfl)
    (hs:∀t:TA,PA X [e] t->PE X (.Call (.Name "tuple" p) [e] [] pos) (tCB (λxs H Q=>∃p ys,xs=[.ref p]/\((SqL X.K H p ys/\∀l,H l=none->Q (.ref l) (upd H l (.tup ys)))\/(SqT X.K H p ys/\Q (.ref p) H))) t):=by
      exact λt ha=>cA dw (by assumption) (by assumption) PySem.boot_tuple ha):ED C X (.Call (.Name "tuple" p) [e] [] pos) (una j4 F) :=
  aR (hs _ (ci h dD hst)) λO H Q yy6=>by
   obtain⟨U,⟨H0,r0⟩,q⟩:=yy6;exact⟨U,⟨H0,r0⟩,aW (P:=λz H=>pV X (dv C X U O) z O H Q) (λ_ h=>h) (λh=>h) q λx v H1 s1 h1 q1=>by
    cases x with
    | lst xs =>
      obtain⟨a,vs,rfl,e1,h2⟩:=h1.lst msk_sub;exact⟨a,vs,rfl,.inl ⟨SqL.of e1,λl hl=>q1 _ _ (s1.trans (aP hl)) (.tup ((r0.mono s1).new hl) (h2.mono (aZ (aP hl))))⟩⟩
    | tup xs =>
      cases h1 with
      | cl h1 =>
        cases h1 with
        | tup e1 h2=>exact⟨_,_,rfl,.inr ⟨SqT.of (msk_sub _ _ e1),q1 _ H1 s1 (.tup e1 h2)⟩⟩
    | _=>exact q1.elim⟩
def sq (a b:Rho->R Out):Rho->R Out:=λU=>(a U).bind λo=>match o with
 | .nx U'=>b U'
 | o=>.val o
def nxt:Rho->R Out:=λU=>.val (.nx U)
def asg (i:Nat) (e:Rho->R D):Rho->R Out:=λU=>(e U).bind λd=>.val (.nx (U.set i (some (.shr d))))
def own (i:Nat) (e:Rho->R (List D)):Rho->R Out:=λU=>(e U).bind λxs=>.val (.nx (U.set i (some (.own xs))))
def ret (e:Rho->R D):Rho->R Out:=λU=>(e U).bind λd=>.val (.rt d)
def drp (e:Rho->R D):Rho->R Out:=λU=>(e U).bind λ_=>.val (.nx U)
def iff (t:Rho->R Bool) (a b:Rho->R Out):Rho->R Out:=λU=>(t U).bind λc=>if c=true then a U else b U
def bad:Rho->R Out:=λ_=>.bad
theorem aE:SDs C X [] nxt:=hW wX λD O H yy7=>by
 obtain⟨_,H0,⟨U,rfl,r⟩,q⟩:=yy7;exact q O H r.e
theorem ah {rest:List Stmt} {F G:Rho->R Out} (h1:SD C X st F) (h2:SDs C X rest G):SDs C X (st::rest) (sq F G) :=
 hW (jj h1 h2) λD O H zz0=>by
  obtain⟨_,H0,⟨U,rfl,r⟩,q⟩:=zz0;refine⟨U,H0,r.e,?_⟩;unfold sq at q;cases e:F U with
  | val o =>
   rw[e]at q;cases o with
   | nx U'=>exact λσ' H' r'=>⟨U',H0,r',q⟩
   | rt d=>exact q
   | bk U'=>exact q
   | ct U'=>exact q
  | exc c=>rw[e]at q;exact q
  | bad=>rw[e]at q;exact q
theorem ag {F:Rho->R Out} (h:SD C X st F):SDs C X [st] F:=kN h
theorem dm {Dn:j6} {U:RB} {O:St} {H:Hp} (r:eG C X H0 U O H) (h:pS C X (.exc c) H0 Dn):XE X c O H:=XS.xe (r.keep.trans msk_sub) h
theorem DM {e:Expr} {pos pos':Pos} (hN:X.N.Nodup) (hi:X.N[i]?=some x) (hx:Loc X.env.scope x) (he:ED C X e F) (hs:swapsWith e (some (.Name x pos')) pos.line X.env=pure false:=by rfl)
    (hf:X.fn x=true\/X.env.scope.names.lookup x=some .local:=by first|exact .inl rfl|exact .inr rfl|assumption):SD C X (.Assign [.Name x pos'] e pos) (asg i F) :=
  bF (rM hN hi hx he hs hf) λD O H yy8=>by
   obtain⟨_,H0,⟨U,rfl,r⟩,q⟩:=yy8;exact⟨U,⟨H0,r⟩,aW (P:=λz _=>pS C X z H0 D) (λc h=>dm r h) (λh=>h) q λd v H1 s1 h1 q1=>q1 _ _ ⟨_,rfl,(r.mono s1).setShr h1⟩⟩
theorem kj {e:Expr} {pos pos':Pos} {F:Rho->R (List D)} (hN:X.N.Nodup) (hi:X.N[i]?=some x) (hx:Loc X.env.scope x) (he:FD C X e F) (hs:swapsWith e (some (.Name x pos')) pos.line X.env=pure false:=by rfl)
    (hf:X.fn x=true\/X.env.scope.names.lookup x=some .local:=by first|exact .inl rfl|exact .inr rfl|assumption):SD C X (.Assign [.Name x pos'] e pos) (own i F) :=
  bF (rM hN hi hx he hs hf) λD O H yy9=>by
   obtain⟨_,H0,⟨U,rfl,r⟩,q⟩:=yy9;exact⟨U,⟨H0,r⟩,by
    unfold own at q;cases e:F U with
    | val xs =>
      rw[e]at q;exact λa vs H1 s1 hn h1=>q _ _ ⟨_,rfl,(r.mono s1).setOwn hn h1⟩
    | exc c=>rw[e]at q;exact dm r q
    | bad=>rw[e]at q;exact q⟩
theorem aD {e:Expr} {pos:Pos} (he:ED C X e F):SD C X (.Return (some e) pos) (ret F) :=
  bF (zB he) λD O H yy10=>by
   obtain⟨_,H0,⟨U,rfl,r⟩,q⟩:=yy10;exact⟨U,⟨H0,r⟩,aW (P:=λz _=>pS C X z H0 D) (λc h=>dm r h) (λh=>h) q λd v H1 s1 h1 q1=>q1 v H1 ((r.mono s1).keep.trans msk_sub) (h1.mono msk_sub)⟩
theorem eW {e:Expr} {pos:Pos} (he:EB C X e F) (hs:swapsWith e none pos.line X.env=pure false:=by rfl):SD C X (.Expr e pos) (drp F) :=
  bF (kO he hs) λD O H yy11=>by
   obtain⟨_,H0,⟨U,rfl,r⟩,q⟩:=yy11;exact⟨U,⟨H0,r⟩,aW (P:=λz _=>pS C X z H0 D) (λc h=>dm r h) (λh=>h) q λd v H1 s1 h1 q1=>q1 _ _ (r.mono s1).e⟩
theorem bj {c:Expr} {a b:List Stmt} {pos:Pos} {Ft:Rho->R Bool} {Fa Fb:Rho->R Out} (hc:TD C X c Ft) (ha:SDs C X a Fa) (hb:SDs C X b Fb):SD C X (.If c a b pos) (iff Ft Fa Fb) :=
  bF (zD hc ha hb) λD O H yy12=>by
   obtain⟨_,H0,⟨U,rfl,r⟩,q⟩:=yy12;exact⟨U,⟨H0,r⟩,kQ (P:=λz _=>pS C X z H0 D) (λc h=>dm r h) (λh=>h) q λc H1 s1 q1=>by
    cases c with
    | true=>exact wd ⟨U,H0,(r.mono s1).e,q1⟩
    | false=>exact we ⟨U,H0,(r.mono s1).e,q1⟩⟩
theorem dU:SD C X st bad:=bF zC λD O H yy13=>by
 obtain⟨_,H0,⟨U,rfl,r⟩,q⟩:=yy13;exact q
def frz (i:Nat) (U:Rho):Rho:=match U[i]? with
 | some (some (.own xs))=>U.set i (some (.shr (.lst xs)))
 | some (some (.tre _ d))=>U.set i (some (.shr d))
 | _=>U
theorem Rel.frz {K:Frag} {H0:Hp} {U:Rho} (r:wD K C H0 U O H) (i:Nat):wD K C H0 (DL.frz i U) O H:=by
 obtain⟨U,rfl,r⟩:=r;unfold DL.frz;split
 ·exact⟨_,rfl,r.freeze ‹_›⟩
 ·exact⟨_,rfl,r.thaw ‹_›⟩
 ·exact r.e
theorem BA {sts:List Stmt} {F:Rho->R Out} (i:Nat) (h:SDs C X sts F):SDs C X sts (λU=>F (frz i U)):=hW h λD O H yy16=>by
 obtain⟨U,H0,r,q⟩:=yy16;exact⟨frz i U,H0,Rel.frz r i,q⟩
def app (i:Nat) (e:Rho->R D):Rho->R Out:=λU=>match U[i]? with
 | some (some (.own xs))=>(e U).bind λd=>if xs.length<LIM then .val (.nx (U.set i (some (.own (xs++[d])))))else .bad
 | _=>.bad
theorem jg {e:Expr} {ap cp pos:Pos} (hv:PE X (.Name x p) (fv i)) (he:ED C X e F)
  (hs:∀{to:TE} {t:TA},PE X (.Name x p) to->PA X [e] t->PS X (.Expr (.Call (.Attribute (.Name x p) "append" ap) [e] [] cp) pos) (nF (tBM X.K "list" wT to t)):=by
   exact λho ha=>kO (qr PySem.F.plainAttrs_list PySem.F.slot_list_append PySem.F.type_list_append qt ho ha))
  (hst:starEach [e] X.env=(false,eval e X.env)::starEach [] X.env:=by rfl) :
  SD C X (.Expr (.Call (.Attribute (.Name x p) "append" ap) [e] [] cp) pos) (app i F) :=
 bF (hs hv (ci he dD hst)) λD O H zz1=>by
  obtain⟨_,H0,⟨U,rfl,r⟩,q⟩:=zz1;unfold app at q;split at q
  ·rename_i xs e0;obtain⟨a,vs,e1,_,h1,h2⟩:=r.at_ i _ e0;refine⟨_,e1,.inl ⟨rfl,_,SqL.of h1⟩,U,⟨H0,r⟩,aW (P:=λz _=>pS C X z H0 D) (λc h=>dm r h) (λh=>h) q λd v H1 s1 h3 q1=>?_⟩;split at q1
   ·rename_i hl;have h2':=h2.mono (aZ (U:=U) (O:=O) s1);refine⟨a,vs,v,rfl,rfl,s1 _ _ h1,by rw[h2.len];exact Nat.lt_of_lt_of_le hl (by decide),?_⟩;exact q1 _ _ ⟨_,rfl,(r.mono s1).write e0 e1 (h2'.app (.cons h3 .nil))⟩
   ·exact q1.elim
  ·exact q.elim
end
def ER:HO->Bool
 | .lst _=>true
 | .ins _ _ _=>true
 | .own _=>true
 | .ext _=>true
 | _=>false
structure Hid (H:Hp) (h:Heap) (zs:List Addr):Prop where
 kind:∀z∈zs,∃o,H z=some o/\ER o=true
 insd:∀z∈zs,∀c dx fs,H z=some (.ins c dx fs)->dx∈zs
 own:∀z∈zs,∀a,H z=some (.own a)->a∈zs
 obj:∀z∈zs,∃o,h.get? z=some o/\∀v,o.data ≠ .cell v
def cut (zs:List Addr) (H:Hp):Hp:=λb=>if b∈zs then none else H b
def jn (zs:List Addr) (H M:Hp):Hp:=λb=>if b∈zs then H b else M b
variable {zs:List Addr}
theorem cut_some {b:Addr}:cut zs H b=some o↔b∉zs/\H b=some o:=by
 unfold cut;by_cases h:b∈zs
 ·rw[if_pos h];exact⟨λe=>(by cases e),λe=>absurd h e.1⟩
 ·rw[if_neg h];exact⟨λe=>⟨h,e⟩,λe=>e.2⟩
theorem g_ {b:Addr} (h:b∈zs):cut zs H b=none:=by unfold cut;rw[if_pos h]
theorem kY {b:Addr} (h:b∈zs):jn zs H M b=H b:=by unfold jn;rw[if_pos h]
theorem cH {b:Addr} (h:b∉zs):jn zs H M b=M b:=by unfold jn;rw[if_neg h]
section
variable {X:Cx} {pins:List (Addr×Obj)} {O:St} {H M:Hp} {s s':Shared} {zs:List Addr}
theorem _root_.L2.Inv.hide (I:Inv X pins O H s) (Z:Hid H s.heap zs):Inv X (pins++dl zs s.heap) O (cut zs H) s:=by
 have nk:∀b o,H b=some o->ER o=false->b∉zs:=λb o e k hb=>by
  obtain⟨o',e',k'⟩:=Z.kind b hb;rw[e]at e';cases e';rw[k]at k';cases k'
 have nz:∀b,H b=none->b∉zs:=λb e hb=>by
  obtain⟨o',e',k'⟩:=Z.kind b hb;rw[e]at e';cases e'
 have none':∀b,H b=none->cut zs H b=none:=λb e=>by unfold cut;split<;>first|rfl|exact e
 have I1:Inv X pins O (cut zs H) s:=by
  refine⟨I.ok,I.os,I.bare,⟨I.base.keep,I.base.slot,λb o q n hx=>none' b (I.base.free b o q n hx),I.base.there,λb xs e=>?_,λb o u e=>?_,λb ps e=>?_⟩,I.loc,I.cell,none' _ I.free,λx c e=>none' _ (I.freeC x c e),λp hp=>?_,λa o e=>?_,I.len⟩
  ·have e1:=I.base.tups b xs e;exact cut_some.mpr ⟨nk b _ e1 rfl,e1⟩
  ·have e1:=I.base.frzs b o u e;exact cut_some.mpr ⟨nk b _ e1 rfl,e1⟩
  ·obtain⟨more,e1⟩:=I.base.tbls b ps e;exact⟨more,cut_some.mpr ⟨nk b _ e1 rfl,e1⟩⟩
  ·obtain⟨h1,h2,h3⟩:=I.pin p hp;exact⟨h1,none' _ h2,h3⟩
  ·obtain⟨h1,h2⟩:=cut_some.mp e;refine(I.hok a o h2).stay (λb u _ q=>q) (λb q=>cut_some.mpr ⟨λhb=>h1 (Z.own b hb a q),q⟩) λb xs q=>cut_some.mpr ⟨nk b _ q rfl,q⟩
 refine I1.pins_of λp hp=>?_;rcases List.mem_append.mp hp with hp|hp
 ·exact I1.pin p (List.mem_append_right _ hp)
 ·obtain⟨h1,h2⟩:=jS hp;obtain⟨o',e',k'⟩:=Z.kind p.1 h1;obtain⟨o,e,d⟩:=Z.obj p.1 h1;rw[h2]at e;cases e;refine⟨h2,g_ h1,λz=>?_,λz=>?_,d⟩
  ·rw[z,I.free]at e';cases e'
  ·rw[I.frn _ z]at e';cases e'
theorem _root_.L2.Inv.showG {pins' pins'':List (Addr×Obj)} (I:Inv X pins O H s) (Z:Hid H s.heap zs) (J:Inv X pins' σ' M s') (h1:∀p∈dl zs s.heap,p∈pins') (h2:∀p∈pins'',p∈pins'/\H p.1=none):Inv X pins'' σ' (jn zs H M) s'/\∀z∈zs,M z=none:=by
 have nk:∀b o,H b=some o->ER o=false->b∉zs:=λb o e k hb=>by
  obtain⟨o',e',k'⟩:=Z.kind b hb;rw[e]at e';cases e';rw[k]at k';cases k'
 have nz:∀b,H b=none->b∉zs:=λb e hb=>by
  obtain⟨o',e',k'⟩:=Z.kind b hb;rw[e]at e';cases e'
 have pin:∀z∈zs,∀o,s.heap.get? z=some o->s'.heap.get? z=some o/\M z=none:=λz hz o e=>by
  have q:=J.pin (z,o) (List.mem_append_right _ (h1 _ (gf hz e)));exact⟨q.1,q.2.1⟩
 have mz:∀z∈zs,M z=none:=λz hz=>by
  obtain⟨o,e,_⟩:=Z.obj z hz;exact(pin z hz o e).2
 have none':∀b,H b=none->M b=none->jn zs H M b=none:=λb e e'=>by rw[cH (nz b e)];exact e'
 refine⟨⟨J.ok,J.os,J.bare,⟨J.base.keep,J.base.slot,λb o q n hx=>none' b (I.base.free b o q n hx) (J.base.free b o q n hx),J.base.there,λb xs e=>?_,λb o u e=>?_,λb ps e=>?_⟩,J.loc,J.cell,none' _ I.free J.free,λx c e=>none' _ (I.freeC x c e) (J.freeC x c e),λp hp=>?_,λa o e=>?_,J.len⟩,mz⟩
 ·rw[cH (nk b _ (I.base.tups b xs e) rfl)];exact J.base.tups b xs e
 ·rw[cH (nk b _ (I.base.frzs b o u e) rfl)];exact J.base.frzs b o u e
 ·obtain⟨more,e1⟩:=I.base.tbls b ps e;rw[cH (nk b _ e1 rfl)];exact J.base.tbls b ps e
 ·rcases List.mem_append.mp hp with hp|hp
  ·obtain⟨q1,q2,q3⟩:=J.pin p (List.mem_append_left _ hp);exact⟨q1,none' _ (I.pin p (List.mem_append_left _ hp)).2.1 q2,q3⟩
  ·obtain⟨q1,q2,q3⟩:=J.pin p (List.mem_append_right _ (h2 p hp).1);exact⟨q1,none' _ (h2 p hp).2 q2,q3⟩
 ·by_cases ha:a∈zs
  ·rw[kY ha]at e;obtain⟨o',e',k'⟩:=Z.kind a ha;rw[e]at e';cases e';have ok:=I.hok a o e;have same:∀u,s.heap.get? a=some u->s'.heap.get? a=some u:=λu q=>(pin a ha u q).1;cases o with
   | lst xs=>obtain⟨z,its,n,r,e1⟩:=ok;exact⟨z,its,n,r,same _ e1⟩
   | own y=>obtain⟨u,e1⟩:=ok;exact⟨u,same _ e1⟩
   | ext φ=>obtain⟨p,⟨u,e1⟩,st⟩:=ok;exact⟨st _ _ p λo q=>same o q,⟨u,same _ e1⟩,st⟩
   | ins c dx fs =>
    obtain⟨d,z,ne,e1,mA,⟨od,es,ep,e2,rest⟩,r⟩:=ok;have hd:dx∈zs:=Z.insd a ha c dx fs e;exact⟨by rw[kY hd];exact d,z,ne,same _ e1,mA,⟨od,es,ep,(pin dx hd _ e2).1,rest⟩,r⟩
   | _=>cases k'
  ·rw[cH ha]at e;refine(J.hok a o e).stay (λb u _ q=>q) (λb q=>?_) λb xs q=>?_
   ·rw[cH λhb=>by rw[mz b hb]at q;cases q];exact q
   ·rw[cH λhb=>by rw[mz b hb]at q;cases q];exact q
theorem _root_.L2.Inv.show' (I:Inv X pins O H s) (Z:Hid H s.heap zs) (J:Inv X (pins++dl zs s.heap) O M s'):Inv X pins O (jn zs H M) s'/\∀z∈zs,M z=none :=
 I.showG Z J (λp hp=>List.mem_append_right _ hp) λp hp=>⟨List.mem_append_left _ hp,(I.pin p (List.mem_append_right _ hp)).2.1⟩
end
def fw (U:RB) (O:St):List Addr:=(List.range U.rho.length).flatMap U.ad
variable {U:RB}
theorem gg {b:Addr} (hb:∀(i:Nat) a,a∈U.ad i->i<U.rho.length):b∈fw U O↔Own U O b:=by
 unfold fw;rw[List.mem_flatMap];exact⟨λ⟨i,_,h⟩=>⟨i,h⟩,λ⟨i,h⟩=>⟨i,List.mem_range.mpr (hb i b h),h⟩⟩
theorem kT (hb:∀(i:Nat) a,a∈U.ad i->i<U.rho.length):msk U O H=cut (fw U O) H:=by
 funext b
 unfold msk cut;by_cases h:Own U O b
 ·rw[if_pos h,if_pos ((gg hb).mpr h)]
 ·rw[if_neg h,if_neg λz=>h ((gg hb).mp z)]
theorem Rel.hid {pins:List (Addr×Obj)} (r:eG C X H0 U O H) (I:Inv X pins O H s):Hid H s.heap (fw U O):=by
 have key:∀z∈fw U O,(∃vs,H z=some (.lst vs))\/∃xs,H z=some (lw z xs):=λz hz=>by
  obtain⟨i,h⟩:=(gg r.bnd).mp hz;exact r.kin i z h
 refine⟨λz hz=>?_,λz hz c dx fs e=>?_,λz hz a e=>?_,λz hz=>?_⟩
 ·rcases key z hz with⟨vs,e⟩|⟨vs,e⟩<;>exact⟨_,e,rfl⟩
 ·rcases key z hz with⟨vs,e'⟩|⟨vs,e'⟩<;>(rw[e]at e';cases e')
 ·rcases key z hz with⟨vs,e'⟩|⟨vs,e'⟩<;>(rw[e]at e';cases e')
 ·rcases key z hz with⟨vs,e'⟩|⟨vs,e'⟩
  ·obtain⟨_,its,n,_,e1⟩:=I.hok z _ e';exact⟨_,e1,λv q=>by cases q⟩
  ·obtain⟨⟨_,_,o,es,ep,e1,_,e2,_⟩,_⟩:=I.hok z _ e';exact⟨o,e1,λv q=>by rw[e2]at q;cases q⟩
def spD (K:Frag) (C:Addr) (n:Nat) (den:List D->R D):Sp:=λvs H Q _=>vs.length=n/\∃ds,HasL K C H vs ds/\match den ds with
 | .val d=>∀v H',Same H H'->Has K C H' v d->Q v H'
 | _=>False
section
variable {C:Addr} {X:Cx}
def noex:R D->R D
 | .val d=>.val d
 | _=>.bad
def cal (n:Nat) (den:List D->R D) (a:Rho->R (List D)):Rho->R D:=λU=>(a U).bind λds=>if ds.length=n then noex (den ds)else .bad
theorem CJ {CX:CXT} {f:Addr} {fd:FuncData} {ps:List Str} {den:List D->R D} {pos:Pos} {e:Expr} {Fa:Rho->R (List D)}
  (F:FnOk X.prog X.w X.K X.mg X.base CX k f fd ps (spD X.K C n den)) (hr:Room k X.A) (hg:Gl X x) (hm:X.mg x=some (.ref f)) (hk:keepIn X.K (.ref f)=true) (hb:Binds X.K fd ps []) (hx:tG CX X E0)
  (ha:AD C X (e::es) Fa) (hdb:(x==("__debug__":Str))=false:=by decide) (he:starEach (e::es) X.env=(false,eval e X.env)::starEach es X.env:=by rfl) (hpl:(backTo pos (starEach es X.env)).any (·.1)=false:=by rfl) :
  ED C X (.Call (.Name x p) (e::es) [] pos) (cal n den Fa):=by
 rintro pins s O H Q I ⟨U,⟨H0,r0⟩,q⟩;refine wpAny_Call_Name_kw (kX I hg hm ?_ hdb);refine callWith_K (h₀:=X.base) I.ok.mod.kin hk (thn (ha pos pins s O H (λvs H1=>∃ds d,ds.length=n/\Same H H1/\jJ C X U O H1 vs ds/\den ds=.val d/\∀v H',Same H H'->dv C X U O H' v d->Q v H') I
  ⟨U,⟨H0,r0⟩,fS (P:=λz H=>pV X (dv C X U O) z O H Q) (λ_ h=>h) (λh=>h) q λds vs H1 s1 h1 q1=>?_⟩) λus s1 ⟨vs,H1,I1,rv,ds,d,hl,s1',h1,e1,q1⟩=>⟨I1.kIn,?_⟩) he hpl
 ·split at q1
  ·rename_i hl;cases e1:den ds with
   | val d=>rw[e1]at q1;exact⟨ds,d,hl,s1,h1,e1,q1⟩
   | exc c=>rw[e1]at q1;exact q1.elim
   | bad=>rw[e1]at q1;exact q1.elim
  ·exact q1.elim
 ·have r1:=r0.mono s1';have Z:=Rel.hid r1 I1;have J:=I1.hide Z;refine thn (vJ (E:=E0) (Q:=λv M'=>Same (cut (fw U O) H1) M'/\Has X.K C M' v d) F hr hb .nil hx J rv ?_) λu s2 ⟨v,M',J2,ru,sm,hv⟩=>?_
  ·rw[List.append_nil];refine⟨h1.len.trans hl,ds,by rw[<- kT r0.bnd];exact h1,?_⟩;rw[e1];exact λv H' s2 h2=>⟨s2,h2⟩
  ·obtain⟨I2,mz⟩:=I1.show' Z J2;have sj:Same H1 (jn (fw U O) H1 M'):=λb o eb=>by
    by_cases hb:b∈fw U O
    ·rw[kY hb];exact eb
    ·rw[cH hb];exact sm b o (cut_some.mpr ⟨hb,eb⟩)
   have em:msk U O (jn (fw U O) H1 M')=M':=by
    rw[kT r0.bnd]
    funext b
    by_cases hb:b∈fw U O
    ·rw[g_ hb,mz b hb]
    ·unfold cut;rw[if_neg hb,cH hb]
   exact⟨v,_,I2,ru,q1 v _ (s1'.trans sj) (by show Has _ _ (msk U O _) v d;rw[em];exact hv)⟩
end
def tgN (i:Nat):D->Rho->Option Rho:=λx U=>some (U.set i (some (.shr x)))
def tg2 (i j:Nat):D->Rho->Option Rho:=λx U=>match x with
 | .tup [a,b]=>some ((U.set i (some (.shr a))).set j (some (.shr b)))
 | _=>none
variable {tg:Expr} {ix:List Nat} {T:D->Rho->Option Rho}
section
variable {C:Addr} {X:Cx}
variable (C X) in
def gtD (ix:List Nat) (T:D->Rho->Option Rho):TG:=λv O H Q=>∃(U:RB) (H0:Hp) (x:D) (U':Rho),eG C X H0 U O H/\dv C X U O H v x/\T x U=some U'/\∀(σ':St) (β:RB),β.rho=U'->(∀j:Nat,β.ad j=if j∈ix then[]else U.ad j)->eG C X H0 β σ' H->(∀j:Nat,j∉ix->σ'[j]?=O[j]?)->Q σ' H
variable (C X) in
def GD (tg:Expr) (ix:List Nat) (T:D->Rho->Option Rho):Prop:=PG X tg (gtD C X ix T)
theorem w5 {t t':TG} (h:PG X tg t) (hw:∀v O H Q,t' v O H Q->t v O H Q):PG X tg t':=λpins s O H v u Q I r q=>h pins s O H v u Q I r (hw v O H Q q)
theorem rL (j:Nat):(U.put i (.shr d) []).ad j=if j=i then[]else U.ad j:=by
 unfold RB.put;dsimp only;split
 ·split<;>rfl
 ·rfl
theorem xg:Same (msk U O H) (msk (U.put i (.shr d) []) σ' H):=λb o eb=>by
 obtain⟨h1,h2⟩:=msk_some.mp eb;refine msk_some.mpr ⟨λ⟨j,z⟩=>?_,h2⟩;rcases fZ z with⟨_,_,z⟩|⟨_,z⟩
 ·cases z
 ·exact h1 ⟨j,z⟩
theorem Cq {pos:Pos} (hN:X.N.Nodup) (hi:X.N[i]?=some x) (hx:Loc X.env.scope x) (hf:X.fn x=true\/X.env.scope.names.lookup x=some .local:=by first|exact .inl rfl|exact .inr rfl|assumption) :
  GD C X (.Name x pos) [i] (tgN i):=w5 (ay hN hi hx hf) λv O H Q zz0=>by
 obtain⟨U,H0,x,U',r,h,e,k⟩:=zz0;cases e;exact k _ _ rfl (λj=>by rw[rL];by_cases e1:j=i<;>simp[e1]) (r.setShr h) λj hj=>List.getElem?_set_ne λz=>hj (by simp[z])
theorem bW {y:Str} {px py pos:Pos} (hc:X.calm=true) (h1:PG X (.Name x px) (i4 i)) (h2:PG X (.Name y py) (i4 j))
  (hs1:(assignEach [.Name x px,.Name y py] X.env).map (·.2)=assign (.Name x px) X.env::(assignEach [.Name y py] X.env).map (·.2):=by rfl)
  (hs2:(assignEach [.Name y py] X.env).map (·.2)=assign (.Name y py) X.env::(assignEach [] X.env).map (·.2):=by rfl)
  (hn:(assignEach [.Name x px,.Name y py] X.env).length=2:=by rfl) (hst:(assignEach [.Name x px,.Name y py] X.env).findIdx? (·.1)=none:=by rfl) :
  GD C X (.Tuple [.Name x px,.Name y py] n pos) [i,j] (tg2 i j):=w5 (D9 hc (ub h1 (ub h2 BQ hs2) hs1) hn hst) λv O H Q zz1=>by
 obtain⟨U,H0,d,U',r,h,e,k⟩:=zz1;unfold tg2 at e;split at e
 ·rename_i a b;cases e;cases h with
  | tup q hl =>
   cases hl with
   | @cons va _ _ _ ha hl =>
    cases hl with
    | @cons vb _ _ _ hb hl =>
     cases hl;refine⟨_,_,rfl,SqT.of (msk_sub _ _ q),rfl,va,_,rfl,vb,_,rfl,rfl,?_⟩;have r1:=r.setShr (i:=i) ha;refine k _ _ rfl (λm=>?_) (r1.setShr (i:=j) (hb.mono xg)) λm hm=>?_
     ·rw[rL,rL];by_cases e1:m=i<;>by_cases e2:m=j<;>simp[e1,e2]
     ·rw[List.getElem?_set_ne λz=>hm (by simp[z]),List.getElem?_set_ne λz=>hm (by simp[z])]
 ·cases e
def asT (T:D->Rho->Option Rho) (e:Rho->R D):Rho->R Out:=λU=>(e U).bind λd=>match T d U with
 | some U'=>.val (.nx U')
 | none=>.bad
theorem zi {e : Expr} {pos : Pos} (he : ED C X e F) (hg : GD C X tg ix T) (hs : swapsWithSole [tg] e pos.line X.env = pure false := by rfl) (hw : swappedStores [tg] e X.env = pure none := by rfl)
    (h1 : (assignEach [tg] X.env).map (·.2) = [assign tg X.env] := by rfl) : SD C X (.Assign [tg] e pos) (asT T F) :=
  bF (rN he hg hs hw h1) fun D O H yy0 => by
   obtain ⟨_, H0, ⟨U, rfl, r⟩, q⟩ := yy0
   exact ⟨U, ⟨H0, r⟩, aW (P := fun z _ => pS C X z H0 D) (fun c h => dm r h) (fun h => h) q fun d v H1 s1 h1 q1 => by
    split at q1
    · rename_i U' e1
      exact ⟨U, H0, d, U', r.mono s1, h1, e1, fun σ' β eb _ r' _ => q1 σ' H1 ⟨β, eb, r'⟩⟩
    · exact q1.elim⟩
structure tF (K:Frag) (C:Addr) (J:It) (xs:List D) (M:Hp):Prop where
 go:∀(i:Nat) x H2,Same M H2->xs[i]?=some x->J.go i H2/\∀v H3,J.yld i H2 v H3->Same H2 H3/\∀U O,(∀b,Own U O b->H2 b≠none)->Same M (msk U O H2)->Has K C (msk U O H3) v x
 stop:∀H2,Same M H2->J.stop xs.length H2
variable (C X) in
def itI (F:Rho->R (List D)):TI:=λO H Rk=>∃U:RB,(∃H0,eG C X H0 U O H)/\match F U with
 | .val xs=>∀J H',Same H H'->tF X.K C J xs (msk U O H')->Rk J H'
 | .exc c=>XE X c O H
 | .bad=>False
variable (C X) in
def ID (tg iter:Expr) (F:Rho->R (List D)):Prop:=PI X tg iter (itI C X F)
theorem ng {e:Expr} {t t':TI} (h:PI X tg e t) (hw:∀O H Q,t' O H Q->t O H Q):PI X tg e t':=λpins s O H R I q=>h pins s O H R I (hw O H R q)
theorem xQ {a:Addr} (e:M a=some (.lst vs)) (h:HasL K C M vs xs):tF K C (Itl K a) xs M where
 go:=λi x H2 s hx=>by
  obtain⟨v,e1,h1⟩:=h.get hx;refine⟨⟨vs,v,SqL.of (s _ _ e),e1⟩,λv' H3 y=>?_⟩;obtain⟨rfl,y⟩:=y;have e2:=y vs (SqL.of (s _ _ e));rw[e1]at e2;cases e2;exact⟨Same.refl _,λU O _ m=>h1.mono m⟩
 stop:=λH2 s=>⟨vs,SqL.of (s _ _ e),by rw[h.len];exact Nat.le_refl _⟩
theorem yV {a:Addr} (e:M a=some (.tup vs)) (h:HasL K C M vs xs):tF K C (Itt K a) xs M where
 go:=λi x H2 s hx=>by
  obtain⟨v,e1,h1⟩:=h.get hx;refine⟨⟨vs,v,SqT.of (s _ _ e),e1⟩,λv' H3 y=>?_⟩;obtain⟨rfl,y⟩:=y;have e2:=y vs (SqT.of (s _ _ e));rw[e1]at e2;cases e2;exact⟨Same.refl _,λU O _ m=>h1.mono m⟩
 stop:=λH2 s=>⟨vs,SqT.of (s _ _ e),by rw[h.len];exact Nat.le_refl _⟩
theorem yW {a:Addr} {ns:List Int} (e:SqL K M a (ns.map V.int)):tF K C (Itl K a) (ns.map D.int) M where
 go:=λi x H2 s hx=>by
  obtain⟨v,e1,h1⟩:=(HasL.ints (K:=K) (C:=C) (H:=M) ns).get hx;refine⟨⟨_,v,s.seq e,e1⟩,λv' H3 y=>?_⟩;obtain⟨rfl,y⟩:=y;have e2:=y _ (s.seq e);rw[e1]at e2;cases e2;exact⟨Same.refl _,λU O _ m=>h1.mono m⟩
 stop:=λH2 s=>⟨_,s.seq e,by simp⟩
def rng (lo:Int) (n:Nat):List D:=(List.range n).map λ(k:Nat)=>D.int (lo+(k:Int))
theorem yX {lo:Int}:tF K C (Itr lo n) (rng lo n) M where
 go:=λi x H2 s hx=>by
  have hi:i<n:=by have:=(List.getElem?_eq_some_iff.mp hx).1;simpa[rng]using this
  refine⟨hi,λv H3 y=>?_⟩;obtain⟨rfl,rfl⟩:=y;refine⟨Same.refl _,λU O _ m=>?_⟩;have:x=.int (lo+(i:Int)):=by
   unfold rng at hx;rw[List.getElem?_map,List.getElem?_range hi]at hx;exact(Option.some.inj hx).symm
  rw[this];exact .int _
 stop:=λH2 s=>by simp[rng,Itr]
theorem D8 {l:Expr} {tl:TE} (hl:PE X l tl):PI X tg l (λO H R=>tl O H λx H1=>∃a,x=.ref a/\(((∃xs,SqL X.K H1 a xs)/\R (Itl X.K a) H1)\/((∃xs,SqT X.K H1 a xs)/\R (Itt X.K a) H1))):=by
 intro pins s O H R I h;refine thn (hl pins s O H _ I h) λv s1 zz3=>?_;obtain⟨x,H1,I1,r1,q1⟩:=zz3;obtain⟨a,e,q1⟩:=q1;subst e;cases r1;rcases q1 with⟨⟨xs,hq⟩,q⟩|⟨⟨xs,hq⟩,q⟩
 ·obtain⟨its,rv,p,hz⟩:=I1.list hq;refine wpAny_pyIter_list p.isList ?_;refine⟨s1.heap.objs.size,[s1.heap.objs.size],_,_,H1,rfl,I1.kept (t':=s1.toks) λb o e=>Heap.get?_push_of_some _ e,qj a _,⟨_,Heap.get?_push_size _ rfl,rfl,rfl⟩,λb hb=>?_,q⟩;have e:b=s1.heap.objs.size:=by simpa using hb
  subst e;exact I1.fpOk (Nat.le_refl _) (I1.hok.fresh (Nat.le_refl _))
 ·obtain⟨its,rv,p,hz⟩:=I1.tuple hq;refine wpAny_pyIter_tuple (show s1.heap.IsTuple a its.toArray from p) ?_;refine⟨s1.heap.objs.size,[s1.heap.objs.size],_,_,H1,rfl,I1.kept (t':=s1.toks) λb o e=>Heap.get?_push_of_some _ e,vv a _,⟨_,Heap.get?_push_size _ rfl,rfl,rfl⟩,λb hb=>?_,q⟩;have e:b=s1.heap.objs.size:=by simpa using hb
  subst e;exact I1.fpOk (Nat.le_refl _) (I1.hok.fresh (Nat.le_refl _))
theorem bG {e:Expr} (h:ED C X e F):ID C X tg e (fIt F):=ng (D8 h) λO H R yy2=>by
 obtain⟨U,⟨H0,r⟩,q⟩:=yy2;exact⟨U,⟨H0,r⟩,by
  unfold fIt at q;cases e:F U with
  | val d =>
    rw[e]at q;intro v H1 s1 h1;cases h1 with
    | lst e1 h1=>exact⟨_,rfl,.inl ⟨⟨_,SqL.of (msk_sub _ _ e1)⟩,q _ H1 s1 (xQ e1 h1)⟩⟩
    | tup e1 h1=>exact⟨_,rfl,.inr ⟨⟨_,SqT.of (msk_sub _ _ e1)⟩,q _ H1 s1 (yV e1 h1)⟩⟩
    | scr e1=>exact⟨_,rfl,.inl ⟨⟨_,msk_sub.seq e1⟩,q _ H1 s1 (yW e1)⟩⟩
    | _=>exact q.elim
  | exc c=>rw[e]at q;exact q
  | bad=>rw[e]at q;exact q⟩
def pG:List D->R (List D)
 | [.int j]=>if -(2 ^ 62)<=j/\j<2 ^ 62 then .val (rng 0 j.toNat)else .bad
 | _=>.bad
def bC (F:Rho->R (List D)):Rho->R (List D):=λU=>(F U).bind pG
theorem bv {pos : Pos} {F : Rho -> R (List D)} (hg : Gl X "range") (hm : X.mg "range" = none) (ha : AD C X [a] F) (hs : starEach [a] X.env = [(false, eval a X.env)] := by rfl) :
    ID C X tg (.Call (.Name "range" p) [a] [] pos) (bC F) := ng (yg hg hm ha hs) fun O H R yy3 => by
     obtain ⟨U, ⟨H0, r⟩, q⟩ := yy3
     exact ⟨U, ⟨H0, r⟩, by
  unfold bC at q
  cases e : F U with
  | val ds =>
    rw [e] at q
    dsimp only [DL.R.bind] at q
    intro vs H1 s1 h1
    unfold pG at q
    split at q
    · rename_i e0
      split at e0
      · rename_i j
        split at e0
        · rename_i hj
          cases e0
          cases h1 with
          | cons a b => cases a; cases b; exact ⟨j, rfl, hj.1, hj.2, q _ H1 s1 yX⟩
        · cases e0
      · cases e0
    · rename_i e0
      split at e0
      · split at e0 <;> cases e0
      · cases e0
    · exact q.elim
  | exc c => rw [e] at q; exact q
  | bad => rw [e] at q; exact q⟩
def bK (T:D->Rho->Option Rho) (F:Rho->R Out):List D->Rho->R Out
 | [],U=>.val (.nx U)
 | x::xs,U=>match T x U with
  | some U1=>(F U1).bind λo=>match o with
   | .nx U2=>bK T F xs U2
   | .ct U2=>bK T F xs U2
   | .bk U2=>.val (.nx U2)
   | .rt d=>.val (.rt d)
  | none=>.bad
def br (src:Rho->R (List D)) (T:D->Rho->Option Rho) (F:Rho->R Out):Rho->R Out:=λU=>(src U).bind λxs=>bK T F xs U
theorem Aq {src:Rho->R (List D)} {F:Rho->R Out} {D:j6} (h:tsD C X (br src T F) D O H):FE (itI C X src) (gtD C X ix T) (tsD C X F) D O H:=by
 obtain⟨_,H0,⟨U,rfl,r⟩,q⟩:=h;refine⟨U,⟨H0,r⟩,?_⟩;unfold br at q;cases e:src U with
 | exc c=>rw[e]at q;exact dm r q
 | bad=>rw[e]at q;exact q
 | val xs =>
  rw[e]at q;intro J H1 s1 wk;have r1:=r.mono s1;have hM:Same H0 (msk U O H1):=r1.keep;refine⟨λi m σ' H'=>m=xs.length-i/\i<=xs.length/\∃U':RB,eG C X (msk U O H1) U' σ' H'/\pS C X (bK T F (xs.drop i) U') H0 D,⟨xs.length,rfl,Nat.zero_le _,U,r1.rebase,q⟩,?_⟩;rintro i m σ' H' ⟨rfl,hi,U',r',q'⟩;have sm:Same (msk U O H1) H':=r'.keep.trans msk_sub;by_cases hlt:i<xs.length
  ·have ex:xs[i]?=some xs[i]:=by simp[hlt]
   have ed:xs.drop i=xs[i]::xs.drop (i+1):=List.drop_eq_getElem_cons hlt;rw[ed]at q';obtain⟨go,yld⟩:=wk.go i _ H' sm ex;refine .inr ⟨go,λO2 H2=>∃U2:RB,eG C X (msk U O H1) U2 O2 H2/\pS C X (bK T F (xs.drop (i+1)) U2) H0 D,λO2 H2 ⟨U2,r2,q2⟩=>⟨xs.length-(i+1),by omega,rfl,hlt,U2,r2,q2⟩,λv H3 y=>?_⟩;obtain⟨s3,hv⟩:=yld v H3 y;have hv':=hv U' σ' (λb ob=>r'.ownAt ob) r'.keep;unfold bK at q';split at q'
   ·rename_i U1 e1;refine⟨U',_,xs[i],U1,r'.mono s3,hv',e1,λO2 β eb _ r2 _=>⟨U1,_,⟨β,eb,r2⟩,?_⟩⟩;cases eF:F U1 with
    | val o =>
     rw[eF]at q';cases o with
     | nx U2=>exact λO4 H4 ⟨β4,e4,r4⟩=>⟨β4,r4,by rw[e4];exact q'⟩
     | ct U2=>exact λO4 H4 ⟨β4,e4,r4⟩=>⟨β4,r4,by rw[e4];exact q'⟩
     | bk U2=>exact λO4 H4 ⟨β4,e4,r4⟩=>q' O4 H4 ⟨β4,e4,r4.base hM⟩
     | rt d=>exact λv4 H4 s4 h4=>q' v4 H4 (hM.trans s4) h4
    | exc c=>rw[eF]at q';exact XS.mono hM q'
    | bad=>rw[eF]at q';exact q'
   ·exact q'.elim
  ·have ei:i=xs.length:=by omega
   subst ei;rw[List.drop_length]at q';exact .inl ⟨wk.stop H' sm,q' σ' H' (r'.base hM).e⟩
theorem bq {iter:Expr} {body:List Stmt} {pos:Pos} {src:Rho->R (List D)} {F:Rho->R Out} (hp:PassesOwn (model X.prog X.w) X.A X.env X.xe) (hc:X.calm=true) (hi:ID C X tg iter src) (hg:GD C X tg ix T) (hb:SDs C X body F)
  (hs:∀x,foldedSetIterable iter X.env x=pure x:=by intro _;rfl):SD C X (.For tg iter body [] pos) (br src T F) :=
 bF (zE hp hc hi hg hb hs) λD O H h=>Aq h
end
def st0 (N:List Str) (ds:List D):Rho:=ds.map (λd=>some (.shr d))++List.replicate (N.length-ds.length) none
def fin:R Out->R D
 | .val (.nx _)=>.val .non
 | .val (.rt d)=>.val d
 | .val _=>.bad
 | .exc c=>.exc c
 | .bad=>.bad
variable {N:List Str}
theorem By {ds:List D} (h:(st0 N ds)[i]?=some (some sl)):∃d,sl=.shr d/\ds[i]?=some d:=by
 unfold st0 at h;by_cases hi:i<ds.length
 ·rw[List.getElem?_append_left (by simpa using hi),List.getElem?_map]at h;cases e:ds[i]? with
  | none=>rw[e]at h;cases h
  | some d=>rw[e]at h;cases h;exact⟨d,rfl,rfl⟩
 ·rw[List.getElem?_append_right (by simpa using hi),List.getElem?_replicate]at h;split at h<;>cases h
theorem ya {ds:List D} (h:HasL K C H vs ds):wD K C H (st0 N ds) (L2.start N vs) H:=by
 have sub:Same H (msk ⟨st0 N ds,λ_=>[]⟩ (L2.start N vs) H):=λb o e=>msk_some.mpr ⟨λ⟨_,z⟩=>(List.not_mem_nil z).elim,e⟩;refine⟨⟨st0 N ds,λ_=>[]⟩,rfl,?_,sub,λi sl e=>?_,λi j a z=>(List.not_mem_nil z).elim,λi a z=>(List.not_mem_nil z).elim,λi a z=>(List.not_mem_nil z).elim⟩
 ·show(st0 N ds).length=_;unfold st0 L2.start;simp[h.len]
 ·obtain⟨d,rfl,e1⟩:=By e;obtain⟨v,e2,h2⟩:=h.get e1;refine⟨v,?_,h2.mono sub⟩;have hi:i<vs.length:=(List.getElem?_eq_some_iff.mp e2).1;unfold L2.start;rw[List.getElem?_append_left (by simpa using hi),List.getElem?_map,e2];rfl
section
variable {P:Program} {w:World} {K:Frag} {mg:Str->Option Value} {base:Heap} {C:Addr}
theorem aV {qual:Str} {f:Addr} {fd:FuncData} {ps:List Str} {den:Rho->R Out} (F:Fun K x qual st f fd) (sc:ax N ps (ao st))
  (hb:∀(cdv:Value) (A:Around) (outer:List Env) (s:Shared) (H:Hp) (E:XK),Room k (A.deeper (envOfC qual (ao st) s.heap.objs.size f cdv)) ->
   SDs C (jb CX0 P w K mg base N qual (ao st) f cdv A outer s H E).nox (cJ st) den) :
  FnOk P w K mg base CX0 (k+1) f fd ps (spD K C ps.length λds=>fin (den (st0 N ds))):=by
 refine F.ok sc (λvs H Q E h=>h.1) (λcdv A outer s H vs Q E hr h=>⟨_,hb cdv A outer s H E hr,?_⟩);obtain⟨_,ds,h,q⟩:=h;refine⟨st0 N ds,H,ya h,?_⟩;dsimp only at q;cases e:den (st0 N ds)with
 | val o =>
  rw[e]at q;cases o with
  | nx U'=>exact λσ' H' ⟨_,_,r⟩=>q _ H' (r.keep.trans msk_sub) .non
  | rt d=>exact λv H' s' h'=>q v H' s' h'
  | bk U'=>exact q.elim
  | ct U'=>exact q.elim
 | exc c=>rw[e]at q;exact q.elim
 | bad=>rw[e]at q;exact q.elim
end
def Gy (scope:Scope) (env:Env) (L:Addr) (cs:List (Str×Addr)):Env :=
 {scope:=relabel scope env,locals:=L,globals:=env.globals,cells:=cs,qual:=env.qual,func:=none,code:=env.code,frame:=env.frame,builtins:=env.builtins }
def EN (o:Option NameKind):Bool:=match o with
 | some .cell=>true
 | _=>false
def kc (o:Option NameKind):Bool:=match o with
 | some .cell=>true
 | some .free=>true
 | _=>false
def cxC (X:Cx) (N':List Str) (scope:Scope) (L:Addr) (cs:List (Str×Addr)) (s:Shared) (H:Hp) (fp:List Addr):Cx :=
 {prog:=X.prog,w:=X.w,K:=X.K,mg:=X.mg,base:=X.base,A:=X.A,N:=N',s₀:=s,H₀:=H,env:=Gy scope X.env L cs,outer:=X.stack,stack:=X.stack,ex:=fp,
  fn:=λx=>EN (scope.names.lookup x),calm:=X.calm,pn:=[],xe:=λ_ _=>False }
def A9 (N:List Str) (env:Env) (sc:Scope):List Str->Nat->Bool
 | [],_=>true
 | x::r,i=>(match sc.names.lookup x with
   | some .free=>(match N[i]? with|some y=>y==x|none=>false)&&kc (env.kindOf x)
   | some .local=>Nat.ble N.length i
   | some .cell=>Nat.ble N.length i
   | _=>true)&&A9 N env sc r (i+1)
def fK (env:Env) (x:Str) (k:NameKind):Bool:=match k with
 | .free=>kc (env.kindOf x)
 | _=>true
def CU (env:Env):List (Str×NameKind)->Bool
 | []=>true
 | p::r=>fK env p.1 p.2&&CU env r
def lK (k:NameKind) (o:Option NameKind):Bool:=match k,o with
 | .local,some .local=>true
 | .local,_=>false
 | .free,some .free=>true
 | .free,_=>false
 | .cell,some .cell=>true
 | .cell,_=>false
 | _,_=>true
def CT (names:List (Str×NameKind)):List (Str×NameKind)->Bool
 | []=>true
 | p::r=>lK p.2 (names.lookup p.1)&&CT names r
theorem Gj {k:NameKind} {o:Option NameKind} (h:lK k o=true) (hk:k=.local\/k=.free\/k=.cell):o=some k:=by
 rcases hk with rfl|rfl|rfl
 ·cases o with
  | none=>cases h
  | some j=>cases j<;>first|rfl|cases h
 ·cases o with
  | none=>cases h
  | some j=>cases j<;>first|rfl|cases h
 ·cases o with
  | none=>cases h
  | some j=>cases j<;>first|rfl|cases h
def wz (N N':List Str) (env:Env) (sc:Scope):Bool:=A9 N env sc N' 0&&(CU env sc.names&&(CT sc.names sc.names&&(Nat.ble N.length N'.length&&(match sc.kind with | .function=>true|_=>false))))
theorem sw {o:Option NameKind} (h:kc o=true):o=some .cell\/o=some .free:=by
 unfold kc at h;split at h<;>simp_all
theorem xM {N:List Str} {env:Env} {sc:Scope}:∀{l:List Str} {k i:Nat} {x:Str},A9 N env sc l k=true->l[i]?=some x ->
  (sc.names.lookup x=some .free->N[k+i]?=some x/\kc (env.kindOf x)=true)/\((sc.names.lookup x=some .local\/sc.names.lookup x=some .cell)->N.length<=k+i)
 | [],_,_,_,_,e=>by simp at e
 | y::r,k,0,x,h,e=>by
  simp at e;subst e;rw[A9,Bool.and_eq_true]at h;obtain⟨h,_⟩:=h;refine⟨λz=>?_,λz=>?_⟩
  ·rw[z]at h;simp only[Bool.and_eq_true]at h;obtain⟨h1,h2⟩:=h;refine⟨?_,h2⟩;split at h1
   ·rename_i w e1;rw[Nat.add_zero,e1,beq_iff_eq.mp h1]
   ·cases h1
  ·rcases z with z|z<;>(rw[z]at h;exact Nat.le_of_ble_eq_true h)
 | y::r,k,i+1,x,h,e=>by
  rw[A9,Bool.and_eq_true]at h;have q:=xM (k:=k+1) (i:=i) (x:=x) h.2 (by simpa using e);rw[show k+(i+1)=k+1+i by omega];exact q
theorem tm {env:Env}:∀{l:List (Str×NameKind)} {x:Str},CU env l=true->(x,NameKind.free)∈l->kc (env.kindOf x)=true
 | [],_,_,h=>by cases h
 | p::r,x,h,m=>by
  have h:fK env p.1 p.2=true/\CU env r=true:=Bool.and_eq_true_iff.mp h;rcases List.mem_cons.mp m with e|m
  ·subst e;exact h.1
  ·exact tm h.2 m
theorem nq {names:List (Str×NameKind)}:∀{l:List (Str×NameKind)} {x:Str} {k:NameKind},CT names l=true->(x,k)∈l->(k=.local\/k=.free\/k=.cell)->names.lookup x=some k
 | [],_,_,_,h,_=>by cases h
 | p::r,x,k,h,m,hk=>by
  have h:lK p.2 (names.lookup p.1)=true/\CT names r=true:=Bool.and_eq_true_iff.mp h;rcases List.mem_cons.mp m with e|m
  ·subst e;exact Gj h.1 hk
  ·exact nq h.2 m hk
def cSt (x:Str) (k:NameKind) (o:Option Addr) (acc:List (Str×Addr)):List (Str×Addr):=match k,o with
 | .free,some c=>(x,c)::acc
 | _,_=>acc
def dO (env:Env):List (Str×NameKind)->List (Str×Addr)->List (Str×Addr)
 | [],acc=>acc
 | p::r,acc=>dO env r (cSt p.1 p.2 (env.cells.lookup p.1) acc)
theorem tz {k:NameKind} {o:Option Addr} {acc:List (Str×Addr)} (h:k ≠ .free):cSt x k o acc=acc:=by
 cases k with
 | free=>exact absurd rfl h
 | _=>rfl
theorem o8 {k:NameKind} {acc:List (Str×Addr)}:cSt x k none acc=acc:=by cases k<;>rfl
theorem xK {env:Env} {scope:Scope} (h:∀x,(x,NameKind.free)∈scope.names->∃c,env.cells.lookup x=some c):closureFor scope env=pure (dO env scope.names []):=by
 unfold closureFor;have gen:∀(l:List (Str×NameKind)) (acc:List (Str×Addr)) (f:Str×NameKind->List (Str×Addr)->Sem (ForInStep (List (Str×Addr)))),(∀x,(x,NameKind.free)∈l->∃c,env.cells.lookup x=some c) ->
   (∀n k cs,f (n,k) cs=if(k==NameKind.free)=true then(do let a <- cellOf env n;pure (ForInStep.yield ((n,a)::cs)))else pure (ForInStep.yield cs))->forIn l acc f=pure (dO env l acc):=by
  intro l
  induction l with
  | nil=>intro acc f _ _;rfl
  | cons y r ih =>
   intro acc f hc hf;obtain⟨n,k⟩:=y;rw[List.forIn_cons,hf];have ih':=λacc=>ih acc f (λx hx=>hc x (List.mem_cons_of_mem _ hx)) hf;by_cases hk:k=.free
   ·subst hk;obtain⟨c,e⟩:=hc n List.mem_cons_self;rw[if_pos (by rfl)];unfold cellOf;rw[e];simp only[pure_bind];rw[ih'];show pure (dO env r ((n,c)::acc))=pure (dO env r (cSt n .free (env.cells.lookup n) acc));rw[e];rfl
   ·have hb:(k==NameKind.free)=false:=by simpa using hk
    rw[hb,if_neg Bool.false_ne_true,pure_bind];show forIn r acc f=_;rw[ih'];show _=pure (dO env r (cSt n k (env.cells.lookup n) acc));rw[tz hk]
 dsimp only;rw[gen scope.names [] _ h]
 ·rfl
 ·intro n k cs;cases hb:k==NameKind.free<;>simp[hb]
theorem o7 {env:Env}:∀{l:List (Str×NameKind)} {acc:List (Str×Addr)} {x:Str} {c:Addr},(dO env l acc).lookup x=some c->(∀c',acc.lookup x=some c'->env.cells.lookup x=some c')->env.cells.lookup x=some c
 | [],acc,x,c,e,h=>h c e
 | (y,k)::r,acc,x,c,e,h=>by
  have e:(dO env r (cSt y k (env.cells.lookup y) acc)).lookup x=some c:=e;refine o7 e λc' e'=>?_;by_cases hk:k=.free
  ·subst hk;cases e0:env.cells.lookup y with
   | none=>rw[e0,o8]at e';exact h c' e'
   | some c0 =>
    rw[e0]at e';have e':((y,c0)::acc).lookup x=some c':=e';rw[List.lookup_cons]at e';cases hb:x==y with
    | true=>rw[hb]at e';cases e';rw[beq_iff_eq.mp hb];exact e0
    | false=>rw[hb]at e';exact h c' e'
  ·rw[tz hk]at e';exact h c' e'
theorem mf {env:Env} {x:Str} {c:Addr} (hc:env.cells.lookup x=some c):∀{l:List (Str×NameKind)} {acc:List (Str×Addr)},((x,NameKind.free)∈l\/acc.lookup x=some c)->(dO env l acc).lookup x=some c
 | [],acc,h=>h.elim (λz=>by cases z) id
 | (y,k)::r,acc,h=>by
  show(dO env r (cSt y k (env.cells.lookup y) acc)).lookup x=some c;refine mf hc ?_;rcases h with h|h
  ·rcases List.mem_cons.mp h with e|h
   ·cases e;right;rw[hc];show((x,c)::acc).lookup x=some c;rw[List.lookup_cons,beq_self_eq_true]
   ·exact .inl h
  ·right;by_cases hk:k=.free
   ·subst hk;cases e0:env.cells.lookup y with
    | none=>rw[o8];exact h
    | some c0 =>
     show((y,c0)::acc).lookup x=some c;rw[List.lookup_cons];cases hb:x==y with
     | true=>rw[<- beq_iff_eq.mp hb,hc]at e0;exact e0.symm
     | false=>exact h
   ·rw[tz hk];exact h
theorem nr:∀{names:List (Str×NameKind)} {n:Nat} {acc:List (Str×Addr)} {x:Str} {c:Addr},(cellsFrom n names acc).lookup x=some c->acc.lookup x=some c\/(n<=c/\(x,NameKind.cell)∈names)
 | [],_,_,_,_,e=>.inl e
 | (y,k)::r,n,acc,x,c,e=>by
  unfold cellsFrom at e;split at e
  ·rename_i hk;rcases nr e with q|⟨q,m⟩
   ·rw[List.lookup_cons]at q;cases hb:x==y with
    | true=>rw[hb]at q;cases q;rw[beq_iff_eq.mp hb,beq_iff_eq.mp hk];exact .inr ⟨Nat.le_refl _,List.mem_cons_self⟩
    | false=>rw[hb]at q;exact .inl q
   ·exact .inr ⟨Nat.le_of_succ_le q,List.mem_cons_of_mem _ m⟩
  ·rcases nr e with q|⟨q,m⟩
   ·exact .inl q
   ·exact .inr ⟨q,List.mem_cons_of_mem _ m⟩
theorem tq:∀{names:List (Str×NameKind)} {n:Nat} {acc:List (Str×Addr)} {x:Str},(x,NameKind.cell)∉names->(cellsFrom n names acc).lookup x=acc.lookup x
 | [],_,_,_,_=>rfl
 | (y,k)::r,n,acc,x,h=>by
  unfold cellsFrom;split
  ·rename_i hk;rw[tq λm=>h (List.mem_cons_of_mem _ m),List.lookup_cons];cases hb:x==y with
   | true=>exact absurd (by rw[beq_iff_eq.mp hb,beq_iff_eq.mp hk];exact List.mem_cons_self) h
   | false=>rfl
  ·exact tq λm=>h (List.mem_cons_of_mem _ m)
theorem Bq {M:Model} {A:Around} {E:Value->Shared->Prop} {scope:Scope} {cl:List (Str×Addr)} {env:Env} {Q:Env->Shared->Prop}
  (h:Q { scope:=scope,locals:=s.heap.objs.size,globals:=env.globals,cells:=cellsFrom (s.heap.objs.size+1) scope.names cl,qual:=env.qual,func:=none,code:=env.code,frame:=env.frame,builtins:=env.builtins }
   {s with heap:=pushCells (s.heap.push { cls:=.type "dict",data:=.dict #[] }) scope.names }):wpAny M A (newFunctionEnv scope env.globals cl [] env.qual none .none (some env)) Q E s:=by
 simp only[newFunctionEnv,Option.isSome_some,if_true];refine wpAny_bind (wpAny_alloc ?_);refine wpAny_bind (wpAny_layCells _ (λname kind cells=>by cases hkc:kind==NameKind.cell<;>simp[hkc]) _ _ _ _ ?_);rw[show({ s with heap:=s.heap.push { cls:=.type "dict",data:=.dict #[] } }:Shared).heap.objs.size=s.heap.objs.size+1 from Heap.size_push ..];exact wpAny_pure h
structure C5 (ix:List Nat) (T:D->Rho->Option Rho):Prop where
 len:∀x U U',T x U=some U'->U'.length=U.length
 out:∀x U U',T x U=some U'->∀j:Nat,j∉ix->U'[j]?=U[j]?
 shr:∀x U U',T x U=some U'->∀(j:Nat) sl,j∈ix->U'[j]?=some (some sl)->Ak sl=false
theorem bu:C5 [i] (tgN i) where
 len:=λx U U' e=>by cases e;simp
 out:=λx U U' e j hj=>by cases e;exact List.getElem?_set_ne λz=>hj (by simp[z])
 shr:=λx U U' e j sl hj h=>by
  cases e;have:j=i:=by simpa using hj
  subst this;rw[List.getElem?_set]at h;simp only[if_true]at h;split at h<;>cases h
  rfl
theorem wL {U:Rho} (h:(U.set i (some (.shr d)))[j]?=some (some sl)) (hn:i≠j->Ak sl=false):Ak sl=false:=by
 by_cases hj:i=j
 ·subst hj;rw[List.getElem?_set]at h;simp only[if_true]at h;split at h<;>cases h
  rfl
 ·exact hn hj
theorem nC:C5 [i,j] (tg2 i j) where
 len:=λx U U' e=>by
  unfold tg2 at e;split at e
  ·cases e;simp
  ·cases e
 out:=λx U U' e k hk=>by
  unfold tg2 at e;split at e
  ·cases e;rw[List.getElem?_set_ne λz=>hk (by simp[z]),List.getElem?_set_ne λz=>hk (by simp[z])]
  ·cases e
 shr:=λx U U' e k sl hk h=>by
  unfold tg2 at e;split at e
  ·cases e;refine wL h λhj=>?_;rw[List.getElem?_set_ne hj]at h;refine wL h λhi=>?_;simp at hk;rcases hk with rfl|rfl
   ·exact absurd rfl hi
   ·exact absurd rfl hj
  ·cases e
def noE {Y:Type}:R Y->R Y
 | .val a=>.val a
 | _=>.bad
def jD (T:D->Rho->Option Rho) (t:Rho->R Bool) (e:Rho->R D):List D->Rho->R (List D)
 | [],_=>.val []
 | x::xs,U=>match T x U with
  | some U1=>(noE (t U1)).bind λb=>if b=true then(noE (e U1)).bind λd=>(jD T t e xs U).bind λds=>.val (d::ds)else jD T t e xs U
  | none=>.bad
variable {C:Addr} {X:Cx}
variable (C X) in
def vu (ifs:List Expr) (t:Rho->R Bool):Prop:=∀(pins:List (Addr×Obj)) (s:Shared) (O:St) (H:Hp) (Q:Bool->Hp->Prop),Inv X pins O H s->ttD C X t O H Q ->
 wpAny (model X.prog X.w) X.A (forIn ifs true λc r=>if r=true then do let ok <- isTrue c X.env (eval c X.env);pure (ForInStep.yield ok)else pure (ForInStep.yield r)) (TP X pins O Q) X.xe s
def tT:Rho->R Bool:=λ_=>.val true
theorem aX:vu C X [] tT:=λpins s O H Q I zz0=>by
 obtain⟨U,r,q⟩:=zz0;rw[List.forIn_nil];exact wpAny_pure ⟨H,I,q H (Same.refl _)⟩
theorem xo {c:Expr} {t:Rho->R Bool} (h:TD C X c t):vu C X [c] t:=λpins s O H Q I q=>by
 rw[List.forIn_cons,if_pos rfl];refine wpAny_bind (wpAny_bind (thn (h pins s O H Q I q) λb s1 z=>wpAny_pure ?_));show wpAny _ _ (forIn [] b _) _ _ s1;rw[List.forIn_nil];exact wpAny_pure z
def RB.ext (U:RB) (m:Nat):RB:=⟨U.rho++List.replicate m none,U.ad⟩
theorem z8 {β:RB} (h:∀j,β.ad j=U.ad j):msk β σ'=msk U O:=by
 have e:β.ad=U.ad:=funext h
 funext G b
 unfold msk Own;rw[e]
theorem BJ {m:Nat} (r:Rel K C H0 U O H) (hl:σ'.length=U.rho.length+m) (hp:∀j:Nat,j<U.rho.length->σ'[j]?=O[j]?) :
  Rel K C H0 (U.ext m) σ' H/\msk (U.ext m) σ'=msk U O:=by
 have at':∀(i:Nat) sl,(U.rho++List.replicate m none)[i]?=some (some sl)->U.rho[i]?=some (some sl)/\i<U.rho.length:=λi sl e=>by
  by_cases hi:i<U.rho.length
  ·rw[List.getElem?_append_left hi]at e;exact⟨e,hi⟩
  ·rw[List.getElem?_append_right (by omega),List.getElem?_replicate]at e;split at e<;>cases e
 have em:msk (U.ext m) σ'=msk U O:=z8 λ_=>rfl;refine⟨⟨?_,by rw[em];exact r.keep,λi sl e=>?_,r.inj,r.kin,λi a z=>?_⟩,em⟩
 ·show(U.rho++List.replicate m none).length=_;simp[hl]
 ·obtain⟨e1,hi⟩:=at' i sl e;rw[em,hp i hi];exact r.at_ i sl e1
 ·show i<(U.rho++List.replicate m none).length;rw[List.length_append];exact Nat.lt_of_lt_of_le (r.bnd i a z) (Nat.le_add_right _ _)
theorem EA {β:RB} {O1:St} (h:∀j:Nat,β.ad j=if j∈ix then[]else U.ad j) (hix:∀j∈ix,U.ad j=[]):msk β O1=msk U O:=z8 λj=>by
 rw[h j];split
 ·exact(hix j ‹_›).symm
 ·rfl
end DL
namespace DL
open PySem PySem.Spec PyProof.Rows L2
variable {scope:Scope} {env:Env}
theorem tf {prog:Program} {w:World} {A:Around} {R:Result->Shared->Prop} {s:Shared} {elt target iter:Expr} {ifs:List Expr} {pos:Pos} {it acc:Value} (I:Nat->Shared->Prop)
  (lJ:∀n s,I n s->wpAny (model prog w) A (pyNext it) (λr s₁=>match r with
   | none=>R (.ok .next) s₁
   | some v=>wpAny (model prog w) A (letOwnedTupleGo target it v) (λ_ s₀=>wpAny (model prog w) A (assign target env v) (λ_ s₂ =>
     wpAny (model prog w) A (forIn ifs true λc r=>if r=true then do let ok <- isTrue c env (eval c env);pure (ForInStep.yield ok)else pure (ForInStep.yield r)) (λok s₃ =>
      if ok=true then wpAny (model prog w) A (eval elt env) (λx s₄ =>
       wpAny (model prog w) A (call (.builtin "list.append") [acc,x]) (λ_ s₅=>∃m,m<n/\I m s₅) (λ_ _=>False) s₄) (λ_ _=>False) s₃
      else ∃m,m<n/\I m s₃) (λ_ _=>False) s₂) (λ_ _=>False) s₀) (λ_ _=>False) s₁) (λ_ _=>False) s)
  (n:Nat) (h:I n s):codeAny (model prog w) A (.compLoop (.ListComp elt [⟨target,iter,ifs,0⟩] scope pos) 0 it acc env) R s:=by
 refine codeAny_loop rfl I (λn s hI=>?_) n h;show wpAny _ A ((compTurn (.ListComp elt [⟨target,iter,ifs,0⟩] scope pos) 0 it acc env).onRaise (λx=>do noteFrame x env;theTreesLotGoes x)) _ _ s;refine wpAny_noted ?_;rw[compTurn_list];refine wpAny_bind (wpAny_standAt (wpAny_bind (wpAny_mono (lJ n s hI) (λr s₁ h₁=>?_) λ_ _ h'=>h'.elim)));cases r with
 | none=>exact wpAny_pure h₁
 | some v =>
  refine wpAny_bind (wpAny_mono h₁ (λ_ s₀ h₀=>?_) λ_ _ h'=>h'.elim);refine wpAny_bind (wpAny_mono h₀ (λ_ s₂ h₂=>wpAny_bind (wpAny_mono h₂ (λok s₃ h₃=>?_) λ_ _ h'=>h'.elim)) λ_ _ h'=>h'.elim);cases ok with
  | false=>exact wpAny_pure ⟨rfl,h₃⟩
  | true =>
   exact wpAny_bind (wpAny_bind (wpAny_mono h₃ (λx s₄ h₄=>wpAny_bind (wpAny_mono h₄ (λ_ s₅ h₅=>wpAny_pure (wpAny_pure ⟨rfl,h₅⟩)) λ_ _ h'=>h'.elim)) λ_ _ h'=>h'.elim))
theorem wA:∀{names:List (Str×NameKind)} {n:Nat} {acc:List (Str×Addr)},(∀x y c,acc.lookup x=some c->acc.lookup y=some c->x=y)->(∀x c,acc.lookup x=some c->c<n) ->
  ∀x y c,(cellsFrom n names acc).lookup x=some c->(cellsFrom n names acc).lookup y=some c->x=y
 | [],_,_,h,_=>h
 | (z,k)::r,n,acc,h,hb=>by
  unfold cellsFrom;split
  ·refine wA (λx y c e1 e2=>?_) (λx c e=>?_)
   ·rw[List.lookup_cons]at e1 e2;cases b1:x==z with
    | true =>
     rw[b1]at e1;cases e1;cases b2:y==z with
     | true=>rw[beq_iff_eq.mp b1,beq_iff_eq.mp b2]
     | false=>rw[b2]at e2;exact absurd (hb y _ e2) (Nat.lt_irrefl _)
    | false =>
     rw[b1]at e1;cases b2:y==z with
     | true=>rw[b2]at e2;cases e2;exact absurd (hb x _ e1) (Nat.lt_irrefl _)
     | false=>rw[b2]at e2;exact h x y c e1 e2
   ·rw[List.lookup_cons]at e;cases b1:x==z with
    | true=>rw[b1]at e;cases e;exact Nat.lt_succ_self _
    | false=>rw[b1]at e;exact Nat.lt_succ_of_lt (hb x c e)
  ·exact wA h hb
theorem tu:∀{names:List (Str×NameKind)} {h:Heap} {acc:List (Str×Addr)} {x:Str} {c:Addr},(cellsFrom h.objs.size names acc).lookup x=some c->acc.lookup x=some c\/(pushCells h names).IsCell c none
 | [],_,_,_,_,e=>.inl e
 | (y,k)::r,h,acc,x,c,e=>by
  unfold cellsFrom at e;unfold pushCells;split at e
  ·rename_i hk;rw[if_pos hk];have e':(cellsFrom (h.push { cls:=.type "cell",data:=.cell none }).objs.size r ((y,h.objs.size)::acc)).lookup x=some c:=by rw[Heap.size_push];exact e
   rcases tu e' with q|q
   ·rw[List.lookup_cons]at q;cases b1:x==y with
    | true =>
     rw[b1]at q;cases q;exact .inr ⟨_,pushCells_keeps r _ _ _ (Heap.get?_push_size _ rfl),rfl⟩
    | false=>rw[b1]at q;exact .inl q
   ·exact .inr q
  ·rename_i hk;rw[if_neg hk];exact tu e
theorem qJ {env:Env}:∀{l:List (Str×NameKind)} {acc:List (Str×Addr)} {x:Str} {c:Addr},(dO env l acc).lookup x=some c->acc.lookup x=some c\/(x,NameKind.free)∈l
 | [],acc,x,c,e=>.inl e
 | (y,k)::r,acc,x,c,e=>by
  have e:(dO env r (cSt y k (env.cells.lookup y) acc)).lookup x=some c:=e;rcases qJ e with q|q
  ·by_cases hk:k=.free
   ·subst hk;cases e0:env.cells.lookup y with
    | none=>rw[e0,o8]at q;exact .inl q
    | some c0 =>
     rw[e0]at q;have q:((y,c0)::acc).lookup x=some c:=q;rw[List.lookup_cons]at q;cases hb:x==y with
     | true=>rw[beq_iff_eq.mp hb];exact .inr List.mem_cons_self
     | false=>rw[hb]at q;exact .inl q
   ·rw[tz hk]at q;exact .inl q
  ·exact .inr (List.mem_cons_of_mem _ q)
def reK (env:Env) (n:Str) (k:NameKind):NameKind:=if(k == .free&&env.scope.kind == .function&&env.kindOf n==some .cell)=true then .cell else k
theorem wQ {env:Env}:∀{names:List (Str×NameKind)} {x:Str},
  (names.map λ(p:Str×NameKind)=>if(p.2 == .free&&env.scope.kind == .function&&env.kindOf p.1==some .cell)=true then(p.1,NameKind.cell)else(p.1,p.2)).lookup x=(names.lookup x).map (reK env x)
 | [],_=>rfl
 | (n,k)::r,x=>by
  have ih:=wQ (env:=env) (names:=r) (x:=x);rw[List.map_cons];have e:(if(k == .free&&env.scope.kind == .function&&env.kindOf n==some .cell)=true then(n,NameKind.cell)else(n,k))=(n,reK env n k):=by
   unfold reK;split<;>rfl
  show List.lookup x ((if(k == .free&&env.scope.kind == .function&&env.kindOf n==some .cell)=true then(n,NameKind.cell)else(n,k))::_)=_;rw[e,List.lookup_cons,List.lookup_cons];cases hb:x==n with
  | true=>rw[beq_iff_eq.mp hb];rfl
  | false=>exact ih
theorem iB {x:Str}:(relabel scope env).names.lookup x=(scope.names.lookup x).map (reK env x):=wQ
theorem lR {x:Str} {k:NameKind}:(k=.free/\(reK env x k=.free\/reK env x k=.cell))\/(k ≠ .free/\reK env x k=k):=by
 unfold reK;by_cases hk:k=.free
 ·subst hk;left;refine⟨rfl,?_⟩;split<;>simp
 ·right;refine⟨hk,?_⟩;have:(k==NameKind.free)=false:=by simpa using hk
  rw[this];rfl
variable {H:Hp}
theorem CP:cut [] H=H:=by
 funext b
 unfold cut;rw[if_neg List.not_mem_nil]
variable {O:St}
theorem kS {U:RB} {zs:List Addr}:msk U O (cut zs H)=cut zs (msk U O H):=by
 funext b
 unfold msk cut;by_cases h:Own U O b<;>by_cases h':b∈zs<;>simp[h,h']
theorem td {zs:List Addr}:Same (cut zs H) H:=λb o e=>(cut_some.mp e).2
theorem lQ {H':Hp} {b:Addr} (s:Same H H') (h:H' b=none):H b=none:=by
 cases e:H b with
 | none=>rfl
 | some o=>rw[s b o e]at h;cases h
section
variable {C:Addr} {X:Cx}
def pK (C:Addr) (X:Cx) (k:OK) (U:RB) (r:R D) (O:St) (H:Hp) (Q:VK):Prop:=match r with
 | .val d=>∀v H' A,Same H H'->(∀a∈A,H a=none)->Tre X.K C (cut A (msk U O H')) H' k v d A->Q v H'
 | .exc c=>XE X c O H
 | .bad=>False
variable (C X) in
def teK (k:OK) (F:Rho->R D):TE:=λO H Q=>∃U:RB,(∃H0,eG C X H0 U O H)/\pK C X k U (F U) O H Q
variable (C X) in
def KD (k:OK) (e:Expr) (F:Rho->R D):Prop:=PE X e (teK C X k F)
theorem Ag {e:Expr} {F:Rho->R D} (h:ED C X e F):KD C X .s e F:=aR h λO H Q ⟨U,r,q⟩=>⟨U,r,by
 cases z:F U with
 | val d=>rw[z]at q;exact λv H' s h=>q v H' [] s (λa ha=>by cases ha) (.s (by rw[CP];exact h))
 | exc c=>rw[z]at q;exact q
 | bad=>rw[z]at q;exact q⟩
theorem Gn {e:Expr} {F:Rho->R (List D)} (h:FD C X e F):KD C X (.l .s) e (eLs F):=aR h λO H Q ⟨U,⟨H0,r⟩,q⟩=>⟨U,⟨H0,r⟩,by
 unfold eLs at q;cases z:F U with
 | val xs =>
  rw[z]at q;intro a vs H1 s1 hn h1;refine q _ _ [a] (s1.trans (aP hn)) (λb hb=>by cases List.mem_singleton.mp hb;exact lQ s1 hn) (.l aY (TreP.of (h1.mono λb o e=>cut_some.mpr ⟨λhb=>?_,aZ (aP hn) b o e⟩)) List.not_mem_nil);cases List.mem_singleton.mp hb;rw[(msk_some.mp e).2]at hn;cases hn
 | exc c=>rw[z]at q;exact q
 | bad=>rw[z]at q;exact q⟩
def trS (i:Nat) (k:OK) (e:Rho->R D):Rho->R Out:=λU=>(e U).bind λd=>.val (.nx (U.set i (some (.tre k d))))
theorem Rel.setTre {K:Frag} {H0 H':Hp} {U:RB} (r:Rel K C H0 U O H) {i:Nat} {k:OK} {v:V} {d:D} {A:List Addr} (s:Same H H') (hA:∀a∈A,H a=none) (h:Tre K C (cut A (msk U O H')) H' k v d A) :
  Rel K C H0 (U.put i (.tre k d) A) (O.set i (some v)) H':=by
 refine r.put m7 (λj hj=>List.getElem?_set_ne λz=>hj z.symm) (λa ha=>.inr (hA a ha)) (λj _=>.of s) (λb o e=>s b o (msk_some.mp e).2) (λa ha=>.inl (h.lists a ha)) λhi _=>⟨v,A,rq (by rw[<- r.len];exact hi),λa ha=>ha,h.stay (λb o e=>?_) (.of (Same.refl _))⟩;obtain⟨h1,h2⟩:=cut_some.mp e;obtain⟨h3,h4⟩:=msk_some.mp h2;refine msk_some.mpr ⟨λ⟨j,z⟩=>?_,h4⟩;rcases fZ z with⟨_,_,z⟩|⟨_,z⟩
 ·exact h1 z
 ·exact h3 ⟨j,z⟩
end
variable {C:Addr} {X:Cx}
theorem CO {a:Addr} {o:HO} (h:H a=none):cut [a] (upd H a o)=H:=by
 funext b
 unfold cut;by_cases hb:b=a
 ·rw[if_pos (by simp[hb]),hb,h]
 ·rw[if_neg (by simp[hb]),az hb]
theorem Br {a:Addr} {o:HO} (h:H a=some o):upd (cut [a] H) a o=H:=by
 funext b
 by_cases hb:b=a
 ·rw[hb,aY,h]
 ·rw[az hb];unfold cut;rw[if_neg (by simp[hb])]
theorem wx {N':List Str} {n:Nat} (hchk:wz X.N N' X.env scope=true) (hN:N'.length=X.N.length+n)
  {pins:List (Addr×Obj)} {H3:Hp} {s3:Shared} {fp:List Addr} (I3:Inv X pins O H3 s3) (hfp:∀b∈fp,b<s3.heap.objs.size) (f3:∀b∈fp,qh X pins H3 b) :
  Inv (cxC X N' scope s3.heap.objs.size (cellsFrom (s3.heap.objs.size+1) scope.names (dO X.env scope.names [])) s3 H3 fp) [] (O++List.replicate n none) H3
   {s3 with heap:=pushCells (s3.heap.push { cls:=.type "dict",data:=.dict #[] }) scope.names }:=by
 obtain⟨c1,hchk⟩:=Bool.and_eq_true_iff.mp hchk;obtain⟨c2,hchk⟩:=Bool.and_eq_true_iff.mp hchk;obtain⟨c3,hchk⟩:=Bool.and_eq_true_iff.mp hchk;obtain⟨c4,c5⟩:=Bool.and_eq_true_iff.mp hchk;have hkind:scope.kind=.function:=by
  revert c5;cases scope.kind<;>simp
 have keep:∀b o,s3.heap.get? b=some o->(pushCells (s3.heap.push { cls:=.type "dict",data:=.dict #[] }) scope.names).get? b=some o:=λb o e=>pushCells_keeps _ _ b o (Heap.get?_push_of_some _ e);have I4:Inv X pins O H3 { s3 with heap:=pushCells (s3.heap.push { cls:=.type "dict",data:=.dict #[] }) scope.names }:=I3.kept (t':=s3.toks) keep;have sz:(s3.heap.push { cls:=.type "dict",data:=.dict #[] }).objs.size=s3.heap.objs.size+1:=Heap.size_push ..;have fr:∀x,(x,NameKind.free)∈scope.names->∃c,X.env.cells.lookup x=some c:=λx hx=>I3.ok.has x (sw (tm c2 hx));have cl_old:∀x c,(dO X.env scope.names []).lookup x=some c->X.env.cells.lookup x=some c:=λx c e=>o7 e λc' e'=>by cases e'
 have cl_lt:∀x c,(dO X.env scope.names []).lookup x=some c->c<s3.heap.objs.size:=λx c e=>by
  obtain⟨v,q⟩:=I3.cell x c (cl_old x c e);exact q.lt
 have look:∀x c,(cellsFrom (s3.heap.objs.size+1) scope.names (dO X.env scope.names [])).lookup x=some c ->
   X.env.cells.lookup x=some c\/(s3.heap.objs.size+1<=c/\(x,NameKind.cell)∈scope.names/\(pushCells (s3.heap.push { cls:=.type "dict",data:=.dict #[] }) scope.names).IsCell c none):=λx c e=>by
  rcases nr e with q|⟨q,m⟩
  ·exact .inl (cl_old x c q)
  ·rcases tu (h:=s3.heap.push { cls:=.type "dict",data:=.dict #[] }) (by rw[sz];exact e)with z|z
   ·exact absurd (Nat.lt_of_lt_of_le (cl_lt x c z) (Nat.le_of_succ_le q)) (Nat.lt_irrefl _)
   ·exact .inr ⟨q,m,z⟩
 have ok:(cxC X N' scope s3.heap.objs.size (cellsFrom (s3.heap.objs.size+1) scope.names (dO X.env scope.names [])) s3 H3 fp).Ok:=by
  refine⟨I3.ok.mod,hkind,I3.ok.glob,I3.ok.blt,Nat.le_refl _,λx y c e1 e2=>?_,λx hx=>?_,λx c hf e=>?_,I3.ok.hd,I3.ok.frames,.inl rfl,λb hb=>⟨?_,λx c e=>?_⟩,I3.bs,Nat.le_trans I3.ok.bsz I3.sz,λb o e hb=>?_,λb hb hz=>?_,I3.stack,I3.stkFree⟩
  ·exact wA (λx y c e1 e2=>I3.ok.inj x y c (cl_old x c e1) (cl_old y c e2)) (λx c e=>Nat.lt_succ_of_lt (cl_lt x c e)) x y c e1 e2
  ·have hx:(relabel scope X.env).names.lookup x=some .cell\/(relabel scope X.env).names.lookup x=some .free:=hx;rw[iB]at hx;cases e:scope.names.lookup x with
   | none=>rw[e]at hx;rcases hx with z|z<;>cases z
   | some k =>
    rw[e]at hx;have:k=.cell\/k=.free:=by
     rcases lR (env:=X.env) (x:=x) (k:=k)with⟨z,_⟩|⟨_,z⟩
     ·exact .inr z
     ·rcases hx with y|y
      ·left;have:=Option.some.inj y;rw[z]at this;exact this
      ·right;have:=Option.some.inj y;rw[z]at this;exact this
    refine Option.isSome_iff_exists.mp (PySem.W.cellsFrom_some _ _ _ ?_);rcases this with rfl|rfl
    ·exact .inl e
    ·obtain⟨c,ec⟩:=fr x (PySem.mem_of_lookup e);right;rw[mf ec (.inl (PySem.mem_of_lookup e))];rfl
  ·have hf:EN (scope.names.lookup x)=true:=hf;have e0:scope.names.lookup x=some .cell:=by
    unfold EN at hf;split at hf
    ·assumption
    ·cases hf
   rcases nr e with q|⟨q,m⟩
   ·rcases qJ q with z|z
    ·cases z
    ·have:=nq c3 z (.inr (.inl rfl));rw[e0]at this;cases this
   ·exact Nat.le_of_succ_le q
  ·exact Nat.ne_of_lt (hfp b hb)
  ·rcases look x c e with q|⟨q,_,_⟩
   ·exact(f3 b hb).2.2.2.2.1 x c q
   ·exact λz=>absurd (Nat.lt_of_lt_of_le (z▸hfp b hb) (Nat.le_of_succ_le q)) (Nat.lt_irrefl _)
  ·rcases(f3 b hb).2.2.2.1 with z|z
   ·exact I3.ok.noex b o e z
   ·exact absurd (Nat.lt_of_lt_of_le (Nat.lt_of_lt_of_le (Heap.lt_size e) I3.ok.bsz) z) (Nat.lt_irrefl _)
  ·have:=I3.stkSub b hz;rcases List.mem_cons.mp this with z|z
   ·exact(f3 b hb).2.1 z
   ·exact(f3 b hb).2.2.1 z
 refine⟨ok,rfl,I3.bare,Un.kept keep,⟨λ_=>none,(Heap.Ns.new s3.heap (.type "dict")).keeps (pushCells_keeps _ _),λi x v h1 h2 h3=>?_⟩,λx c e=>?_,I3.hok.fresh (Nat.le_refl _),λx c e=>?_,λp hp=>absurd (show p∈([]:List (Addr×Obj))from hp) (by simp),I4.hok,?_⟩
 ·have hl:=I3.len;have hi:i<O.length:=by
   by_cases hi:i<O.length
   ·exact hi
   ·rw[List.getElem?_append_right (by omega),List.getElem?_replicate]at h2;split at h2<;>cases h2
  rw[List.getElem?_append_left hi]at h2;have h3:Vis (relabel scope X.env) x:=h3;obtain⟨g1,g2⟩:=xM c1 h1;rw[Nat.zero_add]at g1 g2;have e0:scope.names.lookup x=some .free:=by
   unfold Vis at h3;rw[iB]at h3;cases e:scope.names.lookup x with
   | none=>rw[e]at h3;rcases h3 with z|z|z<;>cases z
   | some k =>
    rw[e]at h3;rcases lR (env:=X.env) (x:=x) (k:=k)with⟨z,_⟩|⟨z0,z⟩
    ·rw[z]
    ·exfalso;have h3:some k=some NameKind.local\/some k=some NameKind.cell\/some k=some NameKind.free:=by
      have h4:some (reK X.env x k)=some NameKind.local\/some (reK X.env x k)=some NameKind.cell\/some (reK X.env x k)=some NameKind.free:=h3;rw[z]at h4;exact h4
     rcases h3 with y|y|y
     ·have:=g2 (.inl (e.trans y));omega
     ·have:=g2 (.inr (e.trans y));omega
     ·exact z0 (Option.some.inj y)
  obtain⟨e1,hk⟩:=g1 e0;have hk:=sw hk;obtain⟨m0,hn0,hl0⟩:=I4.loc;obtain⟨u,ru,lk⟩:=hl0 i x v e1 h2 (.inr hk);refine⟨u,ru,.inr ⟨?_,?_⟩⟩
  ·have:(relabel scope X.env).names.lookup x=some (reK X.env x .free):=by rw[iB,e0];rfl
   rcases lR (env:=X.env) (x:=x) (k:=.free)with⟨_,z|z⟩|⟨z,_⟩
   ·rw[z]at this;exact .inr this
   ·rw[z]at this;exact .inl this
   ·exact absurd rfl z
  ·rcases lk with⟨z,_⟩|⟨_,c,ec,q⟩
   ·rcases hk with y|y<;>(rw[z]at y;cases y)
   ·refine⟨c,?_,q⟩;show(cellsFrom _ scope.names _).lookup x=some c;rw[tq λm=>by have:=nq c3 m (.inr (.inr rfl));rw[e0]at this;cases this];exact mf ec (.inl (PySem.mem_of_lookup e0))
 ·rcases look x c e with q|⟨_,_,q⟩
  ·exact I4.cell x c q
  ·exact⟨_,q⟩
 ·rcases look x c e with q|⟨q,_,_⟩
  ·exact I3.freeC x c q
  ·exact I3.hok.fresh (by omega)
 ·show _=N'.length;rw[List.length_append,List.length_replicate,hN,I3.len]
abbrev cxA (X:Cx) (N':List Str) (scope:Scope) (a:Addr) (H2:Hp) (s3:Shared) (fp:List Addr):Cx:=cxC X N' scope s3.heap.objs.size (cellsFrom (s3.heap.objs.size+1) scope.names (dO X.env scope.names [])) s3 (upd H2 a (.lst [])) fp
def Dr (C:Addr) (X Im:Cx) (k:OK) (T:D->Rho->Option Rho) (t:Rho->R Bool) (e:Rho->R D) (n:Nat) (a:Addr) (H2:Hp) (O:St) (U:RB) (fp:List Addr) (tn:Nat->Heap->Prop) (xs ds:List D) (m:Nat) (s:Shared):Prop :=
 ∃(i:Nat) (σ':St) (H':Hp) (vs:List V) (ds1 ds2:List D) (A:List Addr),m=xs.length+1-i/\i<=xs.length /\
   Inv Im [] σ' H' s/\tn i s.heap/\(∀b∈fp,H' b=none) /\
   (∀j:Nat,j<U.rho.length->σ'[j]?=O[j]?)/\H' a=some (.lst vs)/\Same H2 (cut (a::A) H')/\TreP X.K C (msk U O (cut (a::A) H')) H' (vs.map λ_=>k) vs ds1 A/\a∉A /\
   jD T t e (xs.drop i) (U.rho++List.replicate n none)=.val ds2/\ds1++ds2=ds/\vs.length<=i
theorem TreP.app {K:Frag} {M H:Hp} {k:OK} {v:V} {d:D} {B:List Addr} (h:Tre K C M H k v d B):∀{ks:List OK} {vs:List V} {ds:List D} {A:List Addr},TreP K C M H ks vs ds A->(∀a∈A,a∉B)->∃A',(∀a,a∈A'↔a∈A\/a∈B)/\TreP K C M H (ks++[k]) (vs++[v]) (ds++[d]) A'
 | _,_,_,_,.nil,_=>⟨B++[],λa=>by simp,.cons h .nil λ_ _=>List.not_mem_nil⟩
 | _,_,_,_,.cons (A:=A1) (B:=A2) g t n,f=>by
  obtain⟨A',h1,h2⟩:=TreP.app h t λa ha=>f a (List.mem_append_right _ ha);refine⟨A1++A',λa=>by rw[List.mem_append,List.mem_append,h1 a,or_assoc],.cons g h2 λa ha hb=>?_⟩;rcases(h1 a).mp hb with hb|hb
  ·exact n a ha hb
  ·exact f a (List.mem_append_left _ ha) hb
theorem o6 {k:OK} {tg elt iter:Expr} {ifs:List Expr} {pos:Pos} {N':List Str} {ix:List Nat} {T:D->Rho->Option Rho} {t:Rho->R Bool} {e:Rho->R D} {n:Nat}
  (hcalm:X.calm=true) (hchk:wz X.N N' X.env scope=true) (hN:N'.length=X.N.length+n) (hix:∀j∈ix,X.N.length<=j)
  (hg:∀L cs s H fp,GD C (cxC X N' scope L cs s H fp) tg ix T) (ht:∀L cs s H fp,vu C (cxC X N' scope L cs s H fp) ifs t) (he:∀L cs s H fp,KD C (cxC X N' scope L cs s H fp) k elt e)
  {pins:List (Addr×Obj)} {H2 H0:Hp} {s2:Shared} {U:RB} {J:It} {fp:List Addr} {it:Addr} {tn:Nat->Heap->Prop} {xs ds:List D}
  (I2:Inv X pins O H2 s2) (r2:eG C X H0 U O H2) (TT:wC X.prog X.w X.K tg J fp it tn) (t0:tn 0 s2.heap) (f2:∀b∈fp,qh X pins H2 b) (wk:tF X.K C J xs (msk U O H2)) (hlen:xs.length<=LIM)
  (hd:jD T t e xs (U.rho++List.replicate n none)=.val ds) {R:Value->Addr->Result->Shared->Prop} {E:Value->Shared->Prop}
  (hR:∀a L vs A H' s1,Same H2 (cut (a::A) H')->(∀b∈a::A,H2 b=none)->H' a=some (.lst vs)->a∉A->TreP X.K C (msk U O (cut (a::A) H')) H' (vs.map λ_=>k) vs ds A->Inv X pins O H' s1->H' L=none->L≠X.env.locals->X.s₀.heap.objs.size<=L ->
   (∀x c,X.env.cells.lookup x=some c->c≠L)->(∀p∈X.pn++pins,p.1≠L)->(∃m,s1.heap.Ns L m)->R (.ref a) L (.ok .next) s1) :
  wpAny (model X.prog X.w) X.A (newList []) (λacc s₃=>wpAny (model X.prog X.w) X.A (newFunctionEnv scope X.env.globals (dO X.env scope.names []) [] X.env.qual none .none (some X.env)) (λcenv s₄ =>
   codeAny (model X.prog X.w) X.A (.compStart (.ListComp elt [⟨tg,iter,ifs,0⟩] scope pos) 0 (.ref it) acc { cenv with scope:=relabel scope X.env }) (R acc cenv.locals) s₄) E s₃) E s2:=by
 refine wpAny_newObj_type (Bq ?_);have hfr2:H2 s2.heap.objs.size=none:=I2.fresh;have I3:=I2.lnew (its:=[]) (ys:=[]) (t':=s2.toks) .nil (Nat.zero_le _);have hfp:∀b∈fp,b<s2.heap.objs.size:=λb hb=>by
  obtain⟨o,eo,_⟩:=TT.obj 0 _ t0 b hb;exact Heap.lt_size eo
 have sz3:(s2.heap.push { cls:=.type "list",data:=.seq ([]:List Value).toArray }).objs.size=s2.heap.objs.size+1:=Heap.size_push ..;have f3:∀b∈fp,qh X pins (upd H2 s2.heap.objs.size (.lst [])) b:=λb hb=>⟨by rw[az (Nat.ne_of_lt (hfp b hb))];exact(f2 b hb).1,(f2 b hb).2⟩;have I4:=wx (n:=n) hchk hN I3 (λb hb=>by rw[sz3];exact Nat.lt_succ_of_lt (hfp b hb)) f3;have keep:∀b o,s2.heap.get? b=some o->(pushCells ((s2.heap.push { cls:=.type "list",data:=.seq ([]:List Value).toArray }).push { cls:=.type "dict",data:=.dict #[] }) scope.names).get? b=some o:=λb o e =>
  pushCells_keeps _ _ b o (Heap.get?_push_of_some _ (Heap.get?_push_of_some _ e))
 have t4:tn 0 (pushCells ((s2.heap.push { cls:=.type "list",data:=.seq ([]:List Value).toArray }).push { cls:=.type "dict",data:=.dict #[] }) scope.names):=TT.keep 0 _ _ t0 λb hb o e=>keep b o e;generalize hs3:({ s2 with heap:=s2.heap.push { cls:=.type "list",data:=.seq ([]:List Value).toArray },toks:=s2.toks }:Shared)=s3 at I3 I4;have hH3:({ s2 with heap:=s2.heap.push { cls:=.type "list",data:=.seq ([]:List Value).toArray },toks:=s2.toks }:Shared).heap=s3.heap:=by rw[hs3]
 have t4':tn 0 (pushCells (s3.heap.push { cls:=.type "dict",data:=.dict #[] }) scope.names):=by rw[<- hH3];exact t4
 have hrl:U.rho.length=X.N.length:=r2.len.trans I2.len;generalize ha0:s2.heap.objs.size=a0 at *;have loop:∀s4:Shared,s4={ s3 with heap:=pushCells (s3.heap.push { cls:=.type "dict",data:=.dict #[] }) scope.names } ->
   codeAny (model X.prog X.w) X.A (.compLoop (.ListComp elt [⟨tg,iter,ifs,0⟩] scope pos) 0 (.ref it) (.ref a0) (Gy scope X.env s3.heap.objs.size (cellsFrom (s3.heap.objs.size+1) scope.names (dO X.env scope.names []))))
    (R (.ref a0) s3.heap.objs.size) s4:=by
  rintro s4 rfl;refine tf (Dr C X (cxA X N' scope a0 H2 s3 fp) k T t e n a0 H2 O U fp tn xs ds) ?_ (xs.length+1)
   ⟨0,_,_,[],[],ds,[],rfl,Nat.zero_le _,I4,t4',λb hb=>(f3 b hb).1,λj hj=>by rw[List.getElem?_append_left (by rw[<- r2.len];exact hj)],aY,by rw[CO hfr2];exact Same.refl _,.nil,List.not_mem_nil,hd,rfl,Nat.le_refl _⟩
  rintro m s ⟨i,σ',H',vs,ds1,ds2,A,rfl,hi,I,tni,hfn,hpre,ha,sm,hv,hnA,hc,hds,hvl⟩;have lst:∀z∈a0::A,∃us,H' z=some (.lst us):=λz hz=>by
   rcases List.mem_cons.mp hz with rfl|hz
   ·exact⟨vs,ha⟩
   ·exact hv.lists z hz
  have Z:Hid H' s.heap (a0::A):=by
   refine⟨λz hz=>?_,λz hz c dx fs q=>?_,λz hz b q=>?_,λz hz=>?_⟩
   ·obtain⟨us,q⟩:=lst z hz;exact⟨_,q,rfl⟩
   ·obtain⟨us,q'⟩:=lst z hz;rw[q]at q';cases q'
   ·obtain⟨us,q'⟩:=lst z hz;rw[q]at q';cases q'
   ·obtain⟨us,q'⟩:=lst z hz;obtain⟨_,its,m,_,e1⟩:=I.hok _ _ q';exact⟨_,e1,λv q=>by cases q⟩
  have J0:=I.hide Z;have hM:∀b,H' b=none->cut (a0::A) H' b=none:=λb q=>by unfold cut;split<;>first|rfl|exact q
  have stat:∀{pn:List (Addr×Obj)} {G:Hp},(∀b∈fp,G b=none)->(∀p∈pn,∀b∈fp,p.1≠b)->∀b∈fp,qh (cxA X N' scope a0 H2 s3 fp) pn G b:=λ{pn G} h1 h2 b hb =>
   ⟨h1 b hb,(I.ok.exf b hb).1,I.ok.exfs b hb,.inl hb,(I.ok.exf b hb).2,λp hp=>h2 p hp b hb⟩
  have pna:∀p∈([]:List (Addr×Obj))++dl (a0::A) s.heap,∀b∈fp,p.1≠b:=λp hp b hb z=>by
   obtain⟨q1,_⟩:=jS (show p∈dl (a0::A) s.heap from hp);obtain⟨us,q⟩:=lst _ q1;rw[z,hfn b hb]at q;cases q
  have sM:Same (msk U O H2) (cut (a0::A) H'):=msk_sub.trans sm;by_cases hlt:i<xs.length
  ·have ex:xs[i]?=some xs[i]:=by simp[hlt]
   have ed:xs.drop i=xs[i]::xs.drop (i+1):=List.drop_eq_getElem_cons hlt;obtain⟨go,yld⟩:=wk.go i _ _ sM ex;refine wpAny_mono (TT.item (cxA X N' scope a0 H2 s3 fp) rfl rfl rfl hcalm i _ s σ' _ (λ_ _=>False) J0 (stat (λb hb=>hM b (hfn b hb)) pna) tni go) (λr s1 zz0=>?_) λ_ _ z=>z;obtain⟨u,hr,h1⟩:=zz0;subst hr;refine thn h1 λ_ s5 zz1=>?_;obtain⟨x,H5,I5,r5,y5,t5,n5⟩:=zz1;obtain⟨s5',hx⟩:=yld x H5 y5;have hx5:Has X.K C (msk U O H5) x xs[i]:=hx U O (λb ob q=>by
    have h2:=r2.ownAt ob;cases q2:H2 b with
    | none=>exact h2 q2
    | some o=>rw[sm b o q2]at q;cases q) (aZ sm)
   have r5':=r2.mono (sm.trans s5');obtain⟨re5,em5⟩:=BJ (m:=n) r5' (σ':=σ') (by have q:=I5.len;rw[hrl];exact q.trans hN) hpre;have I5p:=I5.pinned (stat n5 pna) (TT.obj _ _ t5);rw[ed]at hc;unfold jD at hc;split at hc
   ·rename_i U1 eT;have ix0:∀j∈ix,(U.ext n).ad j=[]:=λj hj=>by
     have h2:=hix j hj;refine List.eq_nil_iff_forall_not_mem.mpr λb hb=>?_;have:=r2.bnd j b hb;omega
    refine thn (hg _ _ _ _ _ _ s5 σ' H5 x u (λO6 H6=>H6=H5/\∃β:RB,β.rho=U1/\(∀j:Nat,β.ad j=if j∈ix then[]else(U.ext n).ad j)/\eG C X H0 β O6 H5/\∀j:Nat,j∉ix->O6[j]?=σ'[j]?) I5p r5 ⟨_,H0,xs[i],U1,re5,by show Has _ _ (msk _ _ _) x _;rw[em5];exact hx5,eT,λO6 β q0 q3 q1 q2=>⟨rfl,β,q0,q3,q1,q2⟩⟩) λ_ s6 zz2=>?_;obtain⟨O6,H6,I6,eH,β,eβ,aβ,r6,p6⟩:=zz2;subst eH;subst eβ;have em6:msk β O6=msk U O:=(EA aβ ix0).trans em5;have pre6:∀j:Nat,j<U.rho.length->O6[j]?=O[j]?:=λj hj=>by
     rw[p6 j λz=>by have:=hix j z;omega];exact hpre j hj
    cases et:t β with
    | exc c=>rw[et]at hc;cases hc
    | bad=>rw[et]at hc;cases hc
    | val b =>
     rw[et]at hc;refine thn (ht _ _ _ _ _ _ s6 O6 H6 (λb' H7=>b'=b/\Same H6 H7) I6 ⟨β,⟨H0,r6⟩,by rw[et];exact λH7 q=>⟨rfl,q⟩⟩) λb' s7 zz3=>?_;obtain⟨H7,I7,eb,s67⟩:=zz3;subst eb;have fin:∀{s9:Shared} {H9:Hp} {vs':List V} {ds1' ds2':List D} {A':List Addr},Inv (cxA X N' scope a0 H2 s3 fp) (dl fp s5.heap) O6 H9 s9 ->
       H9 a0=some (.lst vs')->Same H2 (cut (a0::A') H9)->TreP X.K C (msk U O (cut (a0::A') H9)) H9 (vs'.map λ_=>k) vs' ds1' A'->a0∉A'->jD T t e (xs.drop (i+1)) (U.rho++List.replicate n none)=.val ds2'->ds1'++ds2'=ds->vs'.length<=i+1 ->
       ∃m,m<xs.length+1-i/\Dr C X (cxA X N' scope a0 H2 s3 fp) k T t e n a0 H2 O U fp tn xs ds m s9:=λ{s9 H9 vs' ds1' ds2' A'} I9 g1 g3 g4 g4' g5 g6 g7=>by
      refine⟨xs.length+1-(i+1),by omega,i+1,O6,H9,vs',ds1',ds2',A',rfl,hlt,I9.pins_of λp hp=>absurd hp (by simp),TT.keep _ _ _ t5 λb hb o eo=>(I9.pin (b,o) (List.mem_append_right _ (gf hb eo))).1,λb hb=>?_,pre6,g1,g3,g4,g4',g5,g6,g7⟩;obtain⟨o,eo,_⟩:=TT.obj _ _ t5 b hb;exact(I9.pin (b,o) (List.mem_append_right _ (gf hb eo))).2.1
     have h1pins:∀p∈dl (a0::A) s.heap,p∈(([]:List (Addr×Obj))++dl (a0::A) s.heap)++dl fp s5.heap:=λp hp=>List.mem_append_left _ hp;have h2pins:∀p∈dl fp s5.heap,p∈(([]:List (Addr×Obj))++dl (a0::A) s.heap)++dl fp s5.heap/\H' p.1=none:=λp hp=>⟨List.mem_append_right _ hp,hfn _ (jS hp).1⟩;have s57:Same (cut (a0::A) H') H7:=s5'.trans s67;have back:∀{G:Hp},Same (cut (a0::A) H') G->(∀z∈a0::A,G z=none)->Stay A H' (jn (a0::A) H' G):=λ{G} sG mz=>⟨λb hb o q=>by rw[kY (List.mem_cons_of_mem _ hb)];exact q,λb us q=>by
      have nb:b∉a0::A:=λhb=>by obtain⟨ws,q'⟩:=lst b hb;rw[q]at q';cases q'
      rw[cH nb];exact sG b _ (cut_some.mpr ⟨nb,q⟩)⟩
     cases b' with
     | false =>
      rw[if_neg Bool.false_ne_true];obtain⟨I8,mz⟩:=I.showG Z I7 h1pins h2pins;have eJ:cut (a0::A) (jn (a0::A) H' H7)=H7:=by
       funext b
       by_cases hb:b∈a0::A
       ·rw[g_ hb,mz b hb]
       ·unfold cut;rw[if_neg hb,cH hb]
      exact fin (A':=A) I8 (by rw[kY List.mem_cons_self];exact ha) (by rw[eJ];exact sm.trans s57) (by rw[eJ];exact hv.stay (aZ s57) (back s57 mz)) hnA hc hds (Nat.le_succ_of_le hvl)
     | true =>
      rw[if_pos rfl];cases ee:e β with
      | exc c=>rw[ee]at hc;cases hc
      | bad=>rw[ee]at hc;cases hc
      | val d =>
       rw[ee]at hc;refine thn (he _ _ _ _ _ _ s7 O6 H7 (λy H8=>∃B,Same H7 H8/\(∀b∈B,H7 b=none)/\Tre X.K C (cut B (msk U O H8)) H8 k y d B) I7 ⟨β,⟨H0,r6.mono s67⟩,by rw[ee];exact λy H8 B q1 q2 q3=>⟨B,q1,q2,by rw[<- em6];exact q3⟩⟩) λyv s8 zz4=>?_;obtain⟨y,H8,I8,ry,B,s78,hB,hy⟩:=zz4;obtain⟨I9,mz⟩:=I.showG Z I8 h1pins h2pins;have s8':Same (cut (a0::A) H') H8:=s57.trans s78;cases ec:jD T t e (xs.drop (i+1)) (U.rho++List.replicate n none)with
       | exc c=>simp only[noE,DL.R.bind,ec,if_true]at hc;cases hc
       | bad=>simp only[noE,DL.R.bind,ec,if_true]at hc;cases hc
       | val ds3 =>
        simp only[noE,DL.R.bind,ec,if_true]at hc;cases hc;refine thn (qt _ s8 O6 _ (.ref a0) [y] (.ref a0) [yv] (λ_ H9=>H9=upd (jn (a0::A) H' H8) a0 (.lst (vs++[y]))) I9 rfl (.cons ry .nil)
         ⟨_,vs,y,rfl,rfl,by rw[kY List.mem_cons_self];exact ha,EG (by omega),rfl⟩) λ_ s9 ⟨_,H9,I10,_,eH9⟩=>?_
        have lB:∀b∈B,b∉a0::A:=λb hb hz=>by
         obtain⟨us,q⟩:=hy.lists b hb;rw[mz b hz]at q;cases q
        have at9:∀b,b≠a0->H9 b=jn (a0::A) H' H8 b:=λb hb=>by rw[eH9,az hb]
        have eJ:∀A',(∀b,b∈A'↔b∈A\/b∈B)->cut (a0::A') H9=cut B H8:=λA' hA'=>by
         funext b
         by_cases hb:b∈a0::A
         ·have:b∈a0::A':=by
           rcases List.mem_cons.mp hb with z|z
           ·exact z▸List.mem_cons_self
           ·exact List.mem_cons_of_mem _ ((hA' b).mpr (.inl z))
          rw[g_ this];unfold cut;split
          ·rfl
          ·exact(mz b hb).symm
         ·have nb:b≠a0:=λz=>hb (z▸List.mem_cons_self);by_cases hb2:b∈B
          ·rw[g_ hb2,g_ (List.mem_cons_of_mem _ ((hA' b).mpr (.inr hb2)))]
          ·have:b∉a0::A':=λz=>by
            rcases List.mem_cons.mp z with z|z
            ·exact nb z
            ·rcases(hA' b).mp z with z|z
             ·exact hb (List.mem_cons_of_mem _ z)
             ·exact hb2 z
           unfold cut;rw[if_neg this,if_neg hb2,at9 b nb,cH hb]
        have sB:Same (cut (a0::A) H') (cut B H8):=λb o q=>cut_some.mpr ⟨λhb=>absurd (hB b hb) (by rw[s57 b o q];exact λz=>by cases z),s8' b o q⟩;have st1:Stay A H' H9:=by
         refine⟨λb hb o q=>?_,λb us q=>?_⟩
         ·rw[at9 b λz=>hnA (z▸hb)];exact(back s8' mz).at_ b hb o q
         ·rw[at9 b λz=>by rw[z,ha]at q;cases q];exact(back s8' mz).tup b us q
        have st2:Stay B H8 H9:=by
         refine⟨λb hb o q=>?_,λb us q=>?_⟩
         ·rw[at9 b λz=>lB b hb (z▸List.mem_cons_self),cH (lB b hb)];exact q
         ·have nb:b∉a0::A:=λhz=>by rw[mz b hz]at q;cases q
          rw[at9 b λz=>nb (z▸List.mem_cons_self),cH nb];exact q
        have g1:TreP X.K C (msk U O (cut B H8)) H9 (vs.map λ_=>k) vs ds1 A:=hv.stay (aZ sB) st1;have g2:Tre X.K C (msk U O (cut B H8)) H9 k y d B:=hy.stay (by rw[kS];exact Same.refl _) st2;obtain⟨A',hA',g3⟩:=TreP.app g2 g1 λb hb hb2=>lB b hb2 (List.mem_cons_of_mem _ hb);refine fin (A':=A') (vs':=vs++[y]) (ds1':=ds1++[d]) (ds2':=ds3) I10 (by rw[eH9];exact aY) (by rw[eJ A' hA'];exact sm.trans sB) (by rw[eJ A' hA',List.map_append];exact g3) (λz=>?_) ec (by rw[<- hds];simp) (by rw[List.length_append,List.length_singleton];omega);rcases(hA' a0).mp z with z|z
        ·exact hnA z
        ·exact lB a0 z List.mem_cons_self
   ·cases hc
  ·have ei:i=xs.length:=by omega
   subst ei;rw[List.drop_length]at hc;cases hc;rw[List.append_nil]at hds;subst hds;refine wpAny_mono (TT.done (cxA X N' scope a0 H2 s3 fp) rfl rfl rfl hcalm xs.length _ s σ' _ (λ_ _=>False) J0 (stat (λb hb=>hM b (hfn b hb)) pna) tni (wk.stop _ sM)) (λr s1 zz5=>?_) λ_ _ z=>z;obtain⟨hr,I1⟩:=zz5;subst hr;obtain⟨Ie,_⟩:=I.show' Z I1;have eH:jn (a0::A) H' (cut (a0::A) H')=H':=by
    funext b
    by_cases hb:b∈a0::A
    ·rw[kY hb]
    ·rw[cH hb];unfold cut;rw[if_neg hb]
   rw[eH]at Ie;have IX:Inv X pins O H' s1:=I3.call' Ie.os Ie.base Ie.hok Ie.bare λb hb=>⟨(f3 b hb).2.2.2.1,(f3 b hb).2.1,(f3 b hb).2.2.2.2.1,(f3 b hb).2.2.2.2.2⟩;obtain⟨m,hm,_⟩:=Ie.loc;refine hR _ _ vs A H' s1 sm (λb hb=>lQ sm (g_ hb)) ha hnA hv IX Ie.free (Nat.ne_of_gt I3.lt) I3.sz (λx c q z=>?_) (λp hp z=>?_) ⟨m,hm⟩
   ·obtain⟨v,q⟩:=I3.cell x c q;exact absurd (z▸q.lt) (Nat.lt_irrefl _)
   ·exact absurd (z▸Heap.lt_size (I3.pin p hp).1) (Nat.lt_irrefl _)
 exact codeAny_compStart_list (loop _ rfl) (TT.self X.A 0 _ _ _ t4' (loop _ rfl))
end DL
namespace DL
open PySem PySem.Spec PyProof.Rows L2
variable {C:Addr} {X:Cx}
def a_ (src:Rho->R (List D)) (n:Nat) (T:D->Rho->Option Rho) (t:Rho->R Bool) (e:Rho->R D):Rho->R (List D):=λU=>(src U).bind λxs=>if xs.length<=LIM then noE (jD T t e xs (U++List.replicate n none))else .bad
variable {k:OK}
theorem u_ {src:Rho->R (List D)} {n:Nat} {T:D->Rho->Option Rho} {t:Rho->R Bool} {e:Rho->R D} {O:St} {H:Hp} {Q:VK} {U:RB} {H0:Hp} (r:eG C X H0 U O H) (q:pK C X (.l k) U (eLs (a_ src n T t e) U) O H Q) :
  itI C X src O H λJ H2=>∃xs ds,Same H H2/\eG C X H0 U O H2/\tF X.K C J xs (msk U O H2)/\xs.length<=LIM/\jD T t e xs (U.rho++List.replicate n none)=.val ds/\∀v H' A,Same H2 H'->(∀a∈A,H2 a=none)->Tre X.K C (cut A (msk U O H')) H' (.l k) v (.lst ds) A->Q v H':=by
 refine⟨U,⟨H0,r⟩,?_⟩;unfold eLs EF a_ at q;cases es:src U with
 | exc c=>rw[es]at q;exact q
 | bad=>rw[es]at q;exact q
 | val xs =>
  rw[es]at q;intro J H2 s2 wk;simp only[DL.R.bind]at q;by_cases hl:xs.length<=LIM
  ·rw[if_pos hl]at q;cases ec:jD T t e xs (U.rho++List.replicate n none)with
   | val ds=>rw[ec]at q;exact⟨xs,ds,s2,r.mono s2,wk,hl,ec,λv H' A s1 h1 h2=>q v H' A (s2.trans s1) (λa ha=>lQ s2 (h1 a ha)) h2⟩
   | exc c=>rw[ec]at q;exact q.elim
   | bad=>rw[ec]at q;exact q.elim
  ·rw[if_neg hl]at q;exact q.elim
variable {F:Rho->R (List D)}
theorem C7 {O:St} {H:Hp} {Q:VK} (h:teF C X F O H Q):teK C X (.l .s) (eLs F) O H Q:=by
 obtain⟨U,⟨H0,r⟩,q⟩:=h;refine⟨U,⟨H0,r⟩,?_⟩;unfold eLs;cases e:F U with
 | val xs =>
  rw[e]at q;intro v H' A s1 hA h1;cases h1 with
  | @l _ a vs _ _ ha hp _ =>
   obtain⟨eA,hl⟩:=hp.flat;subst eA;have q2:=q a vs (cut [a] H') (λb o eb=>cut_some.mpr ⟨λhb=>Option.some_ne_none _ (eb.symm.trans (hA b hb)),s1 b o eb⟩) (g_ (List.mem_singleton.mpr rfl)) (by show HasL _ _ (msk U O _) vs xs;rw[kS];exact hl);rw[Br ha]at q2;exact q2
 | exc c=>rw[e]at q;exact q
 | bad=>rw[e]at q;exact q
variable {i:Nat} {st:Stmt}
section
variable {tg elt iter:Expr} {ifs:List Expr} {scope:Scope} {pos:Pos} {N':List Str} {ix:List Nat} {T:D->Rho->Option Rho} {t:Rho->R Bool} {e:Rho->R D} {n:Nat} {src:Rho->R (List D)}
theorem qK (hchk:wz X.N N' X.env scope=true):(∀x,(x,NameKind.free)∈scope.names->kc (X.env.kindOf x)=true)/\scope.kind=.function/\∀x∈scope.names,x.2=.local->scope.names.lookup x.1=some .local:=by
 obtain⟨c1,hchk⟩:=Bool.and_eq_true_iff.mp hchk;obtain⟨c2,hchk⟩:=Bool.and_eq_true_iff.mp hchk;obtain⟨c3,hchk⟩:=Bool.and_eq_true_iff.mp hchk;obtain⟨c4,c5⟩:=Bool.and_eq_true_iff.mp hchk;refine⟨λx hx=>tm c2 hx,?_,λx hx hl=>?_⟩
 ·revert c5;cases scope.kind<;>simp
 ·obtain⟨n,k⟩:=x;have hl:k=.local:=hl;subst hl;exact nq c3 hx (.inl rfl)
theorem Cj (hcalm:X.calm=true) (hchk:wz X.N N' X.env scope=true) (hN:N'.length=X.N.length+n) (hix:∀j∈ix,X.N.length<=j) (hi:ID C X tg iter src)
  (hg:∀L cs s H fp,GD C (cxC X N' scope L cs s H fp) tg ix T) (ht:∀L cs s H fp,vu C (cxC X N' scope L cs s H fp) ifs t) (he:∀L cs s H fp,KD C (cxC X N' scope L cs s H fp) k elt e)
  (hs:∀x,foldedSetIterable iter X.env x=pure x:=by intro _;rfl):KD C X (.l k) (.ListComp elt [⟨tg,iter,ifs,0⟩] scope pos) (eLs (a_ src n T t e)):=by
 rintro pins s O H Q I ⟨U,⟨H0,r⟩,q⟩;obtain⟨c2,hkind,hnames⟩:=qK hchk;rw[eval_ListComp];refine wpAny_comprehension_free (use:=none) rfl hs (xK λx hx=>I.ok.has x (sw (c2 x hx))) hkind hnames ?_;show wpAny _ _ (eval iter X.env) _ _ s;refine thn (hi pins s O H _ I (u_ r q)) λv s1 h1=>thn h1 λitv s2 zz0=>?_;obtain⟨it,fp,tn,J,H2,ei,I2,TT,t0,f2,xs,ds,s2',r2,wk,hl,hd,hq⟩:=zz0;subst ei;refine o6 (R:=λacc L=>compPost (model X.prog X.w) X.A X.xe none (EP X pins O Q) acc L) hcalm hchk hN hix hg ht he I2 r2 TT t0 f2 wk hl hd ?_;rintro a L vs A H' s1 sf hA ha hn hv IX uL lne lsz lc lp ⟨m,hm⟩;refine⟨m,hm,λh' hs'=>⟨.ref a,_,IX.turned (t':=s1.toks) (λb o hb eo=>(hs'.2 b hb).trans eo) uL lne (.inr lsz) lc lp,rfl,hq _ H' (a::A) (sf.trans td) hA (.l ha (by rw[<- kS];exact hv) hn)⟩⟩
theorem ba (hcalm:X.calm=true) (hchk:wz X.N N' X.env scope=true) (hN:N'.length=X.N.length+n) (hix:∀j∈ix,X.N.length<=j) (tk:C5 ix T) (hi:ID C X tg iter src)
  (hg:∀L cs s H fp,GD C (cxC X N' scope L cs s H fp) tg ix T) (ht:∀L cs s H fp,vu C (cxC X N' scope L cs s H fp) ifs t) (he:∀L cs s H fp,ED C (cxC X N' scope L cs s H fp) elt e)
  (hs:∀x,foldedSetIterable iter X.env x=pure x:=by intro _;rfl):FD C X (.ListComp elt [⟨tg,iter,ifs,0⟩] scope pos) (a_ src n T t e) :=
 aR (Cj hcalm hchk hN hix hi hg ht (λL cs s H fp=>Ag (he L cs s H fp)) hs) λO H Q h=>C7 h
theorem mq {y:Str} {py spos:Pos} (hy:PG X (.Name y py) (i4 i)) (hcalm:X.calm=true) (hchk:wz X.N N' X.env scope=true) (hN:N'.length=X.N.length+n) (hix:∀j∈ix,X.N.length<=j) (hi:ID C X tg iter src)
  (hg:∀L cs s H fp,GD C (cxC X N' scope L cs s H fp) tg ix T) (ht:∀L cs s H fp,vu C (cxC X N' scope L cs s H fp) ifs t) (he:∀L cs s H fp,KD C (cxC X N' scope L cs s H fp) k elt e)
  (hsw:swapsWith (.ListComp elt [⟨tg,iter,ifs,0⟩] scope pos) (some (.Name y py)) spos.line X.env=pure true)
  (hs:∀x,foldedSetIterable iter X.env x=pure x:=by intro _;rfl):PS X (.Assign [.Name y py] (.ListComp elt [⟨tg,iter,ifs,0⟩] scope pos) spos) (vC (teK C X (.l k) (eLs (a_ src n T t e))) (i4 i)):=by
 rintro pins s O H Dn I ⟨U,⟨H0,r⟩,q⟩;obtain⟨c2,hkind,hnames⟩:=qK hchk;rw[exec_Assign_Name_used _ _ _ _ hsw];refine wpAny_bind (wpAny_standAt (wpAny_bind ?_));show wpAny _ _ (do let _ <- comprehension (.ListComp elt [⟨tg,iter,ifs,0⟩] scope pos) scope X.env _ (newList []) false (eval iter X.env) (some (assign (.Name y py) X.env))) _ _ s;refine wpAny_bind (wpAny_mono (wpAny_comprehension_free (use:=some (assign (.Name y py) X.env)) (Q:=λ_ s'=>SP X pins Dn .next s') rfl hs (xK λx hx=>I.ok.has x (sw (c2 x hx))) hkind hnames ?_) (λ_ s' hq=>wpAny_pure (wpAny_pure hq)) λ_ _ z=>z);refine thn (hi pins s O H _ I (u_ r q)) λv s1 h1=>thn h1 λitv s2 zz1=>?_;obtain⟨it,fp,tn,J,H2,ei,I2,TT,t0,f2,xs,ds,s2',r2,wk,hl,hd,hq⟩:=zz1;subst ei;refine o6 (R:=λacc L=>compPost (model X.prog X.w) X.A X.xe (some (assign (.Name y py) X.env)) (λ_ s'=>SP X pins Dn .next s') acc L) hcalm hchk hN hix hg ht he I2 r2 TT t0 f2 wk hl hd ?_;rintro a L vs A H' s1 sf hA ha hn hv IX uL lne lsz lc lp ⟨m,hm⟩;obtain⟨oL,esL,epL,eoL,edL,restL⟩:=id hm;have nfs:L∉X.fs:=λz=>by
  obtain⟨_,o,ho,_⟩:=I.ok.funs.mem z;exact absurd (Nat.lt_of_lt_of_le (Heap.lt_size ho) lsz) (Nat.lt_irrefl _)
 have IP:Inv X (pins++[(L,oL)]) O H' s1:=IX.pins_of λp hp=>by
  rcases List.mem_append.mp hp with hp|hp
  ·exact IX.pin p (List.mem_append_right _ hp)
  ·have:p=(L,oL):=by simpa using hp
   subst this;exact⟨eoL,uL,lne,nfs,λv z=>by rw[edL]at z;cases z⟩
 show wpAny _ _ (assign (.Name y py) X.env (.ref a)) _ _ s1;refine thn (hy _ s1 O _ (.ref a) (.ref a) Dn.nx IP rfl (hq _ H' (a::A) (sf.trans td) hA (.l ha (by rw[<- kS];exact hv) hn))) λ_ s2 zz2=>?_;obtain⟨σ',H',I',qn⟩:=zz2;have pL:=I'.pin (L,oL) (List.mem_append_right _ (List.mem_append_right _ (by simp)));have I'':Inv X pins σ' H' s2:=I'.unpinned;refine⟨m,⟨oL,esL,epL,pL.1,edL,restL⟩,λh' hs'=>⟨σ',H',I''.turned (t':=s2.toks) (λb o hb eo=>(hs'.2 b hb).trans eo) pL.2.1 lne (.inr lsz) lc lp,qn⟩⟩
theorem f_ {y:Str} {py spos:Pos} (hy:PG X (.Name y py) (i4 i)) (hcalm:X.calm=true) (hchk:wz X.N N' X.env scope=true) (hN:N'.length=X.N.length+n) (hix:∀j∈ix,X.N.length<=j) (tk:C5 ix T) (hi:ID C X tg iter src)
  (hg:∀L cs s H fp,GD C (cxC X N' scope L cs s H fp) tg ix T) (ht:∀L cs s H fp,vu C (cxC X N' scope L cs s H fp) ifs t) (he:∀L cs s H fp,ED C (cxC X N' scope L cs s H fp) elt e)
  (hsw:swapsWith (.ListComp elt [⟨tg,iter,ifs,0⟩] scope pos) (some (.Name y py)) spos.line X.env=pure true)
  (hs:∀x,foldedSetIterable iter X.env x=pure x:=by intro _;rfl):PS X (.Assign [.Name y py] (.ListComp elt [⟨tg,iter,ifs,0⟩] scope pos) spos) (vC (teF C X (a_ src n T t e)) (i4 i)) :=
 bF (mq hy hcalm hchk hN hix hi hg ht (λL cs s H fp=>Ag (he L cs s H fp)) hsw hs) λD O H h=>C7 h
theorem BC {F:Rho->R D} (h:PS X st (vC (teK C X k F) (i4 i))):SD C X st (trS i k F) :=
  bF h λD O H yy=>by
   obtain⟨_,H0,⟨U,rfl,r⟩,q⟩:=yy;exact⟨U,⟨H0,r⟩,by
    unfold trS at q;cases z:F U with
    | val d=>rw[z]at q;exact λv H' A s hA h=>q _ _ ⟨_,rfl,r.setTre s hA h⟩
    | exc c=>rw[z]at q;exact dm r q
    | bad=>rw[z]at q;exact q⟩
theorem m8 (h:PS X st (vC (teF C X F) (i4 i))):SD C X st (asg i (eLs F)) :=
  bF h λD O H yy0=>by
   obtain⟨_,H0,⟨U,rfl,r⟩,q⟩:=yy0;exact⟨U,⟨H0,r⟩,by
    unfold asg eLs EF at q;cases e:F U with
    | val xs =>
      rw[e]at q;exact λa vs H1 s1 hn h1=>q _ _ ⟨_,rfl,(r.mono (s1.trans (aP hn))).setShr (.lst ((r.mono s1).new hn) (h1.mono (aZ (aP hn))))⟩
    | exc c=>rw[e]at q;exact dm r q
    | bad=>rw[e]at q;exact q⟩
theorem BD (h:PS X st (vC (teF C X F) (i4 i))):SD C X st (own i F) :=
  bF h λD O H yy1=>by
   obtain⟨_,H0,⟨U,rfl,r⟩,q⟩:=yy1;exact⟨U,⟨H0,r⟩,by
    unfold own at q;cases e:F U with
    | val xs =>
      rw[e]at q;exact λa vs H1 s1 hn h1=>q _ _ ⟨_,rfl,(r.mono s1).setOwn hn h1⟩
    | exc c=>rw[e]at q;exact dm r q
    | bad=>rw[e]at q;exact q⟩
end
end DL
namespace DL
open PySem PySem.Spec PyProof.Rows L2
def eqb:Nat->D->Bool
 | _,.non=>true
 | _,.bl _=>true
 | _,.int _=>true
 | n+1,.lst xs=>xs.all (eqb n)
 | n+1,.tup xs=>xs.all (eqb n)
 | _,_=>false
def pyq:Nat->D->D->Bool
 | _,.non,.non=>true
 | _,.bl a,.bl b=>a==b
 | _,.bl a,.int b=>(if a then 1 else 0)==b
 | _,.int a,.bl b=>a==(if b then 1 else 0)
 | _,.int a,.int b=>a==b
 | n+1,.lst xs,.lst ys=>decide (xs.length=ys.length)&&(List.range xs.length).all λj=>pyq n (xs.getD j .non) (ys.getD j .non)
 | n+1,.tup xs,.tup ys=>decide (xs.length=ys.length)&&(List.range xs.length).all λj=>pyq n (xs.getD j .non) (ys.getD j .non)
 | _,_,_=>false
theorem rK (n:Nat) (xs ys:List D):pyq (n+1) (.lst xs) (.lst ys)=(decide (xs.length=ys.length)&&(List.range xs.length).all λj=>pyq n (xs.getD j .non) (ys.getD j .non)):=rfl
theorem rJ (n:Nat) (xs ys:List D):pyq (n+1) (.tup xs) (.tup ys)=(decide (xs.length=ys.length)&&(List.range xs.length).all λj=>pyq n (xs.getD j .non) (ys.getD j .non)):=rfl
section
variable {K:Frag} {C:Addr} {H:Hp}
theorem HasL.inj {n:Nat} (ih:∀{v:V} {x y:D},eqb n x=true->eqb n y=true->Has K C H v x->Has K C H v y->x=y):∀{vs:List V} {xs ys:List D},xs.all (eqb n)=true->ys.all (eqb n)=true->HasL K C H vs xs->HasL K C H vs ys->xs=ys
 | _,_,_,_,_,.nil,.nil=>rfl
 | _,_,_,h1,h2,.cons a b,.cons c d=>by
  rw[List.all_cons,Bool.and_eq_true]at h1 h2;rw[ih h1.1 h2.1 a c,HasL.inj ih h1.2 h2.2 b d]
theorem Has.inj:∀{n:Nat} {v:V} {x y:D},eqb n x=true->eqb n y=true->Has K C H v x->Has K C H v y->x=y:=by
 intro n
 induction n with
 | zero =>
  intro v x y h1 h2 a b;cases a<;>cases b<;>first|rfl|cases h1|cases h2
 | succ n ih =>
  intro v x y h1 h2 a b;cases a with
  | non=>cases b;rfl
  | bl _=>cases b;rfl
  | int _=>cases b;rfl
  | lst e1 g1 =>
   cases b with
   | lst e2 g2=>rw[e1]at e2;cases e2;rw[HasL.inj ih h1 h2 g1 g2]
   | tup e2 g2=>rw[e1]at e2;cases e2
   | ob _ _ _ _=>cases h2
   | scr _=>cases h2
   | exn _=>cases h2
  | tup e1 g1 =>
   cases b with
   | tup e2 g2=>rw[e1]at e2;cases e2;rw[HasL.inj ih h1 h2 g1 g2]
   | lst e2 g2=>rw[e1]at e2;cases e2
   | ob _ _ _ _=>cases h2
   | scr _=>cases h2
   | exn _=>cases h2
  | ob _ _ _ _=>cases h1
  | scr _=>cases h1
  | exn _=>cases h1
theorem t_:∀{n:Nat} {x:D},eqb n x=true->pyq n x x=true:=by
 intro n
 induction n with
 | zero =>
  intro x h;cases x with
  | non=>rfl
  | bl b=>exact beq_self_eq_true _
  | int b=>exact beq_self_eq_true _
  | _=>cases h
 | succ n ih =>
  intro x h;cases x with
  | non=>rfl
  | bl b=>exact beq_self_eq_true _
  | int b=>exact beq_self_eq_true _
  | lst xs =>
   rw[rK];simp only[decide_true,Bool.true_and,List.all_eq_true,List.mem_range];intro j hj;have h:xs.all (eqb n)=true:=h;rw[List.all_eq_true]at h;have e:xs.getD j .non=xs[j]:=by simp[List.getD,List.getElem?_eq_getElem hj]
   rw[e];exact ih (h _ (List.getElem_mem hj))
  | tup xs =>
   rw[rJ];simp only[decide_true,Bool.true_and,List.all_eq_true,List.mem_range];intro j hj;have h:xs.all (eqb n)=true:=h;rw[List.all_eq_true]at h;have e:xs.getD j .non=xs[j]:=by simp[List.getD,List.getElem?_eq_getElem hj]
   rw[e];exact ih (h _ (List.getElem_mem hj))
  | ob _ _ _=>cases h
  | scr _=>cases h
  | exn _=>cases h
end
variable {X:Cx} {C:Addr} {H:Hp} {s:Shared} {vs:List V}
open SeqAt in
theorem Dq {n:Nat} {A:Around} {xs ys:List D} {ws:List V} {its its2:List Value}
  (ih:∀{x y:D} {v w:V} {u t:Value},eqb n x=true->eqb n y=true->Has X.K C H v x->Has X.K C H w y->RelV v u->RelV w t->EqAt A s u t (pyq n x y))
  (h1:∀x∈xs,eqb n x=true) (h2:∀x∈ys,eqb n x=true) (g1:HasL X.K C H vs xs) (g2:HasL X.K C H ws ys) (r:Vals vs its) (r2:Vals ws its2) (j:Nat) (h1':j<its.toArray.size) (h2':j<its2.toArray.size) :
  EqAt A s its.toArray[j] its2.toArray[j] (pyq n (xs.getD j .non) (ys.getD j .non)):=by
 have j1:j<xs.length:=by rw[<- g1.len,r.length];exact h1'
 have j2:j<ys.length:=by rw[<- g2.len,r2.length];exact h2'
 obtain⟨vj,ev,hv⟩:=g1.get (List.getElem?_eq_getElem j1);obtain⟨wj,ew,hw⟩:=g2.get (List.getElem?_eq_getElem j2);obtain⟨uj,eu,ruj⟩:=r.get ev;obtain⟨tj,et,rtj⟩:=r2.get ew;have eu':its.toArray[j]=uj:=(List.getElem?_eq_some_iff.mp eu).2;have et':its2.toArray[j]=tj:=(List.getElem?_eq_some_iff.mp et).2;have ex:xs.getD j .non=xs[j]:=by rw[List.getD,List.getElem?_eq_getElem j1];rfl
 have ey:ys.getD j .non=ys[j]:=by rw[List.getD,List.getElem?_eq_getElem j2];rfl
 rw[eu',et',ex,ey];exact ih (h1 _ (List.getElem_mem j1)) (h2 _ (List.getElem_mem j2)) hv hw ruj rtj
variable {pins:List (Addr×Obj)} {O:St}
open SeqAt in
theorem wB (I:Inv X pins O H s):∀(n:Nat) {A:Around} {x y:D} {v w:V} {u t:Value},A.units+n<cLine->eqb n x=true->eqb n y=true->Has X.K C H v x->Has X.K C H w y->RelV v u->RelV w t ->
  RcAt A s u t (pyq n x y)/\EqAt A s u t (pyq n x y)/\RcNeAt A s u t (!pyq n x y):=by
 intro n
 induction n with
 | zero =>
  intro A x y v w u t hu h1 h2 a b ru rt;cases a with
  | non =>
   cases ru;cases b with
   | non=>cases rt;exact⟨RcAt.none_none,EqAt.same _,RcNeAt.none_none⟩
   | bl _=>cases rt;exact⟨RcAt.none_bool _,EqAt.none_bool _,RcNeAt.none_bool _⟩
   | int _=>obtain⟨_,rfl⟩:=rt;exact⟨RcAt.none_int _ _,EqAt.none_int _ _,RcNeAt.none_int _ _⟩
   | _=>cases h2
  | bl _ =>
   cases ru;cases b with
   | non=>cases rt;exact⟨RcAt.bool_none _,EqAt.bool_none _,RcNeAt.bool_none _⟩
   | bl _=>cases rt;exact⟨RcAt.bool_bool _ _,EqAt.bool_bool _ _,RcNeAt.bool_bool _ _⟩
   | int _=>obtain⟨_,rfl⟩:=rt;exact⟨RcAt.bool_int _ _ _,EqAt.bool_int _ _ _,RcNeAt.bool_int _ _ _⟩
   | _=>cases h2
  | int _ =>
   obtain⟨_,rfl⟩:=ru;cases b with
   | non=>cases rt;exact⟨RcAt.int_none _ _,EqAt.int_none _ _,RcNeAt.int_none _ _⟩
   | bl _=>cases rt;exact⟨RcAt.int_bool _ _ _,EqAt.int_bool _ _ _,RcNeAt.int_bool _ _ _⟩
   | int _=>obtain⟨_,rfl⟩:=rt;exact⟨RcAt.int_int _ _ _ _,EqAt.int_int _ _ _ _,RcNeAt.int_int _ _ _ _⟩
   | _=>cases h2
  | _=>cases h1
 | succ n ih =>
  intro A x y v w u t hu h1 h2 a b ru rt;have hA:A.units<cLine:=by omega
  have hin:A.in1.units+n<cLine:=by show A.units+1+n<cLine;omega
  cases a with
  | non =>
   cases ru;cases b with
   | non=>cases rt;exact⟨RcAt.none_none,EqAt.same _,RcNeAt.none_none⟩
   | bl _=>cases rt;exact⟨RcAt.none_bool _,EqAt.none_bool _,RcNeAt.none_bool _⟩
   | int _=>obtain⟨_,rfl⟩:=rt;exact⟨RcAt.none_int _ _,EqAt.none_int _ _,RcNeAt.none_int _ _⟩
   | lst e2 g2=>cases rt;obtain⟨its,r,p,_⟩:=I.list (SqL.of e2);exact⟨RcAt.none_list p.isList hA,EqAt.none_list p.isList hA,RcNeAt.none_list p.isList hA⟩
   | tup e2 g2=>cases rt;obtain⟨its,r,p,_⟩:=I.tuple (SqT.of e2);exact⟨RcAt.none_tuple p hA,EqAt.none_tuple p hA,RcNeAt.none_tuple p hA⟩
   | _=>cases h2
  | bl _ =>
   cases ru;cases b with
   | non=>cases rt;exact⟨RcAt.bool_none _,EqAt.bool_none _,RcNeAt.bool_none _⟩
   | bl _=>cases rt;exact⟨RcAt.bool_bool _ _,EqAt.bool_bool _ _,RcNeAt.bool_bool _ _⟩
   | int _=>obtain⟨_,rfl⟩:=rt;exact⟨RcAt.bool_int _ _ _,EqAt.bool_int _ _ _,RcNeAt.bool_int _ _ _⟩
   | lst e2 g2=>cases rt;obtain⟨its,r,p,_⟩:=I.list (SqL.of e2);exact⟨RcAt.bool_list _ p.isList hA,EqAt.bool_list _ p.isList hA,RcNeAt.bool_list _ p.isList hA⟩
   | tup e2 g2=>cases rt;obtain⟨its,r,p,_⟩:=I.tuple (SqT.of e2);exact⟨RcAt.bool_tuple _ p hA,EqAt.bool_tuple _ p hA,RcNeAt.bool_tuple _ p hA⟩
   | _=>cases h2
  | int _ =>
   obtain⟨_,rfl⟩:=ru;cases b with
   | non=>cases rt;exact⟨RcAt.int_none _ _,EqAt.int_none _ _,RcNeAt.int_none _ _⟩
   | bl _=>cases rt;exact⟨RcAt.int_bool _ _ _,EqAt.int_bool _ _ _,RcNeAt.int_bool _ _ _⟩
   | int _=>obtain⟨_,rfl⟩:=rt;exact⟨RcAt.int_int _ _ _ _,EqAt.int_int _ _ _ _,RcNeAt.int_int _ _ _ _⟩
   | lst e2 g2=>cases rt;obtain⟨its,r,p,_⟩:=I.list (SqL.of e2);exact⟨RcAt.int_list _ _ p.isList hA,EqAt.int_list _ _ p.isList hA,RcNeAt.int_list _ _ p.isList hA⟩
   | tup e2 g2=>cases rt;obtain⟨its,r,p,_⟩:=I.tuple (SqT.of e2);exact⟨RcAt.int_tuple _ _ p hA,EqAt.int_tuple _ _ p hA,RcNeAt.int_tuple _ _ p hA⟩
   | _=>cases h2
  | @lst la vs xs e1 g1 =>
   cases ru;obtain⟨its,r,p,_⟩:=I.list (SqL.of e1);cases b with
   | non=>cases rt;exact⟨RcAt.list_none p.isList hA,EqAt.list_none p.isList hA,RcNeAt.list_none p.isList hA⟩
   | bl _=>cases rt;exact⟨RcAt.list_bool _ p.isList hA,EqAt.list_bool _ p.isList hA,RcNeAt.list_bool _ p.isList hA⟩
   | int _=>obtain⟨_,rfl⟩:=rt;exact⟨RcAt.list_int _ _ p.isList hA,EqAt.list_int _ _ p.isList hA,RcNeAt.list_int _ _ p.isList hA⟩
   | tup e2 g2=>cases rt;obtain⟨its2,r2,p2,_⟩:=I.tuple (SqT.of e2);exact⟨RcAt.list_tuple p.isList p2 hA,EqAt.list_tuple p.isList p2 hA,RcNeAt.list_tuple p.isList p2 hA⟩
   | @lst lb ws ys e2 g2 =>
    cases rt;obtain⟨its2,r2,p2,_⟩:=I.list (SqL.of e2);have l1:its.length=xs.length:=by rw[<- r.length,g1.len]
    have l2:its2.length=ys.length:=by rw[<- r2.length,g2.len]
    have el:=Dq (A:=A.in1) (s:=s) (λa b c d e f=>(ih hin a b c d e f).2.1) (List.all_eq_true.mp h1) (List.all_eq_true.mp h2) g1 g2 r r2;have rc:RcAt A s (.ref la) (.ref lb) (pyq (n+1) (.lst xs) (.lst ys)):=by
     rw[rK];by_cases hl:xs.length=ys.length
     ·have q:=RcAt.lists (A:=A) (s:=s) (e:=λj=>pyq n (xs.getD j .non) (ys.getD j .non)) p.isList p2.isList (by simp[l1,l2,hl]) hA el;have es:its.toArray.size=xs.length:=by simp[l1]
      rw[es]at q;rw[decide_eq_true hl,Bool.true_and];exact q
     ·rw[decide_eq_false hl,Bool.false_and];exact RcAt.lists_lengths p.isList p2.isList (by simp[l1,l2,hl]) hA
    have rn:RcNeAt A s (.ref la) (.ref lb) (!pyq (n+1) (.lst xs) (.lst ys)):=by
     rw[rK];by_cases hl:xs.length=ys.length
     ·have q:=RcNeAt.lists (A:=A) (s:=s) (e:=λj=>pyq n (xs.getD j .non) (ys.getD j .non)) p.isList p2.isList (by simp[l1,l2,hl]) hA el;have es:its.toArray.size=xs.length:=by simp[l1]
      rw[es]at q;rw[decide_eq_true hl,Bool.true_and];exact q
     ·rw[decide_eq_false hl,Bool.false_and];exact RcNeAt.lists_lengths p.isList p2.isList (by simp[l1,l2,hl]) hA
    refine⟨rc,?_,rn⟩;by_cases hab:la=lb
    ·subst hab;have:=Has.inj h1 h2 (.lst e1 g1) (.lst e2 g2);rw[this,t_ h2];exact EqAt.same _
    ·exact EqAt.of_refs hab rc
   | _=>cases h2
  | @tup la vs xs e1 g1 =>
   cases ru;obtain⟨its,r,p,_⟩:=I.tuple (SqT.of e1);cases b with
   | non=>cases rt;exact⟨RcAt.tuple_none p hA,EqAt.tuple_none p hA,RcNeAt.tuple_none p hA⟩
   | bl _=>cases rt;exact⟨RcAt.tuple_bool _ p hA,EqAt.tuple_bool _ p hA,RcNeAt.tuple_bool _ p hA⟩
   | int _=>obtain⟨_,rfl⟩:=rt;exact⟨RcAt.tuple_int _ _ p hA,EqAt.tuple_int _ _ p hA,RcNeAt.tuple_int _ _ p hA⟩
   | lst e2 g2=>cases rt;obtain⟨its2,r2,p2,_⟩:=I.list (SqL.of e2);exact⟨RcAt.tuple_list p p2.isList hA,EqAt.tuple_list p p2.isList hA,RcNeAt.tuple_list p p2.isList hA⟩
   | @tup lb ws ys e2 g2 =>
    cases rt;obtain⟨its2,r2,p2,_⟩:=I.tuple (SqT.of e2);have l1:its.length=xs.length:=by rw[<- r.length,g1.len]
    have l2:its2.length=ys.length:=by rw[<- r2.length,g2.len]
    have el:=Dq (A:=A.in1) (s:=s) (λa b c d e f=>(ih hin a b c d e f).2.1) (List.all_eq_true.mp h1) (List.all_eq_true.mp h2) g1 g2 r r2;have rc:RcAt A s (.ref la) (.ref lb) (pyq (n+1) (.tup xs) (.tup ys)):=by
     rw[rJ];have q:=RcAt.tuples (A:=A) (s:=s) (e:=λj=>pyq n (xs.getD j .non) (ys.getD j .non)) p p2 hA el;have es:its.toArray.size=xs.length:=by simp[l1]
     have es2:its2.toArray.size=ys.length:=by simp[l2]
     rw[es,es2]at q;by_cases hl:xs.length=ys.length
     ·rw[hl,Nat.min_self,beq_self_eq_true,Bool.and_true]at q;rw[decide_eq_true hl,Bool.true_and,hl];exact q
     ·rw[decide_eq_false hl,Bool.false_and];rw[show(xs.length==ys.length)=false by simpa using hl,Bool.and_false]at q;exact q
    have rn:RcNeAt A s (.ref la) (.ref lb) (!pyq (n+1) (.tup xs) (.tup ys)):=by
     rw[rJ];have q:=RcNeAt.tuples (A:=A) (s:=s) (e:=λj=>pyq n (xs.getD j .non) (ys.getD j .non)) p p2 hA el;have es:its.toArray.size=xs.length:=by simp[l1]
     have es2:its2.toArray.size=ys.length:=by simp[l2]
     rw[es,es2]at q;by_cases hl:xs.length=ys.length
     ·rw[hl,Nat.min_self,beq_self_eq_true,Bool.and_true]at q;rw[decide_eq_true hl,Bool.true_and,hl];exact q
     ·rw[decide_eq_false hl,Bool.false_and];rw[show(xs.length==ys.length)=false by simpa using hl,Bool.and_false]at q;exact q
    refine⟨rc,?_,rn⟩;by_cases hab:la=lb
    ·subst hab;have:=Has.inj h1 h2 (.tup e1 g1) (.tup e2 g2);rw[this,t_ h2];exact EqAt.same _
    ·exact EqAt.of_refs hab rc
   | _=>cases h2
  | _=>cases h1
open SeqAt in
theorem AS (I:Inv X pins O H s):∀(n:Nat) {A:Around} {x y:D} {v w:V} {u t:Value},A.units+n<cLine->eqb n x=true->eqb n y=true->Has X.K C H v x->Has X.K C H w y->RelV v u->RelV w t ->
  RcAt A s u t (pyq n x y)/\EqAt A s u t (pyq n x y) :=
 λn _ _ _ _ _ _ _ hu h1 h2 a b c d=>⟨(wB I n hu h1 h2 a b c d).1,(wB I n hu h1 h2 a b c d).2.1⟩
open SeqAt in
theorem Ge (I:Inv X pins O H s):∀(n:Nat) {A:Around} {x y:D} {v w:V} {u t:Value},A.units+n<cLine->eqb n x=true->eqb n y=true->Has X.K C H v x->Has X.K C H w y->RelV v u->RelV w t ->
  RcNeAt A s u t (!pyq n x y) :=
 λn _ _ _ _ _ _ _ hu h1 h2 a b c d=>(wB I n hu h1 h2 a b c d).2.2
variable {K:Frag}
theorem Brw.has {M:Hp} {v:V} {d:D} (s:Same M H) (h:Brw K C M H v d):Has K C H v d:=by
 cases h with
 | cl h=>exact h.mono s
 | own e h=>exact .lst e (h.mono s)
variable {a b:Expr} {Fa Fb:Rho->R D}
section
variable {C:Addr} {X:Cx}
def feq (x y:D):R D:=if eqb 9 x=true/\eqb 9 y=true then .val (.bl (pyq 9 x y))else .bad
def fne (x y:D):R D:=if eqb 9 x=true/\eqb 9 y=true then .val (.bl (!pyq 9 x y))else .bad
def BK (K:Frag) (C:Addr) (neg:Bool):R2:=λv w H Q=>∃x y,eqb 9 x=true/\eqb 9 y=true/\Has K C H v x/\Has K C H w y/\Q (.bl (if neg then !pyq 9 x y else pyq 9 x y)) H
theorem zU (hu:X.A.units+9<cLine):OpR X (compareOp .Eq) (BK X.K C false):=by
 intro pins s O H x y v u Q I rx ry h;obtain⟨dx,dy,e1,e2,h1,h2,q⟩:=h;exact(AS I 9 hu e1 e2 h1 h2 rx ry).1 _ _ _ _ ⟨.bl _,H,I,rfl,q⟩
theorem Es (hu:X.A.units+9<cLine):OpR X (compareOp .NotEq) (BK X.K C true):=by
 intro pins s O H x y v u Q I rx ry h;obtain⟨dx,dy,e1,e2,h1,h2,q⟩:=h;exact Ge I 9 hu e1 e2 h1 h2 rx ry _ _ _ _ ⟨.bl _,H,I,rfl,q⟩
theorem zS:OpD C X (BK X.K C false) feq:=by
 intro U O H v w x y z Q r hx hy e k;unfold feq at e;split at e
 ·rename_i hh;cases e;exact⟨x,y,hh.1,hh.2,hx.has msk_sub,hy.has msk_sub,k _ H (Same.refl _) (.bl _)⟩
 ·cases e
theorem El:OpD C X (BK X.K C true) fne:=by
 intro U O H v w x y z Q r hx hy e k;unfold fne at e;split at e
 ·rename_i hh;cases e;exact⟨x,y,hh.1,hh.2,hx.has msk_sub,hy.has msk_sub,k _ H (Same.refl _) (.bl _)⟩
 ·cases e
theorem Dd:ft feq:=λx y c e=>by unfold feq at e;split at e<;>cases e
theorem FV:ft fne:=λx y c e=>by unfold fne at e;split at e<;>cases e
theorem u9 {pos:Pos} (hu:X.A.units+9<cLine) (ha:EB C X a Fa) (hb:EB C X b Fb):ED C X (.Compare a [.Eq] [b] pos) (bin feq Fa Fb):=AW (zU (C:=C) hu) Dd zS ha hb (km _)
theorem gD {pos:Pos} (hu:X.A.units+9<cLine) (ha:EB C X a Fa) (hb:EB C X b Fb):TD C X (.Compare a [.Eq] [b] pos) (tst (bin feq Fa Fb)):=lN (zU (C:=C) hu) Dd zS ha hb (km _)
theorem cT {pos:Pos} (hu:X.A.units+9<cLine) (ha:EB C X a Fa) (hb:EB C X b Fb):TD C X (.Compare a [.NotEq] [b] pos) (tst (bin fne Fa Fb)):=lN (Es (C:=C) hu) FV El ha hb (km _)
end
variable {C:Addr} {X:Cx}
def Ite (K:Frag) (a:Addr):It :=
 ⟨λi H=>∃xs x,SqL K H a xs/\xs[i]?=some x,λi H v H'=>∃p x,H p=none/\v=.ref p/\H'=upd H p (.tup [.int (i:Int),x])/\∀xs,SqL K H a xs->xs[i]?=some x,λi H=>∃xs,SqL K H a xs/\xs.length<=i⟩
variable {es:List Expr} {k:Nat}
theorem xT {P:Program} {w:World} {pos:Pos} (a it e:Addr) (hne:e≠it) :
  wC P w K (.Tuple es k pos) (Ite K a) [e,it] e (λi h=>(∃old,IsEnum h e it i old)/\h.IsListIter it a i) where
 mem:=by simp
 obj:=λi h st b hb=>by
  obtain⟨⟨old,he⟩,o,eo,c,d⟩:=st;have hb:b=e\/b=it:=by simpa using hb
  rcases hb with rfl|rfl
  ·exact⟨_,he,λv z=>by have z':Data.fields _=Data.cell v:=z;cases z'⟩
  ·exact⟨o,eo,λv z=>by rw[d]at z;cases z⟩
 keep:=λi h h' st kk=>by
  obtain⟨⟨old,he⟩,st⟩:=st;exact⟨⟨old,kk e (by simp) _ he⟩,st.at λo q=>kk it (by simp) o q⟩
 item:=by
  intro X hP hw hK hc i pins s O H E I hf st hg;subst hP hw hK;obtain⟨⟨old,he⟩,hit⟩:=st;obtain⟨xs,x,hq,hx⟩:=hg;obtain⟨its,rv,p,hz⟩:=I.list hq;obtain⟨u,hu,ru⟩:=rv.get hx;refine wpAny_pyNext_enum_item he hit p.isList (x:=u) (by simpa using hu) hne λh' out hit' ht hsz hk=>?_;refine⟨_,rfl,wpAny_letOwnedTupleGo_enum out λh'' he'' sb=>?_⟩;have fr:=I.fresh;have hk2:∀b o,b≠e->b≠it->s.heap.get? b=some o->h''.get? b=some o:=λb o h1 h2 eo=>(sb.2 b h1).trans (hk b o h1 h2 eo);have hse:s.heap.objs.size≠e:=Nat.ne_of_gt (Heap.lt_size he);have ht2:h''.get? s.heap.objs.size=some { cls:=.type "tuple",data:=.seq #[.int i s.toks,u] }:=(sb.2 _ hse).trans ht;have ne':∀b,H b≠none->b≠e/\b≠it:=λb hb=>⟨λz=>hb (by rw[z];exact(hf e (by simp)).1),λz=>hb (by rw[z];exact(hf it (by simp)).1)⟩;have I1:Inv X pins O (upd H s.heap.objs.size (.tup [.int (i:Int),x])) { s with heap:=h'',toks:=s.toks+1 }:=by
   refine I.call' (s':={ s with heap:=h'',toks:=s.toks+1 }) (ch:=[e,it]) rfl ⟨λb o q n hfs hx=>hk2 b o (λz=>hx (by simp[z])) (λz=>hx (by simp[z])) q,λb o q n hfs hx=>⟨o.slots,hk2 b o (λz=>hx (by simp[z])) (λz=>hx (by simp[z])) q⟩,
    λb o q n hx=>?_,λb o q hx=>⟨o,hk2 b o (λz=>hx (by simp[z])) (λz=>hx (by simp[z])) q⟩,λb ys q=>?_,λb o v q=>?_,λb ps q=>?_⟩ (λb o q=>?_) I.bare λb hb=>?_
   ·rw[az (Nat.ne_of_lt (Heap.lt_size q))];exact n
   ·rw[az (bc q fr)];exact q
   ·rw[az (bc q fr)];exact q
   ·exact⟨#[],by rw[az (bc q fr),q];simp⟩
   ·by_cases hb:b=s.heap.objs.size
    ·subst hb;rw[aY]at q;cases q;exact⟨by show 2<=sizeLine;decide,[.int i s.toks,u],.cons ⟨_,rfl⟩ (.cons ru .nil),⟨_,ht2,rfl,_,rfl⟩⟩
    ·rw[az hb]at q;refine(I.hok b o q).stay (λc v hc qv=>?_) (λc qc=>by rw[az (bc qc fr)];exact qc) λc ys qc=>by rw[az (bc qc fr)];exact qc
     have hcn:H c≠none:=by
      rcases hc with z|z
      ·rw[z,q];simp
      ·rw[z];simp
     obtain⟨n1,n2⟩:=ne' c hcn;exact hk2 c v n1 n2 qv
   ·obtain⟨g0,g1,g2,g3,g4,g5⟩:=hf b hb;exact⟨g3,g1,g4,g5⟩
  refine⟨.ref s.heap.objs.size,_,I1,rfl,⟨_,x,fr,rfl,rfl,λys hy=>by rw[I.list_inj hy hq];exact hx⟩,⟨⟨u,?_⟩,?_⟩,λb hb=>?_⟩
  ·have:((i:Int)+1)=((i+1:Nat):Int):=by push_cast;rfl
   rw[this]at he'';exact he''
  ·exact hit'.at λo q=>(sb.2 it (Ne.symm hne)).trans q
  ·have hb':=(hf b hb).1;have hlt:b<s.heap.objs.size:=by
    have hb:b=e\/b=it:=by simpa using hb
    rcases hb with rfl|rfl
    ·exact Heap.lt_size he
    ·obtain⟨o,eo,_⟩:=hit;exact Heap.lt_size eo
   rw[az (Nat.ne_of_lt hlt)];exact hb'
 done:=by
  intro X hP hw hK hc i pins s O H E I hf st hg;subst hP hw hK;obtain⟨⟨old,he⟩,hit⟩:=st;obtain⟨xs,hq,hx⟩:=hg;obtain⟨its,rv,p,hz⟩:=I.list hq;obtain⟨f0,f1,f2,f3,f4,f5⟩:=hf it (by simp);have hl:=rv.length;exact wpAny_pyNext_enum_end (I.ok.hd hc) he hit p.isList (by simp;omega) λh' eb=>⟨rfl,I.turned (t':=s.toks) (λb o hb q=>eb b o hb q) f0 f1 f3 f4 f5⟩
 self:=λ_ _ _ _ _ st h=>by
  obtain⟨⟨old,he⟩,_⟩:=st;exact wpAny_pyIter_enum he h
def enu:Nat->List D->List D
 | _,[]=>[]
 | k,x::r=>.tup [.int (k:Int),x]::enu (k+1) r
theorem xy:∀(k:Nat) (xs:List D),(enu k xs).length=xs.length
 | _,[]=>rfl
 | k,x::r=>by simp[enu,xy]
theorem wt:∀{k:Nat} {xs:List D} {i:Nat} {y:D},(enu k xs)[i]?=some y->∃x,xs[i]?=some x/\y=.tup [.int ((k+i:Nat):Int),x]
 | _,[],_,_,e=>by simp[enu]at e
 | k,x::r,0,y,e=>by
  simp[enu]at e;exact⟨x,rfl,by rw[<- e];rfl⟩
 | k,x::r,i+1,y,e=>by
  have e:(enu (k+1) r)[i]?=some y:=by simpa[enu]using e
  obtain⟨z,h1,h2⟩:=wt e;refine⟨z,by simpa using h1,?_⟩;rw[h2,show k+1+i=k+(i+1) by omega]
theorem xR {a:Addr} {xs:List D} {M:Hp} (e:M a=some (.lst vs)) (h:HasL K C M vs xs):tF K C (Ite K a) (enu 0 xs) M where
 go:=λi y H2 s hy=>by
  obtain⟨x,hx,rfl⟩:=wt hy;obtain⟨v,e1,h1⟩:=h.get hx;refine⟨⟨vs,v,SqL.of (s _ _ e),e1⟩,λv' H3 y=>?_⟩;obtain⟨p,x',hp,rfl,rfl,y⟩:=y;have e2:=y vs (SqL.of (s _ _ e));rw[e1]at e2;cases e2;refine⟨aP hp,λU O hown m=>?_⟩;have em:msk U O (upd H2 p (.tup [.int (i:Int),v])) p=some (.tup [.int (i:Int),v]):=msk_some.mpr ⟨λz=>hown p z hp,aY⟩;refine .tup em (.cons ?_ (.cons (h1.mono (m.trans (aZ (aP hp)))) .nil));rw[Nat.zero_add];exact .int _
 stop:=λH2 s=>⟨vs,SqL.of (s _ _ e),by rw[xy,h.len];exact Nat.le_refl _⟩
variable {p:Pos}
theorem BP {tp pos:Pos} {l:Expr} {ta:TA} (hg:Gl X "enumerate") (hm:X.mg "enumerate"=none) (ha:PA X [l] ta) (hs:starEach [l] X.env=[(false,eval l X.env)]:=by rfl) :
  PI X (.Tuple es k tp) (.Call (.Name "enumerate" p) [l] [] pos) (λO H R=>ta O H λvs H1=>∃a xs,vs=[.ref a]/\SqL X.K H1 a xs/\R (Ite X.K a) H1):=by
 intro pins s O H R I h;refine Call_ (jp I hg hm boot_enumerate (PyProof.Rows.callWith_type1 (thn (ha pos pins s O H _ I h) λus s1 zz0=>?_) hs rfl));obtain⟨vs,H1,I1,r1,q1⟩:=zz0;obtain⟨a,xs,e,hq,q⟩:=q1;subst e;cases r1 with
 | cons r rr =>
  cases rr;cases r;obtain⟨its,rv,pl,hz⟩:=I1.list hq;refine call_enumerate_list pl.isList λh' he hit hsz kp=>?_;have I2:Inv X pins O H1 { s1 with heap:=h' }:=I1.kept (t':=s1.toks) kp;refine wpAny_pyIter_enum he ?_;have ne:s1.heap.objs.size+1≠s1.heap.objs.size:=Nat.succ_ne_self _;refine⟨s1.heap.objs.size+1,[s1.heap.objs.size+1,s1.heap.objs.size],_,_,H1,rfl,I2,xT a s1.heap.objs.size (s1.heap.objs.size+1) ne,⟨⟨_,he⟩,hit⟩,λb hb=>?_,q⟩;have hb:b=s1.heap.objs.size+1\/b=s1.heap.objs.size:=by simpa using hb
  have hle:s1.heap.objs.size<=b:=by
   rcases hb with z|z
   ·rw[z];exact Nat.le_succ _
   ·rw[z];exact Nat.le_refl _
  exact I1.fpOk hle (I1.hok.fresh hle)
def wu:List D->R (List D)
 | [.lst xs]=>.val (enu 0 xs)
 | _=>.bad
def eE (F:Rho->R (List D)):Rho->R (List D):=λU=>(F U).bind wu
theorem cz {tp pos : Pos} {l : Expr} {F : Rho -> R (List D)} (hg : Gl X "enumerate") (hm : X.mg "enumerate" = none) (ha : AD C X [l] F) (hs : starEach [l] X.env = [(false, eval l X.env)] := by rfl) :
    ID C X (.Tuple es k tp) (.Call (.Name "enumerate" p) [l] [] pos) (eE F) := ng (BP hg hm ha hs) fun O H R yy0 => by
     obtain ⟨U, ⟨H0, r⟩, q⟩ := yy0
     exact ⟨U, ⟨H0, r⟩, by
  unfold eE at q
  cases e : F U with
  | val ds =>
    rw [e] at q
    intro vs H1 s1 h1
    dsimp only [DL.R.bind] at q
    unfold wu at q
    split at q
    · rename_i e0
      split at e0
      · rename_i xs
        cases e0
        cases h1 with
        | cons a b =>
          cases b
          cases a with
          | lst e1 g1 => exact ⟨_, _, rfl, SqL.of (msk_sub _ _ e1), q _ H1 s1 (xR e1 g1)⟩
      · cases e0
    · rename_i e0
      split at e0 <;> cases e0
    · exact q.elim
  | exc c => rw [e] at q; exact q
  | bad => rw [e] at q; exact q⟩
def FS:V->List V->Hp->VK->Prop:=λx vs H Q=>∃l xs i y,x=.ref l/\vs=[.int i,y]/\H l=some (.lst xs)/\0<=i/\i<=xs.length/\xs.length<LIM/\Q .non (upd H l (.lst (xs.take i.toNat++y::xs.drop i.toNat)))
theorem yj:MtM X "list.insert" FS:=by
 intro pins s O H x vs v us Q I rx rv h;obtain⟨l,xs,i,y,rfl,rfl,hH,h0,h1,hz,q⟩:=h;cases rx;obtain⟨ui,uy,rfl,⟨tk,rfl⟩,ry⟩:=rv.two;obtain⟨z,its,n,r,hl,e⟩:=I.lstM hH;have hfit:¬(!Builtin.List.listFitsIndex i)=true:=by
  have h63:(xs.length:Int)<2 ^ 63:=by
   have:xs.length<100000:=hz;omega
  have:Builtin.List.listFitsIndex i=true:=by
   unfold Builtin.List.listFitsIndex;rw[Bool.and_eq_true];exact⟨decide_eq_true (by omega),decide_eq_true (by omega)⟩
  rw[this];simp
 refine call_meets F.slot_list_insert ⟨_,e,rfl⟩ F.entry_list_insert (F.args_list_insert_3 _ _ _) (PySem.AutoListH.list_insert_list_int_val_1 l its.toArray n i tk uy hfit (by rw[List.size_toArray,<- hl];exact z)) ⟨e,?_⟩;have hm:min i.toNat its.length=i.toNat:=by omega
 refine⟨.non,_,I.lset (its':=its.take i.toNat++uy::its.drop i.toNat) hH e ?_ ((r.take i.toNat).append (.cons ry (r.drop i.toNat))) ?_,rfl,q⟩
 ·have hlt:¬ i<0:=by omega
  simp only[hlt,if_false,List.size_toArray,hm];apply Array.ext';simp[hm];exact List.take_of_length_le (by rw[List.length_drop];exact Nat.le_refl _)
 ·rw[List.length_append,List.length_cons,List.length_take,List.length_drop];have:xs.length<100000:=hz;have h2:(100000:Nat)<=sizeLine:=by decide
  omega
def ins (i:Nat) (k e:Rho->R D):Rho->R Out:=λU=>match U[i]? with
 | some (some (.own xs))=>(k U).bind λn=>(e U).bind λd=>match n with
  | .int n=>if 0<=n/\n<=xs.length/\xs.length<LIM then .val (.nx (U.set i (some (.own (xs.take n.toNat++d::xs.drop n.toNat)))))else .bad
  | _=>.bad
 | _=>.bad
theorem zh {i:Nat} {x:Str} {k e:Expr} {ap cp pos:Pos} {Fk F:Rho->R D} (hv:PE X (.Name x p) (fv i)) (hk:ED C X k Fk) (he:ED C X e F)
  (hs:∀{to:TE} {t:TA},PE X (.Name x p) to->PA X [k,e] t->PS X (.Expr (.Call (.Attribute (.Name x p) "insert" ap) [k,e] [] cp) pos) (nF (tBM X.K "list" FS to t)):=by
   exact λho ha=>kO (qr PySem.F.plainAttrs_list PySem.F.slot_list_insert PySem.F.type_list_insert yj ho ha))
  (hst:starEach [k,e] X.env=(false,eval k X.env)::starEach [e] X.env:=by rfl) (hst2:starEach [e] X.env=(false,eval e X.env)::starEach [] X.env:=by rfl) :
  SD C X (.Expr (.Call (.Attribute (.Name x p) "insert" ap) [k,e] [] cp) pos) (ins i Fk F) :=
 bF (hs hv (ci hk (ci he dD hst2) hst)) λD O H zz1=>by
  obtain⟨_,H0,⟨U,rfl,r⟩,q⟩:=zz1;unfold ins at q;split at q
  ·rename_i xs e0;obtain⟨a,vs,e1,_,h1,h2⟩:=r.at_ i _ e0;refine⟨_,e1,.inl ⟨rfl,_,SqL.of h1⟩,U,⟨H0,r⟩,aW (P:=λz _=>pS C X z H0 D) (λc h=>dm r h) (λh=>h) q λn v H1 s1 h3 q1=>?_⟩;refine⟨U,⟨H0,r.mono s1⟩,aW (P:=λz _=>pS C X z H0 D) (λc h=>dm (r.mono s1) h) (λh=>h) q1 λd w H2 s2 h4 q2=>?_⟩;cases n with
   | int n =>
    dsimp only at q2;split at q2
    ·rename_i hl;cases h3;have h2':=h2.mono (aZ (U:=U) (O:=O) (s1.trans s2));refine⟨a,vs,n,w,rfl,rfl,s2 _ _ (s1 _ _ h1),hl.1,by rw[h2.len];exact hl.2.1,by rw[h2.len];exact hl.2.2,?_⟩;exact q2 _ _ ⟨_,rfl,((r.mono s1).mono s2).write e0 e1 ((h2'.take _).app (.cons h4 (h2'.drop _)))⟩
    ·exact q2.elim
   | _=>exact q2.elim
  ·exact q.elim
def FT (K:Frag) (C:Addr) (neg:Bool):R2:=λv w H Q=>∃x a vs ys,eqb 8 x=true/\ys.all (eqb 8)=true/\Has K C H v x/\w=.ref a/\H a=some (.lst vs)/\HasL K C H vs ys/\Q (.bl (if neg then !(ys.any λy=>pyq 8 y x)else ys.any λy=>pyq 8 y x)) H
open Classical in
theorem Cn (I:Inv X pins O H s) {A:Around} (hu:A.units+9<cLine) {x:D} {v:V} {u:Value} {its:List Value} {ys:List D} (e1:eqb 8 x=true) (e2:ys.all (eqb 8)=true) (h1:Has X.K C H v x) (rx:RelV v u)
  (h2:HasL X.K C H vs ys) (r:Vals vs its):∃e:Value->Bool,(∀y,y∈its.toArray->SeqAt.EqAt A.in1 s y u (e y))/\its.toArray.any e=ys.any λy=>pyq 8 y x:=by
 have key:∀(j:Nat) (t:Value) (d:D),its[j]?=some t->ys[j]?=some d->∃w,RelV w t/\Has X.K C H w d:=λj t d q1 q2=>by
  obtain⟨w,g1,g2⟩:=h2.get q2;obtain⟨t',g3,g4⟩:=r.get g1;rw[q1]at g3;cases g3;exact⟨w,g4,g2⟩
 have mem8:∀(j:Nat) d,ys[j]?=some d->eqb 8 d=true:=λj d q=>List.all_eq_true.mp e2 d (List.mem_of_getElem? q);refine⟨λt=>decide (∃(j:Nat) (d:D),its[j]?=some t/\ys[j]?=some d/\pyq 8 d x=true),λt ht=>?_,?_⟩
 ·have ht:t∈its:=by simpa using ht
  obtain⟨j,hj,rfl⟩:=List.mem_iff_getElem.mp ht;have hl:its.length=ys.length:=by rw[<- r.length,h2.len]
  have q1:its[j]?=some its[j]:=by simp[hj]
  have q2:ys[j]?=some (ys[j]'(by omega)):=by simp[show j<ys.length by omega]
  obtain⟨w,g1,g2⟩:=key j _ _ q1 q2;have ok:=(AS I 8 (A:=A.in1) (by show A.units+1+8<cLine;omega) (mem8 j _ q2) e1 g2 h1 g1 rx).2;have:decide (∃(j':Nat) (d:D),its[j']?=some its[j]/\ys[j']?=some d/\pyq 8 d x=true)=pyq 8 (ys[j]'(by omega)) x:=by
   cases hp:pyq 8 (ys[j]'(by omega)) x with
   | true=>exact decide_eq_true ⟨j,_,q1,q2,hp⟩
   | false =>
    refine decide_eq_false λzz2=>?_;obtain⟨j',d,z1,z2,z3⟩:=zz2;obtain⟨w',g1',g2'⟩:=key j' _ _ z1 z2;have ew:w'=w:=RelV.inj g1' g1;subst ew;have:=Has.inj (mem8 j' d z2) (mem8 j _ q2) g2' g2;rw[<- this,z3]at hp;cases hp
  show SeqAt.EqAt A.in1 s its[j] u (decide (∃(j':Nat) (d:D),its[j']?=some its[j]/\ys[j']?=some d/\pyq 8 d x=true));rw[this];exact ok
 ·have hl:its.length=ys.length:=by rw[<- r.length,h2.len]
  rw[Bool.eq_iff_iff];simp only[Array.any_eq_true,List.any_eq_true,decide_eq_true_eq];constructor
  ·rintro⟨i,hi,j,d,q1,q2,q3⟩;exact⟨d,List.mem_of_getElem? q2,q3⟩
  ·rintro⟨d,hd,q3⟩;obtain⟨j,hj,rfl⟩:=List.mem_iff_getElem.mp hd;have hj':j<its.length:=by omega
   exact⟨j,by simpa using hj',j,ys[j],by simp[hj'],by simp[hj],q3⟩
theorem yh (hu:X.A.units+9<cLine):OpR X (compareOp .NotIn) (FT X.K C true):=by
 intro pins s O H x y v u Q I rx ry h;obtain⟨d,a,vs,ys,e1,e2,h1,rfl,hH,h2,q⟩:=h;cases ry;obtain⟨its,r,pl,hz⟩:=I.list (SqL.of hH);obtain⟨e,he,hany⟩:=Cn I hu e1 e2 h1 rx h2 r;exact SeqAt.notIn_listAt e pl.isList he ⟨.bl _,H,I,by rw[hany];rfl,q⟩
def mT (neg:Bool) (x y:D):R D:=match y with
 | .lst ys=>if eqb 8 x=true/\ys.all (eqb 8)=true then .val (.bl (if neg then !(ys.any λy=>pyq 8 y x)else ys.any λy=>pyq 8 y x))else .bad
 | _=>.bad
theorem Ep (neg:Bool):OpD C X (FT X.K C neg) (mT neg):=by
 intro U O H v w x y z Q r hx hy e k;unfold mT at e;split at e
 ·rename_i ys;split at e
  ·rename_i hh;cases e;obtain⟨a,vs,rfl,e1,h2⟩:=hy.lst msk_sub;exact⟨x,a,vs,ys,hh.1,hh.2,hx.has msk_sub,rfl,e1,h2.mono msk_sub,k _ H (Same.refl _) (.bl _)⟩
  ·cases e
 ·cases e
theorem FZ (neg:Bool):ft (mT neg):=λx y c e=>by
 unfold mT at e;split at e
 ·split at e<;>cases e
 ·cases e
theorem DA {pos:Pos} (hu:X.A.units+9<cLine) (ha:EB C X a Fa) (hb:EB C X b Fb) (hm:behindInMarks .NotIn b=false:=by rfl):TD C X (.Compare a [.NotIn] [b] pos) (tst (bin (mT true) Fa Fb)):=lN (yh (C:=C) hu) (FZ _) (Ep _) ha hb hm
end DL
namespace DL
open PySem PySem.Spec PyProof.Rows L2
open AutoSeq1 (wpAny_loadPart')
variable {r:Addr} {a b c:Int} {t u v:Tok} {n:Nat}
section
variable {prog:Program} {w:World} {A:Around} {E:Value->Shared->Prop} {s:Shared}
theorem lI {Q:List Value->Shared->Prop} (hh:A.handled=none) (hr:IsRange s.heap r a b c t u v) (hsmall:Builtin.Range.small a b c=true)
  (hn:Builtin.Range.rangeSize a b c=n) (hlen:n<=2 ^ 24)
  (hQ:∀h' tk acc,(∀b o',s.heap.get? b=some o'->h'.get? b=some o')->ItemsOf (λi v=>∃t,v=.int (a+i*c) t) acc n->Q acc.toList { s with heap:=h',toks:=tk }) :
  wpAny (model prog w) A (collect (.ref r)) Q E s:=by
 unfold collect;refine wpAny_bind (wpAny_runValue (codeAny_builtin F.entry_proto_collect ?_));rw[Around.under_plainId F.plain_proto_collect _];show wpAny _ A.in1 (newList [] >>= λl=>again (.builtin "list.__iadd__" ⟨[l,.ref r],[]⟩)) _ _ s;refine wpAny_bind (wpAny_newObj_type ?_);refine wpAny_pure ⟨plainId_quiet F.plain_list_iadd _,codeAny_builtin F.entry_list_iadd ?_⟩;rw[Around.under_plainId F.plain_list_iadd _];show wpAny _ A.in1 (Builtin.List.listExtendWith (.ref s.heap.objs.size) (.ref r) (.ref s.heap.objs.size)) _ _ _;have hS:(s.heap.push { cls:=.type "list",data:=.seq ([]:List Value).toArray }).get? s.heap.objs.size=some { cls:=.type "list",data:=.seq #[] 0 }:=Heap.get?_push_size _ rfl;have fin':∀h' tk acc c',(∀b o',s.heap.get? b=some o'->h'.get? b=some o')->h'.get? s.heap.objs.size=some { cls:=.type "list",dict:=none,data:=.seq acc c',slots:=#[] }->ItemsOf (λi v=>∃t,v=.int (a+i*c) t) acc n ->
   wpAny (model prog w) A (match Value.ref s.heap.objs.size with
   | Value.ref a=>do
    match(<- load a).data with
     | Data.seq xs _=>pure xs.toList
     | _=>unsupported "internal:collect"
   | _=>unsupported "internal:collect") Q E { s with heap:=h',toks:=tk }:=λh' tk acc c' hk hS' hacc=>by
  show wpAny _ A (load s.heap.objs.size >>= _) _ _ _;refine wpAny_bind (wpAny_load hS' ?_);exact wpAny_pure (hQ h' tk acc hk hacc)
 refine wpAny_mono (wpAny_extend_range (A:=A) (R:=λres s'=>∃h' tk acc c',res=.ok (.ret (.ref s.heap.objs.size))/\s'={ s with heap:=h',toks:=tk }/\(∀b o',s.heap.get? b=some o'->h'.get? b=some o') /\
   h'.get? s.heap.objs.size=some { cls:=.type "list",dict:=none,data:=.seq acc c',slots:=#[] }/\ItemsOf (λi v=>∃t,v=.int (a+i*c) t) acc n)
  (s:={ s with heap:=s.heap.push { cls:=.type "list",data:=.seq ([]:List Value).toArray } }) hh (Heap.get?_push_of_some _ hr) hsmall hn hlen s.heap.objs.size _ 0 hS λh' tk acc' c' hk hS' hacc=>⟨h',tk,acc',c',rfl,rfl,λb o' hb=>hk b o' (Nat.ne_of_lt (Heap.lt_size hb)) (Heap.get?_push_of_some _ hb),hS',hacc⟩) (λfin s' h=>?_) (λe s' h=>?_)
 ·cases fin with
  | done f =>
   obtain⟨h',tk,acc,c',e,rfl,hk,hS',hacc⟩:=h;cases e;exact fin' h' tk acc c' hk hS' hacc
  | again c'=>exact⟨h.1,codeAny_mono h.2 λr s'' hr=>by obtain⟨h',tk,acc,c',rfl,rfl,hk,hS',hacc⟩:=hr;exact fin' h' tk acc c' hk hS' hacc⟩
 ·obtain⟨_,_,_,_,e,_⟩:=h;exact absurd e (by simp)
theorem jC {Q₁:Value->Shared->Prop} (hh:A.handled=none) (hr:IsRange s.heap r a b c t u v) (hsmall:Builtin.Range.small a b c=true)
  (hn:Builtin.Range.rangeSize a b c=n) (hlen:n<=2 ^ 24)
  (h:∀(h':Heap) (tk:Nat) (acc:Array Value),(∀b o',s.heap.get? b=some o'->h'.get? b=some o')->ItemsOf (λi v=>∃t,v=.int (a+i*c) t) acc n->Q₁ (.ref h'.objs.size) { s with heap:=h'.push { cls:=.type "tuple",data:=.seq acc },toks:=tk }) (hsz:n<=sizeLine) :
  codeAny (model prog w) A (.call (.builtin "tuple.__new__") ⟨[.type "tuple",.ref r],[]⟩) (wants Q₁ E) s:=by
 refine codeAny_of_tree ?_;show wpAny _ A.in1 (do checkBuiltinCall "tuple.__new__" ⟨[.type "tuple",.ref r],[]⟩;again (.builtin "tuple.__new__" ⟨[.type "tuple",.ref r],[]⟩)) _ _ s;refine wpAny_bind (wpAny_of_eq (F.newCall_tuple_1 _) (wpAny_pure ⟨plainId_quiet F.plain_tuple_new _,codeAny_builtin F.entry_tuple_new ?_⟩));rw[Around.under_plainId F.plain_tuple_new _];have hsub:=sub_tuple_self;have hinit:=init_tuple_lookup;have hmh:=madeHere_tuple;have hTI:s.TypeIs (.ref r) "range":=⟨_,hr,rfl⟩;have hhi:A.in1.handled=none:=hh
 wp_walk using wpAny_typeOf hTI,lI (A:=A.in1) hhi hr hsmall hn hlen
 intro h' tk acc hk hacc;show wpAny _ _ (Builtin.Tuple.tupleExact acc.toList.toArray >>= λv=>PySem.ret v) _ _ _;unfold Builtin.Tuple.tupleExact;refine wpAny_bind (wpAny_newObj_type ?_ (by show acc.toList.toArray.size<=sizeLine;simp only[Array.toArray_toList];rw[hacc.1];exact hsz));refine wpAny_pure ?_;have e:acc.toList.toArray=acc:=by simp
 rw[e];exact h h' tk acc hk hacc
theorem mh {Q:Value->Shared->Prop} (hh:A.handled=none) (hr:IsRange s.heap r a b c t u v) (hsmall:Builtin.Range.small a b c=true)
  (hn:Builtin.Range.rangeSize a b c=n) (hlen:n<=2 ^ 24)
  (h:∀(h':Heap) (tk:Nat) (acc:Array Value),(∀b o',s.heap.get? b=some o'->h'.get? b=some o')->ItemsOf (λi v=>∃t,v=.int (a+i*c) t) acc n->Q (.ref h'.objs.size) { s with heap:=h'.push { cls:=.type "tuple",data:=.seq acc },toks:=tk }) (hsz:n<=sizeLine) :
  wpAny (model prog w) A (call (.type "tuple") [.ref r]) Q E s:=by
 refine callType_codes (Q₁:=λobj s₁=>s₁.TypeIs obj "tuple"/\Q obj s₁) F.called_tuple (F.typeCall_tuple_1 _) F.entry_object_init
  (jC hh hr hsmall hn hlen (λh' tk acc hm hacc=>⟨⟨_,Heap.get?_push_size _ rfl,rfl⟩,h h' tk acc hm hacc⟩) hsz) λobj s₁ h₁=>?_
 exact⟨h₁.1,F.args_object_init_2 obj _,object_init_meets F.called_tuple.init.lookup F.called_tuple.made (by decide) prog w A.in1 _ s₁ ⟨h₁.1,rfl,h₁.2⟩⟩
end
section
variable {C:Addr} {X:Cx}
def GS (ta:TA):TE:=λO H Q=>ta O H λvs H1=>∃j:Int,vs=[.int j]/\-(2 ^ 62)<=j/\j<2 ^ 62/\∀r,H1 r=none->Q (.ref r) (upd H1 r (.rng 0 j))
theorem zL {a:Expr} {ta:TA} {p pos:Pos} (hg:Gl X "range") (hm:X.mg "range"=none) (ha:PA X [a] ta) (hs:starEach [a] X.env=[(false,eval a X.env)]:=by rfl):PE X (.Call (.Name "range" p) [a] [] pos) (GS ta):=by
 intro pins s O H Q I h;refine Call_ (jp I hg hm boot_range (PyProof.Rows.callWith_type1 (thn (ha pos pins s O H _ I h) λus s1 zz0=>?_) hs rfl));obtain⟨vs,H1,I1,r1,q1⟩:=zz0;obtain⟨j,e,q1,q2,q⟩:=q1;subst e;cases r1 with
 | cons r rr =>
  cases rr;obtain⟨t,rfl⟩:=r;refine call_range_1 ?_;exact⟨.ref s1.heap.objs.size,_,I1.laid (a:=s1.heap.objs.size) (o:=.rng 0 j) (λb u e=>Heap.get?_push_of_some _ e) (Nat.le_refl _) ⟨_,_,_,Heap.get?_push_size _ rfl⟩,rfl,q _ I1.fresh⟩
theorem nv {acc:List Value} (h:acc.length=n) (hv:∀(j:Nat) v,acc[j]?=some v->∃t,v=.int (0+(j:Int)*1) t):Vals ((List.range n).map λ(k:Nat)=>V.int (0+(k:Int))) acc:=by
 induction n generalizing acc with
 | zero=>cases acc with
  | nil=>exact .nil
  | cons x r=>simp at h
 | succ n ih =>
  have hne:acc≠[]:=by intro z;rw[z]at h;cases h
  have e:acc=acc.dropLast++[acc.getLast hne]:=(List.dropLast_concat_getLast hne).symm;have hl:acc.dropLast.length=n:=by rw[List.length_dropLast,h];rfl
  rw[List.range_succ,List.map_append,e];refine Vals.append (ih hl λj v q=>?_) (.cons ?_ .nil)
  ·refine hv j v ?_;rw[e,List.getElem?_append_left (List.getElem?_eq_some_iff.mp q).1];exact q
  ·obtain⟨t,et⟩:=hv n (acc.getLast hne) (by rw[List.getLast_eq_getElem,List.getElem?_eq_getElem (by omega)];congr 1;simp[h]);exact⟨t,by rw[et];simp⟩
def zq:List V->Hp->VK->Prop:=λxs H Q=>∃r j,xs=[.ref r]/\H r=some (.rng 0 j)/\-(2 ^ 62)<=j/\j<=100000/\∀p,H p=none->Q (.ref p) (upd H p (.tup ((List.range j.toNat).map λ(k:Nat)=>V.int (0+(k:Int)))))
theorem jE (hc:X.calm=true):jK X (.type "tuple") zq:=by
 intro pins s O H xs us Q I r h;obtain⟨ra,j,rfl,hq,hj0,hj,q⟩:=h;obtain⟨u,rfl,rx⟩:=mo r;cases rx;obtain⟨t,u',v',e⟩:=I.hok ra _ hq;have hn:Builtin.Range.rangeSize 0 j 1=(j.toNat:Nat):=by rw[rangeSize_one];split<;>omega
 have hsm:Builtin.Range.small 0 j 1=true:=small_one (by decide) (by decide) hj0 (by omega);refine mh (n:=j.toNat) (I.ok.hd hc) e hsm hn (by omega) (λh' tk acc hk hacc=>?_) (Nat.le_trans (show j.toNat<=100000 by omega) (by decide));have I1:Inv X pins O H { s with heap:=h',toks:=tk }:=I.kept hk;have hv:Vals ((List.range j.toNat).map λ(k:Nat)=>V.int (0+(k:Int))) acc.toList:=nv (by simpa using hacc.1) λi v q=>hacc.2 i v (by simpa using q);have I2:Inv X pins O (upd H h'.objs.size (.tup ((List.range j.toNat).map λ(k:Nat)=>V.int (0+(k:Int))))) { s with heap:=h'.push { cls:=.type "tuple",data:=.seq acc },toks:=tk } :=
  I1.laid (t':=tk) (λb o e=>Heap.get?_push_of_some _ e) (Nat.le_refl _) (show ObjOk X.prog X.w _ _ _ (.tup _)from⟨by rw[List.length_map,List.length_range];exact Nat.le_trans (show j.toNat<=100000 by omega) (by decide),acc.toList,hv,by simpa using IsTup.new _ _⟩)
 exact⟨.ref h'.objs.size,_,I2,rfl,q _ I1.fresh⟩
def rgT:List D->R D
 | [.int j]=>if -(2 ^ 62)<=j/\j<=100000 then .val (.tup (rng 0 j.toNat))else .bad
 | _=>.bad
def jv (F:Rho->R (List D)):Rho->R D:=λU=>(F U).bind rgT
theorem uP {K:Frag} {H:Hp} (n:Nat):HasL K C H ((List.range n).map λ(k:Nat)=>V.int (0+(k:Int))) (rng 0 n):=by
 unfold rng
 induction List.range n with
 | nil=>exact .nil
 | cons x r ih=>exact .cons (.int _) ih
theorem u7 {a : Expr} {p p2 pos pos2 : Pos} {F : Rho -> R (List D)} (hc : X.calm = true) (ha : AD C X [a] F) (hgr : Gl X "range") (hmr : X.mg "range" = none) (hgt : Gl X "tuple") (hmt : X.mg "tuple" = none)
    (hs : starEach [a] X.env = [(false, eval a X.env)] := by rfl) (hs2 : starEach [.Call (.Name "range" p2) [a] [] pos2] X.env = (false, eval (.Call (.Name "range" p2) [a] [] pos2) X.env) :: starEach [] X.env := by rfl)
    (hs3 : ∀ t : TA, PA X [.Call (.Name "range" p2) [a] [] pos2] t -> PE X (.Call (.Name "tuple" p) [.Call (.Name "range" p2) [a] [] pos2] [] pos) (tCB zq t) := by
      exact fun t ha => cA (jE (by assumption)) (by assumption) (by assumption) PySem.boot_tuple ha) :
    ED C X (.Call (.Name "tuple" p) [.Call (.Name "range" p2) [a] [] pos2] [] pos) (jv F) :=
  aR (hs3 _ (ci (zL hgr hmr ha hs) dD hs2)) fun O H Q yy0 => by
   obtain ⟨U, ⟨H0, r⟩, q⟩ := yy0
   exact ⟨U, ⟨H0, r⟩, fS (P := fun z H => pV X (dv C X U O) z O H Q) (fun _ h => h) (fun h => h) q fun ds vs H1 s1 h1 q1 => by
    unfold rgT at q1
    split at q1
    · rename_i j
      split at q1
      · rename_i hj
        cases h1 with
        | cons a b =>
          cases a; cases b
          refine ⟨j, rfl, hj.1, by omega, fun ra hra => ⟨ra, j, rfl, aY, hj.1, hj.2, fun pa hpa => q1 _ _ ((s1.trans (aP hra)).trans (aP hpa)) ?_⟩⟩
          exact .tup (((r.mono s1).mono (aP hra)).new hpa) (uP _)
      · exact q1.elim
    · exact q1.elim⟩
end
end DL
namespace DL
open PySem PySem.Spec PyProof.Rows L2
def IsArr (h:Heap) (k:KA) (a:Addr):Prop:=∃ta t1 t2 its,IsTup h a #[.int k.1 t1,.int k.2.1 t2,.ref ta]/\IsTup h ta its.toArray/\IntsAre its k.2.2
theorem uN {prog:Program} {w:World}:∀{its:List Value} {ks:List Int},IntsAre its ks->ItemsAre (intKind prog w) ks its
 | _,_,.nil=>.nil
 | _,_,.cons n t h=>.cons (by show Value.isInt n (.int n t)=true;simp[Value.isInt]) (uN h)
variable {h:Heap}
theorem q8 {prog:Program} {w:World} {ta:Addr} {its:List Value} {ks:List Int} (h1:IsTup h ta its.toArray) (h2:IntsAre its ks):IsTupleKey (intKind prog w) h ks ta:=by
 obtain⟨o,ho,hc,n,hd⟩:=h1;exact⟨o,its.toArray,n,ho,hc,hd,by simpa using uN h2⟩
theorem my:∀{its:List Value} {ks ls:List Int},IntsAre its ks->IntsAre its ls->ks=ls
 | _,_,_,.nil,.nil=>rfl
 | _,_,_,.cons n t h,.cons _ _ h'=>by rw[my h h']
variable {a:Addr}
theorem qy {x y:Array Value} (h1:IsTup h a x) (h2:IsTup h a y):x=y:=by
 obtain⟨o,ho,hc,n,hd⟩:=h1;obtain⟨o',ho',hc',n',hd'⟩:=h2;rw[ho]at ho';cases ho';rw[hd]at hd';injection hd'
variable {k:KA}
theorem IsArr.inj {l:KA} (h1:IsArr h k a) (h2:IsArr h l a):k=l:=by
 obtain⟨ta,t1,t2,its,q1,q2,q3⟩:=h1;obtain⟨tb,u1,u2,jts,p1,p2,p3⟩:=h2;have e:=qy q1 p1;have e':=congrArg Array.toList e;simp only[List.cons.injEq,Value.int.injEq,Value.ref.injEq]at e';obtain⟨⟨e1,_⟩,⟨e2,_⟩,e3,_⟩:=e';subst e3;have e4:=qy q2 p2;have e5:its=jts:=by simpa using congrArg Array.toList e4
 subst e5;have e6:=my q3 p3;obtain⟨a1,a2,a3⟩:=k;obtain⟨b1,b2,b3⟩:=l;simp only at e1 e2 e6;rw[e1,e2,e6]
theorem mw {h':Heap} {d:Addr} {o:Obj} {es ep} {x:Array Value} (hx:IsTup h a x) (ho:h.get? d=some o) (hd:o.data=.dict es ep) (hs:Heap.SameBut d h h'):IsTup h' a x:=by
 obtain⟨o',ho',hc,n,hd'⟩:=hx;have hne:a≠d:=by
  rintro rfl;rw[ho]at ho';cases ho';rw[hd]at hd';cases hd'
 exact⟨o',(hs.2 a hne).trans ho',hc,n,hd'⟩
section
variable {prog:Program} {w:World} {A:Around} {E:Value->Shared->Prop} {s:Shared}
theorem vO {Q:Int->Shared->Prop} (hu:A.units+2<cLine) (hk:IsArr s.heap k a) (h:Q (ni k) { s with toks:=s.toks+(k.2.2.length+4) }):wpAny (model prog w) A (pyHash (.ref a)) Q E s:=by
 obtain⟨ta,t1,t2,its,q1,q2,q3⟩:=hk;have hT:s.TypeIs (.ref a) "tuple":=let ⟨o,ho,hc,_⟩:=q1;⟨o,ho,hc⟩;obtain⟨o,ho,_,n,hd⟩:=id q1;unfold pyHash
 first|unfold pyHashByItsType|skip
 first|refine wpAny_bind (wpAny_cRoomFor_or (.inr (by omega)) ?_)|skip
 refine wpAny_bind (wpAny_specialOf hT F.slot_tuple_hash.lookup ?_);show wpAny _ _ (if(some (Value.builtin "tuple.__hash__")==some Value.none)=true then _ else _) Q E s;rw[if_neg (by rw[beq_builtin_none];exact Bool.false_ne_true)];refine wpAny_bind (wpAny_specialOf hT F.slot_tuple_hash.lookup ?_);show wpAny _ _ (callSpecialIfBoundUnlessNone? (.ref a) "__hash__" _ >>= _) Q E s;refine wpAny_bind (wpAny_callSpecialIfBoundUnlessNone?_slot hT F.slot_tuple_hash (wpAny_call_entry F.slot_tuple_hash hT F.entry_tuple_hash ?_ (F.args_tuple_hash_1 _)));show wpAny _ _ (Builtin.Tuple.tupleItemsOf (.ref a) >>= _) _ _ s;refine wpAny_bind (wpAny_tupleItemsOf ho hd ?_);refine wpAny_bind ?_;rw[<- Array.forIn_toList];simp only[List.forIn_cons,List.forIn_nil];refine wpAny_bind (wpAny_bind (wpAny_pyHash_int ?_));refine wpAny_pure ?_;refine wpAny_bind (wpAny_bind (wpAny_pyHash_int ?_));refine wpAny_pure ?_;refine wpAny_bind (wpAny_bind (wpAny_pyHash_tuple (knd:=intKind prog w) (ks:=k.2.2) (by show A.units+1<cLine;omega) (q8 q2 q3) ?_));refine wpAny_pure (wpAny_pure ?_);show wpAny _ _ (retInt (Builtin.Tuple.tupleHashOf _)) _ _ _;refine wpAny_ret_mkInt ?_;have e:((((#[]:Array Int).push (hashInt k.1)).push (hashInt k.2.1)).push (tupleKeyHash (intKind prog w) k.2.2)).toList=[hashInt k.1,hashInt k.2.1,reduceHash (Builtin.Tuple.tupleHashOf (k.2.2.map hashInt))]:=rfl;rw[e];unfold ni at h;generalize hg:Builtin.Tuple.tupleHashOf [hashInt k.1,hashInt k.2.1,reduceHash (Builtin.Tuple.tupleHashOf (k.2.2.map hashInt))]=G at h ⊢;show wpAny _ _ (if(decide (-(2:Int) ^ 63<=G)&&decide (G<2 ^ 63))=true then _ else _) Q E _;unfold reduceHash at h;by_cases hr:(decide (-(2:Int) ^ 63<=G)&&decide (G<2 ^ 63))=true
 ·rw[if_pos hr];rw[if_pos hr]at h;refine wpAny_pure ?_;simpa[Nat.add_assoc,Nat.add_comm,Nat.add_left_comm]using h
 ·rw[if_neg hr];rw[if_neg hr]at h;refine wpAny_bind (wpAny_rule (wpAny_pure ?_));simpa[Nat.add_assoc,Nat.add_comm,Nat.add_left_comm]using h
theorem AT {l:KA} {b:Addr} (hu:A.units+2<cLine) (hk:IsArr s.heap k a) (hl:IsArr s.heap l b):SeqAt.EqAt A s (.ref a) (.ref b) (decide (k=l)):=by
 by_cases hab:a=b
 ·subst hab;rw[hk.inj hl,decide_eq_true rfl];exact SeqAt.EqAt.same _
 ·refine SeqAt.EqAt.of_refs hab ?_;obtain⟨ta,t1,t2,its,q1,q2,q3⟩:=hk;obtain⟨tb,u1,u2,jts,p1,p2,p3⟩:=hl;have z:=SeqAt.RcAt.tuples (A:=A) (s:=s) (e:=λj=>if j=0 then k.1==l.1 else if j=1 then k.2.1==l.2.1 else decide (k.2.2=l.2.2)) q1 p1 (by omega) λj h1 h2=>by
   have hj:j=0\/j=1\/j=2:=by
    have:j<3:=h1;omega
   rcases hj with rfl|rfl|rfl
   ·exact SeqAt.EqAt.int_int _ _ _ _
   ·exact SeqAt.EqAt.int_int _ _ _ _
   ·exact λprog w E Q hq=>wpAny_eqBool_tuple (knd:=intKind prog w) (by show A.units+1<cLine;omega) (q8 q2 q3) (q8 p2 p3) hq
  have e:((List.range (min (#[Value.int k.1 t1,.int k.2.1 t2,.ref ta]:Array Value).size (#[Value.int l.1 u1,.int l.2.1 u2,.ref tb]:Array Value).size)).all (λj=>if j=0 then k.1==l.1 else if j=1 then k.2.1==l.2.1 else decide (k.2.2=l.2.2)) &&
    (#[Value.int k.1 t1,.int k.2.1 t2,.ref ta]:Array Value).size==(#[Value.int l.1 u1,.int l.2.1 u2,.ref tb]:Array Value).size)=decide (k=l):=by
   obtain⟨a1,a2,a3⟩:=k;obtain⟨b1,b2,b3⟩:=l;show((List.range 3).all _&&true)=_;rw[Bool.eq_iff_iff];simp[List.range_succ]
  rw[e]at z;exact z
theorem yb (n:Nat) {ks:List Int} {Q:Bool->Shared->Prop} (hk:IsTupleKey (intKind prog w) s.heap ks a) (h:Q true s):wpAny (model prog w) A (eqIsQuiet (n+1) (.ref a)) Q E s:=by
 have hT:=hk.typeIs;obtain⟨o,items,m,ho,_,hd,hi⟩:=hk;unfold eqIsQuiet;refine wpAny_bind (wpAny_specialOf hT F.slot_tuple_eq.lookup ?_);show wpAny _ _ (isInstance (.ref a) (.type "tuple") >>= _) _ _ s;refine wpAny_bind (wpAny_isInstance hT isSubtype_tuple_tuple ?_);simp only[Bool.not_true,Bool.false_eq_true,if_false];refine wpAny_bind (wpAny_seqItems ho hd ?_);refine wpAny_bind ?_;show wpAny _ _ (forIn items _ _) _ _ s;rw[<- Array.forIn_toList];refine wpAny_forIn_list _ (λrest r s'=>r.1=none/\s'=s/\∀v∈rest,carriedByValue v=true) _ ?_ ?_ _ _ ⟨rfl,rfl,hi.byValue⟩
 ·rintro v rest r s' ⟨hr,rfl,hall⟩;rw[eqIsQuiet_byValue _ (hall v List.mem_cons_self)];refine wpAny_bind (wpAny_pure ?_);simp only[Bool.not_true,Bool.false_eq_true,if_false];exact wpAny_pure ⟨rfl,rfl,λu hu'=>hall u (List.mem_cons_of_mem _ hu')⟩
 ·rintro⟨r1,r2⟩ s' ⟨hr,rfl,_⟩;simp only at hr;subst hr;exact wpAny_pure h
theorem yc {Q:Bool->Shared->Prop} (hk:IsArr s.heap k a) (h:Q true s):wpAny (model prog w) A (eqIsQuiet 8 (.ref a)) Q E s:=by
 obtain⟨ta,t1,t2,its,q1,q2,q3⟩:=hk;have hT:s.TypeIs (.ref a) "tuple":=let ⟨o,ho,hc,_⟩:=q1;⟨o,ho,hc⟩;obtain⟨o,ho,_,n,hd⟩:=id q1;unfold eqIsQuiet;refine wpAny_bind (wpAny_specialOf hT F.slot_tuple_eq.lookup ?_);show wpAny _ _ (isInstance (.ref a) (.type "tuple") >>= _) _ _ s;refine wpAny_bind (wpAny_isInstance hT isSubtype_tuple_tuple ?_);simp only[Bool.not_true,Bool.false_eq_true,if_false];refine wpAny_bind (wpAny_seqItems ho hd ?_);refine wpAny_bind ?_;show wpAny _ _ (forIn (#[Value.int k.1 t1,.int k.2.1 t2,.ref ta]:Array Value) _ _) _ _ s;rw[<- Array.forIn_toList];refine wpAny_forIn_list _ (λrest r s'=>r.1=none/\s'=s/\∀v∈rest,carriedByValue v=true\/v=.ref ta) _ ?_ ?_ _ _ ⟨rfl,rfl,λv hv=>?_⟩
 ·rintro v rest r s' ⟨hr,rfl,hall⟩;rcases hall v List.mem_cons_self with hv|rfl
  ·rw[eqIsQuiet_byValue _ hv];refine wpAny_bind (wpAny_pure ?_);simp only[Bool.not_true,Bool.false_eq_true,if_false];exact wpAny_pure ⟨rfl,rfl,λu hu'=>hall u (List.mem_cons_of_mem _ hu')⟩
  ·refine wpAny_bind (yb (prog:=prog) (w:=w) 6 (q8 q2 q3) ?_);simp only[Bool.not_true,Bool.false_eq_true,if_false];exact wpAny_pure ⟨rfl,rfl,λu hu'=>hall u (List.mem_cons_of_mem _ hu')⟩
 ·rintro⟨r1,r2⟩ s' ⟨hr,rfl,_⟩;simp only at hr;subst hr;exact wpAny_pure h
 ·have hv:v∈[Value.int k.1 t1,.int k.2.1 t2,.ref ta]:=hv;simp only[List.mem_cons,List.not_mem_nil,or_false]at hv;rcases hv with rfl|rfl|rfl
  ·exact .inl rfl
  ·exact .inl rfl
  ·exact .inr rfl
end
def nu (prog:Program) (w:World):HeapKind prog w KA where
 is:=IsArr
 hash:=ni
 draws:=λk=>k.2.2.length+4
 room:=λA=>A.units+2<cLine
 inj:=λhx hy=>hx.inj hy
 keeps:=λhx ho hd hs=>by
  obtain⟨ta,t1,t2,its,q1,q2,q3⟩:=hx;exact⟨ta,t1,t2,its,mw q1 ho hd hs,mw q2 ho hd hs,q3⟩
 pyHash:=λhu hk h=>vO hu hk h
 eqBool:=λhu hx hy h=>AT hu hx hy _ _ _ _ h
 quiet:=λhk h=>yc hk h
variable {C:Addr} {X:Cx}
variable {O:St} {H:Hp}
theorem kZ {pins:List (Addr×Obj)} {s:Shared} (I:Inv X pins O H s) {kb:Addr} (h:KeyIn H k kb):IsArr s.heap k kb:=by
 obtain⟨ta,h1,h2⟩:=h;obtain⟨its,r,p,_⟩:=I.tuple (SqT.of h1);obtain⟨jts,r2,p2,_⟩:=I.tuple (SqT.of h2);cases r with
 | cons a b =>
  cases b with
  | cons c d =>
   cases d with
   | cons e f =>
    cases f;obtain⟨t1,rfl⟩:=a;obtain⟨t2,rfl⟩:=c;cases e;exact⟨ta,t1,t2,jts,p,p2,oA r2⟩
variable {xs:List (KA×Addr×Value)}
theorem sY {pins:List (Addr×Obj)} {s:Shared} (I:Inv X pins O H s) (e:H a=some (lw a xs)) (hk:∀x∈xs,KeyIn H x.1 x.2.1) (nd:(xs.map (·.1)).Nodup) :
  s.heap.DictOfH (nu X.prog X.w) a xs/\(a==sysModules)=false/\xs.length<=100001:=by
 obtain⟨⟨h1,hl,o,es,ep,h2,h3,h4,h5⟩,_⟩:=I.hok a _ e;exact⟨⟨o,es,ep,h2,h3,h4,h5,λx hx=>kZ I (hk x hx),nd⟩,h1,hl⟩
def G3:R2:=λx y H Q=>∃a xs kb k p v,x=.ref a/\y=.ref kb/\H a=some (lw a xs)/\(∀x∈xs,KeyIn H x.1 x.2.1)/\(xs.map (·.1)).Nodup/\KeyIn H k kb/\atKey xs k=some p/\RelV v p.2/\Q v H
theorem EM (hu:X.A.units+3<cLine):IxR X G3:=by
 intro value slice pins s O H x y v u Q I rx ry h hs;obtain⟨a,xs,kb,k,p,v',rfl,rfl,e,hk,nd,hkey,hp,rp,q⟩:=h;cases rx;cases ry;obtain⟨hD,_,_⟩:=sY I e hk nd;exact subscriptTail_builtinR (x:=p.2) hD.typeIs slot_dict_getitem.lookup
  (wpAny_getItem_heap (knd:=nu X.prog X.w) (Q:=λr s'=>r=p.2/\EP X pins O Q r s') (by show X.A.units+1+2<cLine;omega) (kZ I hkey) hD hp ⟨rfl,v',H,I.tok _,rp,q⟩) hs
def G4 (neg:Bool):R2:=λx y H Q=>∃a xs kb k,x=.ref kb/\y=.ref a/\H a=some (lw a xs)/\(∀x∈xs,KeyIn H x.1 x.2.1)/\(xs.map (·.1)).Nodup/\KeyIn H k kb/\Q (.bl (if neg then !(atKey xs k).isSome else(atKey xs k).isSome)) H
theorem B1 (hu:X.A.units+3<cLine):OpR X (compareOp .NotIn) (G4 true):=by
 intro pins s O H x y v u Q I rx ry h;obtain⟨a,xs,kb,k,rfl,rfl,e,hk,nd,hkey,q⟩:=h;cases rx;cases ry;obtain⟨hD,hs,_⟩:=sY I e hk nd;exact wpAny_notIn_heap (knd:=nu X.prog X.w) (by show X.A.units+1+2<cLine;omega) (kZ I hkey) hs hD ⟨.bl _,H,I.tok _,rfl,q⟩
def FN:C6:=λo i v H Q=>∃a xs kb k,o=.ref a/\i=.ref kb/\H a=some (lw a xs)/\(∀x∈xs,KeyIn H x.1 x.2.1)/\(xs.map (·.1)).Nodup/\KeyIn H k kb/\xs.length<=100000/\∀u,RelV v u->((storedH xs k kb u).map (·.1)).Nodup->Q (upd H a (lw a (storedH xs k kb u)))
theorem o5:∀h1 h2:Heap,dOk a xs h1->(∀o,h1.get? a=some o->h2.get? a=some o)->dOk a xs h2:=λh1 h2 ⟨p1,p2,o,es,ep,e1,e2,e3,e4⟩ k=>⟨p1,p2,o,es,ep,k o e1,e2,e3,e4⟩
theorem wM (hu:X.A.units+3<cLine):Fp X FN:=by
 intro pins s O H o i v ov iv u Q I ro ri rv h;obtain⟨a,xs,kb,k,rfl,rfl,e,hk,nd,hkey,hl,q⟩:=h;cases ro;cases ri;obtain⟨hD,hs,_⟩:=sY I e hk nd;refine wpAny_setItem_heap (knd:=nu X.prog X.w) (by show X.A.units+1+2<cLine;omega) (kZ I hkey) hD (λh' hD' sb=>?_) (Nat.le_trans hl (by decide));obtain⟨o',es,ep,e1,e2,e3,e4,_,nd'⟩:=hD';have len:(storedH xs k kb u).length<=100001:=by
  cases z:atKey xs k with
  | none=>rw[storedH_new z];simp;omega
  | some p=>rw[storedH_old z];simp;omega
 refine⟨_,I.write (x:=a) (e:=a) (by rw[e];exact True.intro) (.inl rfl) (λb w hb z=>(sb.2 b hb).trans z) ⟨o',e1⟩ ?_,q u rv nd'⟩;exact⟨⟨hs,len,o',es,ep,e1,e2,e3,e4⟩,⟨o',e1⟩,o5⟩
def oy (kvs:List (KA×D)) (k:KA) (d:D):List (KA×D):=if(kvs.any λp=>decide (p.1=k))=true then kvs.map (λp=>if p.1=k then(p.1,d)else p)else kvs++[(k,d)]
def wc (kvs:List (KA×D)) (k:KA):Option D:=(kvs.find? λp=>decide (p.1=k)).map (·.2)
def eI:List D->Option (List Int)
 | []=>some []
 | .int i::r=>(eI r).map (i :: ·)
 | _=>none
def p8:D->Option KA
 | .tup [.int a,.int b,.tup xs]=>(eI xs).map λl=>(a,b,l)
 | _=>none
theorem h9 {K:Frag} {M:Hp}:∀{xs:List D} {l:List Int} {vs:List V},eI xs=some l->HasL K C M vs xs->vs=l.map V.int
 | [],l,vs,e,h=>by cases e;cases h;rfl
 | x::r,l,vs,e,h=>by
  cases x with
  | int i =>
   rw[eI]at e;cases z:eI r with
   | none=>rw[z]at e;cases e
   | some l' =>
    rw[z]at e;cases e;cases h with
    | cons a b=>cases a;rw[h9 z b];rfl
  | _=>cases e
variable {K:Frag}
theorem sv {M:Hp} {d:D} {v:V} (e:p8 d=some k) (h:Has K C M v d):∃kb,v=.ref kb/\KeyIn M k kb:=by
 unfold p8 at e;split at e
 ·rename_i a b xs;cases z:eI xs with
  | none=>rw[z]at e;cases e
  | some l =>
   rw[z]at e;cases e;cases h with
   | tup q hl =>
    cases hl with
    | cons h1 hl =>
     cases h1;cases hl with
     | cons h2 hl =>
      cases h2;cases hl with
      | cons h3 hl =>
       cases hl;cases h3 with
       | tup q2 g=>rw[h9 z g]at q2;exact⟨_,rfl,_,q,q2⟩
 ·cases e
variable {kvs:List (KA×D)}
section
variable {K:Frag} {M:Hp}
theorem sR:∀{kvs:List (KA×D)} {xs:List (KA×Addr×Value)} {k:KA},Paired (EntOk K C M) kvs xs->(atKey xs k).isSome=kvs.any λp=>decide (p.1=k)
 | _,_,k,.nil=>rfl
 | _,_,k,.cons (a:=p) (b:=q) h t=>by
  have ih:=sR (k:=k) t;have e:=h.1;unfold atKey at ih ⊢;rw[List.find?_cons,List.any_cons,<- e];by_cases z:p.1=k
  ·rw[decide_eq_true z];rfl
  ·rw[decide_eq_false z];exact ih
theorem xB:∀{kvs:List (KA×D)} {xs:List (KA×Addr×Value)} {k:KA} {d:D},Paired (EntOk K C M) kvs xs->wc kvs k=some d->∃p v,atKey xs k=some p/\RelV v p.2/\Has K C M v d
 | _,_,k,d,.nil,e=>by cases e
 | _,_,k,d,.cons (a:=p) (b:=q) h t,e=>by
  obtain⟨e1,_,v,h1,h2⟩:=h;unfold wc at e;unfold atKey;rw[List.find?_cons]at e ⊢;rw[<- e1];by_cases z:p.1=k
  ·rw[decide_eq_true z]at e ⊢;cases e;exact⟨_,v,rfl,h1,h2⟩
  ·rw[decide_eq_false z]at e ⊢;exact xB t e
theorem ju:∀{kvs:List (KA×D)} {xs:List (KA×Addr×Value)},Paired (EntOk K C M) kvs xs->∀x∈xs,KeyIn M x.1 x.2.1
 | _,_,.nil,x,hx=>by cases hx
 | _,_,.cons h t,x,hx=>by
  rcases List.mem_cons.mp hx with rfl|hx
  ·rw[<- h.1];exact h.2.1
  ·exact ju t x hx
theorem xA {k:KA} {d:D} {u:Value} {v:V} (rv:RelV v u) (hv:Has K C M v d):∀{kvs:List (KA×D)} {xs:List (KA×Addr×Value)},Paired (EntOk K C M) kvs xs->Paired (EntOk K C M) (kvs.map λp=>if p.1=k then(p.1,d)else p) (xs.map (putAt k u))
 | _,_,.nil=>.nil
 | _,_,.cons (a:=p) (b:=q) h t=>by
  refine .cons ?_ (xA rv hv t);obtain⟨e1,h2,v',h3,h4⟩:=h;show EntOk K C M (if p.1=k then(p.1,d)else p) (if q.1=k then(q.1,q.2.1,u)else q);rw[<- e1];by_cases z:p.1=k
  ·rw[if_pos z,if_pos z];exact⟨rfl,h2,v,rv,hv⟩
  ·rw[if_neg z,if_neg z];exact⟨e1,h2,v',h3,h4⟩
theorem xz {d:D} {u:Value} {v:V} {kb:Addr} (rv:RelV v u) (hv:Has K C M v d) (hk:KeyIn M k kb) (h:Paired (EntOk K C M) kvs xs):Paired (EntOk K C M) (oy kvs k d) (storedH xs k kb u):=by
 unfold oy;have e:=sR (k:=k) h;by_cases z:(kvs.any λp=>decide (p.1=k))=true
 ·rw[if_pos z];rw[z]at e;obtain⟨p,hp⟩:=Option.isSome_iff_exists.mp e;rw[storedH_old hp];exact xA rv hv h
 ·rw[if_neg z];have:atKey xs k=none:=by
   cases q:atKey xs k with
   | none=>rfl
   | some p=>rw[q]at e;exact absurd e.symm z
  rw[storedH_new this];exact Paired.snoc h ⟨rfl,hk,v,rv,hv⟩
end
variable {i:Nat}
theorem Rel.setDic {H0:Hp} {U:RB} (r:Rel K C H0 U O H) (hn:H a=none):Rel K C H0 (U.put i (.dic []) [a]) (O.set i (some (.ref a))) (upd H a (lw a [])) :=
 r.put m7 (λj hj=>List.getElem?_set_ne λz=>hj z.symm) (λb hb=>.inr (by cases List.mem_singleton.mp hb;exact hn)) (λj _=>.of (aP hn)) (λb o e=>aP hn b o (msk_some.mp e).2)
  (λb hb=>.inr (by cases List.mem_singleton.mp hb;exact⟨[],aY⟩)) λhi s=>⟨a,rq (by rw[<- r.len];exact hi),List.mem_singleton.mpr rfl,[],aY,List.nodup_nil,.nil⟩
theorem Rel.putDic {H0:Hp} {U:RB} (r:Rel K C H0 U O H) {kvs':List (KA×D)} {xs':List (KA×Addr×Value)} (e:U.rho[i]?=some (some (.dic kvs))) (q:O[i]?=some (some (.ref a)))
  (nd:(xs'.map (·.1)).Nodup) (h:Paired (EntOk K C (msk U O H)) kvs' xs'):Rel K C H0 (U.put i (.dic kvs') [a]) O (upd H a (lw a xs')):=by
 obtain⟨b,e1,ha,_⟩:=r.at_ i _ e;rw[q]at e1;cases e1;exact r.put rfl (λj _=>rfl) (λb hb=>.inl (by cases List.mem_singleton.mp hb;exact ha)) (λj hj=>r.apart ha hj) (r.shown ha) (λb hb=>.inr (by cases List.mem_singleton.mp hb;exact⟨xs',aY⟩))
  λhi s=>⟨a,q,List.mem_singleton.mpr rfl,xs',aY,nd,Paired.mapP h λp q z=>z.mono s⟩
def AZ (i:Nat):Rho->R Out:=λU=>.val (.nx (U.set i (some (.dic []))))
theorem zO {pos:Pos}:PE X (.Dict [] [] pos) (λ_ H Q=>∀p,H p=none->Q (.ref p) (upd H p (lw p []))):=λpins s O H Q I h=>by
 have big:sysModules<s.heap.objs.size:=Nat.lt_trans (by decide) (show mainGlobals<s.heap.objs.size from(I.mod.glob.keeps I.bk).lt);have e1:(s.heap.push { cls:=.type "dict",data:=.dict #[] }).get? s.heap.objs.size=some { cls:=.type "dict",data:=.dict #[] }:=Heap.get?_push_size _ rfl;have ok:dOk s.heap.objs.size [] (s.heap.push { cls:=.type "dict",data:=.dict #[] }):=⟨by simpa using(Nat.ne_of_gt big),Nat.zero_le _,_,#[],_,e1,⟨rfl,rfl,rfl⟩,rfl,rfl⟩;exact wpAny_Dict_empty ⟨.ref s.heap.objs.size,_,I.laid (a:=s.heap.objs.size) (o:=lw s.heap.objs.size []) (t':=s.toks) (λ_ _ q=>Heap.get?_push_of_some _ q) (Nat.le_refl _) ⟨ok,⟨_,e1⟩,o5⟩,rfl,h _ I.fresh⟩
variable {x:Str}
theorem wO {pos pos' dp:Pos} (hN:X.N.Nodup) (hi:X.N[i]?=some x) (hx:Loc X.env.scope x) (hs:swapsWith (.Dict [] [] dp) (some (.Name x pos')) pos.line X.env=pure false:=by rfl)
    (hf:X.fn x=true\/X.env.scope.names.lookup x=some .local:=by first|exact .inl rfl|exact .inr rfl|assumption):SD C X (.Assign [.Name x pos'] (.Dict [] [] dp) pos) (AZ i) :=
  bF (rM hN hi hx zO hs hf) λD O H yy0=>by
   obtain⟨_,H0,⟨U,rfl,r⟩,q⟩:=yy0;exact λp hp=>q _ _ ⟨_,rfl,r.setDic hp⟩
def sX (i:Nat) (k e:Rho->R D):Rho->R Out:=λU=>(e U).bind λd=>(noE (k U)).bind λkd=>match p8 kd with
 | some k=>match U[i]? with
  | some (some (.dic kvs))=>if kvs.length<=100000 then .val (.nx (U.set i (some (.dic (oy kvs k d)))))else .bad
  | _=>.bad
 | none=>.bad
theorem nS {M:Hp} (h:Paired (EntOk K C M) kvs xs):kvs.length=xs.length:=Paired.length h
theorem wv {M M':Hp} (m:Same M M') (h:Paired (EntOk K C M) kvs xs):Paired (EntOk K C M') kvs xs:=Paired.mapP h λp q z=>z.mono m
variable {p:Pos} {Fk:Rho->R D}
theorem wN {k e : Expr} {sp pos : Pos} {F : Rho -> R D} (hu : X.A.units + 3 < cLine) (hv : PE X (.Name x p) (fv i)) (hk : ED C X k Fk) (he : ED C X e F)
    (ha : ∀ v, assign (.Subscript (.Name x p) k sp) X.env v = (do
      let ov <- holding [v] (eval (.Name x p) X.env)
      let iv <- holding [v, ov] (eval k X.env)
      standAt sp
      holding [v, ov, iv] (setItem ov iv v)
      release [v, ov, iv] []) := by intro _; rfl)
    (hs : swapsWithSole [.Subscript (.Name x p) k sp] e pos.line X.env = pure false := by rfl) (hw : swappedStores [.Subscript (.Name x p) k sp] e X.env = pure none := by rfl)
    (h1 : (assignEach [.Subscript (.Name x p) k sp] X.env).map (·.2) = [assign (.Subscript (.Name x p) k sp) X.env] := by rfl) :
    SD C X (.Assign [.Subscript (.Name x p) k sp] e pos) (sX i Fk F) :=
  bF (rN he (vR hv hk (wM hu) ha) hs hw h1) fun D O H yy1 => by
   obtain ⟨_, H0, ⟨U, rfl, r⟩, q⟩ := yy1
   exact ⟨U, ⟨H0, r⟩, aW (P := fun z _ => pS C X z H0 D) (fun c h => dm r h) (fun h => h) q fun d v H1 s1 h1 q1 => by
    cases ek : Fk U with
    | exc c => rw [ek] at q1; exact q1.elim
    | bad => rw [ek] at q1; exact q1.elim
    | val kd =>
      rw [ek] at q1
      dsimp only [DL.R.bind, noE] at q1
      split at q1
      · rename_i kk ekk
        split at q1
        · rename_i kvs ei
          split at q1
          · rename_i hl
            obtain ⟨a, ea, _, xs, eH, nd, hp⟩ := r.at_ i _ ei
            refine ⟨_, ea, U, ⟨H0, r.mono s1⟩, ?_⟩
            rw [ek]
            intro kv H2 s2 h2
            obtain ⟨kb, rfl, hkey⟩ := sv ekk h2
            have hp2 := wv (aZ (s1.trans s2)) hp
            refine ⟨a, xs, kb, kk, rfl, rfl, s2 _ _ (s1 _ _ eH), fun x hx => (ju hp2 x hx).mono msk_sub, nd, hkey.mono msk_sub, by rw [<- nS hp]; exact hl, fun u ru nd' => ?_⟩
            exact q1 _ _ ⟨_, rfl, ((r.mono s1).mono s2).putDic ei ea nd' (xz ru (h1.mono (aZ s2)) hkey hp2)⟩
          · exact q1.elim
        · exact q1.elim
      · exact q1.elim⟩
def sZ (i:Nat) (k:Rho->R D):Rho->R D:=λU=>match U[i]? with
 | some (some (.dic kvs))=>(k U).bind λkd=>match p8 kd with
  | some k=>match wc kvs k with
   | some d=>.val d
   | none=>.bad
  | none=>.bad
 | _=>.bad
theorem xE {k:Expr} {pos:Pos} (hu:X.A.units+3<cLine) (hv:PE X (.Name x p) (fv i)) (hk:ED C X k Fk) (hs:lz k:=by exact λ_ _=>rfl) :
  ED C X (.Subscript (.Name x p) k pos) (sZ i Fk) :=
 aR (zN (EM hu) hv hk hs) λO H Q zz1=>by
  obtain⟨U,⟨H0,r⟩,q⟩:=zz1;unfold sZ at q;split at q
  ·rename_i kvs ei;obtain⟨a,ea,_,xs,eH,nd,hp⟩:=r.at_ i _ ei;refine⟨_,ea,U,⟨H0,r⟩,aW (P:=λz H=>pV X (dv C X U O) z O H Q) (λ_ h=>h) (λh=>h) q λkd kv H1 s1 h1 q1=>?_⟩;split at q1
   ·rename_i kk ekk;split at q1
    ·rename_i d eg;obtain⟨kb,rfl,hkey⟩:=sv ekk h1;have hp2:=wv (aZ s1) hp;obtain⟨pr,v,e1,e2,e3⟩:=xB hp2 eg;exact⟨a,xs,kb,kk,pr,v,rfl,rfl,s1 _ _ eH,λx hx=>(ju hp2 x hx).mono msk_sub,nd,hkey.mono msk_sub,e1,e2,q1 v H1 s1 e3⟩
    ·exact q1.elim
   ·exact q1.elim
  ·exact q.elim
def AY (i:Nat) (k:Rho->R D):Rho->R Bool:=λU=>(k U).bind λkd=>match U[i]? with
 | some (some (.dic kvs))=>match p8 kd with
  | some k=>.val (!(kvs.any λp=>decide (p.1=k)))
  | none=>.bad
 | _=>.bad
theorem Bu {k : Expr} {pos : Pos} (hu : X.A.units + 3 < cLine) (hv : PE X (.Name x p) (fv i)) (hk : ED C X k Fk) (hm : behindInMarks .NotIn (.Name x p) = false := by rfl) :
    TD C X (.Compare k [.NotIn] [.Name x p] pos) (AY i Fk) :=
  fi (wW (B1 hu) hk hv hm) fun O H Q yy2 => by
   obtain ⟨U, ⟨H0, r⟩, q⟩ := yy2
   exact ⟨U, ⟨H0, r⟩, aW (P := fun z H => pB X z O H Q) (fun _ h => h) (fun h => h) q fun kd kv H1 s1 h1 q1 => by
    split at q1
    · rename_i kvs ei
      obtain ⟨a, ea, _, xs, eH, nd, hp⟩ := r.at_ i _ ei
      split at q1
      · rename_i kk ekk
        obtain ⟨kb, rfl, hkey⟩ := sv ekk h1
        have hp2 := wv (aZ s1) hp
        refine ⟨_, ea, a, xs, kb, kk, rfl, rfl, s1 _ _ eH, fun x hx => (ju hp2 x hx).mono msk_sub, nd, hkey.mono msk_sub, _, rfl, ?_⟩
        have := sR (k := kk) hp2
        rw [this]
        exact q1 H1 s1
      · exact q1.elim
    · exact q1.elim⟩
end DL
namespace DL
open PySem PySem.Spec PyProof.Rows L2
variable {C:Addr} {X:Cx}
def fz (i:Nat) (F:Rho->R Out):Rho->R Out:=λU=>F (frz i U)
theorem ii {sts:List Stmt} {F:Rho->R Out} (i:Nat) (h:SDs C X sts F):SDs C X sts (fz i F):=BA i h
def Fn (P:Program) (w:World) (K:Frag) (mg:Str->Option Value) (base:Heap) (C:Addr) (k:Nat) (x:Str) (n:Nat) (den:List D->R D):Prop :=
 ∃f fd ps,FnOk P w K mg base CX0 k f fd ps (spD K C n den)/\mg x=some (.ref f)/\keepIn K (.ref f)=true/\Binds K fd ps []
variable {k:Nat}
theorem GC {n:Nat} {den:List D->R D} {x:Str} {p pos:Pos} {e:Expr} {es:List Expr} {Fa:Rho->R (List D)} (F:Fn X.prog X.w X.K X.mg X.base C k x n den) (hr:Room k X.A) (hg:Gl X x) (ha:AD C X (e::es) Fa) (hx:X.xe=λ_ _=>False)
  (hdb:(x==("__debug__":Str))=false:=by decide) (he:starEach (e::es) X.env=(false,eval e X.env)::starEach es X.env:=by rfl) (hpl:(backTo pos (starEach es X.env)).any (·.1)=false:=by rfl) :
  ED C X (.Call (.Name x p) (e::es) [] pos) (cal n den Fa):=by
 obtain⟨f,fd,ps,h1,h2,h3,h4⟩:=F;exact CJ h1 hr hg h2 h3 h4 w8 ha hdb he hpl
theorem bi {A:Around} (r:Room k A):A.units+9<cLine:=by have:=r.un;omega
theorem qp {A:Around} (r:Room k A):A.units+3<cLine:=by have:=r.un;omega
theorem dq (m:Nat):∀j∈[m],m<=j:=λj hj=>by rw[List.mem_singleton.mp hj];exact Nat.le_refl _
theorem Am (m:Nat):∀j∈[m,m+1],m<=j:=λj hj=>by
 rcases List.mem_cons.mp hj with h|h
 ·rw[h];exact Nat.le_refl _
 ·rw[List.mem_singleton.mp h];exact Nat.le_succ _
def whD (c:Rho->R Bool) (F:Rho->R Out):Nat->Rho->R Out
 | 0,_=>.bad
 | n+1,U=>(c U).bind λb=>if b=true then(F U).bind λo=>match o with
   | .nx U'=>whD c F n U'
   | .ct U'=>whD c F n U'
   | .bk U'=>.val (.nx U')
   | .rt d=>.val (.rt d)
  else .val (.nx U)
theorem zg {c:Expr} {body:List Stmt} {pos:Pos} {Fc:Rho->R Bool} {F:Rho->R Out} (n:Nat) (hp:PassesOwn (model X.prog X.w) X.A X.env X.xe) (hc:TD C X c Fc) (hb:SDs C X body F):SD C X (.While c body [] pos) (whD Fc F n) :=
  bF (zy hp hc hb) λD O H yy0=>by
   obtain⟨_,H0,⟨U,rfl,r⟩,q⟩:=yy0;exact⟨λm σ' H'=>∃U':RB,eG C X H0 U' σ' H'/\pS C X (whD Fc F m U') H0 D,⟨n,U,r,q⟩,λm σ' H' zz0=>by
    obtain⟨U',r',q'⟩:=zz0;cases m with
    | zero=>exact q'.elim
    | succ m =>
      unfold whD at q';refine⟨U',⟨H0,r'⟩,kQ (P:=λz _=>pS C X z H0 D) (λc h=>dm r' h) (λh=>h) q' λb H1 s1 q1=>?_⟩;cases b with
      | false=>exact we (q1 σ' H1 (r'.mono s1).e)
      | true =>
        refine wd ⟨λO2 H2=>∃U2:RB,eG C X H0 U2 O2 H2/\pS C X (whD Fc F m U2) H0 D,λO2 H2 z=>⟨m,Nat.lt_succ_self _,z⟩,U',H0,(r'.mono s1).e,?_⟩;rw[if_pos rfl]at q1;cases eF:F U' with
        | val o =>
          rw[eF]at q1;cases o with
          | nx U2=>exact λO4 H4 ⟨β4,e4,r4⟩=>⟨β4,r4,by rw[e4];exact q1⟩
          | ct U2=>exact λO4 H4 ⟨β4,e4,r4⟩=>⟨β4,r4,by rw[e4];exact q1⟩
          | bk U2=>exact λO4 H4 r4=>q1 O4 H4 r4
          | rt d=>exact λv4 H4 s4 h4=>q1 v4 H4 s4 h4
        | exc c=>rw[eF]at q1;exact q1
        | bad=>rw[eF]at q1;exact q1⟩
end DL
namespace DL
open PySem PySem.Spec PyProof.Rows L2
variable {x:Str}
section
variable {env:Env} {r:List Expr} {p:Pos}
theorem aa:starEach (.Name x p::r) env=(false,eval (.Name x p) env)::starEach r env:=rfl
theorem aw {a k}:starEach (.Constant a k p::r) env=(false,eval (.Constant a k p) env)::starEach r env:=rfl
theorem dR {a}:starEach (.List a p::r) env=(false,eval (.List a p) env)::starEach r env:=rfl
theorem nH {a k}:starEach (.Tuple a k p::r) env=(false,eval (.Tuple a k p) env)::starEach r env:=rfl
theorem bp {a b c}:starEach (.BinOp a b c p::r) env=(false,eval (.BinOp a b c p) env)::starEach r env:=rfl
theorem ae {a b}:starEach (.Subscript a b p::r) env=(false,eval (.Subscript a b p) env)::starEach r env:=rfl
theorem aU {a b}:starEach (.Attribute a b p::r) env=(false,eval (.Attribute a b p) env)::starEach r env:=rfl
theorem av {a b c}:starEach (.Call a b c p::r) env=(false,eval (.Call a b c p) env)::starEach r env:=rfl
theorem aO {a b c}:starEach (.ListComp a b c p::r) env=(false,eval (.ListComp a b c p) env)::starEach r env:=rfl
theorem aq:(backTo p (starEach [] env)).any (·.1)=false:=rfl
theorem aj {e:Expr} (h:starEach (e::r) env=(false,eval e env)::starEach r env) (h2:(backTo p (starEach r env)).any (·.1)=false):(backTo p (starEach (e::r) env)).any (·.1)=false:=by
 rw[h];exact h2
theorem bb {e:Expr} (h:starEach [e] env=(false,eval e env)::starEach [] env):starEach [e] env=[(false,eval e env)]:=h.trans rfl
end
variable {i j:Nat} {sl:Slt} {a:Addr}
section
variable {K:Frag} {C:Addr} {H0 H:Hp} {U:RB} {O:St}
def RB.del (U:RB) (i:Nat):RB:=⟨U.rho.set i none,λj=>if j=i then[]else U.ad j⟩
theorem qC {l:Rho} (h:(l.set i none)[j]?=some (some sl)):i≠j/\l[j]?=some (some sl):=by
 rw[List.getElem?_set]at h;split at h
 ·split at h<;>cases h
 ·exact⟨by assumption,h⟩
theorem kC (h:a∈(U.del i).ad j):j≠i/\a∈U.ad j:=by
 unfold RB.del at h;dsimp only at h;split at h
 ·cases h
 ·exact⟨‹_›,h⟩
theorem np (h:j≠i):(U.del i).ad j=U.ad j:=by
 unfold RB.del;dsimp only;rw[if_neg h]
theorem Own.forget {b:Addr} (h:Own (U.del i) O b):Own U O b:=by
 obtain⟨j,h⟩:=h;exact⟨j,(kC h).2⟩
theorem Rel.forget (r:Rel K C H0 U O H) (i:Nat):Rel K C H0 (U.del i) O H:=by
 have sub:Same (msk U O H) (msk (U.del i) O H):=λb o e=>msk_some.mpr ⟨λz=>(msk_some.mp e).1 z.forget,(msk_some.mp e).2⟩;refine⟨?_,r.keep.trans sub,λj sl e=>?_,λj k a x y=>r.inj j k a (kC x).2 (kC y).2,λj a x=>r.kin j a (kC x).2,λj a x=>?_⟩
 ·show(U.rho.set i none).length=_;rw[List.length_set];exact r.len
 ·obtain⟨hj,e⟩:=qC e;rw[np λz=>hj z.symm];exact(r.at_ j sl e).mono (Same.refl _) sub
 ·show j<(U.rho.set i none).length;rw[List.length_set];exact r.bnd j a (kC x).2
end
def spM (K:Frag) (C:Addr) (den:List D->R D):Sp:=λvs H Q _=>∃a us xs,vs=[.ref a]/\H a=some (.lst us)/\HasL K C (cut [a] H) us xs/\match den xs with
 | .val d=>∀v H',Same (cut [a] H) H'->Has K C H' v d->Q v H'
 | _=>False
def Mv (P:Program) (w:World) (K:Frag) (mg:Str->Option Value) (base:Heap) (C:Addr) (k:Nat) (x:Str) (den:List D->R D):Prop :=
 ∃f fd p,FnOk P w K mg base CX0 k f fd [p] (spM K C den)/\mg x=some (.ref f)/\keepIn K (.ref f)=true/\Binds K fd [p] []
def st1 (N:List Str) (xs:List D):Rho:=some (.own xs)::List.replicate (N.length-1) none
variable {N:List Str} {xs:List D}
theorem DH (h:(st1 N xs)[i]?=some (some sl)):i=0/\sl=.own xs:=by
 cases i with
 | zero=>unfold st1 at h;simp at h;exact⟨rfl,h.symm⟩
 | succ n =>
  unfold st1 at h;rw[List.getElem?_cons_succ,List.getElem?_replicate]at h;split at h<;>cases h
variable {H:Hp} {st:Stmt} {k:Nat}
section
variable {P:Program} {w:World} {K:Frag} {mg:Str->Option Value} {base:Heap} {C:Addr}
theorem vM {us:List V} (e:H a=some (.lst us)) (h:HasL K C (cut [a] H) us xs):wD K C (cut [a] H) (st1 N xs) (L2.start N [.ref a]) H:=by
 have s0:(L2.start N [V.ref a])[0]?=some (some (.ref a)):=by unfold L2.start;simp
 have own:∀{i:Nat} {b:Addr},b∈(⟨st1 N xs,λj=>if j=0 then[a]else[]⟩:RB).ad i->i=0/\b=a:=λ{i b} z=>by
  dsimp only at z;split at z
  ·exact⟨‹_›,List.mem_singleton.mp z⟩
  ·cases z
 have sub:Same (cut [a] H) (msk ⟨st1 N xs,λj=>if j=0 then[a]else[]⟩ (L2.start N [.ref a]) H):=λb o e1=>by
  obtain⟨h1,h2⟩:=cut_some.mp e1;exact msk_some.mpr ⟨λ⟨i,z⟩=>h1 (List.mem_singleton.mpr (own z).2),h2⟩
 refine⟨⟨st1 N xs,λj=>if j=0 then[a]else[]⟩,rfl,?_,sub,λi sl e1=>?_,λi j b x y=>(own x).1.trans (own y).1.symm,λi b x=>.inl ?_,λi b x=>?_⟩
 ·show(st1 N xs).length=_;unfold st1 L2.start;simp
 ·obtain⟨rfl,rfl⟩:=DH e1;exact⟨a,us,s0,List.mem_singleton.mpr rfl,e,h.mono sub⟩
 ·rw[(own x).2];exact⟨us,e⟩
 ·rw[(own x).1];exact Nat.succ_pos _
theorem Gg {qual p:Str} {f:Addr} {fd:FuncData} {den:Rho->R Out} (F:Fun K x qual st f fd) (sc:ax N [p] (ao st))
  (hb:∀(cdv:Value) (A:Around) (outer:List Env) (s:Shared) (H:Hp) (E:XK),Room k (A.deeper (envOfC qual (ao st) s.heap.objs.size f cdv)) ->
   SDs C (jb CX0 P w K mg base N qual (ao st) f cdv A outer s H E).nox (cJ st) den) :
  FnOk P w K mg base CX0 (k+1) f fd [p] (spM K C λxs=>fin (den (st1 N xs))):=by
 refine F.ok sc (λvs H Q E h=>?_) (λcdv A outer s H vs Q E hr h=>⟨_,hb cdv A outer s H E hr,?_⟩)
 ·obtain⟨a,us,xs,rfl,_⟩:=h;rfl
 obtain⟨a,us,xs,rfl,e0,h,q⟩:=h;refine⟨st1 N xs,cut [a] H,vM e0 h,?_⟩;dsimp only at q;cases e:den (st1 N xs)with
 | val o =>
  rw[e]at q;cases o with
  | nx U'=>exact λσ' H' ⟨_,_,r⟩=>q _ H' (r.keep.trans msk_sub) .non
  | rt d=>exact λv H' s' h'=>q v H' s' h'
  | bk U'=>exact q.elim
  | ct U'=>exact q.elim
 | exc c=>rw[e]at q;exact q.elim
 | bad=>rw[e]at q;exact q.elim
end
variable {p cp:Pos}
section
variable {C:Addr} {X:Cx}
def B8 (i:Nat) (den:List D->R D):Rho->R Out:=λU=>match U[i]? with
 | some (some (.own xs))=>(noex (den xs)).bind λd=>.val (.nx (U.set i (some (.shr d))))
 | _=>.bad
theorem BR {y:Str} {p' pos:Pos} {den:List D->R D} (F:Mv X.prog X.w X.K X.mg X.base C k x den) (hr:Room k X.A) (hg:Gl X x) (hv:PE X (.Name y p') (fv i)) (hdb:(x==("__debug__":Str))=false:=by decide) :
  PE X (.Call (.Name x p) [.Name y p'] [] pos) (λO H Q=>∃(U:RB) (H0:Hp) (xs:List D) (d:D),eG C X H0 U O H/\U.rho[i]?=some (some (.own xs))/\den xs=.val d/\∀v H',eG C X H0 (U.del i) O H'->dv C X (U.del i) O H' v d->Q v H'):=by
 obtain⟨f,fd,pn,hF,hm,hk,hb⟩:=F;rintro pins s O H Q I ⟨U,H0,xs,d,r0,e0,ed,q⟩;obtain⟨a,vs,e1,ha,h1,h2⟩:=r0.at_ i _ e0;refine wpAny_Call_Name_kw (kX I hg hm ?_ hdb);refine callWith_K (h₀:=X.base) I.ok.mod.kin hk (thn ((ci hv dD aa) pos pins s O H (λus H1=>us=[.ref a]/\H1=H) I ⟨_,e1,rfl,rfl⟩) λus s1 ⟨ws,H1,I1,rv,ew,eh⟩=>⟨I1.kIn,?_⟩) aa aq;subst ew;subst eh;have rf:=r0.forget i;have Z:=Rel.hid rf I1;have J:=I1.hide Z;have nz:a∉fw (U.del i) O:=λz=>by
  obtain⟨j,z⟩:=(gg rf.bnd).mp z;exact(kC z).1 (r0.inj j i a (kC z).2 ha)
 have sub:Same (msk U O H1) (cut [a] (cut (fw (U.del i) O) H1)):=λb o eb=>by
  obtain⟨g1,g2⟩:=msk_some.mp eb;refine cut_some.mpr ⟨λz=>g1 ?_,cut_some.mpr ⟨λz=>g1 ((gg rf.bnd).mp z).forget,g2⟩⟩;rw[List.mem_singleton.mp z];exact⟨i,ha⟩
 refine thn (vJ (E:=E0) (Q:=λv M'=>Same (cut [a] (cut (fw (U.del i) O) H1)) M'/\Has X.K C M' v d) hF hr hb .nil w8 J rv ?_) λu s2 ⟨v,M',J2,ru,sm,hv'⟩=>?_
 ·rw[List.append_nil];refine⟨a,vs,xs,rfl,cut_some.mpr ⟨nz,h1⟩,h2.mono sub,?_⟩;rw[ed];exact λv H' s2 h2=>⟨s2,h2⟩
 ·obtain⟨I2,mz⟩:=I1.show' Z J2;have em:msk (U.del i) O (jn (fw (U.del i) O) H1 M')=M':=by
   rw[kT rf.bnd]
   funext b
   by_cases hb:b∈fw (U.del i) O
   ·rw[g_ hb,mz b hb]
   ·unfold cut;rw[if_neg hb,cH hb]
  have sM:Same (msk U O H1) M':=sub.trans sm;have keep:∀j b,b∈(U.del i).ad j->jn (fw (U.del i) O) H1 M' b=H1 b:=λj b hb=>kY ((gg rf.bnd).mpr ⟨j,hb⟩);have tup:∀b us,H1 b=some (.tup us)->jn (fw (U.del i) O) H1 M' b=some (.tup us):=λb us eb=>by
   have nb:b∉fw (U.del i) O:=λz=>rf.tups eb ((gg rf.bnd).mp z);rw[cH nb];exact sM b _ (msk_some.mpr ⟨r0.tups eb,eb⟩)
  refine⟨v,_,I2,ru,q v _ ⟨rf.len,by rw[em];exact r0.keep.trans sM,λj sl ej=>?_,rf.inj,λj b hb=>by rw[keep j b hb];exact rf.kin j b hb,rf.bnd⟩ (by show Has _ _ (msk _ O _) v d;rw[em];exact hv')⟩;rw[em];obtain⟨hj,ej'⟩:=qC ej;have qq:=r0.at_ j sl ej';rw[<- np (U:=U) (i:=i) λz=>hj z.symm]at qq;exact qq.stay ⟨λb hb o eo=>by rw[keep j b hb];exact eo,tup⟩ sM
theorem BE {y:Str} {p' pos pos':Pos} {den:List D->R D} (F:Mv X.prog X.w X.K X.mg X.base C k x den) (hr:Room k X.A) (hg:Gl X x) (hv:PE X (.Name y p') (fv i)) (hN:X.N.Nodup) (hi:X.N[i]?=some y) (hx:Loc X.env.scope y)
  (hs:swapsWith (.Call (.Name x p) [.Name y p'] [] cp) (some (.Name y pos')) pos.line X.env=pure false) (hdb:(x==("__debug__":Str))=false:=by decide)
  (hf:X.fn y=true\/X.env.scope.names.lookup y=some .local:=by first|exact .inl rfl|exact .inr rfl|assumption):SD C X (.Assign [.Name y pos'] (.Call (.Name x p) [.Name y p'] [] cp) pos) (B8 i den) :=
 bF (rM hN hi hx (BR F hr hg hv hdb) hs hf) λD O H zz1=>by
  obtain⟨_,H0,⟨U,rfl,r⟩,q⟩:=zz1;unfold B8 at q;split at q
  ·rename_i xs e0;cases ed:den xs with
   | val d =>
    rw[ed]at q;refine⟨U,H0,xs,d,r,e0,ed,λv H' r' h'=>?_⟩;refine q _ _ ⟨_,?_,r'.setShr (i:=i) h'⟩;show(U.rho.set i none).set i _=_;rw[List.set_set]
   | exc c=>rw[ed]at q;exact q.elim
   | bad=>rw[ed]at q;exact q.elim
  ·exact q.elim
def uD:List D->List (KA×D)->Option (List (KA×D))
 | [],kvs=>some kvs
 | x::r,kvs=>match p8 x with
  | some k=>if kvs.length<=100000 then uD r (oy kvs k (.bl true))else none
  | none=>none
def oH (il ix idd:Nat):Rho->R Out:=λU=>match U[il]?,U[idd]? with
 | some (some (.own xs)),some (some (.dic kvs))=>match uD xs kvs with
  | some kvs'=>if ix<U.length then .val (.nx ((U.set ix none).set idd (some (.dic kvs'))))else .bad
  | none=>.bad
 | _,_=>.bad
theorem xZ {il ix idd:Nat} {l d:Str} {px pl pd px2 sp pos2 pos:Pos} (hu:X.A.units+3<cLine) (hp:PassesOwn (model X.prog X.w) X.A X.env X.xe) (hc:X.calm=true) (hl:PE X (.Name l pl) (fv il)) (hg:PG X (.Name x px) (i4 ix)) (hd:PE X (.Name d pd) (fv idd)) (hx:PE X (.Name x px2) (fv ix))
  (n1:ix≠il:=by decide) (n2:ix≠idd:=by decide) (n3:il≠idd:=by decide)
  (ha:∀v,assign (.Subscript (.Name d pd) (.Name x px2) sp) X.env v=(do
   let ov <- holding [v] (eval (.Name d pd) X.env)
   let iv <- holding [v,ov] (eval (.Name x px2) X.env)
   standAt sp
   holding [v,ov,iv] (setItem ov iv v)
   release [v,ov,iv] []):=by intro _;rfl)
  (hs:swapsWithSole [.Subscript (.Name d pd) (.Name x px2) sp] (.Constant (.bool true) j cp) pos2.line X.env=pure false:=by rfl) (hw:swappedStores [.Subscript (.Name d pd) (.Name x px2) sp] (.Constant (.bool true) j cp) X.env=pure none:=by rfl)
  (h1:(assignEach [.Subscript (.Name d pd) (.Name x px2) sp] X.env).map (·.2)=[assign (.Subscript (.Name d pd) (.Name x px2) sp) X.env]:=by rfl)
  (hfs:∀x,foldedSetIterable (.Name l pl) X.env x=pure x:=by intro _;rfl) :
  SD C X (.For (.Name x px) (.Name l pl) [.Assign [.Subscript (.Name d pd) (.Name x px2) sp] (.Constant (.bool true) j cp) pos2] [] pos) (oH il ix idd) :=
 bF (zE hp hc (BO hl) hg (kN (rN De (vR hd hx (wM hu) ha) hs hw h1)) hfs) λDn O H zz2=>by
  obtain⟨_,H0,⟨U,rfl,r⟩,q⟩:=zz2;unfold oH at q;split at q
  ·rename_i xs kvs el ed;split at q
   ·rename_i kvsf em;have hix:ix<U.rho.length:=by
     by_cases hix:ix<U.rho.length
     ·exact hix
     ·rw[if_neg hix]at q;exact q.elim
    rw[if_pos hix]at q;obtain⟨a,vs,ea,haA,eH,hL⟩:=r.at_ il _ el;have hdl:idd<U.rho.length:=(List.getElem?_eq_some_iff.mp ed).1;refine⟨_,ea,a,rfl,⟨_,SqL.of eH⟩,As (K:=X.K) (a:=a) (xs:=vs) (λi σ' H'=>∃kvs' β,β.rho=(U.rho.set ix none).set idd (some (.dic kvs'))/\eG C X H0 β σ' H'/\a∈β.ad il/\σ'[il]?=some (some (.ref a))/\H' a=some (.lst vs)/\uD (xs.drop i) kvs'=some kvsf) ⟨kvs,U.del ix,?_,r.forget ix,by rw[np (Ne.symm n1)];exact haA,ea,eH,em⟩ (λi σ' H' _ ⟨kvs',β,eb,r',hb,e1,e2,e3⟩=>SqL.of e2) ?_ ?_⟩
    ·have e1:(U.rho.set ix none)[idd]?=some (some (.dic kvs)):=by rw[List.getElem?_set_ne n2];exact ed
     show U.rho.set ix none=_;apply List.ext_getElem?;intro m;by_cases hm:idd=m
     ·subst hm;rw[List.getElem?_set_self (List.getElem?_eq_some_iff.mp e1).1,e1]
     ·rw[List.getElem?_set_ne hm]
    ·rintro i v σ' H' hi ⟨kvs',β,eβ,r',hbA,e1,e2,e3⟩;have l1:β.rho[il]?=some (some (.own xs)):=by
      rw[eβ,List.getElem?_set_ne (Ne.symm n3),List.getElem?_set_ne n1];exact el
     obtain⟨a',vs',g1,ga,g2,g3⟩:=r'.at_ il _ l1;rw[e1]at g1;cases g1;rw[e2]at g2;cases g2;obtain⟨x0,hx0,hv0⟩:=g3.get' hi;have hlt:i<xs.length:=(List.getElem?_eq_some_iff.mp hx0).1;have edr:xs.drop i=x0::xs.drop (i+1):=by
      rw[List.drop_eq_getElem_cons hlt];have:=(List.getElem?_eq_some_iff.mp hx0).2;rw[this]
     rw[edr]at e3;unfold uD at e3;split at e3
     ·rename_i kk ekk;split at e3
      ·rename_i hlen;have rs:=r'.setShr (i:=ix) hv0;have ed':(β.put ix (.shr x0) []).rho[idd]?=some (some (.dic kvs')):=by
        show(β.rho.set ix _)[idd]?=_;rw[List.getElem?_set_ne n2,eβ,List.getElem?_set_self (by simpa using hdl)]
       obtain⟨b,eb,hbb,ys,eY,nd,hpd⟩:=rs.at_ idd _ ed';rw[m_ (Ne.symm n2)]at hbb;obtain⟨kb,rfl,hkey⟩:=sv ekk hv0;have hxl:ix<σ'.length:=by have:=r'.len;rw[eβ]at this;simp at this;omega
       have ex2:(σ'.set ix (some (V.ref kb)))[ix]?=some (some (.ref kb)):=List.getElem?_set_self hxl;have hkey2:KeyIn (msk (β.put ix (.shr x0) []) (σ'.set ix (some (V.ref kb))) H') kk kb:=hkey.mono xg;refine⟨_,eb,_,ex2,b,ys,kb,kk,rfl,rfl,eY,λz hz=>(ju hpd z hz).mono msk_sub,nd,hkey.mono msk_sub,by rw[<- nS hpd];exact hlen,λu ru nd'=>?_⟩;have r2:=(rs.putDic ed' eb nd' (xz ru (.bl true) hkey2 hpd)).forget ix;refine⟨oy kvs' kk (.bl true),_,?_,r2,?_,?_,?_,e3⟩
       ·show(((β.rho.set ix (some (.shr x0))).set idd (some (.dic (oy kvs' kk (.bl true))))).set ix none)=_;rw[eβ];apply List.ext_getElem?;intro m;simp only[List.getElem?_set,List.length_set];by_cases h1:ix=m
        ·subst h1;simp[Ne.symm n2]
        ·by_cases h2:idd=m
         ·subst h2;simp[h1]
         ·simp[h1,h2]
       ·rw[np (Ne.symm n1),m_ n3,m_ (Ne.symm n1)];exact hbA
       ·rw[List.getElem?_set_ne n1];exact e1
       ·have:a≠b:=λz=>n3 (r'.inj il idd a hbA (z▸hbb));rw[az this];exact e2
      ·cases e3
     ·cases e3
    ·rintro σ' H' ⟨kvs',β,eβ,r',_,e1,e2,e3⟩;have:vs.length=xs.length:=hL.len;rw[this,List.drop_length]at e3;cases e3;exact q _ _ ⟨β,eβ,r'⟩
   ·exact q.elim
  ·exact q.elim
end
section
variable {K:Frag} {C:Addr} {H:Hp} {x C' dx:Addr} {fs:List (Str×V)} {o':HO}
theorem lS {o:HO} (hx:H x=some (.ins C' dx fs)) (h:H a=some o) (ho:∀c d f,o=.ins c d f->f.length=3) (hl:fs.length<3):a≠x:=λz=>by
 subst z;rw[hx]at h;cases h;have:=ho _ _ _ rfl;omega
mutual
theorem Has.upd_ins (hx:H x=some (.ins C' dx fs)) (hl:fs.length<3):∀{v:V} {d:D},Has K C H v d->Has K C (upd H x o') v d
 | _,_,.non=>.non
 | _,_,.bl b=>.bl b
 | _,_,.int i=>.int i
 | _,_,.lst q h=>.lst (by rw[az (lS hx q (λ_ _ _ z=>by cases z) hl)];exact q) (HasL.upd_ins hx hl h)
 | _,_,.tup q h=>.tup (by rw[az (lS hx q (λ_ _ _ z=>by cases z) hl)];exact q) (HasL.upd_ins hx hl h)
 | _,_,.scr q=>.scr (by
   rcases q with(h|⟨o,h⟩)|h
   ·exact .inl (.inl (by rw[az (lS hx h (λ_ _ _ z=>by cases z) hl)];exact h))
   ·exact .inl (.inr ⟨o,by rw[az (lS hx h (λ_ _ _ z=>by cases z) hl)];exact h⟩)
   ·exact .inr h)
 | _,_,.exn q=>.exn (by rw[az (lS hx q (λ_ _ _ z=>by cases z) hl)];exact q)
 | _,_,.ob q a b c=>.ob (by rw[az (lS hx q (λ_ _ _ z=>by cases z;rfl) hl)];exact q) (Has.upd_ins hx hl a) (Has.upd_ins hx hl b) (Has.upd_ins hx hl c)
theorem HasL.upd_ins (hx:H x=some (.ins C' dx fs)) (hl:fs.length<3):∀{vs:List V} {ds:List D},HasL K C H vs ds->HasL K C (upd H x o') vs ds
 | _,_,.nil=>.nil
 | _,_,.cons a b=>.cons (Has.upd_ins hx hl a) (HasL.upd_ins hx hl b)
end
end
theorem uJ (f:Str) (v:V):∀fs:List (Str×V),(iD f v fs).length<=fs.length+1
 | []=>Nat.le_refl _
 | (g,x)::r=>by
  unfold iD;split
  ·simp
  ·simpa using uJ f v r
def yN:List (Rho->R D)->Rho->R Unit
 | [],_=>.val ()
 | c::cs,U=>(c U).bind λ_=>yN cs U
def CN (cs:List (Rho->R D)) (f1 f2 f3:Rho->R (List D)):Rho->R D:=λU=>(yN cs U).bind λ_=>(f1 U).bind λes=>(f2 U).bind λrs=>(f3 U).bind λts=>.val (.ob (.lst es) (.lst rs) (.lst ts))
def jZ (e r t:D):Rho:=[none,some (.shr e),some (.shr r),some (.shr t)]
def spI (K:Frag) (C:Addr) (den:Rho->R D):Sp:=λvs H Q _=>∃x dx ve vr vt e r t,vs=[.ref x,ve,vr,vt]/\H x=some (.ins C dx [])/\Has K C H ve e/\Has K C H vr r/\Has K C H vt t/\match den (jZ e r t)with
 | .val d=>∀H',(∀b o,H b=some o->b≠x->H' b=some o)->Has K C H' (.ref x) d->Q .non H'
 | _=>False
variable {o:Expr} {F:Rho->R D} {K:Frag}
section
variable {C:Addr} {X:Cx}
variable (C X) in
def tCk:List (Rho->R D)->TS->TS
 | [],t=>t
 | c::cs,t=>Bw (nF (teB C X c)) (tCk cs t)
theorem kl {rest:List Stmt} {c:Rho->R D} {cs:List (Rho->R D)} {t:TS} (h1:PS X st (nF (teB C X c))) (h2:PSs X rest (tCk C X cs t)):PSs X (st::rest) (tCk C X (c::cs) t):=jj h1 h2
theorem nP {e:Expr} {pos:Pos} (he:EB C X e F) (hs:swapsWith e none pos.line X.env=pure false:=by rfl):PS X (.Expr e pos) (nF (teB C X F)):=kO he hs
theorem xL {U:RB} {t:TS} {Dn:j6} {O:St}:∀{cs:List (Rho->R D)} {H H0:Hp},eG C X H0 U O H->yN cs U=.val ()->(∀H1,Same H H1->t Dn O H1)->tCk C X cs t Dn O H
 | [],H,H0,r,_,k=>k H (Same.refl _)
 | c::cs,H,H0,r,e,k=>by
  unfold yN at e;cases ec:c U with
  | val d =>
   rw[ec]at e;show teB C X c O H _;refine⟨U,⟨H0,r⟩,?_⟩;rw[ec];exact λv H1 s1 _=>xL (r.mono s1) e λH2 s2=>k H2 (s1.trans s2)
  | exc c=>rw[ec]at e;cases e
  | bad=>rw[ec]at e;cases e
variable (C X) in
def tI (f1 f2 f3:Rho->R (List D)):TS:=Bw (rF X.K (fv 0) (teF C X f1) "ends") (Bw (rF X.K (fv 0) (teF C X f2) "rests") (rF X.K (fv 0) (teF C X f3) "table"))
theorem F0 {s1 s2 s3:Stmt} {f1 f2 f3:Rho->R (List D)} (h1:PS X s1 (rF X.K (fv 0) (teF C X f1) "ends")) (h2:PS X s2 (rF X.K (fv 0) (teF C X f2) "rests")) (h3:PS X s3 (rF X.K (fv 0) (teF C X f3) "table")):PSs X [s1,s2,s3] (tCk C X [] (tI C X f1 f2 f3)):=by
 have h:=jj h1 (jj h2 (kN h3));exact h
theorem zA {value:Expr} {f:Str} {pos pos':Pos} {F:Rho->R (List D)} (ho:PE X o (fv i)) (hv:FD C X value F) (hs:swapsWith value (some (.Attribute o f pos')) pos.line X.env=pure false:=by rfl):PS X (.Assign [.Attribute o f pos'] value pos) (rF X.K (fv i) (teF C X F) f):=D5 ho hv hs
def rb3 (e r t:D):RB:=⟨jZ e r t,λ_=>[]⟩
theorem FK {x:Addr} {ve vr vt:V} {e r t:D} (h1:Has K C H ve e) (h2:Has K C H vr r) (h3:Has K C H vt t):Rel K C H (rb3 e r t) [some (.ref x),some ve,some vr,some vt] H:=by
 have sub:Same H (msk (rb3 e r t) [some (.ref x),some ve,some vr,some vt] H):=λb o eb=>msk_some.mpr ⟨λ⟨_,z⟩=>(List.not_mem_nil z).elim,eb⟩;refine⟨rfl,sub,λi sl h=>?_,λi j a z=>(List.not_mem_nil z).elim,λi a z=>(List.not_mem_nil z).elim,λi a z=>(List.not_mem_nil z).elim⟩
 match i,h with
 | 0,h=>cases h
 | 1,h=>cases h;exact⟨ve,rfl,h1.mono sub⟩
 | 2,h=>cases h;exact⟨vr,rfl,h2.mono sub⟩
 | 3,h=>cases h;exact⟨vt,rfl,h3.mono sub⟩
 | n+4,h=>unfold rb3 jZ at h;simp at h
theorem oI {F:Rho->R (List D)} {f:Str} {Dn:j6} {x dx:Addr} {fs:List (Str×V)} {ve vr vt:V} {e r t:D} (hx:H x=some (.ins C dx fs)) (hl:fs.length<3) (c:Cls X.K C) (n:NoAttr X.K C f) (h1:Has X.K C H ve e) (h2:Has X.K C H vr r) (h3:Has X.K C H vt t)
  (eF:F (jZ e r t)=.val xs)
  (k:∀l H',H' x=some (.ins C dx (iD f (.ref l) fs))->(∀b o,H b=some o->b≠x->H' b=some o)->(∀v d,Has X.K C H v d->Has X.K C H' v d)->Has X.K C H' (.ref l) (.lst xs)->Dn.nx [some (.ref x),some ve,some vr,some vt] H') :
  rF X.K (fv 0) (teF C X F) f Dn [some (.ref x),some ve,some vr,some vt] H:=by
 refine⟨rb3 e r t,⟨H,FK h1 h2 h3⟩,?_⟩;show pF _ (F (jZ e r t)) _ _ _;rw[eF];intro l vs H1 s1 hn hv;have hv':HasL X.K C H1 vs xs:=hv.mono msk_sub;have nx:l≠x:=λz=>by subst z;rw[s1 _ _ hx]at hn;cases hn
 have hx2:(upd H1 l (.lst vs)) x=some (.ins C dx fs):=by rw[az (Ne.symm nx)];exact s1 _ _ hx
 refine⟨_,rfl,x,C,dx,fs,rfl,hx2,c,n,by omega,k l _ aY (λb o eb nb=>?_) (λv d hd=>?_) ?_⟩
 ·rw[az nb];exact aP hn _ _ (s1 _ _ eb)
 ·exact((hd.mono s1).mono (aP hn)).upd_ins hx2 hl
 ·exact Has.upd_ins hx2 hl (.lst aY (hv'.mono (aP hn)))
end
section
variable {P:Program} {w:World} {K:Frag} {mg:Str->Option Value} {base:Heap} {C:Addr}
theorem Cm {f:Addr} {fd:FuncData} {cs:List (Rho->R D)} {f1 f2 f3:Rho->R (List D)} (F:Fun K "__init__" "Hall.__init__" st f fd) (sc:ax ["self","ends","rests","table"] ["self","ends","rests","table"] (ao st))
  (cl:Cls K C) (nE:NoAttr K C "ends") (nR:NoAttr K C "rests") (nT:NoAttr K C "table")
  (hb:∀(cdv:Value) (A:Around) (outer:List Env) (s:Shared) (H:Hp) (E:XK),Room k (A.deeper (envOfC "Hall.__init__" (ao st) s.heap.objs.size f cdv)) ->
   PSs (jb CX0 P w K mg base ["self","ends","rests","table"] "Hall.__init__" (ao st) f cdv A outer s H E).nox (cJ st) (tCk C (jb CX0 P w K mg base ["self","ends","rests","table"] "Hall.__init__" (ao st) f cdv A outer s H E).nox cs (tI C (jb CX0 P w K mg base ["self","ends","rests","table"] "Hall.__init__" (ao st) f cdv A outer s H E).nox f1 f2 f3))) :
  FnOk P w K mg base CX0 (k+1) f fd ["self","ends","rests","table"] (spI K C (CN cs f1 f2 f3)):=by
 refine F.ok sc (λvs H Q E h=>?_) (λcdv A outer s H vs Q E hr h=>⟨_,hb cdv A outer s H E hr,?_⟩)
 ·obtain⟨x,dx,ve,vr,vt,e,r,t,rfl,_⟩:=h;rfl
 obtain⟨x,dx,ve,vr,vt,e,r,t,rfl,hx,h1,h2,h3,q⟩:=h;unfold CN at q;cases ec:yN cs (jZ e r t)with
 | exc c=>rw[ec]at q;exact q.elim
 | bad=>rw[ec]at q;exact q.elim
 | val u =>
  rw[ec]at q;cases e1:f1 (jZ e r t)with
  | exc c=>dsimp only[DL.R.bind]at q;rw[e1]at q;exact q.elim
  | bad=>dsimp only[DL.R.bind]at q;rw[e1]at q;exact q.elim
  | val es =>
   cases e2:f2 (jZ e r t)with
   | exc c=>dsimp only[DL.R.bind]at q;rw[e1,e2]at q;exact q.elim
   | bad=>dsimp only[DL.R.bind]at q;rw[e1,e2]at q;exact q.elim
   | val rs =>
    cases e3:f3 (jZ e r t)with
    | exc c=>dsimp only[DL.R.bind]at q;rw[e1,e2,e3]at q;exact q.elim
    | bad=>dsimp only[DL.R.bind]at q;rw[e1,e2,e3]at q;exact q.elim
    | val ts =>
     dsimp only[DL.R.bind]at q;rw[e1,e2,e3]at q;dsimp only[DL.R.bind]at q;refine xL (H0:=H) (U:=rb3 e r t) (FK h1 h2 h3) ec λH1 s1=>?_;refine oI (s1 _ _ hx) (by decide) cl nE (h1.mono s1) (h2.mono s1) (h3.mono s1) e1 λl1 Ha xa fa ka ha=>?_;refine oI xa (by show 1<3;decide) cl nR (ka _ _ (h1.mono s1)) (ka _ _ (h2.mono s1)) (ka _ _ (h3.mono s1)) e2 λl2 Hb xb fb kb hb2=>?_;refine oI xb (Nat.lt_of_le_of_lt (uJ _ _ _) (by show 2<3;decide)) cl nT (kb _ _ (ka _ _ (h1.mono s1))) (kb _ _ (ka _ _ (h2.mono s1))) (kb _ _ (ka _ _ (h3.mono s1))) e3 λl3 Hc xc fc kc hc=>?_;refine q Hc (λb o eb nb=>fc _ _ (fb _ _ (fa _ _ (s1 _ _ eb) nb) nb) nb) ?_;exact .ob (dx:=dx) (ve:=.ref l1) (vr:=.ref l2) (vt:=.ref l3) xc (kc _ _ (kb _ _ ha)) (kc _ _ hb2) hc
end
def FnH (P:Program) (w:World) (K:Frag) (mg:Str->Option Value) (base:Heap) (C:Addr) (k:Nat) (den:Rho->R D):Prop :=
 ∃f fd,Mk K C f/\FnOk P w K mg base CX0 k f fd ["self","ends","rests","table"] (spI K C den)/\mg "Hall"=some (.ref C)/\Binds K fd ["self","ends","rests","table"] []
variable {es:List Expr}
section
variable {C:Addr} {X:Cx}
def mkH (den:Rho->R D) (Fa:Rho->R (List D)):Rho->R D:=λU=>(Fa U).bind λds=>match ds with
 | [e,r,t]=>noex (den (jZ e r t))
 | _=>.bad
theorem CH {den:Rho->R D} {pos:Pos} {e:Expr} {Fa:Rho->R (List D)} (F:FnH X.prog X.w X.K X.mg X.base C k den) (hr:Room (k+1) X.A) (hg:Gl X "Hall") (ha:AD C X (e::es) Fa) (hx:X.xe=λ_ _=>False)
  (he:starEach (e::es) X.env=(false,eval e X.env)::starEach es X.env:=by rfl) (hpl:(backTo pos (starEach es X.env)).any (·.1)=false:=by rfl):ED C X (.Call (.Name "Hall" p) (e::es) [] pos) (mkH den Fa):=by
 obtain⟨f,fd,hM,hF,hm,hb⟩:=F;rintro pins s O H Q I ⟨U,⟨H0,r0⟩,q⟩;refine wpAny_Call_Name_kw (kX I hg hm ?_ (by decide));refine callWith_K (h₀:=X.base) I.ok.mod.kin hM.kp (thn (ha pos pins s O H (λvs H1=>∃a b c d,Same H H1/\jJ C X U O H1 vs [a,b,c]/\den (jZ a b c)=.val d/\∀v H',Same H H'->dv C X U O H' v d->Q v H') I
  ⟨U,⟨H0,r0⟩,fS (P:=λz H=>pV X (dv C X U O) z O H Q) (λ_ h=>h) (λh=>h) q λds vs H1 s1 h1 q1=>?_⟩) λus s1 ⟨vs,H1,I1,rv,a,b,c,d,s1',h1,e1,q1⟩=>⟨I1.kIn,?_⟩) he hpl
 ·split at q1
  ·rename_i a b c;cases e1:den (jZ a b c)with
   | val d=>rw[e1]at q1;exact⟨a,b,c,d,s1,h1,e1,q1⟩
   | exc c=>rw[e1]at q1;exact q1.elim
   | bad=>rw[e1]at q1;exact q1.elim
  ·exact q1.elim
 ·have r1:=r0.mono s1';have Z:=Rel.hid r1 I1;have J:=I1.hide Z;refine thn (zj (E:=E0) (Q:=λv M'=>Same (cut (fw U O) H1) M'/\Has X.K C M' v d) hM hF hr hb .nil w8 J rv λx dx nx ndx nex=>?_) λu s2 ⟨v,M',J2,ru,sm,hv⟩=>?_
  ·rw[List.append_nil];have h1:HasL X.K C (msk U O H1) vs [a,b,c]:=h1;rw[kT r0.bnd]at h1;have s0:Same (cut (fw U O) H1) (upd (upd (cut (fw U O) H1) dx (.own x)) x (.ins C dx [])):=λb o eb=>by
    rw[az (bc eb nx),az (bc eb ndx)];exact eb
   cases h1 with
   | @cons va _ _ _ ga h1=>cases h1 with
    | @cons vb _ _ _ gb h1=>cases h1 with
     | @cons vc _ _ _ gc h1 =>
      cases h1;refine⟨x,dx,va,vb,vc,a,b,c,rfl,aY,ga.mono s0,gb.mono s0,gc.mono s0,?_⟩;rw[e1];exact λH' fr hH=>⟨rfl,λb o eb=>fr b o (s0 _ _ eb) (bc eb nx),hH⟩
  ·obtain⟨I2,mz⟩:=I1.show' Z J2;have sj:Same H1 (jn (fw U O) H1 M'):=λb o eb=>by
    by_cases hb:b∈fw U O
    ·rw[kY hb];exact eb
    ·rw[cH hb];exact sm b o (cut_some.mpr ⟨hb,eb⟩)
   have em:msk U O (jn (fw U O) H1 M')=M':=by
    rw[kT r0.bnd]
    funext b
    by_cases hb:b∈fw U O
    ·rw[g_ hb,mz b hb]
    ·unfold cut;rw[if_neg hb,cH hb]
   exact⟨v,_,I2,ru,q1 v _ (s1'.trans sj) (by show Has _ _ (msk U O _) v d;rw[em];exact hv)⟩
structure IsH (K:Frag) (C:Addr):Prop where
 cl:Cls K C
 ha:findIn K (.ref C) "__class__"=some (some (.builtin "object.__class__"))
 hn:PySem.W.specialIn K (.builtin "object.__class__") "__get__"=some (some (.builtin "getset_descriptor.__get__"))
 htk:PySem.W.takesIn K (.builtin "object.__class__")=some true
 hm:PySem.W.mroIn K C (.type "object")=some true
end
section
variable {P:Program} {w:World} {K:Frag} {mg:Str->Option Value} {base:Heap} {C:Addr}
end
section
variable {C:Addr} {X:Cx}
end
section
variable {C:Addr} {X:Cx}
end
section
variable {prog:Program} {w:World} {A:Around} {E:Value->Shared->Prop} {K:Frag} {h:Heap} {g:Array GenState} {d:Drawn} {t:Nat} {os:OsState} {x Cc:Addr} {ox:Obj}
end
variable {p2:Pos}
section
variable {C:Addr} {X:Cx}
theorem Ef {e:Expr} {T:Str} {T':String} {pos:Pos} {te:TE} (hg:Gl X "isinstance") (hm:X.mg "isinstance"=none) (hgT:Gl X T) (hmT:X.mg T=none) (hbT:bootBuiltins T=some (.type T')) (he:PE X e te) (hst:starEach [e,.Name T p2] X.env=(false,eval e X.env)::starEach [.Name T p2] X.env)
  (hn:T ≠ "__name__":=by decide) (hdb:(T==("__debug__":Str))=false:=by decide) :
  PE X (.Call (.Name "isinstance" p) [e,.Name T p2] [] pos) (λO H Q=>te O H λv H1=>∃b,(∀(pins:List (Addr×Obj)) (s:Shared) (u:Value) (Q':Value->Shared->Prop) (E':Value->Shared->Prop),Inv X pins O H1 s->RelV v u->(∀tk,Q' (.bool b) { s with toks:=tk })->wpAny (model X.prog X.w) X.A (call (.builtin "isinstance") [u,.type T']) Q' E' s)/\Q (.bl b) H1):=by
 intro pins s O H Q I h;refine wpAny_Call_Name_kw (jp I hg hm boot_isinstance ?_);refine PyProof.Rows.callWith_builtin1 ?_ hst (aj aa aq);rw[hst];refine Calls.spliced_cons (thn (he pins s O H _ I h) λu s1 zz0=>?_);obtain⟨v,H1,I1,rv,b,hb,q⟩:=zz0;rw[aa];refine Calls.spliced_cons (jp I1 hgT hmT hbT ?_ hn hdb);refine Calls.spliced_nil ?_;exact hb pins s1 u _ _ I1 rv λtk=>⟨.bl b,H1,I1.tok _,rfl,q⟩
def jF:List D->Option (List Bool)
 | []=>some []
 | .bl b::r=>(jF r).map (b :: ·)
 | _=>none
theorem oC {K:Frag} {M:Hp}:∀{xs:List D} {l:List Bool} {vs:List V},jF xs=some l->HasL K C M vs xs->vs=l.map V.bl
 | [],l,vs,e,h=>by cases e;cases h;rfl
 | x::r,l,vs,e,h=>by
  cases x with
  | bl i =>
   rw[jF]at e;cases z:jF r with
   | none=>rw[z]at e;cases e
   | some l' =>
    rw[z]at e;cases e;cases h with
    | cons a b=>cases a;rw[oC z b];rfl
  | _=>cases e
theorem nw:∀{bs:List Bool} {us:List Value},Vals (bs.map V.bl) us->us=bs.map Value.bool
 | [],_,.nil=>rfl
 | b::bs,_,.cons r t=>by rw[nw t];cases(show _=Value.bool b from r);rfl
end
section
variable {X:Cx} {pins pins':List (Addr×Obj)} {O:St} {H:Hp} {s:Shared} {A:Around} {cm:Bool} {xe:Value->Shared->Prop}
end
section
variable {P:Program} {w:World} {K:Frag} {mg:Str->Option Value} {base:Heap} {C:Addr}
end
section
variable {C:Addr} {X:Cx}
end
structure KTy (K:Frag) (T:String):Prop where
 i:kitOne K (.type "int") (.type T)=some (decide (T="int"))
 b:kitOne K (.type "bool") (.type T)=some (decide (T="int")||decide (T="bool"))
 n:kitOne K (.type "NoneType") (.type T)=some false
 l:kitOne K (.type "list") (.type T)=some (decide (T="list"))
 t:kitOne K (.type "tuple") (.type T)=some (decide (T="tuple"))
def AE (T:String):D->R D
 | .int _=>.val (.bl (decide (T="int")))
 | .bl _=>.val (.bl (decide (T="int")||decide (T="bool")))
 | .non=>.val (.bl false)
 | .lst _=>.val (.bl (decide (T="list")))
 | .tup _=>.val (.bl (decide (T="tuple")))
 | _=>.bad
section
variable {C:Addr} {X:Cx}
theorem ww {e:Expr} {T:Str} {T':String} {pos:Pos} (KT:KTy X.K T') (hg:Gl X "isinstance") (hm:X.mg "isinstance"=none) (hgT:Gl X T) (hmT:X.mg T=none) (hbT:bootBuiltins T=some (.type T')) (he:EB C X e F) (hst:starEach [e,.Name T p2] X.env=(false,eval e X.env)::starEach [.Name T p2] X.env)
    (hn:T ≠ "__name__":=by decide) (hdb:(T==("__debug__":Str))=false:=by decide):ED C X (.Call (.Name "isinstance" p) [e,.Name T p2] [] pos) (una (AE T') F) :=
  aR (Ef hg hm hgT hmT hbT he hst hn hdb) λO H Q yy1=>by
   obtain⟨U,r0,q⟩:=yy1;exact⟨U,r0,aW (P:=λz H=>pV X (dv C X U O) z O H Q) (λ_ h=>h) (λh=>h) q λy v H1 s1 h1 q1=>by
    have go:∀{t:Value} {b:Bool},mj X.K H1 v t->kitOne X.K t (.type T')=some b->(∀v H',Same H H'->dv C X U O H' v (.bl b)->Q v H')->∃b,(∀(pins:List (Addr×Obj)) (s:Shared) (u:Value) (Q':Value->Shared->Prop) (E':Value->Shared->Prop),Inv X pins O H1 s->RelV v u->(∀tk,Q' (.bool b) { s with toks:=tk })->wpAny (model X.prog X.w) X.A (call (.builtin "isinstance") [u,.type T']) Q' E' s)/\Q (.bl b) H1 :=
      λ{t b} ty ek kq=>⟨b,λpins s u Q' E' I rv hQ=>yt I rv ty ek hQ,kq _ H1 s1 (.bl b)⟩
    cases y with
    | int i=>obtain rfl:=h1.int;exact go (.int i) KT.i q1
    | bl i=>obtain rfl:=h1.bl;exact go (.bl i) KT.b q1
    | non =>
      have hv:v=.non:=by cases h1 with|cl h=>cases h;rfl
      subst hv;exact go .non KT.n q1
    | lst xs =>
      obtain⟨a,vs,rfl,e1,_⟩:=h1.lst msk_sub;exact go (.lst e1) KT.l q1
    | tup xs =>
      obtain⟨a,vs,rfl,e1,_⟩:=h1.tup msk_sub;exact go (.tup e1) KT.t q1
    | _=>exact q1.elim⟩
theorem Be:bootBuiltins "list"=some (.type "list"):=by decide +kernel
end
def sK:D->R D
 | .lst xs=>match jF xs with
  | some bs=>.val (.bl (bs.all id))
  | none=>.bad
 | _=>.bad
def zp:List D->List D->List D
 | x::xs,y::ys=>.tup [x,y]::zp xs ys
 | _,_=>[]
def Ds:List D->R (List D)
 | [.lst xs,.lst ys]=>.val (zp xs ys)
 | _=>.bad
def mV (F:Rho->R (List D)):Rho->R (List D):=λU=>(F U).bind Ds
def Ab:List D->R (List D)
 | [.int j]=>if -(2 ^ 62)<=j/\j<=100000 then .val (rng 0 j.toNat)else .bad
 | _=>.bad
def AJ (F:Rho->R (List D)):Rho->R (List D):=λU=>(F U).bind Ab
variable {vs ws:List V}
section
variable {C:Addr} {X:Cx}
def G5:List V->Hp->VK->Prop:=λvs H Q=>∃(l:Addr) (bs:List Bool),vs=[.ref l]/\H l=some (.lst (bs.map V.bl))/\Q (.bl (bs.all id)) H
theorem yM (bs:List Bool):(List.range bs.length).all (λi=>bs.getD i false)=bs.all id:=by
 rw[Bool.eq_iff_iff,List.all_eq_true,List.all_eq_true];constructor
 ·intro h b hb;obtain⟨i,hi,rfl⟩:=List.mem_iff_getElem.mp hb;have:=h i (List.mem_range.mpr hi);rw[List.getD_eq_getElem?_getD,List.getElem?_eq_getElem hi]at this;exact this
 ·intro h i hi;have hi:=List.mem_range.mp hi;rw[List.getD_eq_getElem?_getD,List.getElem?_eq_getElem hi];exact h _ (List.getElem_mem hi)
theorem Ba (hc:X.calm=true):jK X (.builtin "all") G5:=by
 intro pins s O H xs us Q I rv h;obtain⟨l,bs,rfl,e,q⟩:=h;obtain⟨u,rfl,ru⟩:=mo rv;obtain rfl:=(show u=Value.ref l from ru);obtain⟨z,its,m,r,hl,eo⟩:=I.lstM e;obtain rfl:=nw r;have hL:s.heap.IsList l (bs.map Value.bool).toArray:=⟨_,eo,rfl,m,rfl⟩;have hne:l≠s.heap.objs.size:=Nat.ne_of_lt (Heap.lt_size eo);have W:=Walks.list (prog:=X.prog) (w:=X.w) (A:=X.A.in1) (I.ok.hd hc) s.heap.objs.size l hne (bs.map Value.bool).toArray;refine call_all_walk (wpAny_pyIter_list hL ⟨_,_,_,_,_,_,λi=>bs.getD i false,rfl,W,⟨⟨_,Heap.get?_push_size _ rfl,rfl,rfl⟩,hL.push _⟩,λi v s2 Q2 E2 hP hQ=>?_,λh' tk hk=>?_⟩)
 ·have hP':(bs.map Value.bool)[i]?=some v:=by simpa using hP
  rw[List.getElem?_map]at hP';cases z2:bs[i]? with
  | none=>rw[z2]at hP';cases hP'
  | some b =>
   rw[z2]at hP';cases hP';have hb:bs.getD i false=b:=by rw[List.getD_eq_getElem?_getD,z2];rfl
   dsimp only at hQ;rw[hb]at hQ;exact wpAny_truthy_bool hQ
 ·have hz:(bs.map Value.bool).toArray.size=bs.length:=by simp
  rw[hz,yM];refine⟨.bl (bs.all id),H,I.kept λb o eo2=>hk b o (λhm=>?_) (Heap.get?_push_of_some _ eo2),rfl,q⟩;have:=Heap.lt_size eo2;rw[List.mem_singleton.mp hm]at this;exact Nat.lt_irrefl _ this
theorem sW {e:Expr} {pos:Pos} (hc:X.calm=true) (hg:Gl X "all") (hm:X.mg "all"=none) (hst:starEach [e] X.env=(false,eval e X.env)::starEach [] X.env) (he:EB C X e F) :
    ED C X (.Call (.Name "all" p) [e] [] pos) (una sK F) :=
  aR (gd (Ba hc) hg hm boot_all (ci he dD hst) (he:=hst) (hpl:=aq)) λO H Q yy0=>by
   obtain⟨U,r0,q⟩:=yy0;exact⟨U,r0,aW (P:=λz H=>pV X (dv C X U O) z O H Q) (λ_ h=>h) (λh=>h) q λy v H1 s1 h1 q1=>by
    cases y with
    | lst xs =>
      unfold sK at q1;dsimp only at q1;cases eb:jF xs with
      | none=>rw[eb]at q1;exact q1.elim
      | some bs =>
        rw[eb]at q1;obtain⟨a,vs,rfl,e1,h2⟩:=h1.lst msk_sub;obtain rfl:=oC eb h2;exact⟨a,bs,rfl,e1,q1 _ H1 s1 (.bl _)⟩
    | _=>exact q1.elim⟩
def Itz (K:Frag) (a b:Addr):It :=
 ⟨λi H=>∃xs ys x y,SqL K H a xs/\SqL K H b ys/\xs[i]?=some x/\ys[i]?=some y,λi H v H'=>∃p x y,H p=none/\v=.ref p/\H'=upd H p (.tup [x,y])/\(∀xs,SqL K H a xs->xs[i]?=some x)/\∀ys,SqL K H b ys->ys[i]?=some y,λi H=>∃xs ys,SqL K H a xs/\SqL K H b ys/\(xs.length<=i\/ys.length<=i)⟩
theorem yZ {P:Program} {w:World} {pos:Pos} (a b z TI TO i1 i2:Addr) (D:ZipApart z TI TO i1 i2 a b) :
  wC P w K (.Tuple es k pos) (Itz K a b) [z,TI,TO,i1,i2] z (λi h=>IsZip h z TI TO .none/\IsPair h TI (.ref i1) (.ref i2)/\(∃x y,IsPair h TO x y)/\h.IsListIter i1 a i/\h.IsListIter i2 b i) where
 mem:=by simp
 obj:=λi h st c hc=>by
  obtain⟨hz,hTI,⟨x,y,hTO⟩,⟨o1,e1,c1,d1⟩,o2,e2,c2,d2⟩:=st;have hc:c=z\/c=TI\/c=TO\/c=i1\/c=i2:=by simpa using hc
  rcases hc with rfl|rfl|rfl|rfl|rfl
  ·exact⟨_,hz,λv q=>by have q':Data.fields _=Data.cell v:=q;cases q'⟩
  ·exact⟨_,hTI,λv q=>by have q':Data.seq _ _=Data.cell v:=q;cases q'⟩
  ·exact⟨_,hTO,λv q=>by have q':Data.seq _ _=Data.cell v:=q;cases q'⟩
  ·exact⟨o1,e1,λv q=>by rw[d1]at q;cases q⟩
  ·exact⟨o2,e2,λv q=>by rw[d2]at q;cases q⟩
 keep:=λi h h' st kk=>by
  obtain⟨hz,hTI,⟨x,y,hTO⟩,h1,h2⟩:=st;exact⟨kk z (by simp) _ hz,kk TI (by simp) _ hTI,⟨x,y,kk TO (by simp) _ hTO⟩,h1.at λo q=>kk i1 (by simp) o q,h2.at λo q=>kk i2 (by simp) o q⟩
 item:=by
  intro X hP hw hK hc i pins s O H E I hf st hg;subst hP hw hK;obtain⟨hz,hTI,⟨x0,y0,hTO⟩,h1,h2⟩:=st;obtain⟨xs,ys,x,y,hq1,hq2,hx,hy⟩:=hg;obtain⟨its1,rv1,p1,hz1⟩:=I.list hq1;obtain⟨its2,rv2,p2,hz2⟩:=I.list hq2;obtain⟨u1,hu1,ru1⟩:=rv1.get hx;obtain⟨u2,hu2,ru2⟩:=rv2.get hy;refine wpAny_pyNext_zip_item D hz hTI hTO h1 h2 p1.isList p2.isList (x:=u1) (y:=u2) (by simpa using hu1) (by simpa using hu2) λh' a1 a2 a3 a4 a5 a6 hk=>?_;refine⟨_,rfl,wpAny_letOwnedTupleGo_zip a1 λh'' hz'' sb=>?_⟩;have fr:=I.fresh;have hk2:∀c o,c≠z->c≠TO->c≠i1->c≠i2->s.heap.get? c=some o->h''.get? c=some o:=λc o n1 n2 n3 n4 eo=>(sb.2 c n1).trans (hk c o n1 n2 n3 n4 eo);have hse:s.heap.objs.size≠z:=Nat.ne_of_gt (Heap.lt_size hz);have ht2:h''.get? s.heap.objs.size=some { cls:=.type "tuple",data:=.seq #[u1,u2] }:=(sb.2 _ hse).trans a5;have ne':∀c,H c≠none->c≠z/\c≠TO/\c≠i1/\c≠i2:=λc hb=>⟨λq=>hb (by rw[q];exact(hf z (by simp)).1),λq=>hb (by rw[q];exact(hf TO (by simp)).1),λq=>hb (by rw[q];exact(hf i1 (by simp)).1),λq=>hb (by rw[q];exact(hf i2 (by simp)).1)⟩;have out:∀c,c∉[z,TO,i1,i2]->c≠z/\c≠TO/\c≠i1/\c≠i2:=λc h=>⟨λq=>h (by simp[q]),λq=>h (by simp[q]),λq=>h (by simp[q]),λq=>h (by simp[q])⟩;have hk3:∀c o,c∉[z,TO,i1,i2]->s.heap.get? c=some o->h''.get? c=some o:=λc o h eo=>by
   obtain⟨n1,n2,n3,n4⟩:=out c h;exact hk2 c o n1 n2 n3 n4 eo
  have I1:Inv X pins O (upd H s.heap.objs.size (.tup [x,y])) { s with heap:=h'' }:=by
   refine I.call' (s':={ s with heap:=h'' }) (ch:=[z,TO,i1,i2]) rfl ⟨λb o q n hfs hx=>hk3 b o hx q,λb o q n hfs hx=>⟨o.slots,hk3 b o hx q⟩,
    λb o q n hx=>?_,λb o q hx=>⟨o,hk3 b o hx q⟩,λb ys q=>?_,λb o v q=>?_,λb ps q=>?_⟩ (λb o q=>?_) I.bare λb hb=>?_
   ·rw[az (Nat.ne_of_lt (Heap.lt_size q))];exact n
   ·rw[az (bc q fr)];exact q
   ·rw[az (bc q fr)];exact q
   ·exact⟨#[],by rw[az (bc q fr),q];simp⟩
   ·by_cases hb:b=s.heap.objs.size
    ·subst hb;rw[aY]at q;cases q;exact⟨by show 2<=sizeLine;decide,[u1,u2],.cons ru1 (.cons ru2 .nil),⟨_,ht2,rfl,_,rfl⟩⟩
    ·rw[az hb]at q;refine(I.hok b o q).stay (λc v hc qv=>?_) (λc qc=>by rw[az (bc qc fr)];exact qc) λc ys qc=>by rw[az (bc qc fr)];exact qc
     have hcn:H c≠none:=by
      rcases hc with q|q
      ·rw[q,‹H b=some o›];simp
      ·rw[q];simp
     obtain⟨n1,n2,n3,n4⟩:=ne' c hcn;exact hk2 c v n1 n2 n3 n4 qv
   ·have hb':b∈[z,TI,TO,i1,i2]:=by
     have hb:b=z\/b=TO\/b=i1\/b=i2:=by simpa using hb
     rcases hb with q|q|q|q<;>simp[q]
    obtain⟨g0,g1,g2,g3,g4,g5⟩:=hf b hb';exact⟨g3,g1,g4,g5⟩
  have lt1:i1<s.heap.objs.size:=by obtain⟨o,eo,_⟩:=h1;exact Heap.lt_size eo
  have lt2:i2<s.heap.objs.size:=by obtain⟨o,eo,_⟩:=h2;exact Heap.lt_size eo
  refine⟨.ref s.heap.objs.size,_,I1,rfl,⟨_,x,y,fr,rfl,rfl,λzs hz=>by rw[I.list_inj hz hq1];exact hx,λzs hz=>by rw[I.list_inj hz hq2];exact hy⟩,⟨hz'',(sb.2 _ D.TIz).trans (hk _ _ D.TIz D.TITO D.TIi1 D.TIi2 hTI),⟨_,_,(sb.2 _ D.TOz).trans a2⟩,a3.at λo q=>(sb.2 _ D.i1z).trans q,a4.at λo q=>(sb.2 _ D.i2z).trans q⟩,λc hc=>?_⟩;have hb':=(hf c hc).1;have hlt:c<s.heap.objs.size:=by
   have hc:c=z\/c=TI\/c=TO\/c=i1\/c=i2:=by simpa using hc
   rcases hc with rfl|rfl|rfl|rfl|rfl
   ·exact Heap.lt_size hz
   ·exact Heap.lt_size hTI
   ·exact Heap.lt_size hTO
   ·exact lt1
   ·exact lt2
  rw[az (Nat.ne_of_lt hlt)];exact hb'
 done:=by
  intro X hP hw hK hc i pins s O H E I hf st hg;subst hP hw hK;obtain⟨hz,hTI,⟨x0,y0,hTO⟩,h1,h2⟩:=st;obtain⟨xs,ys,hq1,hq2,hx⟩:=hg;obtain⟨its1,rv1,p1,hz1⟩:=I.list hq1;obtain⟨its2,rv2,p2,hz2⟩:=I.list hq2;have l1:=rv1.length;have l2:=rv2.length;refine wpAny_pyNext_zip_end (I.ok.hd hc) D hz hTI hTO h1 h2 p1.isList p2.isList ?_ λh' hk=>⟨rfl,?_⟩
  ·rcases hx with h|h
   ·exact .inl (by simp;omega)
   ·exact .inr (by simp;omega)
  ·have out:∀c,c∉[z,TO,i1,i2]->c≠z/\c≠TO/\c≠i1/\c≠i2:=λc h=>⟨λq=>h (by simp[q]),λq=>h (by simp[q]),λq=>h (by simp[q]),λq=>h (by simp[q])⟩;have hk3:∀c o,c∉[z,TO,i1,i2]->s.heap.get? c=some o->h'.get? c=some o:=λc o h eo=>by
    obtain⟨n1,n2,n3,n4⟩:=out c h;exact hk c o n1 n2 n3 n4 eo
   have ne':∀c,H c≠none->c≠z/\c≠TO/\c≠i1/\c≠i2:=λc hb=>⟨λq=>hb (by rw[q];exact(hf z (by simp)).1),λq=>hb (by rw[q];exact(hf TO (by simp)).1),λq=>hb (by rw[q];exact(hf i1 (by simp)).1),λq=>hb (by rw[q];exact(hf i2 (by simp)).1)⟩;refine I.call' (s':={ s with heap:=h' }) (ch:=[z,TO,i1,i2]) rfl ⟨λb o q n hfs hx=>hk3 b o hx q,λb o q n hfs hx=>⟨o.slots,hk3 b o hx q⟩,
    λb o q n hx=>n,λb o q hx=>⟨o,hk3 b o hx q⟩,λb ys q=>q,λb o v q=>q,λb ps q=>⟨#[],by rw[q];simp⟩⟩ (λb o q=>?_) I.bare λb hb=>?_
   ·refine(I.hok b o q).stay (λc v hc qv=>?_) (λc qc=>qc) λc ys qc=>qc;have hcn:H c≠none:=by
     rcases hc with q|q
     ·rw[q,‹H b=some o›];simp
     ·rw[q];simp
    obtain⟨n1,n2,n3,n4⟩:=ne' c hcn;exact hk c v n1 n2 n3 n4 qv
   ·have hb':b∈[z,TI,TO,i1,i2]:=by
     have hb:b=z\/b=TO\/b=i1\/b=i2:=by simpa using hb
     rcases hb with q|q|q|q<;>simp[q]
    obtain⟨g0,g1,g2,g3,g4,g5⟩:=hf b hb';exact⟨g3,g1,g4,g5⟩
 self:=λ_ _ _ _ _ st h=>wpAny_pyIter_zip st.1 h
theorem yR:∀{xs ys:List D} {i:Nat} {d:D},(zp xs ys)[i]?=some d->∃x y,xs[i]?=some x/\ys[i]?=some y/\d=.tup [x,y]
 | [],_,_,_,e=>by unfold zp at e;simp at e
 | _::_,[],_,_,e=>by unfold zp at e;simp at e
 | x::xs,y::ys,0,d,e=>by
  unfold zp at e;rw[List.getElem?_cons_zero]at e;cases e;exact⟨x,y,rfl,rfl,rfl⟩
 | x::xs,y::ys,i+1,d,e=>by
  unfold zp at e;rw[List.getElem?_cons_succ]at e;obtain⟨x',y',h1,h2,h3⟩:=yR e;exact⟨x',y',by rw[List.getElem?_cons_succ];exact h1,by rw[List.getElem?_cons_succ];exact h2,h3⟩
theorem yS:∀(xs ys:List D),xs.length<=(zp xs ys).length\/ys.length<=(zp xs ys).length
 | [],_=>.inl (Nat.zero_le _)
 | _::_,[]=>.inr (Nat.zero_le _)
 | x::xs,y::ys=>by
  unfold zp;rw[List.length_cons,List.length_cons,List.length_cons];rcases yS xs ys with h|h
  ·exact .inl (Nat.succ_le_succ h)
  ·exact .inr (Nat.succ_le_succ h)
theorem yU {b:Addr} {ys:List D} {M:Hp} (e:M a=some (.lst vs)) (h:HasL K C M vs xs) (e':M b=some (.lst ws)) (h':HasL K C M ws ys):tF K C (Itz K a b) (zp xs ys) M where
 go:=λi d H2 s hy=>by
  obtain⟨x,y,hx,hy',rfl⟩:=yR hy;obtain⟨v,e1,h1⟩:=h.get hx;obtain⟨v',e1',h1'⟩:=h'.get hy';refine⟨⟨vs,ws,v,v',SqL.of (s _ _ e),SqL.of (s _ _ e'),e1,e1'⟩,λu H3 q=>?_⟩;obtain⟨p,x',y',hp,rfl,rfl,q1,q2⟩:=q;have e2:=q1 vs (SqL.of (s _ _ e));rw[e1]at e2;cases e2;have e3:=q2 ws (SqL.of (s _ _ e'));rw[e1']at e3;cases e3;refine⟨aP hp,λU O hown m=>?_⟩;have em:msk U O (upd H2 p (.tup [v,v'])) p=some (.tup [v,v']):=msk_some.mpr ⟨λz=>hown p z hp,aY⟩;exact .tup em (.cons (h1.mono (m.trans (aZ (aP hp)))) (.cons (h1'.mono (m.trans (aZ (aP hp)))) .nil))
 stop:=λH2 s=>⟨vs,ws,SqL.of (s _ _ e),SqL.of (s _ _ e'),by rw[h.len,h'.len];exact yS xs ys⟩
theorem D7 {tp pos:Pos} {l m:Expr} {ta:TA} (hg:Gl X "zip") (hm:X.mg "zip"=none) (ha:PA X [l,m] ta) (he:starEach [l,m] X.env=(false,eval l X.env)::starEach [m] X.env) (hpl:(backTo pos (starEach [m] X.env)).any (·.1)=false) :
  PI X (.Tuple es k tp) (.Call (.Name "zip" p) [l,m] [] pos) (λO H R=>ta O H λvs H1=>∃a b xs ys,vs=[.ref a,.ref b]/\SqL X.K H1 a xs/\SqL X.K H1 b ys/\R (Itz X.K a b) H1):=by
 intro pins s O H R I h;refine Call_ (jp I hg hm boot_zip (PyProof.Rows.callWith_type1 (thn (ha pos pins s O H _ I h) λus s1 zz0=>?_) he hpl));obtain⟨vs,H1,I1,r1,q1⟩:=zz0;obtain⟨a,b,xs,ys,e,hq,hq',q⟩:=q1;subst e;cases r1 with
 | cons r rr =>
  cases rr with
  | cons r' rr =>
   cases rr;cases r;cases r';obtain⟨its,rv,pl,hz⟩:=I1.list hq;obtain⟨its',rv',pl',hz'⟩:=I1.list hq';have la:a<s1.heap.objs.size:=by obtain⟨_,e,_⟩:=pl.isList;exact Heap.lt_size e
   have lb:b<s1.heap.objs.size:=by obtain⟨_,e,_⟩:=pl'.isList;exact Heap.lt_size e
   refine call_zip_2 pl.isList pl'.isList λh' iz iTI iTO i1 i2 hsz kp=>?_;have I2:Inv X pins O H1 { s1 with heap:=h' }:=I1.kept (t':=s1.toks) kp;refine wpAny_pyIter_zip iz ?_;refine⟨s1.heap.objs.size+4,[s1.heap.objs.size+4,s1.heap.objs.size+2,s1.heap.objs.size+3,s1.heap.objs.size,s1.heap.objs.size+1],_,_,H1,rfl,I2,yZ a b _ _ _ _ _ (zipApart_new la lb),⟨iz,iTI,⟨_,_,iTO⟩,i1,i2⟩,λc hc=>?_,q⟩;have hle:s1.heap.objs.size<=c:=by
    have hc:c=s1.heap.objs.size+4\/c=s1.heap.objs.size+2\/c=s1.heap.objs.size+3\/c=s1.heap.objs.size\/c=s1.heap.objs.size+1:=by simpa using hc
    rcases hc with z|z|z|z|z<;>rw[z]
    ·exact Nat.le_add_right _ _
    ·exact Nat.le_add_right _ _
    ·exact Nat.le_add_right _ _
    ·exact Nat.le_refl _
    ·exact Nat.le_add_right _ _
   exact I1.fpOk hle (I1.hok.fresh hle)
theorem sC {tp pos:Pos} {l m:Expr} {F:Rho->R (List D)} (hg:Gl X "zip") (hm:X.mg "zip"=none) (ha:AD C X [l,m] F) (he:starEach [l,m] X.env=(false,eval l X.env)::starEach [m] X.env) (hpl:(backTo pos (starEach [m] X.env)).any (·.1)=false) :
    ID C X (.Tuple es k tp) (.Call (.Name "zip" p) [l,m] [] pos) (mV F):=ng (D7 hg hm ha he hpl) λO H R yy0=>by
     obtain⟨U,⟨H0,r⟩,q⟩:=yy0;refine⟨U,⟨H0,r⟩,?_⟩;unfold mV at q;cases e:F U with
     | val ds =>
       rw[e]at q;intro vs H1 s1 h1;dsimp only[DL.R.bind]at q;cases h1 with
       | nil=>exact q.elim
       | @cons v1 d1 vs1 ds1 a1 h1 =>
         cases h1 with
         | nil=>cases d1<;>exact q.elim
         | @cons v2 d2 vs2 ds2 a2 h1 =>
           cases h1 with
           | cons _ _=>cases d1<;>cases d2<;>exact q.elim
           | nil =>
             cases a1 with
             | lst e1 g1 =>
               cases a2 with
               | lst e2 g2=>exact⟨_,_,_,_,rfl,SqL.of (msk_sub _ _ e1),SqL.of (msk_sub _ _ e2),q _ H1 s1 (yU e1 g1 e2 g2)⟩
               | _=>exact q.elim
             | _=>cases d2<;>exact q.elim
     | exc c=>rw[e]at q;exact q
     | bad=>rw[e]at q;exact q
def DV:List V->Hp->VK->Prop:=λxs H Q=>∃r j,xs=[.ref r]/\H r=some (.rng 0 j)/\-(2 ^ 62)<=j/\j<=100000/\∀p,H p=none->Q (.ref p) (upd H p (.lst ((List.range j.toNat).map λ(k:Nat)=>V.int (0+(k:Int)))))
theorem vi (hc:X.calm=true):jK X (.type "list") DV:=by
 intro pins s O H xs us Q I r h;obtain⟨ra,j,rfl,hq,hj0,hj,q⟩:=h;obtain⟨u,rfl,rx⟩:=mo r;cases rx;obtain⟨t,u',v',e⟩:=I.hok ra _ hq;have hn:Builtin.Range.rangeSize 0 j 1=(j.toNat:Nat):=by rw[rangeSize_one];split<;>omega
 have hsm:Builtin.Range.small 0 j 1=true:=small_one (by decide) (by decide) hj0 (by omega);refine call_list_range (n:=j.toNat) (I.ok.hd hc) e hsm hn (by omega) λh' tk acc c hk hacc hit=>?_;have hv:Vals ((List.range j.toNat).map λ(k:Nat)=>V.int (0+(k:Int))) acc.toList:=nv (by simpa using hit.1) λi v q=>hit.2 i v (by simpa using q);have I2:Inv X pins O (upd H s.heap.objs.size (.lst ((List.range j.toNat).map λ(k:Nat)=>V.int (0+(k:Int))))) { s with heap:=h',toks:=tk } :=
  I.laid (t':=tk) (λb o e=>hk b o e) (Nat.le_refl _) (show ObjOk X.prog X.w _ _ _ (.lst _)from⟨by rw[List.length_map,List.length_range];exact Nat.le_trans (show j.toNat<=100000 by omega) (by decide),acc.toList,c,hv,by simpa using hacc⟩)
 exact⟨.ref s.heap.objs.size,_,I2,rfl,q _ I.fresh⟩
theorem EX {a : Expr} {pos pos2 : Pos} {F : Rho -> R (List D)} (hc : X.calm = true) (ha : AD C X [a] F) (hgr : Gl X "range") (hmr : X.mg "range" = none) (hgt : Gl X "list") (hmt : X.mg "list" = none)
    (hs : starEach [a] X.env = [(false, eval a X.env)]) : FD C X (.Call (.Name "list" p) [.Call (.Name "range" p2) [a] [] pos2] [] pos) (AJ F) :=
  aR (cA (vi hc) hgt hmt boot_list (ci (zL hgr hmr ha hs) dD av) (he := av) (hpl := aq)) fun O H Q yy0 => by
   obtain ⟨U, ⟨H0, r⟩, q⟩ := yy0
   exact ⟨U, ⟨H0, r⟩, fS (P := fun z H => pF (X := X) (jJ C X U O) z O H Q) (fun _ h => h) (fun h => h) q fun ds vs H1 s1 h1 q1 => by
    cases h1 with
    | nil => exact q1.elim
    | @cons v1 d1 vs1 ds1 a1 h1 =>
      cases h1 with
      | cons _ _ => cases d1 <;> exact q1.elim
      | nil =>
        cases a1 with
        | int j =>
          unfold Ab at q1
          dsimp only at q1
          by_cases hj : -(2 ^ 62) <= j /\ j <= 100000
          · rw [if_pos hj] at q1
            exact ⟨j, rfl, hj.1, by omega, fun ra hra => ⟨ra, j, rfl, aY, hj.1, hj.2, fun pa hpa => q1 pa _ _ (s1.trans (aP hra)) hpa (uP _)⟩⟩
          · rw [if_neg hj] at q1; exact q1.elim
        | _ => exact q1.elim⟩
end
section
variable (C:Addr) (X:Cx)
end
section
variable {C:Addr} {X:Cx} {U:RB} {O:St} {H H':Hp}
end
section
variable (C:Addr) (X:Cx)
end
section
variable {C:Addr} {X:Cx}
def Do:D->Bool
 | .int _=>true
 | .bl _=>true
 | .non=>true
 | _=>false
def gQ:OK->D->Bool
 | .s,d=>Do d
 | .l k,.lst xs=>xs.all (gQ k)
 | .p j k,.tup [a,b]=>gQ j a&&gQ k b
 | _,_=>false
end
section
variable {P:Program} {w:World} {K:Frag} {mg:Str->Option Value} {base:Heap} {C:Addr}
end
def kF:D->List Nat->Option D
 | d,[]=>some d
 | .lst xs,j::p=>match xs[j]? with
  | some d=>kF d p
  | none=>none
 | .tup xs,j::p=>match xs[j]? with
  | some d=>kF d p
  | none=>none
 | _,_::_=>none
def kM:D->List Nat->D->D
 | _,[],e=>e
 | .lst xs,j::p,e=>match xs[j]? with
  | some d=>.lst (xs.set j (kM d p e))
  | none=>.lst xs
 | .tup xs,j::p,e=>match xs[j]? with
  | some d=>.tup (xs.set j (kM d p e))
  | none=>.tup xs
 | d,_::_,_=>d
def je:OK->List Nat->Option OK
 | k,[]=>some k
 | .l k,_::p=>je k p
 | .p j _,0::p=>je j p
 | .p _ k,1::p=>je k p
 | _,_::_=>none
inductive Reach (H:Hp):V->List Nat->V->Prop where
 | nil {v:V}:Reach H v [] v
 | lst {a:Addr} {vs:List V} {j:Nat} {p:List Nat} {v w:V}:H a=some (.lst vs)->vs[j]?=some v->Reach H v p w->Reach H (.ref a) (j::p) w
 | tup {a:Addr} {vs:List V} {j:Nat} {p:List Nat} {v w:V}:H a=some (.tup vs)->vs[j]?=some v->Reach H v p w->Reach H (.ref a) (j::p) w
variable {w v:V} {k':OK}
section
variable {K:Frag} {C:Addr} {M M' H H':Hp}
theorem Reach.mono (s:Same H H') {p:List Nat} (h:Reach H v p w):Reach H' v p w:=by
 induction h with
 | nil=>exact .nil
 | lst e q _ ih=>exact .lst (s _ _ e) q ih
 | tup e q _ ih=>exact .tup (s _ _ e) q ih
structure GJ (A B:List Addr) (H H':Hp):Prop where
 at_:∀a∈A,a∉B->∀o,H a=some o->H' a=some o
 tup:∀a vs,H a=some (.tup vs)->H' a=some (.tup vs)
theorem TreP.pick:∀{ks:List OK} {vs:List V} {ds:List D} {A:List Addr} {j:Nat} {d:D},TreP K C M H ks vs ds A->ds[j]?=some d->∃k v A1,ks[j]?=some k/\vs[j]?=some v/\Tre K C M H k v d A1/\(∀a∈A1,a∈A) /\
  ∀{M' H':Hp} {d':D} {A2:List Addr},Same M M'->GJ A A1 H H'->Tre K C M' H' k v d' A2->(∀a∈A2,a∈A1\/a∉A)->∃A',TreP K C M' H' ks vs (ds.set j d') A'/\∀a∈A',a∈A\/a∈A2
 | _,_,_,_,_,_,.nil,e=>by simp at e
 | _,_,_,_,0,d,.cons (k:=k) (v:=v) (A:=A1) (B:=A3) h t n,e=>by
  rw[List.getElem?_cons_zero]at e;cases e;refine⟨k,v,A1,rfl,rfl,h,λa ha=>List.mem_append_left _ ha,λ{M' H' d' A2} s w h2 f=>⟨A2++A3,.cons h2 (t.stay s ⟨λa ha o q=>w.at_ a (List.mem_append_right _ ha) (λz=>n a z ha) o q,w.tup⟩) λa ha hb=>?_,λa ha=>?_⟩⟩
  ·rcases f a ha with z|z
   ·exact n a z hb
   ·exact z (List.mem_append_right _ hb)
  ·rcases List.mem_append.mp ha with z|z
   ·exact .inr z
   ·exact .inl (List.mem_append_right _ z)
 | _,_,_,_,j+1,d,.cons (k:=k0) (v:=v0) (d:=d0) (A:=A0) (B:=A3) h t n,e=>by
  rw[List.getElem?_cons_succ]at e;obtain⟨k,v,A1,e1,e2,h1,s1,up⟩:=TreP.pick t e;refine⟨k,v,A1,e1,e2,h1,λa ha=>List.mem_append_right _ (s1 a ha),λ{M' H' d' A2} s w h2 f=>?_⟩;obtain⟨A',h3,s3⟩:=up (M':=M') (H':=H') s ⟨λa ha na o q=>w.at_ a (List.mem_append_right _ ha) na o q,w.tup⟩ h2 λa ha=>(f a ha).imp id λz y=>z (List.mem_append_right _ y);refine⟨A0++A',.cons (h.stay s ⟨λa ha o q=>w.at_ a (List.mem_append_left _ ha) (λz=>n a ha (s1 a z)) o q,w.tup⟩) h3 λa ha hb=>?_,λa ha=>?_⟩
  ·rcases s3 a hb with z|z
   ·exact n a ha z
   ·rcases f a z with y|y
    ·exact n a ha (s1 a y)
    ·exact y (List.mem_append_left _ ha)
  ·rcases List.mem_append.mp ha with z|z
   ·exact .inl (List.mem_append_left _ z)
   ·exact(s3 a z).imp (λy=>List.mem_append_right _ y) id
theorem Ch {Y:Type} {k:OK} {vs:List Y} (h:(vs.map λ_=>k)[j]?=some k'):k'=k:=by
 rw[List.getElem?_map]at h;cases e:vs[j]? with
 | none=>rw[e]at h;cases h
 | some v=>rw[e]at h;exact(Option.some.inj h).symm
theorem Tre.path:∀{pp:List Nat} {k k':OK} {v:V} {d d':D} {A:List Addr},Tre K C M H k v d A->kF d pp=some d'->je k pp=some k'->∃v' A1,Tre K C M H k' v' d' A1/\(∀a∈A1,a∈A)/\Reach H v pp v' /\
  ∀{M' H':Hp} {e:D} {A2:List Addr},Same M M'->GJ A A1 H H'->Tre K C M' H' k' v' e A2->(∀a∈A2,a∈A1\/a∉A)->∃A',Tre K C M' H' k v (kM d pp e) A'/\∀a∈A',a∈A\/a∈A2
 | [],k,k',v,d,d',A,h,ed,ek=>by
  unfold kF at ed;unfold je at ek;cases ed;cases ek;exact⟨v,A,h,λa ha=>ha,.nil,λ{M' H' e A2} _ _ h2 _=>⟨A2,by unfold kM;exact h2,λa ha=>.inr ha⟩⟩
 | j::pp,_,k',_,_,d',_,.s h,ed,ek=>by unfold je at ek;cases ek
 | j::pp,_,k',_,_,d',_,.l (k:=k) (a:=a) (vs:=vs) (xs:=xs) (A:=A) ha hp hn,ed,ek=>by
  unfold kF at ed;unfold je at ek;split at ed
  ·rename_i d0 e0;obtain⟨k0,v0,A0,q1,q2,h0,s0,up0⟩:=hp.pick e0;have:=Ch q1;subst this;obtain⟨v',A1,h1,s1,rc,up1⟩:=Tre.path h0 ed ek;refine⟨v',A1,h1,λb hb=>List.mem_cons_of_mem _ (s0 b (s1 b hb)),.lst ha q2 rc,λ{M' H' e A2} s w h2 f=>?_⟩;obtain⟨A3,h3,s3⟩:=up1 (M':=M') (H':=H') s ⟨λb hb nb o q=>w.at_ b (List.mem_cons_of_mem _ (s0 b hb)) nb o q,w.tup⟩ h2 λb hb=>(f b hb).imp id λz y=>z (List.mem_cons_of_mem _ (s0 b y));have f3:∀b∈A3,b∈A0\/b∉A:=λb hb=>by
    rcases s3 b hb with z|z
    ·exact .inl z
    ·rcases f b z with y|y
     ·exact .inl (s1 b y)
     ·exact .inr λx=>y (List.mem_cons_of_mem _ x)
   obtain⟨A4,h4,s4⟩:=up0 (M':=M') (H':=H') s ⟨λb hb nb o q=>w.at_ b (List.mem_cons_of_mem _ hb) (λz=>nb (s1 b z)) o q,w.tup⟩ h3 f3;have na:a∉A2:=λz=>by
    rcases f a z with y|y
    ·exact hn (s0 a (s1 a y))
    ·exact y List.mem_cons_self
   refine⟨a::A4,?_,λb hb=>?_⟩
   ·unfold kM;rw[e0];refine .l (w.at_ a List.mem_cons_self (λz=>hn (s0 a (s1 a z))) _ ha) h4 λz=>?_;rcases s4 a z with y|y
    ·exact hn y
    ·rcases s3 a y with x|x
     ·exact hn (s0 a x)
     ·exact na x
   ·rcases List.mem_cons.mp hb with rfl|hb
    ·exact .inl List.mem_cons_self
    ·rcases s4 b hb with y|y
     ·exact .inl (List.mem_cons_of_mem _ y)
     ·exact(s3 b y).imp (λx=>List.mem_cons_of_mem _ (s0 b x)) id
  ·cases ed
 | j::pp,_,k',_,_,d',_,.p (j:=k1) (k:=k2) (a:=a) (vs:=vs) (xs:=xs) (A:=A) ha hp,ed,ek=>by
  unfold kF at ed;split at ed
  ·rename_i d0 e0;obtain⟨k0,v0,A0,q1,q2,h0,s0,up0⟩:=hp.pick e0;have ek0:je k0 pp=some k':=by
    match j,q1,ek with
    | 0,q1,ek=>cases q1;unfold je at ek;exact ek
    | 1,q1,ek=>cases q1;unfold je at ek;exact ek
    | n+2,q1,ek=>cases q1
   obtain⟨v',A1,h1,s1,rc,up1⟩:=Tre.path h0 ed ek0;refine⟨v',A1,h1,λb hb=>s0 b (s1 b hb),.tup ha q2 rc,λ{M' H' e A2} s w h2 f=>?_⟩;obtain⟨A3,h3,s3⟩:=up1 (M':=M') (H':=H') s ⟨λb hb nb o q=>w.at_ b (s0 b hb) nb o q,w.tup⟩ h2 λb hb=>(f b hb).imp id λz y=>z (s0 b y);have f3:∀b∈A3,b∈A0\/b∉A:=λb hb=>by
    rcases s3 b hb with z|z
    ·exact .inl z
    ·rcases f b z with y|y
     ·exact .inl (s1 b y)
     ·exact .inr y
   obtain⟨A4,h4,s4⟩:=up0 (M':=M') (H':=H') s ⟨λb hb nb o q=>w.at_ b hb (λz=>nb (s1 b z)) o q,w.tup⟩ h3 f3;refine⟨A4,?_,λb hb=>?_⟩
   ·unfold kM;rw[e0];exact .p (w.tup _ _ ha) h4
   ·rcases s4 b hb with y|y
    ·exact .inl y
    ·exact(s3 b y).imp (λx=>s0 b x) id
  ·cases ed
end
variable {pp:List Nat}
section
variable {K:Frag} {C:Addr} {H0 H:Hp} {U:RB} {O:St}
theorem Rel.node (r:Rel K C H0 U O H) {k:OK} {d:D} (e:U.rho[i]?=some (some (.tre k d))) (ek:je k pp=some (.l k')) (ed:kF d pp=some (.lst xs)) :
  ∃v a vs A0,O[i]?=some (some v)/\Reach H v pp (.ref a)/\H a=some (.lst vs)/\TreP K C (msk U O H) H (vs.map λ_=>k') vs xs A0/\a∉A0 /\
   ∀{H2:Hp} {ws:List V} {ys:List D} {N B:List Addr},Same H H2->(∀b∈N,H b=none)->TreP K C (cut N (msk U O H2)) (upd H2 a (.lst ws)) (ws.map λ_=>k') ws ys B->(∀b∈B,b∈A0\/b∈N) ->
    Rel K C H0 (U.put i (.tre k (kM d pp (.lst ys))) (U.ad i++B)) O (upd H2 a (.lst ws)):=by
 obtain⟨v,Bt,e1,hB,h⟩:=r.at_ i _ e;obtain⟨v',A1,h1,s1,rc,up⟩:=h.path ed ek;cases h1 with
 | @l _ a vs _ A0 ha hp hn =>
  have aI:a∈U.ad i:=hB a (s1 a List.mem_cons_self);have A0I:∀b∈A0,b∈U.ad i:=λb hb=>hB b (s1 b (List.mem_cons_of_mem _ hb));refine⟨v,a,vs,A0,e1,rc,ha,hp,hn,λ{H2 ws ys N B} s hN ht hs=>?_⟩;have nN:∀b,b∈U.ad i->b∉N:=λb hb z=>by
   have:=r.ownAt (O:=O) ⟨i,hb⟩;exact this (hN b z)
  have ne:∀b vs',H b=some (.tup vs')->b≠a:=λb vs' q z=>by rw[z,ha]at q;cases q
  refine r.put rfl (λj _=>rfl) (λb hb=>?_) (λj hj=>⟨λb hb o q=>?_,λb vs' q=>?_⟩) (λb o q=>?_) (λb hb=>?_) λhi sub=>?_
  ·rcases List.mem_append.mp hb with hb|hb
   ·exact .inl hb
   ·rcases hs b hb with z|z
    ·exact .inl (A0I b z)
    ·exact .inr (hN b z)
  ·rw[az λ(z:b=a)=>hj (r.inj j i b hb (z▸aI))];exact s b o q
  ·rw[az (ne b vs' q)];exact s b _ q
  ·obtain⟨g1,g2⟩:=msk_some.mp q;rw[az λ(z:b=a)=>g1 ⟨i,z▸aI⟩];exact s b o g2
  ·by_cases z:b=a
   ·exact .inl ⟨ws,by rw[z];exact aY⟩
   ·rcases List.mem_append.mp hb with hb|hb
    ·rw[az z];exact(r.kin i b hb).imp (λ⟨us,q⟩=>⟨us,s _ _ q⟩) λ⟨us,q⟩=>⟨us,s _ _ q⟩
    ·exact .inl (ht.lists b hb)
  ·have aB:a∉B:=λz=>by
    rcases hs a z with y|y
    ·exact hn y
    ·exact nN a aI y
   obtain⟨A',h3,s3⟩:=up (M':=msk (U.put i (.tre k (kM d pp (.lst ys))) (U.ad i++B)) O (upd H2 a (.lst ws))) (H':=upd H2 a (.lst ws)) sub ⟨λb hb nb o q=>by rw[az λ(z:b=a)=>nb (z▸List.mem_cons_self)];exact s b o q,λb vs' q=>by rw[az (ne b vs' q)];exact s b _ q⟩
    (.l (k:=k') aY (ht.stay (λb o q=>by
     obtain⟨g1,g2⟩:=cut_some.mp q;obtain⟨g3,g4⟩:=msk_some.mp g2;refine msk_some.mpr ⟨λ⟨j,z⟩=>?_,by rw[az λ(z:b=a)=>g3 ⟨i,z▸aI⟩];exact g4⟩;rcases fZ z with⟨_,_,z⟩|⟨_,z⟩
     ·rcases List.mem_append.mp z with z|z
      ·exact g3 ⟨i,z⟩
      ·rcases hs b z with y|y
       ·exact g3 ⟨i,A0I b y⟩
       ·exact g1 y
     ·exact g3 ⟨j,z⟩) (.of (Same.refl _))) aB) (λb hb=>by
     rcases List.mem_cons.mp hb with z|z
     ·exact .inl (z▸List.mem_cons_self)
     ·rcases hs b z with y|y
      ·exact .inl (List.mem_cons_of_mem _ y)
      ·exact .inr λx=>nN b (hB b x) y)
   refine⟨v,A',e1,λb hb=>?_,h3⟩;rcases s3 b hb with z|z
   ·exact List.mem_append_left _ (hB b z)
   ·rcases List.mem_cons.mp z with z|z
    ·exact List.mem_append_left _ (z▸aI)
    ·exact List.mem_append_right _ z
theorem Reach.det {w':V} (h:Reach H v pp w) (h':Reach H v pp w'):w=w':=by
 induction h with
 | nil=>cases h';rfl
 | lst e q _ ih =>
  cases h' with
  | lst e' q' h'=>rw[e]at e';cases e';rw[q]at q';cases q';exact ih h'
  | tup e' q' h'=>rw[e]at e';cases e'
 | tup e q _ ih =>
  cases h' with
  | lst e' q' h'=>rw[e]at e';cases e'
  | tup e' q' h'=>rw[e]at e';cases e';rw[q]at q';cases q';exact ih h'
theorem Reach.snocL {u:V} (h:Reach H v pp w) (ew:w=.ref a) (e:H a=some (.lst vs)) (q:vs[j]?=some u):Reach H v (pp++[j]) u:=by
 induction h with
 | nil=>subst ew;exact .lst e q .nil
 | lst e' q' _ ih=>exact .lst e' q' (ih ew)
 | tup e' q' _ ih=>exact .tup e' q' (ih ew)
theorem Reach.snocT {u:V} (h:Reach H v pp w) (ew:w=.ref a) (e:H a=some (.tup vs)) (q:vs[j]?=some u):Reach H v (pp++[j]) u:=by
 induction h with
 | nil=>subst ew;exact .tup e q .nil
 | lst e' q' _ ih=>exact .lst e' q' (ih ew)
 | tup e' q' _ ih=>exact .tup e' q' (ih ew)
end
section
variable {C:Addr} {X:Cx}
def pN0 (i:Nat):Rho->R (List Nat):=λU=>match U[i]? with
 | some (some (.tre _ _))=>.val []
 | _=>.bad
def pIx (k:OK) (d:D) (pp:List Nat) (n:Int):R (List Nat):=match je k pp,kF d pp with
 | some (.l _),some (.lst xs)=>match ixN xs.length n with
  | some j=>.val (pp++[j])
  | none=>.bad
 | some (.p _ _),some (.tup xs)=>match ixN xs.length n with
  | some j=>.val (pp++[j])
  | none=>.bad
 | _,_=>.bad
def pN (i:Nat) (P:Rho->R (List Nat)) (b:Rho->R D):Rho->R (List Nat):=λU=>(P U).bind λpp=>(b U).bind λn=>match U[i]?,n with
 | some (some (.tre k d)),.int n=>pIx k d pp n
 | _,_=>.bad
variable (C X) in
def teN (i:Nat) (P:Rho->R (List Nat)):TE:=λO H Q=>∃U:RB,(∃H0,eG C X H0 U O H)/\match P U with
 | .val pp=>∀v w H',O[i]?=some (some v)->Same H H'->Reach H' v pp w->Q w H'
 | .exc c=>XE X c O H
 | .bad=>False
variable (C X) in
def ND (i:Nat) (o:Expr) (P:Rho->R (List Nat)):Prop:=PE X o (teN C X i P)
theorem w_ {pos:Pos} (h:PE X (.Name x pos) (fv i)):ND C X i (.Name x pos) (pN0 i):=by
 refine aR h λO H Q ⟨U,⟨H0,r⟩,q⟩=>?_;unfold pN0 at q;split at q
 ·rename_i e;split at e
  ·rename_i k d e0;cases e;obtain⟨v,B,e1,_,_⟩:=r.at_ i _ e0;exact⟨v,e1,q v v H e1 (Same.refl _) .nil⟩
  ·cases e
 ·rename_i e;split at e<;>cases e
 ·exact q.elim
theorem Bj {Y:Type} {vs:List Y} {n:Int} (e:ixN vs.length n=some j):atI vs n=vs[j]?:=by
 unfold atI;rw[e];rfl
theorem Ai {m:Nat} {n:Int} (e:ixN m n=some j):j<m:=by
 unfold ixN at e;split at e
 ·split at e
  ·cases e;omega
  ·cases e
 ·split at e
  ·cases e;omega
  ·cases e
theorem Gf {b:Expr} {pos:Pos} {P:Rho->R (List Nat)} {Fb:Rho->R D} (ho:ND C X i o P) (hb:ED C X b Fb) (hs:lz b:=by exact λ_ _=>rfl):ND C X i (.Subscript o b pos) (pN i P Fb) :=
 aR (zN Ah ho hb hs) λO H Q ⟨U,⟨H0,r⟩,q⟩=>by
  refine⟨U,⟨H0,r⟩,?_⟩;unfold pN at q;cases eP:P U with
  | exc c=>rw[eP]at q;exact q
  | bad=>rw[eP]at q;exact q
  | val pp =>
   rw[eP]at q;dsimp only[DL.R.bind]at q;intro v w H1 e1 s1 rc;refine⟨U,⟨H0,r.mono s1⟩,?_⟩;cases eb:Fb U with
   | exc c=>rw[eb]at q;exact XE.mono s1 q
   | bad=>rw[eb]at q;exact q
   | val n =>
    rw[eb]at q;dsimp only at q;intro y H2 s2 hy;split at q
    ·rename_i pq e0;split at e0
     ·rename_i k d n' er;cases hy;unfold pIx at e0;obtain⟨v0,B,e2,_,h⟩:=r.at_ i _ er;rw[e1]at e2;cases e2;split at e0
      ·rename_i k1 xs ek ed;split at e0
       ·rename_i j ej;cases e0;obtain⟨v',A1,h1,_,rc',_⟩:=h.path ed ek;have:=Reach.det (rc'.mono s1) rc;subst this;cases h1 with
        | @l _ a vs _ A0 ha hp hn =>
         have ha2:=s2 _ _ (s1 _ _ ha);have hl:vs.length=xs.length:=hp.len.1;have hj:j<vs.length:=by rw[hl];exact Ai ej
         exact .inl ⟨a,vs,n',vs[j],rfl,rfl,SqL.of ha2,by rw[Bj (j:=j) (by rw[hl];exact ej)];exact List.getElem?_eq_getElem hj,q v _ H2 e1 (s1.trans s2) ((rc.mono s2).snocL rfl ha2 (List.getElem?_eq_getElem hj))⟩
       ·cases e0
      ·rename_i k1 k2 xs ek ed;split at e0
       ·rename_i j ej;cases e0;obtain⟨v',A1,h1,_,rc',_⟩:=h.path ed ek;have:=Reach.det (rc'.mono s1) rc;subst this;cases h1 with
        | @p _ _ a vs _ A0 ha hp =>
         have ha2:=s2 _ _ (s1 _ _ ha);have hl:vs.length=xs.length:=hp.len.1;have hj:j<vs.length:=by rw[hl];exact Ai ej
         exact .inr (.inl ⟨a,vs,n',vs[j],rfl,rfl,SqT.of ha2,by rw[Bj (j:=j) (by rw[hl];exact ej)];exact List.getElem?_eq_getElem hj,q v _ H2 e1 (s1.trans s2) ((rc.mono s2).snocT rfl ha2 (List.getElem?_eq_getElem hj))⟩)
       ·cases e0
      ·cases e0
     ·cases e0
    ·rename_i c e0;exfalso;split at e0
     ·unfold pIx at e0;split at e0
      ·split at e0<;>cases e0
      ·split at e0<;>cases e0
      ·cases e0
     ·cases e0
    ·exact q.elim
end
section
variable (C:Addr) (X:Cx)
def pI (O:St) (z:R Rho) (H0:Hp) (Dn:j6):Prop:=match z with
 | .val U'=>∀H',mn C X H0 U' O H'->Dn.nx O H'
 | .exc c=>XS X c H0
 | .bad=>False
def tsI (F:Rho->R Rho):TS:=λDn O H=>∃U H0,mn C X H0 U O H/\pI C X O (F U) H0 Dn
def SDi (st:Stmt) (F:Rho->R Rho):Prop:=PS X st (tsI C X F)
end
section
variable {K:Frag} {C:Addr} {M H:Hp}
theorem TreP.setK {k:OK} {v:V} {d:D} {B:List Addr} (h:Tre K C M H k v d B):∀{ks:List OK} {vs:List V} {ds:List D} {A:List Addr} (j:Nat),TreP K C M H ks vs ds A->(∀a∈A,a∉B)->∃A',(∀a∈A',a∈A\/a∈B)/\TreP K C M H (ks.set j k) (vs.set j v) (ds.set j d) A'
 | _,_,_,_,_,.nil,_=>⟨[],λa ha=>.inl ha,.nil⟩
 | _,_,_,_,0,.cons (A:=A1) (B:=A2) g t n,f=>⟨B++A2,λa ha=>(List.mem_append.mp ha).elim .inr λz=>.inl (List.mem_append_right _ z),.cons h t λa ha hb=>f a (List.mem_append_right _ hb) ha⟩
 | _,_,_,_,j+1,.cons (A:=A1) (B:=A2) g t n,f=>by
  obtain⟨A',h1,h2⟩:=TreP.setK h j t λa ha=>f a (List.mem_append_right _ ha);refine⟨A1++A',λa ha=>?_,.cons g h2 λa ha hb=>?_⟩
  ·rcases List.mem_append.mp ha with z|z
   ·exact .inl (List.mem_append_left _ z)
   ·exact(h1 a z).imp (λy=>List.mem_append_right _ y) id
  ·rcases h1 a hb with z|z
   ·exact n a ha z
   ·exact f a (List.mem_append_left _ ha) z
end
def xS (i:Nat) (k':OK) (pp:List Nat) (f:List D->R (List D)):Rho->R Rho:=λU=>match U[i]? with
 | some (some (.tre k d))=>if je k pp=some (.l k')then(match kF d pp with
  | some (.lst xs)=>(f xs).bind λys=>.val (U.set i (some (.tre k (kM d pp (.lst ys)))))
  | _=>.bad)else .bad
 | _=>.bad
def stF (n:D) (x:D) (xs:List D):R (List D):=match n with
 | .int n=>match ixN xs.length n with
  | some j=>.val (xs.set j x)
  | none=>.bad
 | _=>.bad
theorem DG {n x:D}:∀xs c,stF n x xs ≠ .exc c:=λxs c e=>by
 unfold stF at e;split at e
 ·split at e<;>cases e
 ·cases e
def stP (i:Nat) (k':OK) (P:Rho->R (List Nat)) (b e:Rho->R D):Rho->R Rho:=λU=>(e U).bind λx=>(P U).bind λpp=>(b U).bind λn=>xS i k' pp (stF n x) U
variable {H0:Hp} {U:RB} {O:St}
section
variable {C:Addr} {X:Cx}
theorem vS {Dn:j6} {c:Nat} (r:eG C X H0 U O H) (h:pI C X O (.exc c) H0 Dn):XE X c O H:=XS.xe (r.keep.trans msk_sub) h
theorem yY {f:List D->R (List D)} {D:j6} (hf:∀xs c,f xs ≠ .exc c) (r:eG C X H0 U O H) (q:pI C X O (xS i k' pp f U) H0 D) :
  ∃xs ys v a vs A0,f xs=.val ys/\O[i]?=some (some v)/\Reach H v pp (.ref a)/\H a=some (.lst vs)/\TreP X.K C (msk U O H) H (vs.map λ_=>k') vs xs A0/\a∉A0 /\
   ∀{H2:Hp} {ws:List V} {N B:List Addr},Same H H2->(∀b∈N,H b=none)->TreP X.K C (cut N (msk U O H2)) (upd H2 a (.lst ws)) (ws.map λ_=>k') ws ys B->(∀b∈B,b∈A0\/b∈N)->D.nx O (upd H2 a (.lst ws)):=by
 unfold xS at q;split at q
 ·rename_i k d er;by_cases ek:je k pp=some (.l k')
  ·rw[if_pos ek]at q;split at q
   ·rename_i xs ed;cases ef:f xs with
    | val ys =>
     rw[ef]at q;obtain⟨v,a,vs,A0,e1,rc,ha,hp,hn,up⟩:=r.node er ek ed;exact⟨xs,ys,v,a,vs,A0,ef,e1,rc,ha,hp,hn,λ{H2 ws N B} s hN ht hs=>q _ ⟨_,rfl,up s hN ht hs⟩⟩
    | exc c=>exact(hf xs c ef).elim
    | bad=>rw[ef]at q;exact q.elim
   ·exact q.elim
  ·rw[if_neg ek]at q;exact q.elim
 ·exact q.elim
theorem yi {H2:Hp} {A0 N:List Addr} (r:eG C X H0 U O H) (s:Same H H2) (ha:H a=some (.lst vs)) (hn:a∉A0) (hN:∀b∈N,H b=none) (hp:TreP X.K C (msk U O H) H (vs.map λ_=>k') vs xs A0) :
  TreP X.K C (cut N (msk U O H2)) (upd H2 a (.lst ws)) (vs.map λ_=>k') vs xs A0 :=
 hp.stay (λb o e=>cut_some.mpr ⟨λz=>Option.some_ne_none _ ((msk_some.mp e).2.symm.trans (hN b z)),aZ s b o e⟩)
  ⟨λb hb o e=>by rw[az λ(z:b=a)=>hn (z▸hb)];exact s b o e,λb us e=>by rw[az λ(z:b=a)=>by rw[z,ha]at e;cases e];exact s b _ e⟩
theorem zY {H1 H2:Hp} {y:V} {x:D} {N:List Addr} (ha:H a=some (.lst vs)) (s1:Same H H1) (s2:Same H1 H2) (hN:∀b∈N,H b=none) (h:Tre X.K C (cut N (msk U O H1)) H1 k' y x N) :
  Tre X.K C (cut N (msk U O H2)) (upd H2 a (.lst ws)) k' y x N :=
 h.stay (λb o e=>cut_some.mpr ⟨(cut_some.mp e).1,aZ s2 b o (cut_some.mp e).2⟩)
  ⟨λb hb o e=>by rw[az λ(z:b=a)=>Option.some_ne_none _ (ha.symm.trans (z▸hN b hb))];exact s2 b o e,λb us e=>by rw[az λ(z:b=a)=>by rw[z,s1 _ _ ha]at e;cases e];exact s2 b _ e⟩
theorem yJ {A0 N:List Addr} (hN:∀b∈N,H b=none) (hp:TreP X.K C (msk U O H) H (vs.map λ_=>k') vs xs A0):∀b∈A0,b∉N:=λb hb z=>by
 obtain⟨us,e⟩:=hp.lists b hb;rw[hN b z]at e;cases e
theorem BB {b e:Expr} {sp pos:Pos} {P:Rho->R (List Nat)} {Fb:Rho->R D} (ho:ND C X i o P) (hb:ED C X b Fb) (he:KD C X k' e F)
  (ha:∀v,assign (.Subscript o b sp) X.env v=(do
   let ov <- holding [v] (eval o X.env)
   let iv <- holding [v,ov] (eval b X.env)
   standAt sp
   holding [v,ov,iv] (setItem ov iv v)
   release [v,ov,iv] []):=by intro _;rfl)
  (hs:swapsWithSole [.Subscript o b sp] e pos.line X.env=pure false:=by rfl) (hw:swappedStores [.Subscript o b sp] e X.env=pure none:=by rfl)
  (h1:(assignEach [.Subscript o b sp] X.env).map (·.2)=[assign (.Subscript o b sp) X.env]:=by rfl) :
  SDi C X (.Assign [.Subscript o b sp] e pos) (stP i k' P Fb F) :=
 bF (rN he (vR ho hb zc ha) hs hw h1) λD O H ⟨_,H0,⟨U,er,r⟩,q⟩=>by
  subst er;refine⟨U,⟨H0,r⟩,?_⟩;unfold stP at q;cases eF:F U with
  | exc c=>rw[eF]at q;exact vS r q
  | bad=>rw[eF]at q;exact q.elim
  | val x =>
   rw[eF]at q;dsimp only[DL.R.bind]at q;intro y H1 N s1 hN hy;refine⟨U,⟨H0,r.mono s1⟩,?_⟩;cases eP:P U with
   | exc c=>rw[eP]at q;exact vS (r.mono s1) q
   | bad=>rw[eP]at q;exact q.elim
   | val pp =>
    rw[eP]at q;dsimp only at q;intro v w H2 e1 s2 rc;refine⟨U,⟨H0,(r.mono s1).mono s2⟩,?_⟩;cases eb:Fb U with
    | exc c=>rw[eb]at q;exact vS ((r.mono s1).mono s2) q
    | bad=>rw[eb]at q;exact q.elim
    | val n =>
     rw[eb]at q;dsimp only at q;intro iv H3 s3 hiv;obtain⟨xs,ys,v0,a,vs,A0,ef,e2,rc0,hA,hp,hn,up⟩:=yY DG r q;rw[e1]at e2;cases e2;have:=Reach.det (rc0.mono (s1.trans s2)) rc;subst this;unfold stF at ef;cases n with
     | int n =>
      cases hiv;dsimp only at ef;cases ej:ixN xs.length n with
      | none=>rw[ej]at ef;cases ef
      | some j =>
       rw[ej]at ef;cases ef;have s:Same H H3:=(s1.trans s2).trans s3;refine⟨a,vs,n,j,rfl,rfl,s _ _ hA,by rw[hp.len.1];exact ej,?_⟩;obtain⟨B,hB,h3⟩:=TreP.setK (zY (ws:=vs.set j y) hA s1 (s2.trans s3) hN hy) j (yi (ws:=vs.set j y) r s hA hn hN hp) (yJ hN hp);exact up s hN (by rw[List.map_set];exact h3) hB
     | _=>cases ef
end
section
variable {K:Frag} {C:Addr} {M M' H:Hp}
theorem TreP.each:∀{ks:List OK} {vs:List V} {ds:List D} {A:List Addr},TreP K C M H ks vs ds A->∃f:Nat->List Addr,(∀(j:Nat) k d,ks[j]?=some k->ds[j]?=some d->∃v,vs[j]?=some v/\Tre K C M H k v d (f j))/\(∀j a,a∈f j->a∈A/\j<ks.length)/\(∀i j a,a∈f i->a∈f j->i=j)/\∀a∈A,∃j,a∈f j
 | _,_,_,_,.nil=>⟨λ_=>[],λj k d e=>by simp at e,λj a h=>(List.not_mem_nil h).elim,λi j a h=>(List.not_mem_nil h).elim,λa h=>(List.not_mem_nil h).elim⟩
 | _,_,_,_,.cons (v:=v) (A:=A1) (B:=A2) h t n=>by
  obtain⟨f,h1,h2,h3,h4⟩:=TreP.each t;refine⟨λj=>match j with|0=>A1|j+1=>f j,λj k d e1 e2=>?_,λj a ha=>?_,λi j a x y=>?_,λa ha=>?_⟩
  ·cases j with
   | zero=>cases e1;cases e2;exact⟨v,rfl,h⟩
   | succ j=>exact h1 j k d e1 e2
  ·cases j with
   | zero=>exact⟨List.mem_append_left _ ha,Nat.succ_pos _⟩
   | succ j=>exact⟨List.mem_append_right _ (h2 j a ha).1,Nat.succ_lt_succ (h2 j a ha).2⟩
  ·cases i with
   | zero=>cases j with
    | zero=>rfl
    | succ j=>exact absurd (h2 j a y).1 (n a x)
   | succ i=>cases j with
    | zero=>exact absurd (h2 i a x).1 (n a y)
    | succ j=>exact congrArg Nat.succ (h3 i j a x y)
  ·rcases List.mem_append.mp ha with z|z
   ·exact⟨0,z⟩
   ·obtain⟨j,z⟩:=h4 a z;exact⟨j+1,z⟩
theorem TreP.join:∀{ks:List OK} {vs:List V} {ds:List D} (f:Nat->List Addr),ks.length=ds.length->vs.length=ds.length->(∀(j:Nat) k v d,ks[j]?=some k->vs[j]?=some v->ds[j]?=some d->∃B,(∀a∈B,a∈f j)/\Tre K C M H k v d B)->(∀i j a,a∈f i->a∈f j->i=j)->∃A,(∀a∈A,∃j,a∈f j)/\TreP K C M H ks vs ds A
 | [],[],[],f,_,_,_,_=>⟨[],λa h=>(List.not_mem_nil h).elim,.nil⟩
 | k::ks,v::vs,d::ds,f,l1,l2,h,dj=>by
  obtain⟨B,b1,b2⟩:=h 0 k v d rfl rfl rfl;obtain⟨A,a1,a2⟩:=TreP.join (ks:=ks) (vs:=vs) (ds:=ds) (λj=>f (j+1)) (Nat.succ.inj l1) (Nat.succ.inj l2) (λj k v d e1 e2 e3=>h (j+1) k v d e1 e2 e3) λi j a x y=>Nat.succ.inj (dj (i+1) (j+1) a x y);refine⟨B++A,λa ha=>?_,.cons b2 a2 λa ha hb=>?_⟩
  ·rcases List.mem_append.mp ha with z|z
   ·exact⟨0,b1 a z⟩
   ·obtain⟨j,z⟩:=a1 a z;exact⟨j+1,z⟩
  ·obtain⟨j,z⟩:=a1 a hb;cases dj 0 (j+1) a (b1 a ha) z
 | [],_::_,[],_,_,l2,_,_=>by cases l2
 | [],_,_::_,_,l1,_,_,_=>by cases l1
 | _::_,_,[],_,l1,_,_,_=>by cases l1
 | _::_,[],_::_,_,_,l2,_,_=>by cases l2
end
def stM (N:List Str) (ks:List OK) (ds es:List D):Rho:=(List.zipWith (λk d=>some (Slt.tre k d)) ks ds)++(es.map (λd=>some (Slt.shr d))++List.replicate (N.length-ds.length-es.length) none)
theorem DF {ks:List OK} {ds es:List D} (hl:ks.length=ds.length) (h:(stM N ks ds es)[i]?=some (some sl)):(∃k d,ks[i]?=some k/\ds[i]?=some d/\sl=.tre k d)\/∃j d,i=ds.length+j/\es[j]?=some d/\sl=.shr d:=by
 unfold stM at h;have zl:(List.zipWith (λk d=>some (Slt.tre k d)) ks ds).length=ds.length:=by rw[List.length_zipWith,hl,Nat.min_self]
 by_cases hi:i<ds.length
 ·rw[List.getElem?_append_left (by rw[zl];exact hi),List.getElem?_zipWith]at h;rw[List.getElem?_eq_getElem (by rw[hl];exact hi),List.getElem?_eq_getElem hi]at h;cases h;exact .inl ⟨_,_,List.getElem?_eq_getElem (by rw[hl];exact hi),List.getElem?_eq_getElem hi,rfl⟩
 ·rw[List.getElem?_append_right (by rw[zl];omega),zl]at h;by_cases hj:i-ds.length<es.length
  ·rw[List.getElem?_append_left (by rw[List.length_map];exact hj),List.getElem?_map,List.getElem?_eq_getElem hj]at h;cases h;exact .inr ⟨i-ds.length,_,by omega,List.getElem?_eq_getElem hj,rfl⟩
  ·rw[List.getElem?_append_right (by rw[List.length_map];omega),List.getElem?_replicate]at h;split at h<;>cases h
def nV:List OK->Rho->R (List D)
 | [],_=>.val []
 | k::ks,some (.tre k' d)::U=>if k'=k then(nV ks U).bind λds=>.val (d::ds)else .bad
 | _::_,_=>.bad
theorem uc:∀{ks:List OK} {U:Rho} {ds:List D},nV ks U=.val ds->ks.length=ds.length/\∀(j:Nat) k d,ks[j]?=some k->ds[j]?=some d->U[j]?=some (some (.tre k d))
 | [],U,ds,h=>by unfold nV at h;cases h;exact⟨rfl,λj k d e=>by simp at e⟩
 | k::ks,[],ds,h=>by unfold nV at h;cases h
 | k::ks,o::U,ds,h=>by
  cases o with
  | none=>unfold nV at h;cases h
  | some sl =>
   cases sl with
   | tre k' d =>
    unfold nV at h;by_cases ek:k'=k
    ·rw[if_pos ek]at h;cases e:nV ks U with
     | val ds2 =>
      rw[e]at h;cases h;obtain⟨h1,h2⟩:=uc e;refine⟨congrArg Nat.succ h1,λj k2 d2 e1 e2=>?_⟩;cases j with
      | zero=>cases e1;cases e2;rw[ek];rfl
      | succ j=>exact h2 j k2 d2 e1 e2
     | exc c=>rw[e]at h;cases h
     | bad=>rw[e]at h;cases h
    ·rw[if_neg ek]at h;cases h
   | _=>unfold nV at h;cases h
section
variable (C:Addr) (X:Cx)
def pJ (m:Nat) (O:St) (z:R Rho) (H0:Hp) (Dn:j6):Prop:=match z with
 | .val U'=>∀σ' H',(∀i:Nat,i<m->σ'[i]?=O[i]?)->mn C X H0 U' σ' H'->Dn.nx σ' H'
 | _=>False
def tsJ (m:Nat) (F:Rho->R Rho):TS:=λDn O H=>∃U H0,mn C X H0 U O H/\pJ C X m O (F U) H0 Dn
def SDj (m:Nat) (st:Stmt) (F:Rho->R Rho):Prop:=PS X st (tsJ C X m F)
def Bn (m:Nat) (st:List Stmt) (F:Rho->R Rho):Prop:=PSs X st (tsJ C X m F)
end
def ifJ (t:Rho->R Bool) (a b:Rho->R Rho):Rho->R Rho:=λU=>(t U).bind λc=>if c=true then a U else b U
def nxJ:Rho->R Rho:=λU=>.val U
section
variable {C:Addr} {X:Cx} {m:Nat}
theorem FJ {F:Rho->R Rho} (h:SDi C X st F):SDj C X m st F:=bF h λD O H ⟨U,H0,r,q⟩=>⟨U,H0,r,by
 cases e:F U with
 | val U'=>rw[e]at q;exact λH' r'=>q O H' (λ_ _=>rfl) r'
 | exc c=>rw[e]at q;exact q.elim
 | bad=>rw[e]at q;exact q⟩
theorem ze:Bn C X m [] nxJ:=hW wX λD O H ⟨U,H0,r,q⟩=>q O H (λ_ _=>rfl) r
theorem zd {F:Rho->R Rho} (h:SDj C X m st F):Bn C X m [st] F:=kN h
theorem DK {c:Expr} {a b:List Stmt} {pos:Pos} {Ft:Rho->R Bool} {Fa Fb:Rho->R Rho} (hc:TD C X c Ft) (ha:Bn C X m a Fa) (hb:Bn C X m b Fb):SDj C X m (.If c a b pos) (ifJ Ft Fa Fb) :=
 bF (zD hc ha hb) λD O H ⟨_,H0,⟨U,er,r⟩,q⟩=>by
  subst er;refine⟨U,⟨H0,r⟩,?_⟩;unfold ifJ at q;cases e:Ft U with
  | val c =>
   rw[e]at q;intro H1 s1;cases c with
   | true=>exact wd ⟨U,H0,(r.mono s1).e,q⟩
   | false=>exact we ⟨U,H0,(r.mono s1).e,q⟩
  | exc c=>rw[e]at q;exact q.elim
  | bad=>rw[e]at q;exact q.elim
end
section
variable {P:Program} {w:World} {K:Frag} {mg:Str->Option Value} {base:Heap} {C:Addr}
theorem vL {ks:List OK} {us:List V} {ds es:List D} {A:List Addr} (h1:TreP K C (cut A H) H ks us ds A) (h2:HasL K C (cut A H) ws es) (hl:ds.length+es.length<=N.length):wD K C (cut A H) (stM N ks ds es) (L2.start N (us++ws)) H:=by
 obtain⟨f,f1,f2,f3,f4⟩:=h1.each;obtain⟨l1,l2⟩:=h1.len;have zl:(List.zipWith (λk d=>some (Slt.tre k d)) ks ds).length=ds.length:=by rw[List.length_zipWith,l2,Nat.min_self]
 have st:∀{i:Nat} {v:V},(us++ws)[i]?=some v->(L2.start N (us++ws))[i]?=some (some v):=λ{i v} e=>by
  have hi:i<(us++ws).length:=(List.getElem?_eq_some_iff.mp e).1;unfold L2.start;rw[List.getElem?_append_left (by simpa using hi),List.getElem?_map,e];rfl
 have sub:Same (cut A H) (msk ⟨stM N ks ds es,f⟩ (L2.start N (us++ws)) H):=λb o e=>by
  obtain⟨g1,g2⟩:=cut_some.mp e;exact msk_some.mpr ⟨λ⟨j,z⟩=>g1 (f2 j b z).1,g2⟩
 refine⟨⟨stM N ks ds es,f⟩,rfl,?_,sub,λi sl e=>?_,f3,λi a z=>.inl (h1.lists a (f2 i a z).1),λi a z=>?_⟩
 ·show(stM N ks ds es).length=_;unfold stM L2.start;rw[List.length_append,zl,List.length_append,List.length_map,List.length_replicate,List.length_append,List.length_map,List.length_append,List.length_replicate,l1,h2.len];omega
 ·rcases DF l2 e with⟨k,d,e1,e2,rfl⟩|⟨j,d,rfl,e2,rfl⟩
  ·obtain⟨v,e3,h3⟩:=f1 i k d e1 e2;exact⟨v,f i,st (by rw[List.getElem?_append_left (List.getElem?_eq_some_iff.mp e3).1];exact e3),λa ha=>ha,h3.stay sub (.of (Same.refl _))⟩
  ·obtain⟨v,e3,h3⟩:=h2.get e2;exact⟨v,st (by rw[List.getElem?_append_right (by omega),l1,Nat.add_sub_cancel_left];exact e3),h3.mono sub⟩
 ·show i<(stM N ks ds es).length;unfold stM;rw[List.length_append,zl,<- l2];exact Nat.lt_of_lt_of_le (f2 i a z).2 (Nat.le_add_right _ _)
end
section
variable {C:Addr} {X:Cx}
end
def i_:List Int->Int
 | []=>0
 | [i]=>i
 | i::j::r=>max i (i_ (j::r))
theorem uH:∀{l:List Int},l≠[]->i_ l∈l
 | [i],_=>List.mem_singleton.mpr rfl
 | i::j::r,_=>by
  unfold i_;rcases Int.le_total i (i_ (j::r))with h|h
  ·rw[Int.max_eq_right h];exact List.mem_cons_of_mem _ (uH (by simp))
  ·rw[Int.max_eq_left h];exact List.mem_cons_self
theorem xl:∀{l:List Int} {a:Int},a∈l->a<=i_ l
 | [i],a,h=>by rw[List.mem_singleton.mp h];exact Int.le_refl _
 | i::j::r,a,h=>by
  unfold i_;rcases List.mem_cons.mp h with rfl|h
  ·exact Int.le_max_left _ _
  ·exact Int.le_trans (xl h) (Int.le_max_right _ _)
theorem yq {l:List Int} {m:Int} (h1:m∈l) (h2:∀a∈l,a<=m):m=i_ l :=
 Int.le_antisymm (xl h1) (h2 _ (uH (List.ne_nil_of_mem h1)))
def i5:D->R D
 | .lst xs=>match eI xs with
  | some is=>if 0<is.length then .val (.int (i_ is))else .bad
  | none=>.bad
 | _=>.bad
section
variable {C:Addr} {X:Cx}
def FO:List V->Hp->VK->Prop:=λvs H Q=>∃(l:Addr) (is:List Int),vs=[.ref l]/\H l=some (.lst (is.map V.int))/\0<is.length/\Q (.int (i_ is)) H
theorem yH (hc:X.calm=true):jK X (.builtin "max") FO:=by
 intro pins s O H xs us Q I rv h;obtain⟨l,is,rfl,e,hl0,q⟩:=h;obtain⟨u,rfl,ru⟩:=mo rv;obtain rfl:=(show u=Value.ref l from ru);obtain⟨z,its,m,r,hl,eo⟩:=I.lstM e;have hi:=oA r;obtain⟨ys,ey⟩:=hi.allInts.items;have hns:is=ys.toList.map (·.1):=by rw[<- hi.numsOf,<- nums_intItems,<- ey]
 have hsz:0<ys.size:=by have h3:=hl0;rw[hns,List.length_map,Array.length_toList]at h3;exact h3
 have hL:s.heap.IsList l (intItems ys):=by rw[<- ey];exact⟨_,eo,rfl,m,rfl⟩
 refine max_intList (I.ok.hd hc) hL hsz λv h' tk hv hk=>?_;obtain⟨t,rfl⟩:=intItems_at hv;obtain⟨h1,h2⟩:=argBest_gt (numAt ys) (ys.size-1);refine⟨.int (i_ is),H,I.kept (t':=tk) hk,⟨t,?_⟩,q⟩;have:numAt ys (argBest (λi j=>decide (numAt ys i>numAt ys j)) (ys.size-1))=i_ is:=by
  refine yq ?_ λa ha=>?_
  ·rw[hns,numAt_eq];exact getD_mem (by rw[List.length_map,Array.length_toList];omega)
  ·rw[hns]at ha;obtain⟨j,hj,rfl⟩:=mem_getD ha;rw[List.length_map,Array.length_toList]at hj;rw[<- numAt_eq];exact h2 j (by omega)
 rw[this]
theorem sU {e:Expr} {pos:Pos} (hc:X.calm=true) (hg:Gl X "max") (hm:X.mg "max"=none) (hst:starEach [e] X.env=(false,eval e X.env)::starEach [] X.env) (he:EB C X e F) :
  ED C X (.Call (.Name "max" p) [e] [] pos) (una i5 F) :=
 aR (gd (yH hc) hg hm boot_max (ci he dD hst) (he:=hst) (hpl:=aq)) λO H Q ⟨U,r0,q⟩=>⟨U,r0,aW (P:=λz H=>pV X (dv C X U O) z O H Q) (λ_ h=>h) (λh=>h) q λy v H1 s1 h1 q1=>by
  cases y with
  | lst xs =>
   unfold i5 at q1;dsimp only at q1;split at q1
   ·rename_i is eb;obtain⟨a,vs,rfl,e1,h2⟩:=h1.lst msk_sub;obtain rfl:=h9 eb h2;by_cases hl:0<is.length
    ·rw[if_pos hl]at q1;exact⟨a,is,rfl,e1,hl,q1 _ H1 s1 (.int _)⟩
    ·rw[if_neg hl]at q1;exact q1.elim
   ·exact q1.elim
  | _=>exact q1.elim⟩
def isN (t:Int):Value->Bool
 | .int a _=>a==t
 | _=>false
def Da:V->List V->Hp->VK->Prop:=λx vs H Q=>∃(l:Addr) (is:List Int) (t:Int) (j:Nat),x=.ref l/\vs=[.int t]/\H l=some (.lst (is.map V.int))/\is.length<=100000/\is.findIdx? (· == t)=some j/\Q (.int (j:Int)) H
theorem gC:∀{is:List Int} {us:List Value} {m:Nat} {y:Value},Vals (is.map V.int) us->us[m]?=some y->∃i t,is[m]?=some i/\y=.int i t
 | [],_,_,_,.nil,e=>by simp at e
 | i::is,_,0,y,.cons r t,e=>by
  rw[List.getElem?_cons_zero]at e;cases e;obtain⟨tk,rfl⟩:=(show ∃t,_=Value.int i t from r);exact⟨i,tk,rfl,rfl⟩
 | i::is,_,m+1,y,.cons r t,e=>by
  rw[List.getElem?_cons_succ]at e;obtain⟨i',t',e1,e2⟩:=gC t e;exact⟨i',t',by rw[List.getElem?_cons_succ];exact e1,e2⟩
theorem yk:MtM X "list.index" Da:=by
 intro pins s O H x vs v us Q I rx rv h;obtain⟨l,is,t,j,rfl,rfl,hH,hlen,hj,q⟩:=h;cases rx;obtain⟨u1,rfl,r1⟩:=rv.one;obtain⟨tk,rfl⟩:=(show ∃tk,u1=Value.int t tk from r1);obtain⟨z,its,n,r,hl,e⟩:=I.lstM hH;obtain⟨hjl,hjt,hjn⟩:=List.findIdx?_eq_some_iff_getElem.mp hj;have hil:its.length=is.length:=by have:=r.length;rw[List.length_map]at this;exact this.symm
 have at_:∀(m:Nat) (hm:m<its.length),isN t its[m]=(is[m]'(by omega)==t):=λm hm=>by
  obtain⟨i,tk',e1,e2⟩:=gC r (List.getElem?_eq_getElem hm);have hm2:m<is.length:=by omega
  rw[List.getElem?_eq_getElem hm2]at e1;rw[e2,<- Option.some.inj e1];rfl
 refine call_meets PySem.F.slot_list_index ⟨_,e,rfl⟩ PySem.F.entry_list_index (PySem.F.args_list_index_2 _ _) (SeqAt.list_indexAt l _ n none #[] (.int t tk) (isN t) j (by simp;omega) (by omega) (by
  have:=at_ j (by omega);simp only[List.getElem_toArray];rw[this];simpa using hjt) (λm hm hlt=>by
  have hm':m<its.length:=by simpa using hm
  have:=at_ m hm';simp only[List.getElem_toArray];rw[this];have:=hjn m hlt;simpa using this)) ⟨e,λy hy=>?_,?_⟩
 ·have hy:y∈its:=by simpa using hy
  obtain⟨m,hm⟩:=List.getElem?_of_mem hy;obtain⟨i,tk',_,rfl⟩:=gC r hm;exact SeqAt.EqAt.int_int i tk' t tk
 ·exact⟨.int _,H,I.tok _,⟨_,rfl⟩,q⟩
def AF:D->D->R D
 | .lst xs,.int t=>match eI xs with
  | some is=>if is.length<=100000 then match is.findIdx? (· == t)with
   | some j=>.val (.int (j:Int))
   | none=>.bad
   else .bad
  | none=>.bad
 | _,_=>.bad
def sA (Fo F:Rho->R D):Rho->R D:=λU=>(Fo U).bind λx=>match x with
 | .lst xs=>(F U).bind (AF (.lst xs))
 | _=>.bad
theorem o0 {e:Expr} {ap:Pos} {Fo:Rho->R D} (ho:EB C X o Fo) (he:ED C X e F) (hst:starEach [e] X.env=(false,eval e X.env)::starEach [] X.env)
  (hs:∀{to:TE} {t:TA},PE X o to->PA X [e] t->PE X (.Call (.Attribute o "index" ap) [e] [] cp) (tBM X.K "list" Da to t):=by
   exact λho ha=>qr PySem.F.plainAttrs_list PySem.F.slot_list_index PySem.F.type_list_index yk ho ha) :
  ED C X (.Call (.Attribute o "index" ap) [e] [] cp) (sA Fo F) :=
 aR (hs ho (ci he dD hst)) λO H Q ⟨U,⟨H0,r0⟩,q⟩=>⟨U,⟨H0,r0⟩,aW (P:=λz H=>pV X (dv C X U O) z O H Q) (λ_ h=>h) (λh=>h) q λy v H1 s1 h1 q1=>by
  cases y with
  | lst xs =>
   obtain⟨a,vs,rfl,e1,h2⟩:=h1.lst msk_sub;refine⟨.inl ⟨rfl,_,SqL.of e1⟩,U,⟨H0,r0.mono s1⟩,aW (P:=λz H=>pV X (dv C X U O) z O H Q) (λ_ h=>h) (λh=>h) (q1.mono s1) λy w H2 s2 h3 q2=>?_⟩;cases y with
   | int t =>
    cases h3;unfold AF at q2;dsimp only at q2;split at q2
    ·rename_i is eb;obtain rfl:=h9 eb h2;by_cases hl:is.length<=100000
     ·rw[if_pos hl]at q2;split at q2
      ·rename_i j ej;exact⟨a,is,t,j,rfl,rfl,s2 _ _ e1,hl,ej,q2 _ H2 s2 (.int _)⟩
      ·exact q2.elim
     ·rw[if_neg hl]at q2;exact q2.elim
    ·exact q2.elim
   | _=>exact q2.elim
  | _=>exact q1.elim⟩
end
section
variable {C:Addr} {X:Cx}
end
theorem CW:bootBuiltins "int"=some (.type "int"):=by decide +kernel
theorem Bf:bootBuiltins "bool"=some (.type "bool"):=by decide +kernel
section
variable {C:Addr} {X:Cx}
end
section
variable {K:Frag} {C:Addr} {H0 H M:Hp} {U:RB} {O:St}
end
section
variable {K:Frag} {C:Addr} {H0 H M:Hp} {U:RB} {O:St}
end
section
variable {C:Addr} {X:Cx}
end
section
variable {C:Addr} {X:Cx}
end
end DL
namespace DL
def b0:List Int->List Int->Bool
 | [],[]=>false
 | [],_::_=>true
 | _::_,[]=>false
 | a::x,b::y=>if a=b then b0 x y else decide (a<b)
theorem ow:∀x:List Int,b0 x x=false
 | []=>rfl
 | a::x=>by unfold b0;rw[if_pos rfl];exact ow x
theorem iJ:∀{x y z:List Int},b0 x y=true->b0 y z=true->b0 x z=true
 | [],[],_,h,_=>by cases h
 | [],_::_,[],_,h=>by cases h
 | [],_::_,_::_,_,_=>rfl
 | _::_,[],_,h,_=>by cases h
 | _::_,_::_,[],_,h=>by cases h
 | a::x,b::y,c::z,h1,h2=>by
  unfold b0 at h1 h2 ⊢;by_cases e1:a=b
  ·subst e1;rw[if_pos rfl]at h1;by_cases e2:a=c
   ·subst e2;rw[if_pos rfl]at h2 ⊢;exact iJ h1 h2
   ·rw[if_neg e2]at h2 ⊢;exact h2
  ·rw[if_neg e1]at h1;have h1:=of_decide_eq_true h1;by_cases e2:b=c
   ·subst e2;rw[if_neg e1];exact decide_eq_true h1
   ·rw[if_neg e2]at h2;have h2:=of_decide_eq_true h2;rw[if_neg (by omega)];exact decide_eq_true (by omega)
theorem kW:∀{x y:List Int},b0 x y=false->b0 y x=false->x=y
 | [],[],_,_=>rfl
 | [],_::_,h,_=>by cases h
 | _::_,[],_,h=>by cases h
 | a::x,b::y,h1,h2=>by
  unfold b0 at h1 h2;by_cases e:a=b
  ·subst e;rw[if_pos rfl]at h1 h2;rw[kW h1 h2]
  ·rw[if_neg e]at h1;rw[if_neg (λz=>e z.symm)]at h2;have h1:=of_decide_eq_false h1;have h2:=of_decide_eq_false h2;omega
theorem Ce {x y:List Int} (h:b0 x y=true):b0 y x=false:=by
 cases e:b0 y x with
 | false=>rfl
 | true=>have:=iJ h e;rw[ow]at this;cases this
def leL (a b:List Int):Bool:=!b0 b a
theorem lY (a b c:List Int) (h1:leL a b=true) (h2:leL b c=true):leL a c=true:=by
 unfold leL at *;simp only[Bool.not_eq_true']at *;cases e:b0 c a with
 | false=>rfl
 | true =>
  by_cases q:b0 b a=true
  ·rw[q]at h1;cases h1
  ·have q:b0 b a=false:=by simpa using q
   by_cases p:b0 a b=true
   ·rw[iJ e p]at h2;cases h2
   ·have p:b0 a b=false:=by simpa using p
    rw[kW p q,h2]at e;cases e
theorem lZ (a b:List Int):(leL a b||leL b a)=true:=by
 unfold leL;cases e:b0 b a with
 | false=>rfl
 | true=>rw[Ce e];rfl
theorem Ae {a b:List Int} (h1:leL a b=true) (h2:leL b a=true):a=b:=by
 unfold leL at *;simp only[Bool.not_eq_true']at *;exact kW h2 h1
def vF (xs:List (List Int)):List (List Int):=xs.mergeSort leL
theorem qm (xs:List (List Int)):(vF xs).Perm xs:=List.mergeSort_perm _ _
theorem hJ {xs ys:List (List Int)} (hp:ys.Perm xs) (ho:ys.Pairwise λa b=>leL a b=true):vF xs=ys :=
 List.Perm.eq_of_pairwise (λa b _ _=>Ae) (List.pairwise_mergeSort lY lZ xs) ho ((qm xs).trans hp.symm)
end DL
namespace DL
open PySem.W PyProof.Rows
def gh {Y:Type} (ok:Nat->Nat->Prop) (lt:Nat->Nat->Bool):KasT Y->(Y->Prop)->Prop
 | .ret a,Q=>Q a
 | .ask i j k,Q=>ok i j/\gh ok lt (k (lt i j)) Q
theorem eO {Y β:Type} {ok:Nat->Nat->Prop} {lt:Nat->Nat->Bool} {f:Y->KasT β} {Q:β->Prop}:∀{t:KasT Y},gh ok lt t (λa=>gh ok lt (f a) Q)->gh ok lt (t.bind f) Q
 | .ret _,h=>h
 | .ask _ _ _,h=>⟨h.1,eO h.2⟩
theorem cn {Y:Type} {ok:Nat->Nat->Prop} {lt:Nat->Nat->Bool} {Q Q':Y->Prop} (hq:∀a,Q a->Q' a):∀{t:KasT Y},gh ok lt t Q->gh ok lt t Q'
 | .ret _,h=>hq _ h
 | .ask _ _ _,h=>⟨h.1,cn hq h.2⟩
variable {p:Array Nat} {i j a:Nat}
section
variable {n:Nat} {r:Nat->Nat}
abbrev okN (n:Nat):Nat->Nat->Prop:=λi j=>i<n/\j<n
abbrev ltR (r:Nat->Nat):Nat->Nat->Bool:=λi j=>decide (r i<r j)
structure PN (n:Nat) (p:Array Nat):Prop where
 pe:p.Perm (List.range n).toArray
def gk (r:Nat->Nat) (p:Array Nat) (k:Nat):Nat:=r (p.getD k 0)
theorem PN.size (h:PN n p):p.size=n:=by rw[h.pe.size_eq];simp
theorem PN.bd (h:PN n p) (hn:0<n) (k:Nat):p.getD k 0<n:=by
 by_cases hk:k<p.size
 ·have:p[k]∈p:=Array.getElem_mem hk;have:=h.pe.mem_iff.mp this;simp at this;rw[Array.getD_eq_getD_getElem?,Array.getElem?_eq_getElem hk];exact this
 ·rw[Array.getD_eq_getD_getElem?,Array.getElem?_eq_none (by omega)];exact hn
theorem PN.mir (h:PN n p) (i j d:Nat):PN n (mirror p i j d):=⟨(mirror_perm _ _ _ _).trans h.pe⟩
theorem PN.bub (h:PN n p) (i d:Nat):PN n (bubble p i d):=⟨(bubble_perm _ _ _).trans h.pe⟩
theorem uR {q:Array Nat} (h:p[i]?=q[j]?):gk r p i=gk r q j:=by
 unfold gk;rw[Array.getD_eq_getD_getElem?,Array.getD_eq_getD_getElem?,h]
theorem oG (hj:j<=p.size) (k:Nat):gk r (kas_rev p i j) k=if i<=k/\k<j then gk r p (i+j-1-k)else gk r p k:=by
 have e:=getElem?_mirror_all (i:=i) hj k;unfold kas_rev;by_cases h1:i<=k/\k<j
 ·rw[if_pos h1]at e ⊢;exact uR e
 ·rw[if_neg h1]at e ⊢;exact uR e
theorem Ap {s d:Nat} (hs:s<p.size) (hd:d<=s) (k:Nat):gk r (bubble p s d) k=if k=s-d then gk r p s else if s-d<k/\k<=s then gk r p (k-1)else gk r p k:=by
 have e:=getElem?_bubble hs d hd k;by_cases h1:k=s-d
 ·rw[if_pos h1]at e ⊢;exact uR e
 ·rw[if_neg h1]at e ⊢;by_cases h2:s-d<k/\k<=s
  ·rw[if_pos h2]at e ⊢;exact uR e
  ·rw[if_neg h2]at e ⊢;exact uR e
def Up (r:Nat->Nat) (p:Array Nat) (k:Nat):Prop:=∀i j,i<=j->j<k->gk r p i<=gk r p j
def Dn (r:Nat->Nat) (p:Array Nat) (k:Nat):Prop:=∀i j,i<=j->j<k->gk r p j<=gk r p i
theorem oF (hn:0<n) {p:Array Nat} (h:PN n p):∀(f a:Nat),1<=a->a+f<=n->Up r p a->gh (okN n) (ltR r) (kas_asc p f a) (λm=>a<=m/\m<=a+f/\Up r p m/\(∀i,m<a+f->i=m->gk r p i<gk r p (i-1)))
 | 0,a,_,_,u=>⟨Nat.le_refl _,Nat.le_refl _,u,λi h=>absurd h (by omega)⟩
 | f+1,a,h1,h2,u=>by
  refine⟨⟨h.bd hn _,h.bd hn _⟩,?_⟩;by_cases c:r (p.getD a 0)<r (p.getD (a-1) 0)
  ·rw[show ltR r (p.getD a 0) (p.getD (a-1) 0)=true from decide_eq_true c];dsimp only;rw[if_pos rfl];exact⟨Nat.le_refl _,by omega,u,λi _ e=>by subst e;exact c⟩
  ·rw[show ltR r (p.getD a 0) (p.getD (a-1) 0)=false from decide_eq_false c];dsimp only;rw[if_neg (by decide)];have u':Up r p (a+1):=λi j hij hj=>by
    by_cases e:j=a
    ·subst e;by_cases e2:i=j
     ·subst e2;exact Nat.le_refl _
     ·have:=u i (j-1) (by omega) (by omega);have c:¬ gk r p j<gk r p (j-1):=c;omega
    ·exact u i j hij (by omega)
   refine cn (λm hm=>⟨by omega,by omega,hm.2.2.1,λi h e=>hm.2.2.2 i (by omega) e⟩) (oF hn h f (a+1) (by omega) (by omega) u')
theorem jU (hn:0<n):∀(f:Nat) (p:Array Nat) (a q:Nat),PN n p->a+f<=n->q+1<=a->Dn r p a->(∀k,a-(q+1)<=k->k<a->gk r p k=gk r p (a-1)) ->
  gh (okN n) (ltR r) (kas_desc f p a q) (λz=>PN n z.1/\a<=z.2.1/\z.2.1<=a+f/\z.2.2+1<=z.2.1/\Dn r z.1 z.2.1/\(∀k,z.2.1-(z.2.2+1)<=k->k<z.2.1->gk r z.1 k=gk r z.1 (z.2.1-1)))
 | 0,p,a,q,h,h1,h2,d,e=>⟨h,Nat.le_refl _,Nat.le_refl _,h2,d,e⟩
 | f+1,p,a,q,h,h1,h2,d,e=>by
  have sz:=h.size;refine⟨⟨h.bd hn _,h.bd hn _⟩,?_⟩;by_cases c:r (p.getD a 0)<r (p.getD (a-1) 0)
  ·rw[show ltR r (p.getD a 0) (p.getD (a-1) 0)=true from decide_eq_true c];dsimp only;rw[if_pos rfl];have c:gk r p a<gk r p (a-1):=c;have d':Dn r p (a+1):=λi j hij hj=>by
    by_cases ej:j=a
    ·subst ej;by_cases ei:i=j
     ·subst ei;exact Nat.le_refl _
     ·have:=d i (j-1) (by omega) (by omega);omega
    ·exact d i j hij (by omega)
   by_cases hq:q>0
   ·rw[if_pos hq];have same:∀k,gk r (kas_rev p (a-(q+1)) a) k=gk r p k:=λk=>by
     rw[oG (by omega)];split
     ·rw[e _ (by omega) (by omega),e k (by omega) (by omega)]
     ·rfl
    refine cn (λz hz=>⟨hz.1,by omega,by omega,hz.2.2.2.1,hz.2.2.2.2⟩) (jU hn f (kas_rev p (a-(q+1)) a) (a+1) 0 (h.mir _ _ _) (by omega) (by omega) (λi j hij hj=>by rw[same,same];exact d' i j hij hj) (λk h1 h2=>by rw[show k=a+1-1 by omega]))
   ·rw[if_neg hq];refine cn (λz hz=>⟨hz.1,by omega,by omega,hz.2.2.2.1,hz.2.2.2.2⟩) (jU hn f p (a+1) 0 h (by omega) (by omega) d' (λk h1 h2=>by rw[show k=a+1-1 by omega]))
  ·rw[show ltR r (p.getD a 0) (p.getD (a-1) 0)=false from decide_eq_false c];dsimp only;rw[if_neg (by decide)];have c:¬ gk r p a<gk r p (a-1):=c;refine⟨⟨h.bd hn _,h.bd hn _⟩,?_⟩;by_cases c2:r (p.getD (a-1) 0)<r (p.getD a 0)
   ·rw[show ltR r (p.getD (a-1) 0) (p.getD a 0)=true from decide_eq_true c2];dsimp only;rw[if_pos rfl];exact⟨h,Nat.le_refl _,Nat.le_add_right _ _,h2,d,e⟩
   ·rw[show ltR r (p.getD (a-1) 0) (p.getD a 0)=false from decide_eq_false c2];dsimp only;rw[if_neg (by decide)];have c2:¬ gk r p (a-1)<gk r p a:=c2;have ee:gk r p a=gk r p (a-1):=by omega
    refine cn (λz hz=>⟨hz.1,by omega,by omega,hz.2.2.2.1,hz.2.2.2.2⟩) (jU hn f p (a+1) (q+1) h (by omega) (by omega) (λi j hij hj=>by
     by_cases ej:j=a
     ·subst ej;by_cases ei:i=j
      ·subst ei;exact Nat.le_refl _
      ·have:=d i (j-1) (by omega) (by omega);omega
     ·exact d i j hij (by omega)) (λk h1 h2=>by
     rw[show a+1-1=a by omega];by_cases ek:k=a
     ·rw[ek]
     ·rw[e k (by omega) (by omega),ee]))
def Cnt (n:Nat) (r:Nat->Nat) (z:Nat×Array Nat):Prop:=PN n z.2/\1<=z.1/\z.1<=n/\Up r z.2 z.1
theorem Dt (ha:a<=p.size) (d:Dn r p a):Up r (kas_rev p 0 a) a:=λi j hij hj=>by
 rw[oG ha,oG ha,if_pos (by omega),if_pos (by omega)];exact d _ _ (by omega) (by omega)
theorem oE (hn:0<n) (h:PN n p) (h1:1<=a) (h2:a<=n) (d:Dn r p a):gh (okN n) (ltR r) (kas_tail3 a n p) (Cnt n r):=by
 unfold kas_tail3;refine eO (cn (λm hm=>?_) (oF hn (h.mir 0 a _) (n-a) a h1 (by omega) (Dt (by rw[h.size];exact h2) d)));exact⟨h.mir _ _ _,by omega,by omega,hm.2.2.1⟩
theorem j9 (hn:0<n) (h:PN n p) (h1:1<=a) (h2:a<n) (d:Dn r p (a+1)):gh (okN n) (ltR r) (kas_descPart a n p) (Cnt n r):=by
 unfold kas_descPart;refine eO (cn (λz hz=>?_) (jU hn (n-(a+1)) p (a+1) 0 h (by omega) (by omega) d (λk h1 h2=>by rw[show k=a+1-1 by omega])));obtain⟨z1,z2,z3,z4,z5,z6⟩:=hz;have sz:=z1.size;by_cases c:z.2.2>0
 ·rw[if_pos c];have same:∀k,gk r (kas_rev z.1 (z.2.1-(z.2.2+1)) z.2.1) k=gk r z.1 k:=λk=>by
   rw[oG (by omega)];split
   ·rw[z6 _ (by omega) (by omega),z6 k (by omega) (by omega)]
   ·rfl
  exact oE hn (z1.mir _ _ _) (by omega) (by omega) (λi j hij hj=>by
   show gk r (kas_rev _ _ _) j<=gk r (kas_rev _ _ _) i;rw[same,same];exact z5 i j hij hj)
 ·rw[if_neg c];exact oE hn z1 (by omega) (by omega) z5
theorem wf (hn:0<n) (h:PN n p):gh (okN n) (ltR r) (kas_count n p) (Cnt n r):=by
 unfold kas_count;refine eO (cn (λm hm=>?_) (oF hn h (n-1) 1 (Nat.le_refl _) (by omega) (λi j hij hj=>by rw[show i=j by omega];exact Nat.le_refl _)));obtain⟨m1,m2,m3,m4⟩:=hm;have sz:=h.size;by_cases c:m=n
 ·rw[if_pos (by simpa using c)];exact⟨h,by omega,by omega,m3⟩
 ·rw[if_neg (by simpa using c)];have lt:=m4 m (by omega) rfl;by_cases c1:m>1
  ·rw[if_pos c1];refine⟨⟨h.bd hn _,h.bd hn _⟩,?_⟩;by_cases c2:r (p.getD 0 0)<r (p.getD (m-1) 0)
   ·rw[show ltR r (p.getD 0 0) (p.getD (m-1) 0)=true from decide_eq_true c2];dsimp only;rw[if_pos rfl];exact⟨h,by omega,by omega,m3⟩
   ·rw[show ltR r (p.getD 0 0) (p.getD (m-1) 0)=false from decide_eq_false c2];dsimp only;rw[if_neg (by decide)];have c2:¬ gk r p 0<gk r p (m-1):=c2;have eq:∀k,k<m->gk r p k=gk r p 0:=λk hk=>by
     have a:=m3 0 k (by omega) hk;have b:=m3 k (m-1) (by omega) (by omega);omega
    have same:∀k,gk r (kas_rev p 0 m) k=gk r p k:=λk=>by
     rw[oG (by omega)];split
     ·rw[eq _ (by omega),eq k (by omega)]
     ·rfl
    exact j9 hn (h.mir _ _ _) m1 (by omega) (λi j hij hj=>by
     show gk r (kas_rev _ _ _) j<=gk r (kas_rev _ _ _) i;rw[same,same];by_cases ej:j=m
     ·subst ej;by_cases ei:i=j
      ·subst ei;exact Nat.le_refl _
      ·have:=eq i (by omega);have:=eq (j-1) (by omega);omega
     ·rw[eq i (by omega),eq j (by omega)];exact Nat.le_refl _)
  ·rw[if_neg c1];have em:m=1:=by omega
   subst em;exact j9 hn h m1 (by omega) (λi j hij hj=>by
    by_cases ei:i=j
    ·subst ei;exact Nat.le_refl _
    ·have:i=0:=by omega
     have:j=1:=by omega
     subst i;subst j;exact Nat.le_of_lt lt)
theorem ko (hn:0<n) {p:Array Nat} (h:PN n p) {k:Nat} (u:Up r p k):∀(f l t:Nat),t<=k->l<=t->t-l<=f->(∀i,i<l->gk r p i<=gk r p k)->(∀i,t<=i->i<k->gk r p k<gk r p i) ->
  gh (okN n) (ltR r) (kas_place p k f l t) (λm=>m<=k/\(∀i,i<m->gk r p i<=gk r p k)/\(∀i,m<=i->i<k->gk r p k<gk r p i))
 | 0,l,t,h1,h2,h3,a,b=>⟨by omega,a,λi hi hk=>b i (by omega) hk⟩
 | f+1,l,t,h1,h2,h3,a,b=>by
  unfold kas_place;by_cases c:l ≥ t
  ·rw[if_pos c];exact⟨by omega,a,λi hi hk=>b i (by omega) hk⟩
  ·rw[if_neg c];refine⟨⟨h.bd hn _,h.bd hn _⟩,?_⟩;by_cases c2:r (p.getD k 0)<r (p.getD ((l+t)/2) 0)
   ·rw[show ltR r (p.getD k 0) (p.getD ((l+t)/2) 0)=true from decide_eq_true c2];dsimp only;rw[if_pos rfl];have c2:gk r p k<gk r p ((l+t)/2):=c2;exact ko hn h u f l _ (by omega) (by omega) (by omega) a (λi hi hk=>by
     have:=u ((l+t)/2) i hi hk;omega)
   ·rw[show ltR r (p.getD k 0) (p.getD ((l+t)/2) 0)=false from decide_eq_false c2];dsimp only;rw[if_neg (by decide)];have c2:¬ gk r p k<gk r p ((l+t)/2):=c2;exact ko hn h u f _ t h1 (by omega) (by omega) (λi hi=>by
     have:=u i ((l+t)/2) (by omega) (by omega);omega) b
theorem uQ (hn:0<n):∀(f:Nat) (p:Array Nat) (k:Nat),PN n p->k+f=n->Up r p k->gh (okN n) (ltR r) (kas_bin f p k) (λz=>PN n z/\Up r z n)
 | 0,p,k,h,e,u=>⟨h,(show k=n from e)▸u⟩
 | f+1,p,k,h,e,u=>by
  have sz:=h.size;unfold kas_bin;refine eO (cn (λm hm=>?_) (ko hn h u k 0 k (Nat.le_refl _) (by omega) (by omega) (λi hi=>absurd hi (by omega)) (λi hi hk=>absurd hi (by omega))));obtain⟨m1,m2,m3⟩:=hm;refine uQ hn f _ (k+1) (h.bub _ _) (by omega) (λi j hij hj=>?_);rw[Ap (by omega) (by omega),Ap (by omega) (by omega)];have e1:k-(k-m)=m:=by omega
  rw[e1];by_cases i1:i=m
  ·rw[if_pos i1];by_cases j1:j=m
   ·rw[if_pos j1];exact Nat.le_refl _
   ·rw[if_neg j1,if_pos (by omega)];exact Nat.le_of_lt (m3 (j-1) (by omega) (by omega))
  ·rw[if_neg i1];by_cases i2:m<i/\i<=k
   ·rw[if_pos i2,if_neg (by omega),if_pos (by omega)];exact u _ _ (by omega) (by omega)
   ·rw[if_neg i2];by_cases j1:j=m
    ·rw[if_pos j1];exact m2 i (by omega)
    ·rw[if_neg j1];by_cases j2:m<j/\j<=k
     ·rw[if_pos j2];exact u _ _ (by omega) (by omega)
     ·rw[if_neg j2];exact u _ _ hij (by omega)
theorem yz (hn:0<n):gh (okN n) (ltR r) (kas_sort n) (λz=>PN n z/\Up r z n):=by
 unfold kas_sort;refine eO (cn (λz hz=>?_) (wf hn ⟨Array.Perm.refl _⟩));obtain⟨z1,z2,z3,z4⟩:=hz;by_cases c:z.1<n
 ·rw[if_pos c];have:max z.1 1=z.1:=by omega
  rw[this];exact uQ hn _ _ _ z1 (by omega) z4
 ·rw[if_neg c];have:z.1=n:=by omega
  rw[this]at z4;exact⟨z1,z4⟩
end
theorem qH {p q:Nat->Bool}:∀{l:List Nat},(∀x∈l,p x=true->q x=true)->(∃x∈l,q x=true/\p x=false)->l.countP p<l.countP q
 | [],_,⟨_,h,_⟩=>by cases h
 | a::l,h,⟨x,hx,h1,h2⟩=>by
  rw[List.countP_cons,List.countP_cons];have mono:=List.countP_mono_left (l:=l) λx hx=>h x (List.mem_cons_of_mem _ hx);rcases List.mem_cons.mp hx with rfl|hx
  ·rw[h1,h2];simp;omega
  ·have:=qH (l:=l) (λx hx=>h x (List.mem_cons_of_mem _ hx)) ⟨x,hx,h1,h2⟩;have:=h a (by simp);split<;>split<;>simp_all<;>omega
def rk (xs:List (List Int)) (i:Nat):Nat:=(List.range xs.length).countP λj=>b0 (xs.getD j []) (xs.getD i [])
variable {xs:List (List Int)}
theorem C_ (hi:i<xs.length) (h:b0 (xs.getD i []) (xs.getD j [])=true):rk xs i<rk xs j :=
 qH (λk _ hk=>iJ hk h) ⟨i,List.mem_range.mpr hi,h,ow _⟩
theorem zn (hi:i<xs.length) (hj:j<xs.length):b0 (xs.getD i []) (xs.getD j [])=decide (rk xs i<rk xs j):=by
 cases e:b0 (xs.getD i []) (xs.getD j [])with
 | true=>exact(decide_eq_true (C_ hi e)).symm
 | false =>
  refine(decide_eq_false ?_).symm;cases e2:b0 (xs.getD j []) (xs.getD i [])with
  | true=>have:=C_ hj e2;omega
  | false =>
   have:xs.getD i []=xs.getD j []:=kW e e2;unfold rk;rw[this];omega
theorem DI (h:PN xs.length p) (u:Up (rk xs) p xs.length):p.toList.map (λi=>xs.getD i [])=vF xs:=by
 have sz:=h.size;refine(hJ ?_ ?_).symm
 ·have e:xs=(List.range xs.length).map λi=>xs.getD i []:=by
   apply List.ext_getElem
   ·simp
   ·intro i h1 h2;simp[h1]
  have:=(Array.perm_iff_toList_perm.mp h.pe).map λi=>xs.getD i [];rw[List.toList_toArray]at this;refine this.trans ?_;rw[<- e]
 ·rw[List.pairwise_map,List.pairwise_iff_getElem];intro i j hi hj hij;have hi':i<p.size:=by simpa using hi
  have hj':j<p.size:=by simpa using hj
  have:=u i j (by omega) (by omega);unfold gk at this;rw[Array.getD_eq_getD_getElem?,Array.getD_eq_getD_getElem?,Array.getElem?_eq_getElem hi',Array.getElem?_eq_getElem hj']at this;have b:∀k (hk:k<p.size),p[k]<xs.length:=λk hk=>by
   have:=h.pe.mem_iff.mp (Array.getElem_mem hk);simpa using this
  unfold leL;rw[Array.getElem_toList,Array.getElem_toList,zn (b j hj') (b i hi'),decide_eq_false (by simpa using this)];rfl
end DL
namespace DL
open PySem PySem.Spec PyProof.Rows L2
def kK:List D->Option (List (List Int))
 | []=>some []
 | .lst xs::r=>match eI xs with
  | some l=>(kK r).map (l :: ·)
  | none=>none
 | _=>none
def rwI (l:List Int):D:=.lst (l.map D.int)
def AG:D->D->R D
 | .lst xs,y=>if xs.all (eqb 8)=true/\eqb 8 y=true/\xs.length<=100000 then .val (.int ((xs.countP λx=>pyq 8 x y:Nat):Int))else .bad
 | _,_=>.bad
def Fg (Fo F:Rho->R D):Rho->R D:=λU=>(Fo U).bind λx=>match x with
 | .lst xs=>(F U).bind (AG (.lst xs))
 | _=>.bad
theorem uM {Y:Type} {prog:Program} {w:World} {A:Around} {κ:SortKind} {it:Array Keyed} {ok:Nat->Nat->Prop} {lt:Nat->Nat->Bool} {s:Shared} (hc:∀i j (C:Bool->Shared->Prop),ok i j->C (lt i j) s->PySem.W.kas_cmp prog w A κ it i j C s) {Q:Y->Prop} :
  ∀{t:PySem.W.KasT Y},gh ok lt t Q->t.kasWp (PySem.W.kas_cmp prog w A κ it) (λa s'=>s'=s/\Q a) s
 | .ret a,h=>⟨rfl,h⟩
 | .ask i j k,h=>hc i j _ h.1 (uM hc h.2)
variable {xs:List Int}
theorem qA {i:Nat} (h:i<xs.length):xs.getD i 0=xs[i]:=by rw[List.getD_eq_getElem?_getD,List.getElem?_eq_getElem h];rfl
open PySem.MeetsSeq3 in
open PySem.AutoSeq1 (wpAny_loadPart') in
theorem Cb (l b:Addr) (items items2:Array Value) (n n2:Nat) (dd dd2:Option Addr) (sl sl2:Array (Option Value)) (xs ys:List Int) (hx:xs.length=items.size) (hy:ys.length=items2.size)
  (ix:∀j,j<items.size->∃t,items[j]?=some (.int (xs.getD j 0) t)) (iy:∀j,j<items2.size->∃t,items2[j]?=some (.int (ys.getD j 0) t)) (k:Nat) :
  ∀i:Nat,items.size-i=k->i<=items.size->i<=items2.size->Meets (Builtin.«list.__eq__.loop» ⟨[.ref l,.ref b,rawInt i,rawInt 0],[]⟩)
   (λA R s=>s.heap.get? l=some { cls:=.type "list",dict:=dd,data:=.seq items n,slots:=sl }/\s.heap.get? b=some { cls:=.type "list",dict:=dd2,data:=.seq items2 n2,slots:=sl2 } /\
    R (.ok (.ret (.bool (b0 (xs.drop i) (ys.drop i))))) s):=by
 induction k with
 | zero =>
  intro i hk h1 h2 prog w A R s h;obtain⟨hp,g,d,tk,os⟩:=s;obtain⟨hl,hb,h⟩:=h
  wp_walk using wpAny_loadPart' hl,wpAny_loadPart' hb
  have hi1:items[((i:Nat):Int).toNat]?=none:=by simp;omega
  have e1:xs.drop i=[]:=List.drop_eq_nil_of_le (by omega);rw[hi1]
  wp_walk using wpAny_loadPart' hl,wpAny_loadPart' hb
  show R (.ok (.ret (.bool (decide (items.size<items2.size))))) _;rw[e1]at h;by_cases c:items.size<items2.size
  ·rw[List.drop_eq_getElem_cons (by omega:i<ys.length)]at h;rw[decide_eq_true c];exact h
  ·rw[List.drop_eq_nil_of_le (by omega:ys.length<=i)]at h;rw[decide_eq_false c];exact h
 | succ k ih =>
  intro i hk h1 h2 prog w A R s h;obtain⟨hp,g,d,tk,os⟩:=s;obtain⟨hl,hb,h⟩:=h
  wp_walk using wpAny_loadPart' hl,wpAny_loadPart' hb
  have hlt:i<items.size:=by omega
  obtain⟨t,ht⟩:=ix i hlt;have hi1:items[((i:Nat):Int).toNat]?=some (.int (xs.getD i 0) t):=by rw[Int.toNat_natCast];exact ht
  have gx:xs.drop i=xs.getD i 0::xs.drop (i+1):=by rw[List.drop_eq_getElem_cons (by omega:i<xs.length),qA (by omega:i<xs.length)]
  have hc:((i:Int)+1)=((i+1:Nat):Int):=by push_cast;rfl
  rw[hi1];rw[gx]at h;by_cases c:i<items2.size
  ·obtain⟨u,hu⟩:=iy i c;have hi2:items2[((i:Nat):Int).toNat]?=some (.int (ys.getD i 0) u):=by rw[Int.toNat_natCast];exact hu
   have gy:ys.drop i=ys.getD i 0::ys.drop (i+1):=by rw[List.drop_eq_getElem_cons (by omega:i<ys.length),qA (by omega:i<ys.length)]
   rw[gy]at h;rw[hi2];refine wpAny_bind (PySem.SeqAt.EqAt.int_int (xs.getD i 0) t (ys.getD i 0) u prog w _ _ ?_);by_cases e:xs.getD i 0=ys.getD i 0
   ·rw[show(xs.getD i 0==ys.getD i 0)=true from beq_iff_eq.mpr e]
    wp_walk
    rw[hc];exact⟨plainId_quiet plain_eq_loop _,codeAny_builtin entry_eq_loop (by
     rw[Around.under_plainId plain_eq_loop _];refine ih (i+1) (by omega) (by omega) (by omega) prog w A R _ ⟨hl,hb,?_⟩;have q:b0 (xs.getD i 0::xs.drop (i+1)) (ys.getD i 0::ys.drop (i+1))=b0 (xs.drop (i+1)) (ys.drop (i+1)):=if_pos e;rw[q]at h;exact h)⟩
   ·rw[show(xs.getD i 0==ys.getD i 0)=false from beq_eq_false_iff_ne.mpr e]
    wp_walk using wpAny_loadPart' hl,wpAny_loadPart' hb
    rw[hi1,hi2];have q:b0 (xs.getD i 0::xs.drop (i+1)) (ys.getD i 0::ys.drop (i+1))=decide (xs.getD i 0<ys.getD i 0):=if_neg e;rw[q]at h;dsimp only;refine wpAny_bind (wpAny_lt_int ?_)
    wp_walk
    exact h
  ·have hi2:items2[((i:Nat):Int).toNat]?=none:=by simp;omega
   rw[hi2];rw[List.drop_eq_nil_of_le (by omega:ys.length<=i)]at h
   wp_walk using wpAny_loadPart' hl,wpAny_loadPart' hb
   show R (.ok (.ret (.bool (decide (items.size<items2.size))))) _;rw[decide_eq_false (by omega)];exact h
open PySem.MeetsSeq3 in
open PySem.AutoSeq1 (wpAny_loadPart') in
theorem Cd (l b:Addr) (items items2:Array Value) (n n2:Nat) (dd dd2:Option Addr) (sl sl2:Array (Option Value)) (xs ys:List Int) (hx:xs.length=items.size) (hy:ys.length=items2.size)
  (ix:∀j,j<items.size->∃t,items[j]?=some (.int (xs.getD j 0) t)) (iy:∀j,j<items2.size->∃t,items2[j]?=some (.int (ys.getD j 0) t)) :
  Meets (Builtin.«list.__lt__» ⟨[.ref l,.ref b],[]⟩)
   (λA R s=>s.heap.get? l=some { cls:=.type "list",dict:=dd,data:=.seq items n,slots:=sl }/\s.heap.get? b=some { cls:=.type "list",dict:=dd2,data:=.seq items2 n2,slots:=sl2 } /\
    R (.ok (.ret (.bool (b0 xs ys)))) s):=by
 intro prog w A R s h;obtain⟨hp,g,d,tk,os⟩:=s;obtain⟨hl,hb,h⟩:=h;have f3:=PySem.AutoSeq1.sub_list_list
 wp_walk using wpAny_loadPart' hl,wpAny_loadPart' hb
 exact⟨plainId_quiet plain_eq_loop _,codeAny_builtin entry_eq_loop (by
  rw[Around.under_plainId plain_eq_loop _];exact Cb l b items items2 n n2 dd dd2 sl sl2 xs ys hx hy ix iy _ 0 rfl (Nat.zero_le _) (Nat.zero_le _) prog w A R _ ⟨hl,hb,h⟩)⟩
def RowAt (h:Heap) (v:Value) (xs:List Int):Prop:=∃(l:Addr) (items:Array Value) (n:Nat),v=.ref l/\h.get? l=some { cls:=.type "list",dict:=none,data:=.seq items n,slots:=#[] }/\xs.length=items.size/\∀j,j<items.size->∃t,items[j]?=some (.int (xs.getD j 0) t)
section
variable {prog:Program} {w:World} {A:Around} {E:Value->Shared->Prop} {s:Shared}
end
variable {h:Heap}
section
variable {prog:Program} {w:World} {A:Around} {E:Value->Shared->Prop} {s:Shared}
theorem RowAt.kept {h':Heap} {v:Value} (r:RowAt h v xs) (k:∀b o,h.get? b=some o->h'.get? b=some o):RowAt h' v xs:=by
 obtain⟨l,items,n,e,hl,hx⟩:=r;exact⟨l,items,n,e,k _ _ hl,hx⟩
theorem zQ (vs:List Value):Array.map (λx=>x.2) (vs.toArray.zip vs.toArray)=vs.toArray:=by
 apply Array.toList_inj.mp;rw[Array.toList_map,Array.toList_zip,List.map_snd_zip (by simp)]
theorem vN (vs:List Value):(List.range vs.length).map (λi=>vs.getD i Value.none)=vs:=by
 apply List.ext_getElem
 ·simp
 ·intro i h1 h2;simp[h2]
end
section
variable {C:Addr} {X:Cx}
open Classical in
theorem A8 {pins:List (Addr×Obj)} {O:St} {H:Hp} {s:Shared} (I:Inv X pins O H s) {A:Around} (hu:A.units+9<cLine) {x:D} {v:V} {u:Value} {its:List Value} {vs:List V} {ys:List D} (e1:eqb 8 x=true) (e2:ys.all (eqb 8)=true) (h1:Has X.K C H v x) (rx:RelV v u)
  (h2:HasL X.K C H vs ys) (r:Vals vs its):∃e:Value->Bool,(∀y,y∈its.toArray->SeqAt.EqAt A.in1 s y u (e y))/\its.countP e=ys.countP λy=>pyq 8 y x:=by
 have key:∀(j:Nat) (t:Value) (d:D),its[j]?=some t->ys[j]?=some d->∃w,RelV w t/\Has X.K C H w d:=λj t d q1 q2=>by
  obtain⟨w,g1,g2⟩:=h2.get q2;obtain⟨t',g3,g4⟩:=r.get g1;rw[q1]at g3;cases g3;exact⟨w,g4,g2⟩
 have mem8:∀(j:Nat) d,ys[j]?=some d->eqb 8 d=true:=λj d q=>List.all_eq_true.mp e2 d (List.mem_of_getElem? q);have hl:its.length=ys.length:=by rw[<- r.length,h2.len]
 have pt:∀(j:Nat) (hj:j<its.length),decide (∃(j':Nat) (d:D),its[j']?=some its[j]/\ys[j']?=some d/\pyq 8 d x=true)=pyq 8 (ys[j]'(by omega)) x:=λj hj=>by
  have q1:its[j]?=some its[j]:=by simp[hj]
  have q2:ys[j]?=some (ys[j]'(by omega)):=by simp[show j<ys.length by omega]
  obtain⟨w,g1,g2⟩:=key j _ _ q1 q2;cases hp:pyq 8 (ys[j]'(by omega)) x with
  | true=>exact decide_eq_true ⟨j,_,q1,q2,hp⟩
  | false =>
   refine decide_eq_false λzz2=>?_;obtain⟨j',d,z1,z2,z3⟩:=zz2;obtain⟨w',g1',g2'⟩:=key j' _ _ z1 z2;have ew:w'=w:=RelV.inj g1' g1;subst ew;have:=Has.inj (mem8 j' d z2) (mem8 j _ q2) g2' g2;rw[<- this,z3]at hp;cases hp
 refine⟨λt=>decide (∃(j:Nat) (d:D),its[j]?=some t/\ys[j]?=some d/\pyq 8 d x=true),λt ht=>?_,?_⟩
 ·have ht:t∈its:=by simpa using ht
  obtain⟨j,hj,rfl⟩:=List.mem_iff_getElem.mp ht;have q1:its[j]?=some its[j]:=by simp[hj]
  have q2:ys[j]?=some (ys[j]'(by omega)):=by simp[show j<ys.length by omega]
  obtain⟨w,g1,g2⟩:=key j _ _ q1 q2;have ok:=(AS I 8 (A:=A.in1) (by show A.units+1+8<cLine;omega) (mem8 j _ q2) e1 g2 h1 g1 rx).2;show SeqAt.EqAt A.in1 s its[j] u (decide (∃(j':Nat) (d:D),its[j']?=some its[j]/\ys[j']?=some d/\pyq 8 d x=true));rw[pt j hj];exact ok
 ·have:its.map (λt=>decide (∃(j:Nat) (d:D),its[j]?=some t/\ys[j]?=some d/\pyq 8 d x=true))=ys.map λy=>pyq 8 y x:=by
   apply List.ext_getElem
   ·rw[List.length_map,List.length_map,hl]
   ·intro j q1 q2;rw[List.getElem_map,List.getElem_map];exact pt j (by simpa using q1)
  have c:=congrArg (List.countP id) this;rw[List.countP_map,List.countP_map]at c;exact c
def Db (K:Frag) (C:Addr):V->List V->Hp->VK->Prop:=λx vs H Q=>∃(l:Addr) (v:V) (ws:List V) (d:D) (ys:List D),x=.ref l/\vs=[v]/\H l=some (.lst ws)/\HasL K C H ws ys/\Has K C H v d/\ys.all (eqb 8)=true/\eqb 8 d=true/\Q (.int ((ys.countP λy=>pyq 8 y d:Nat):Int)) H
theorem xf (hu:X.A.units+9<cLine):MtM X "list.count" (Db X.K C):=by
 intro pins s O H x vs v us Q I rx rv h;obtain⟨l,v1,ws,d,ys,rfl,rfl,hH,h2,h1,e2,e1,q⟩:=h;cases rx;obtain⟨u1,rfl,r1⟩:=rv.one;obtain⟨z,its,n,r,hl,e⟩:=I.lstM hH;obtain⟨f,hf,hc⟩:=A8 I (A:=X.A) hu e1 e2 h1 r1 h2 r;refine call_meets PySem.F.slot_list_count ⟨_,e,rfl⟩ PySem.F.entry_list_count (PySem.F.args_list_count_2 _ _) (SeqAt.list_countAt l _ n none #[] u1 f) ⟨e,hf,?_⟩;refine⟨.int _,H,I.tok _,⟨_,rfl⟩,?_⟩;simp only[hc];exact q
theorem AV {o e:Expr} {ap cp:Pos} {Fo F:Rho->R D} (hu:X.A.units+9<cLine) (ho:EB C X o Fo) (he:ED C X e F) (hst:starEach [e] X.env=(false,eval e X.env)::starEach [] X.env)
  (hs:∀{to:TE} {t:TA},PE X o to->PA X [e] t->PE X (.Call (.Attribute o "count" ap) [e] [] cp) (tBM X.K "list" (Db X.K C) to t):=by
   exact λho ha=>qr PySem.F.plainAttrs_list PySem.F.slot_list_count PySem.F.type_list_count (xf (by assumption)) ho ha) :
  ED C X (.Call (.Attribute o "count" ap) [e] [] cp) (Fg Fo F) :=
 aR (hs ho (ci he dD hst)) λO H Q ⟨U,⟨H0,r0⟩,q⟩=>⟨U,⟨H0,r0⟩,aW (P:=λz H=>pV X (dv C X U O) z O H Q) (λ_ h=>h) (λh=>h) q λy v H1 s1 h1 q1=>by
  cases y with
  | lst xs =>
   obtain⟨a,vs,rfl,e1,h2⟩:=h1.lst msk_sub;refine⟨.inl ⟨rfl,_,SqL.of e1⟩,U,⟨H0,r0.mono s1⟩,aW (P:=λz H=>pV X (dv C X U O) z O H Q) (λ_ h=>h) (λh=>h) (q1.mono s1) λy w H2 s2 h3 q2=>?_⟩;unfold AG at q2;dsimp only at q2;by_cases c:xs.all (eqb 8)=true/\eqb 8 y=true/\xs.length<=100000
   ·rw[if_pos c]at q2;exact⟨a,w,vs,y,xs,rfl,rfl,s2 _ _ e1,(h2.mono msk_sub).mono s2,h3.mono msk_sub,c.1,c.2.1,q2 _ H2 s2 (.int _)⟩
   ·rw[if_neg c]at q2;exact q2.elim
  | _=>exact q1.elim⟩
theorem Vals.of_getD {as:List V} {its:List Value} (r:Vals as its):∀{p:List Nat},(∀i∈p,i<as.length)->Vals (p.map λi=>as.getD i .non) (p.map λi=>its.getD i Value.none)
 | [],_=>.nil
 | i::p,h=>by
  have hi:=h i (by simp);have q:as[i]?=some (as.getD i .non):=by rw[List.getD_eq_getElem?_getD,List.getElem?_eq_getElem hi];rfl
  obtain⟨t,g1,g2⟩:=r.get q;have:its.getD i Value.none=t:=by rw[List.getD_eq_getElem?_getD,g1];rfl
  rw[List.map_cons,List.map_cons,this];exact .cons g2 (Vals.of_getD r λj hj=>h j (by simp[hj]))
theorem BF {pins:List (Addr×Obj)} {O:St} {H:Hp} {s:Shared} (I:Inv X pins O H s) {b:Addr} (hH:H b=some (.lst (xs.map V.int))):RowAt s.heap (.ref b) xs:=by
 obtain⟨z,its,n,r,hl,e⟩:=I.lstM hH;have hx:xs.length=its.length:=by rw[<- hl,List.length_map]
 refine⟨b,its.toArray,n,rfl,e,by simpa using hx,λj hj=>?_⟩;have hj:j<its.length:=by simpa using hj
 obtain⟨i,t,e1,e2⟩:=gC r (List.getElem?_eq_getElem hj);refine⟨t,?_⟩;have:xs.getD j 0=i:=by rw[List.getD_eq_getElem?_getD,e1];rfl
 rw[this];simp[hj,e2]
theorem tP {vs:List Value} {out:Array Value} (b:Addr) (o:Obj) (q:h.get? b=some o):(sortedAll h vs out).get? b=some o:=by
 have hlt:b<h.objs.size:=Heap.lt_size q;have hsz:((h.push (seqObj "list" #[] 0)).update h.objs.size (Obj.mapSeq (· ++ vs.toArray))).objs.size=h.objs.size+1:=by
  rw[Heap.size_update,size_push']
 have hb:b≠h.objs.size+1:=Nat.ne_of_lt (Nat.lt_succ_of_lt hlt);unfold sortedAll sortedHeap;rw[Heap.get?_update_ne _ _ _ _ hb];refine Heap.get?_push_of_some _ (Heap.get?_push_of_some _ ?_);rw[Heap.get?_update_ne _ _ _ _ hb];refine Heap.get?_push_of_some _ ?_;rw[Heap.get?_update_ne _ _ _ _ (Nat.ne_of_lt hlt)];exact Heap.get?_push_of_some _ q
theorem vG {vs:List Value} {out:Array Value}:∃c,(sortedAll h vs out).get? (h.objs.size+1)=some (seqObj "list" out c):=by
 have hsz:((h.push (seqObj "list" #[] 0)).update h.objs.size (Obj.mapSeq (· ++ vs.toArray))).objs.size=h.objs.size+1:=by
  rw[Heap.size_update,size_push']
 have hoL:(((h.push (seqObj "list" #[] 0)).update h.objs.size (Obj.mapSeq (· ++ vs.toArray))).push (seqObj "list" vs.toArray 0)).get? (h.objs.size+1)=some (seqObj "list" vs.toArray 0):=by
  rw[<- hsz];exact Heap.get?_push_size _ rfl
 have h1:=get?_update_seq hoL (λ_=>(#[]:Array Value));have h2:=get?_update_seq (Heap.get?_push_of_some (seqObj "list" #[] 0) (Heap.get?_push_of_some (seqObj "tuple" vs.toArray 0) h1)) (λ_=>out);exact⟨_,h2⟩
theorem t6 {K:Frag} {M:Hp}:∀{xs:List D} {ls:List (List Int)} {vs:List V},kK xs=some ls->HasL K C M vs xs->vs.length=ls.length/\∀i,i<ls.length->∃b,vs.getD i .non=.ref b/\M b=some (.lst ((ls.getD i []).map V.int))
 | [],ls,vs,e,h=>by cases e;cases h;exact⟨rfl,λi hi=>by cases hi⟩
 | x::r,ls,vs,e,h=>by
  cases x with
  | lst ys =>
   unfold kK at e;cases z:eI ys with
   | none=>rw[z]at e;cases e
   | some l =>
    rw[z]at e;dsimp only at e;cases z2:kK r with
    | none=>rw[z2]at e;cases e
    | some l' =>
     rw[z2]at e;cases e;cases h with
     | cons a b =>
      cases a with
      | lst q hh =>
       obtain⟨i1,i2⟩:=t6 z2 b;refine⟨by rw[List.length_cons,List.length_cons,i1],λi hi=>?_⟩;cases i with
       | zero=>exact⟨_,rfl,by rw[q,h9 z hh];rfl⟩
       | succ i=>exact i2 i (by simpa using hi)
  | _=>cases e
theorem zk {K:Frag} {M:Hp} {b:Addr} {l:List Int} (h:M b=some (.lst (l.map V.int))):Has K C M (.ref b) (rwI l):=.lst h (HasL.ints l)
theorem wJ {K:Frag} {M:Hp} {ls:List (List Int)} {vs:List V} (h:∀i,i<ls.length->∃b,vs.getD i .non=.ref b/\M b=some (.lst ((ls.getD i []).map V.int))):∀{p:List Nat},(∀i∈p,i<ls.length)->HasL K C M (p.map λi=>vs.getD i .non) ((p.map λi=>ls.getD i []).map rwI)
 | [],_=>.nil
 | i::p,hp=>by
  obtain⟨b,g1,g2⟩:=h i (hp i (by simp));rw[List.map_cons,List.map_cons,List.map_cons,g1];exact .cons (zk g2) (wJ h λj hj=>hp j (by simp[hj]))
end
section
variable (C:Addr) (X:Cx)
end
section
variable {C:Addr} {X:Cx}
end
section
variable {K:Frag} {C:Addr} {H0 H:Hp} {U:RB} {O:St}
end
section
variable {C:Addr} {X:Cx}
end
section
variable {C:Addr} {X:Cx}
end
section
variable {C:Addr} {X:Cx}
end
section
variable {prog:Program} {w:World} {A:Around} {R:Result->Shared->Prop} {I:Addr} {fp wr:List Addr} {n:Nat} {P:Nat->Value->Prop} {St:Nat->Heap->Prop}
end
section
variable {C:Addr} {X:Cx}
end
section
variable {C:Addr} {X:Cx}
end
section
variable {C:Addr} {X:Cx}
end
section
variable {C:Addr} {X:Cx}
end
section
variable {C:Addr} {X:Cx} {tg elt iter:Expr} {scope:Scope} {pos:Pos} {N':List Str} {ix:List Nat} {T:D->Rho->Option Rho} {e:Rho->R D} {n:Nat} {src:Rho->R (List D)}
end
section
variable {C:Addr} {X:Cx}
end
section
variable {C:Addr} {X:Cx}
section
variable {B:Hp} {Nw:Addr->Prop} {i n:Nat} {F:Rho->R Out}
end
end
section
variable {K:Frag} {C:Addr} {M M' H H':Hp} {k:OK} {v:V} {d:D} {A:List Addr}
end
section
variable (C:Addr) (X:Cx)
end
section
variable {C:Addr} {X:Cx}
theorem Az {K:Frag} {H H':Hp} {v:V} {d:D} (h:Has K C H v d) (f:Do d=true):Has K C H' v d:=by
 cases h with
 | int i=>exact .int i
 | bl i=>exact .bl i
 | non=>exact .non
 | _=>cases f
theorem jV {K:Frag} {H H':Hp}:∀{vs:List V} {ds:List D},HasL K C H vs ds->ds.all (gQ .s)=true->HasL K C H' vs ds
 | _,_,.nil,_=>.nil
 | _,_,.cons h t,f=>by
  rw[List.all_cons,Bool.and_eq_true]at f;exact .cons (Az h f.1) (jV t f.2)
end
section
variable {P:Program} {w:World} {K:Frag} {mg:Str->Option Value} {base:Heap} {C:Addr}
end
end DL
namespace DL
def j8:List (List Int)->List (List Int)->Bool
 | [],[]=>false
 | [],_::_=>true
 | _::_,[]=>false
 | r::x,q::y=>if r=q then j8 x y else b0 r q
def enc:List (List Int)->List Int
 | []=>[]
 | r::x=>r.map (· + 1)++0::enc x
theorem xC {x y:List Int}:∀{r q:List Int},(∀i∈r,0<=i)->(∀i∈q,0<=i)->b0 (r.map (· + 1)++0::x) (q.map (· + 1)++0::y)=if r=q then b0 x y else b0 r q
 | [],[],_,_=>by rw[if_pos rfl];rfl
 | [],b::q,_,h=>by
  have:=h b (by simp);show(if(0:Int)=b+1 then _ else decide ((0:Int)<b+1))=_;rw[if_neg (by omega),if_neg (by simp),decide_eq_true (by omega)];rfl
 | a::r,[],h,_=>by
  have:=h a (by simp);show(if a+1=(0:Int)then _ else decide (a+1<(0:Int)))=_;rw[if_neg (by omega),if_neg (by simp),decide_eq_false (by omega)];rfl
 | a::r,b::q,h1,h2=>by
  show(if a+1=b+1 then b0 (r.map (· + 1)++0::x) (q.map (· + 1)++0::y)else decide (a+1<b+1))=if a::r=b::q then b0 x y else if a=b then b0 r q else decide (a<b)
  by_cases e:a=b
  ·subst e;rw[if_pos rfl,if_pos rfl,xC (λi hi=>h1 i (by simp[hi])) λi hi=>h2 i (by simp[hi])];by_cases e2:r=q
   ·subst e2;rw[if_pos rfl,if_pos rfl]
   ·rw[if_neg e2,if_neg λz=>e2 (List.cons.inj z).2]
  ·rw[if_neg (by omega),if_neg e,if_neg λz=>e (List.cons.inj z).1]
   congr 1
   exact propext (by omega)
def j5 (x:List (List Int)):Prop:=∀r∈x,∀i∈r,(0:Int)<=i
theorem qw:∀{x y:List (List Int)},j5 x->j5 y->j8 x y=b0 (enc x) (enc y)
 | [],[],_,_=>rfl
 | [],q::y,_,_=>by
  unfold j8 enc;cases q<;>rfl
 | r::x,[],_,_=>by
  unfold j8 enc;cases r<;>rfl
 | r::x,q::y,h1,h2=>by
  show(if r=q then j8 x y else b0 r q)=b0 (r.map (· + 1)++0::enc x) (q.map (· + 1)++0::enc y);rw[xC (h1 r (by simp)) (h2 q (by simp)),qw (λs hs=>h1 s (by simp[hs])) λs hs=>h2 s (by simp[hs])]
theorem xD:∀{x y:List (List Int)},j5 x->j5 y->enc x=enc y->x=y
 | [],[],_,_,_=>rfl
 | [],q::y,_,_,h=>by cases q<;>cases h
 | r::x,[],_,_,h=>by cases r<;>cases h
 | r::x,q::y,h1,h2,h=>by
  have go:∀{r q:List Int},(∀i∈r,0<=i)->(∀i∈q,0<=i)->r.map (· + 1)++0::enc x=q.map (· + 1)++0::enc y->r=q/\enc x=enc y:=by
   intro r
   induction r with
   | nil =>
    intro q _ hq e;cases q with
    | nil=>exact⟨rfl,(List.cons.inj e).2⟩
    | cons b q =>
     have:=hq b (by simp);have:(0:Int)=b+1:=(List.cons.inj e).1;omega
   | cons a r ih =>
    intro q hr hq e;cases q with
    | nil =>
     have:=hr a (by simp);have:a+1=(0:Int):=(List.cons.inj e).1;omega
    | cons b q =>
     obtain⟨e1,e2⟩:=List.cons.inj e;have e1:a+1=b+1:=e1;obtain⟨e3,e4⟩:=ih (λi hi=>hr i (by simp[hi])) (λi hi=>hq i (by simp[hi])) e2;exact⟨by rw[e3,show a=b by omega],e4⟩
  obtain⟨e1,e2⟩:=go (h1 r (by simp)) (h2 q (by simp)) h;rw[e1,xD (λs hs=>h1 s (by simp[hs])) (λs hs=>h2 s (by simp[hs])) e2]
def leF (a b:List (List Int)):Bool:=leL (enc a) (enc b)
def pC (fs:List (List (List Int))):List (List (List Int)):=fs.mergeSort leF
def zF (f:List (List Int)):Bool:=f.all λr=>r.all λi=>decide ((0:Int)<=i)
theorem posF_iff {f:List (List Int)}:zF f=true↔j5 f:=by
 unfold zF j5;rw[List.all_eq_true];exact⟨λh r hr i hi=>of_decide_eq_true (List.all_eq_true.mp (h r hr) i hi),λh r hr=>List.all_eq_true.mpr λi hi=>decide_eq_true (h r hr i hi)⟩
theorem jL (fs:List (List (List Int))):(pC fs).Perm fs:=List.mergeSort_perm _ _
theorem nI (fs:List (List (List Int))):vF (fs.map enc)=(pC fs).map enc:=by
 refine hJ ((jL fs).map _) ?_;rw[List.pairwise_map];exact List.pairwise_mergeSort (le:=leF) (λa b c=>lY (enc a) (enc b) (enc c)) (λa b=>lZ (enc a) (enc b)) fs
theorem oX:∀{xs ys:List (List (List Int))},(∀x∈xs,j5 x)->(∀y∈ys,j5 y)->xs.map enc=ys.map enc->xs=ys
 | [],[],_,_,_=>rfl
 | [],_::_,_,_,h=>by cases h
 | _::_,[],_,_,h=>by cases h
 | x::xs,y::ys,h1,h2,h=>by
  obtain⟨e1,e2⟩:=List.cons.inj h;rw[xD (h1 x (by simp)) (h2 y (by simp)) e1,oX (λz hz=>h1 z (by simp[hz])) (λz hz=>h2 z (by simp[hz])) e2]
theorem xW {fs gs:List (List (List Int))} (h1:∀f∈fs,j5 f) (hp:fs.Perm gs):pC fs=pC gs:=by
 have h2:∀g∈gs,j5 g:=λg hg=>h1 g (hp.mem_iff.mpr hg);refine oX (λx hx=>h1 x ((jL fs).mem_iff.mp hx)) (λx hx=>h2 x ((jL gs).mem_iff.mp hx)) ?_;rw[<- nI,<- nI];exact hJ ((qm _).trans (hp.map enc).symm) (List.pairwise_mergeSort lY lZ _)
end DL
namespace DL
open PySem PySem.Spec PyProof.Rows L2
def FI (K:Frag) (C:Addr) (ks:List OK) (n:Nat) (den:List D->List D->R (D×List D)):Sp:=λvs H Q _=>∃us ds ws es A,vs=us++ws/\ws.length=n/\TreP K C (cut A H) H ks us ds A/\HasL K C (cut A H) ws es/\match den ds es with
 | .val x=>∀v H' A',Same (cut A H) H'->(∀a∈A',a∈A\/cut A H a=none)->TreP K C (cut A' H') H' ks us x.2 A'->Has K C H' v x.1->Q v H'
 | _=>False
def MvB (P:Program) (w:World) (K:Frag) (mg:Str->Option Value) (base:Heap) (C:Addr) (k:Nat) (x:Str) (ks:List OK) (n:Nat) (den:List D->List D->R (D×List D)):Prop :=
 ∃f fd ps,FnOk P w K mg base CX0 k f fd ps (FI K C ks n den)/\mg x=some (.ref f)/\keepIn K (.ref f)=true/\Binds K fd ps []
section
variable (C:Addr) (X:Cx)
def pJB (m:Nat) (O:St) (z:R (D×Rho)) (H0:Hp) (Dn:j6):Prop:=match z with
 | .val x=>∀v σ' H',(∀i:Nat,i<m->σ'[i]?=O[i]?)->mn C X H0 x.2 σ' H'->Has X.K C H' v x.1->Dn.rt v H'
 | _=>False
def qT (m:Nat) (st:List Stmt) (F:Rho->R (D×Rho)):Prop:=PSs X st (λDn O H=>∃U H0,mn C X H0 U O H/\pJB C X m O (F U) H0 Dn)
end
def sqB (F:Rho->R Rho) (G:Rho->R (D×Rho)):Rho->R (D×Rho):=λU=>(F U).bind G
def rtB (F:Rho->R D):Rho->R (D×Rho):=λU=>(F U).bind λd=>.val (d,U)
variable {F:Rho->R D}
section
variable {C:Addr} {X:Cx} {m:Nat}
theorem xY {st:Stmt} {rest:List Stmt} {F:Rho->R Rho} {G:Rho->R (D×Rho)} (h1:SDj C X m st F) (h2:qT C X m rest G):qT C X m (st::rest) (sqB F G) :=
 hW (jj h1 h2) λD O H yy=>by
  obtain⟨U,H0,r,q⟩:=yy;refine⟨U,H0,r,?_⟩;unfold sqB at q;cases e:F U with
  | val U' =>
   rw[e]at q;intro σ' H' hσ r';refine⟨U',H0,r',?_⟩;have q:pJB C X m O (G U') H0 D:=q;cases e2:G U' with
   | val x=>rw[e2]at q;exact λv O2 H2 h2 r2 hv=>q v O2 H2 (λi hi=>(h2 i hi).trans (hσ i hi)) r2 hv
   | exc c=>rw[e2]at q;exact q.elim
   | bad=>rw[e2]at q;exact q.elim
  | exc c=>rw[e]at q;exact q.elim
  | bad=>rw[e]at q;exact q.elim
theorem zf {e:Expr} {pos:Pos} (he:ED C X e F):qT C X m [.Return (some e) pos] (rtB F) :=
 hW (kN (zB he)) λD O H yy=>by
  obtain⟨_,H0,⟨U,rfl,r⟩,q⟩:=yy;refine⟨U,⟨H0,r⟩,?_⟩;unfold rtB at q;cases z:F U with
  | val d =>
   rw[z]at q;exact λv H' s h=>q v O H' (λ_ _=>rfl) (r.mono s).e (h.mono msk_sub)
  | exc c=>rw[z]at q;exact q.elim
  | bad=>rw[z]at q;exact q.elim
end
variable {x:Str} {n:Nat}
section
variable {P:Program} {w:World} {K:Frag} {mg:Str->Option Value} {base:Heap} {C:Addr}
def ud (ks:List OK) (x:D×Rho):R (D×List D):=(nV ks x.2).bind λds=>.val (x.1,ds)
theorem Ey {qual:Str} {st:Stmt} {f:Addr} {fd:FuncData} {N ps:List Str} {k:Nat} {ks:List OK} {den:Rho->R (D×Rho)} (F:Fun K x qual st f fd) (sc:ax N ps (ao st)) (hp:ps.length=ks.length+n) (hN:ks.length+n<=N.length)
  (hb:∀(cdv:Value) (A:Around) (outer:List Env) (s:Shared) (H:Hp) (E:XK),Room k (A.deeper (envOfC qual (ao st) s.heap.objs.size f cdv)) ->
   qT C (jb CX0 P w K mg base N qual (ao st) f cdv A outer s H E).nox ks.length (cJ st) den) :
  FnOk P w K mg base CX0 (k+1) f fd ps (FI K C ks n λds es=>(den (stM N ks ds es)).bind (ud ks)):=by
 refine F.ok sc (λvs H Q E h=>?_) (λcdv A outer s H vs Q E hr h=>⟨_,hb cdv A outer s H E hr,?_⟩)
 ·obtain⟨us,ds,ws,es,A,rfl,hn,h1,_⟩:=h;rw[List.length_append,hn,h1.len.1,<- h1.len.2,hp]
 obtain⟨us,ds,ws,es,A,rfl,hn,h1,h2,q⟩:=h;have l1:=h1.len;have l2:=h2.len;refine⟨stM N ks ds es,cut A H,vL h1 h2 (by omega),?_⟩;dsimp only at q;cases e:den (stM N ks ds es)with
 | exc c=>rw[e]at q;exact q.elim
 | bad=>rw[e]at q;exact q.elim
 | val y =>
  obtain⟨d,U'⟩:=y;rw[e]at q;have q:(match(nV ks U').bind λds=>R.val (d,ds)with | .val x=>_|_=>False):=q;cases eo:nV ks U' with
  | exc c=>rw[eo]at q;exact q.elim
  | bad=>rw[eo]at q;exact q.elim
  | val ds' =>
   rw[eo]at q;obtain⟨ol,oa⟩:=uc eo;rintro v σ' H' hσ ⟨β,eβ,r⟩ hv;have eβ:β.rho=U':=eβ;have atS:∀(j:Nat) v,us[j]?=some v->σ'[j]?=some (some v):=λj v ev=>by
    have hj:j<us.length:=(List.getElem?_eq_some_iff.mp ev).1;rw[hσ j (by omega)];unfold L2.start;rw[List.getElem?_append_left (by rw[List.length_map,List.length_append];omega),List.getElem?_map,List.getElem?_append_left hj,ev];rfl
   obtain⟨A',a1,a2⟩:=TreP.join (K:=K) (C:=C) (M:=msk β σ' H') (H:=H') (ks:=ks) (vs:=us) (ds:=ds') β.ad ol (by omega) (λj k v d e1 e2 e3=>by
    have:=oa j k d e1 e3;rw[<- eβ]at this;obtain⟨v2,B,g1,g2,g3⟩:=r.at_ j _ this;rw[atS j v e2]at g1;cases g1;exact⟨B,g2,g3⟩) r.inj
   refine q v H' A' (r.keep.trans msk_sub) (λa ha=>?_) (a2.stay (λb o eb=>cut_some.mpr ⟨λz=>(msk_some.mp eb).1 (a1 b z),(msk_some.mp eb).2⟩) (.of (Same.refl _))) hv;by_cases hA:a∈A
   ·exact .inl hA
   ·right;cases z:cut A H a with
    | none=>rfl
    | some o=>exact absurd (a1 a ha) (msk_some.mp (r.keep a o z)).1
end
section
variable (C:Addr) (X:Cx)
def pM {Y:Type} (O:St) (z:R (Y×Rho)) (H0:Hp) (Q:Y->Hp->Prop):Prop:=match z with
 | .val x=>∀H',mn C X H0 x.2 O H'->Q x.1 H'
 | _=>False
def KDm (e:Expr) (F:Rho->R (D×Rho)):Prop:=PE X e (λO H Q=>∃U H0,mn C X H0 U O H/\pM C X O (F U) H0 λd H'=>∀v,Has X.K C H' v d->Q v H')
def TDm (e:Expr) (F:Rho->R (Bool×Rho)):Prop:=PT X e (λO H Q=>∃U H0,mn C X H0 U O H/\pM C X O (F U) H0 Q)
end
def tsM (F:Rho->R (D×Rho)):Rho->R (Bool×Rho):=λU=>(F U).bind λx=>(asB x.1).bind λb=>.val (b,x.2)
def noM (F:Rho->R (Bool×Rho)):Rho->R (Bool×Rho):=λU=>(F U).bind λx=>.val (!x.1,x.2)
def anM (Ft:Rho->R Bool) (F:Rho->R (Bool×Rho)):Rho->R (Bool×Rho):=λU=>match Ft U with
 | .val true=>F U
 | .val false=>.val (false,U)
 | _=>.bad
def ifM (Ft:Rho->R (Bool×Rho)) (Fa Fb:Rho->R Out):Rho->R Out:=λU=>match Ft U with
 | .val x=>if x.1=true then Fa x.2 else Fb x.2
 | _=>.bad
variable {a:Expr}
section
variable {C:Addr} {X:Cx}
theorem Dx {e:Expr} {F:Rho->R (D×Rho)} (h:KDm C X e F) (he:∀whole,isTrue e X.env whole=(do let v <- whole;standAt e.pos;holding [v] (truthy v)):=by intro _;rfl):TDm C X e (tsM F) :=
 fi (zu h he) λO H Q yy=>by
  obtain⟨U,H0,r,q⟩:=yy;refine⟨U,H0,r,?_⟩;unfold tsM at q;cases z:F U with
  | exc c=>rw[z]at q;exact q.elim
  | bad=>rw[z]at q;exact q.elim
  | val x =>
   obtain⟨d,U'⟩:=x;rw[z]at q;cases d with
   | bl b =>
    intro H' r' v hv;cases hv;exact⟨b,rfl,q H' r'⟩
   | _=>exact q.elim
theorem Dy {pos:Pos} {F:Rho->R (Bool×Rho)} (h:TDm C X a F):TDm C X (.UnaryOp .Not a pos) (noM F) :=
 fi (zv h) λO H Q yy=>by
  obtain⟨U,H0,r,q⟩:=yy;refine⟨U,H0,r,?_⟩;unfold noM at q;cases z:F U with
  | exc c=>rw[z]at q;exact q.elim
  | bad=>rw[z]at q;exact q.elim
  | val x=>rw[z]at q;exact q
theorem Dz {b:Expr} {pos:Pos} {Fa:Rho->R Bool} {Fb:Rho->R (Bool×Rho)} (ha:TD C X a Fa) (hb:TDm C X b Fb):TDm C X (.BoolOp .And [a,b] pos) (anM Fa Fb) :=
 fi (zt ha (wV hb)).pt λO H Q yy=>by
  obtain⟨_,H0,⟨U,rfl,r⟩,q⟩:=yy;refine⟨U,⟨H0,r⟩,?_⟩;unfold anM at q;cases z:Fa U with
  | exc c=>rw[z]at q;exact q.elim
  | bad=>rw[z]at q;exact q.elim
  | val c =>
   rw[z]at q;intro H1 s1;cases c with
   | true=>exact wd ⟨U,H0,(r.mono s1).e,q⟩
   | false=>exact we (q H1 (r.mono s1).e)
theorem DN {c:Expr} {a b:List Stmt} {pos:Pos} {Ft:Rho->R (Bool×Rho)} {Fa Fb:Rho->R Out} (hc:TDm C X c Ft) (ha:SDs C X a Fa) (hb:SDs C X b Fb):SD C X (.If c a b pos) (ifM Ft Fa Fb) :=
 bF (zD hc ha hb) λD O H yy=>by
  obtain⟨U,H0,r,q⟩:=yy;refine⟨U,H0,r,?_⟩;unfold ifM at q;cases z:Ft U with
  | exc c=>rw[z]at q;exact q.elim
  | bad=>rw[z]at q;exact q.elim
  | val x =>
   obtain⟨c,U'⟩:=x;rw[z]at q;intro H' r';cases c with
   | true=>exact wd ⟨U',H0,r',q⟩
   | false=>exact we ⟨U',H0,r',q⟩
end
def mvP (i:Nat) (P:Rho->R (List Nat)) (den:List D->List D->R (D×List D)) (n:Nat) (Fa:Rho->R (List D)):Rho->R (D×Rho):=λU=>match P U,U[i]?,Fa U with
 | .val pp,some (some (.tre k d)),.val ds=>(match kF d pp with
  | some (.lst xs)=>if je k pp=some (.l .s)/\xs.all (gQ .s)=true/\ds.all (gQ .s)=true/\ds.length=n then(match den [.lst xs] ds with
   | .val (b,[.lst ys])=>if ys.all (gQ .s)=true then .val (b,U.set i (some (.tre k (kM d pp (.lst ys)))))else .bad
   | _=>.bad)else .bad
  | _=>.bad)
 | _,_,_=>.bad
variable {i:Nat}
theorem B7 {P:Rho->R (List Nat)} {den:List D->List D->R (D×List D)} {Fa:Rho->R (List D)} {U:Rho} {y:D×Rho} (h:mvP i P den n Fa U=.val y):∃pp k d ds xs ys,P U=.val pp/\U[i]?=some (some (.tre k d))/\Fa U=.val ds/\kF d pp=some (.lst xs)/\je k pp=some (.l .s)/\xs.all (gQ .s)=true/\ds.all (gQ .s)=true/\ds.length=n/\den [.lst xs] ds=.val (y.1,[.lst ys])/\ys.all (gQ .s)=true/\y.2=U.set i (some (.tre k (kM d pp (.lst ys)))):=by
 unfold mvP at h;split at h
 ·rename_i pp k d ds e1 e2 e3;split at h
  ·rename_i xs e4;split at h
   ·rename_i e5;split at h
    ·rename_i b ys e6;split at h
     ·rename_i e7;cases h;exact⟨pp,k,d,ds,xs,ys,e1,e2,e3,e4,e5.1,e5.2.1,e5.2.2.1,e5.2.2.2,e6,e7,rfl⟩
     ·cases h
    ·cases h
   ·cases h
  ·cases h
 ·cases h
variable {p:Pos}
section
variable {C:Addr} {X:Cx}
theorem Ci {k:Nat} {pos:Pos} {o:Expr} {es:List Expr} {P:Rho->R (List Nat)} {den:List D->List D->R (D×List D)} {Fa:Rho->R (List D)} (F:MvB X.prog X.w X.K X.mg X.base C k x [.l .s] n den) (hr:Room k X.A) (hg:Gl X x) (ho:ND C X i o P) (ha:AD C X es Fa)
  (he:starEach (o::es) X.env=(false,eval o X.env)::starEach es X.env) (hpl:(backTo pos (starEach es X.env)).any (·.1)=false) (hdb:(x==("__debug__":Str))=false:=by decide):KDm C X (.Call (.Name x p) (o::es) [] pos) (mvP i P den n Fa):=by
 obtain⟨f,fd,ps,hF,hm,hk,hb⟩:=F;rintro pins s O H Q I ⟨_,H0,⟨U,rfl,r⟩,q⟩;cases ez:mvP i P den n Fa U.rho with
 | exc c=>rw[ez]at q;exact q.elim
 | bad=>rw[ez]at q;exact q.elim
 | val y =>
  rw[ez]at q;obtain⟨pp,k',d,ds,xs,ys,eP,er,eF,ed,ek,fx,fd',hl,eden,fy,ey⟩:=B7 ez;obtain⟨v,a,vs,A0,e1,rc,hHa,tp,hn,up⟩:=r.node er ek ed;obtain⟨rfl,hvs⟩:=tp.flat;refine wpAny_Call_Name_kw (kX I hg hm ?_ hdb);refine callWith_K (h₀:=X.base) I.ok.mod.kin hk (thn ((ci ho ha he) pos pins s O H (λws H1=>∃vr,ws=.ref a::vr/\Same H H1/\jJ C X U O H1 vr ds) I ⟨U,⟨H0,r⟩,by
   rw[eP];intro v' w H' ev s' rc';rw[e1]at ev;cases ev;have:=Reach.det (rc.mono s') rc';subst this;refine⟨U,⟨H0,r.mono s'⟩,?_⟩;rw[eF];exact λvr H1 s1 h1=>⟨vr,rfl,s'.trans s1,h1⟩⟩) λus s1 yy=>?_) he hpl
  obtain⟨ws,H1,I1,rv,vr,rfl,sm,hvr⟩:=yy;refine⟨I1.kIn,?_⟩;have hH1:H1 a=some (.lst vs):=sm _ _ hHa;refine thn (vJ (E:=E0) (Q:=λu M'=>Has X.K C M' u y.1/\Same (cut [a] H1) M'/\∃ws,M' a=some (.lst ws)/\HasL X.K C M' ws ys) hF hr hb .nil w8 I1 rv ?_) λu s2 yy=>?_
  ·rw[List.append_nil];refine⟨[.ref a],[.lst xs],vr,ds,[a],rfl,hvr.len.trans hl,.cons (A:=[a]) (B:=[]) (.l hH1 (TreP.of (jV hvs fx)) List.not_mem_nil) .nil (λ_ _=>List.not_mem_nil),jV hvr fd',?_⟩;rw[eden];intro u H' A' g1 g2 g3 g4;refine⟨g4,g1,?_⟩;cases g3 with
   | cons t1 t2 _ =>
    cases t2;cases t1 with
    | l e9 t9 _=>exact⟨_,e9,(t9.flat).2.mono td⟩
  ·obtain⟨u',M',J2,ru,hu,sM,ws,eM,hws⟩:=yy;refine⟨u',M',J2,ru,q M' ?_ u' hu⟩;have eu:upd (upd M' a (.lst vs)) a (.lst ws)=M':=by
    funext b
    by_cases hb:b=a
    ·subst hb;rw[aY,eM]
    ·rw[az hb,az hb]
   have s2:Same H (upd M' a (.lst vs)):=λb o eb=>by
    by_cases hb:b=a
    ·subst hb;rw[hHa]at eb;cases eb;exact aY
    ·rw[az hb];exact sM b o (cut_some.mpr ⟨λz=>hb (List.mem_singleton.mp z),sm _ _ eb⟩)
   have rl:=up (H2:=upd M' a (.lst vs)) (ws:=ws) (ys:=ys) (N:=[]) (B:=[]) s2 (λb hb=>by cases hb) (TreP.of (jV hws fy)) (λb hb=>by cases hb);rw[eu]at rl;rw[ey];exact⟨_,rfl,rl⟩
end
def yA:D->D->R D
 | .lst xs,.int k=>if 0<=k/\k<=1000/\xs.length<=10 then .val (.lst (List.replicate k.toNat xs).flatten)else .bad
 | _,_=>.bad
def ext (i:Nat) (e:Rho->R D):Rho->R Out:=λU=>match U[i]? with
 | some (some (.own xs))=>(e U).bind λd=>match d with
  | .lst ys=>if xs.length+ys.length<LIM then .val (.nx (U.set i (some (.own (xs++ys)))))else .bad
  | _=>.bad
 | _=>.bad
section
variable {C:Addr} {X:Cx}
theorem HasL.rep {K:Frag} {H:Hp} {vs:List V} {xs:List D} (h:HasL K C H vs xs):∀k:Nat,HasL K C H (List.replicate k vs).flatten (List.replicate k xs).flatten
 | 0=>.nil
 | k+1=>by
  rw[List.replicate_succ,List.replicate_succ,List.flatten_cons,List.flatten_cons];exact h.app (h.rep k)
theorem E7 {b:Expr} {pos:Pos} {Fa Fb:Rho->R D} (ha:EB C X a Fa) (hb:EB C X b Fb):ED C X (.BinOp a .Mult b pos) (bin yA Fa Fb):=by
 refine u8 Er (λx y c e=>?_) (λU O H v w x y z Q r hx hy e k=>?_) ha hb
 ·unfold yA at e;split at e
  ·split at e<;>cases e
  ·cases e
 ·obtain⟨H0,r⟩:=r;unfold yA at e;split at e
  ·rename_i xs n;split at e
   ·rename_i q;cases e;obtain⟨l,vs,rfl,e1,h2⟩:=hx.lst msk_sub;have hl:=h2.len;have hz:vs.length*n.toNat<=sizeLine:=by
     have a1:vs.length<=10:=by omega
     have a2:n.toNat<=1000:=by omega
     refine Nat.le_trans (Nat.mul_le_mul a1 a2) ?_;decide
    refine⟨l,n,vs,rfl,hy.int,e1,by omega,by omega,hz,λp hp=>k _ _ (aP hp) (.lst (r.new hp) ?_)⟩;exact(h2.rep n.toNat).mono (aZ (aP hp))
   ·cases e
  ·cases e
theorem DO {e:Expr} {ap cp pos:Pos} (hv:PE X (.Name x p) (fv i)) (he:ED C X e F)
  (hs:∀{to:TE} {t:TA},PE X (.Name x p) to->PA X [e] t->PS X (.Expr (.Call (.Attribute (.Name x p) "extend" ap) [e] [] cp) pos) (nF (tBM X.K "list" wS to t)):=by
   exact λho ha=>kO (qr PySem.F.plainAttrs_list PySem.F.slot_list_extend PySem.F.type_list_extend ym ho ha))
  (hst:starEach [e] X.env=(false,eval e X.env)::starEach [] X.env:=by rfl) :
  SD C X (.Expr (.Call (.Attribute (.Name x p) "extend" ap) [e] [] cp) pos) (ext i F) :=
 bF (hs hv (ci he dD hst)) λD O H zz=>by
  obtain⟨_,H0,⟨U,rfl,r⟩,q⟩:=zz;unfold ext at q;split at q
  ·rename_i xs e0;obtain⟨a,vs,e1,_,h1,h2⟩:=r.at_ i _ e0;refine⟨_,e1,.inl ⟨rfl,_,SqL.of h1⟩,U,⟨H0,r⟩,aW (P:=λz _=>pS C X z H0 D) (λc h=>dm r h) (λh=>h) q λd v H1 s1 h3 q1=>?_⟩;split at q1
   ·rename_i ys;split at q1
    ·rename_i hl;have h2':=h2.mono (aZ (U:=U) (O:=O) s1);cases h3 with
     | lst e4 h4 =>
      refine⟨a,_,vs,_,rfl,rfl,s1 _ _ h1,msk_sub _ _ e4,by rw[h2.len,h4.len];exact Nat.le_of_lt (Nat.lt_of_lt_of_le hl (by decide)),?_⟩;exact q1 _ _ ⟨_,rfl,(r.mono s1).write e0 e1 (h2'.app h4)⟩
    ·exact q1.elim
   ·exact q1.elim
  ·exact q.elim
end
variable {u v:Value}
section
variable {prog:Program} {w:World} {A:Around} {E:Value->Shared->Prop} {s:Shared}
open SeqAt in
theorem DQ {xs ys:List Int} (hu:RowAt s.heap u xs) (hv:RowAt s.heap v ys) (ha:A.units<cLine):EqAt A s u v (decide (xs=ys)):=by
 obtain⟨l,items,n,rfl,hl,hx,ix⟩:=hu;obtain⟨b,items2,n2,rfl,hb,hy,iy⟩:=hv;by_cases e:l=b
 ·subst e;rw[hl]at hb;cases hb;have:xs=ys:=by
   apply List.ext_getElem (by omega);intro j h1 h2;obtain⟨t,ht⟩:=ix j (by omega);obtain⟨t',ht'⟩:=iy j (by omega);rw[ht]at ht';have:=Option.some.inj ht';injection this with e1;rw[qA h1,qA h2]at e1;exact e1
  rw[decide_eq_true this];exact EqAt.same _
 ·refine EqAt.of_refs e ?_;have L1:s.heap.IsList l items:=⟨_,hl,rfl,n,rfl⟩;have L2:s.heap.IsList b items2:=⟨_,hb,rfl,n2,rfl⟩;by_cases hz:xs.length=ys.length
  ·have q:=RcAt.lists (A:=A) (s:=s) (e:=λj=>xs.getD j 0==ys.getD j 0) L1 L2 (by omega) ha (λj h1 h2=>by
    obtain⟨t,ht⟩:=ix j h1;obtain⟨t',ht'⟩:=iy j h2;rw[show items[j]=_ from(Array.getElem?_eq_some_iff.mp ht).2,show items2[j]=_ from(Array.getElem?_eq_some_iff.mp ht').2];exact EqAt.int_int _ _ _ _)
   have e2:(List.range items.size).all (λj=>xs.getD j 0==ys.getD j 0)=decide (xs=ys):=by
    rw[<- hx,Bool.eq_iff_iff,List.all_eq_true,decide_eq_true_eq];constructor
    ·intro h;apply List.ext_getElem hz;intro j h1 h2;have:=h j (List.mem_range.mpr h1);rw[qA h1,qA h2]at this;exact beq_iff_eq.mp this
    ·intro h j _;rw[h];exact beq_iff_eq.mpr rfl
   rw[e2]at q;exact q
  ·rw[decide_eq_false (λz=>hz (by rw[z]))];exact RcAt.lists_lengths L1 L2 (by rw[<- hx,<- hy];simpa using hz) ha
theorem DP {xs ys:List Int} {Q:Value->Shared->Prop} (hu:RowAt s.heap u xs) (hv:RowAt s.heap v ys) (ha:A.units<cLine) (h:Q (.bool (b0 xs ys)) s):wpAny (model prog w) A (compareOp .Lt u v) Q E s:=by
 obtain⟨l,items,n,rfl,hl,hx,ix⟩:=hu;obtain⟨b,items2,n2,rfl,hb,hy,iy⟩:=hv;exact richCompare_meets_room (op:=.Lt) ⟨_,hl,rfl⟩ ⟨_,hb,rfl⟩ PySem.F.slot_list_lt PySem.F.entry_list_lt (PySem.F.args_list_lt_2 _ _) (Cd l b items items2 n n2 none none #[] #[] xs ys hx hy ix iy)
  ⟨hl,hb,show Value.bool (b0 xs ys)≠Value.notImplemented/\Q (.bool (b0 xs ys)) s from⟨(λx=>nomatch x),h⟩⟩ ha
end
def vo (h:Heap) (items:Array Value) (xs:List (List Int)):Prop:=xs.length=items.size/\∀j,j<items.size->∃v,items[j]?=some v/\RowAt h v (xs.getD j [])
theorem Dm {xs:List (List Int)} (h:i<xs.length):xs.getD i []=xs[i]:=by rw[List.getD_eq_getElem?_getD,List.getElem?_eq_getElem h];rfl
open PySem.MeetsSeq3 in
open PySem.AutoSeq1 (wpAny_loadPart') in
theorem z_ (l b:Addr) (items items2:Array Value) (n n2:Nat) (dd dd2:Option Addr) (sl sl2:Array (Option Value)) (xs ys:List (List Int)) (k:Nat) :
  ∀i:Nat,items.size-i=k->i<=items.size->i<=items2.size->Meets (Builtin.«list.__eq__.loop» ⟨[.ref l,.ref b,rawInt i,rawInt 0],[]⟩)
   (λA R s=>A.units+3<cLine/\vo s.heap items xs/\vo s.heap items2 ys/\s.heap.get? l=some { cls:=.type "list",dict:=dd,data:=.seq items n,slots:=sl }/\s.heap.get? b=some { cls:=.type "list",dict:=dd2,data:=.seq items2 n2,slots:=sl2 } /\
    R (.ok (.ret (.bool (j8 (xs.drop i) (ys.drop i))))) s):=by
 induction k with
 | zero =>
  intro i hk h1 h2 prog w A R s h;obtain⟨hp,g,d,tk,os⟩:=s;obtain⟨hA,⟨hx,ix⟩,⟨hy,iy⟩,hl,hb,h⟩:=h
  wp_walk using wpAny_loadPart' hl,wpAny_loadPart' hb
  have hi1:items[((i:Nat):Int).toNat]?=none:=by simp;omega
  have e1:xs.drop i=[]:=List.drop_eq_nil_of_le (by omega);rw[hi1]
  wp_walk using wpAny_loadPart' hl,wpAny_loadPart' hb
  show R (.ok (.ret (.bool (decide (items.size<items2.size))))) _;rw[e1]at h;by_cases c:items.size<items2.size
  ·rw[List.drop_eq_getElem_cons (by omega:i<ys.length)]at h;rw[decide_eq_true c];exact h
  ·rw[List.drop_eq_nil_of_le (by omega:ys.length<=i)]at h;rw[decide_eq_false c];exact h
 | succ k ih =>
  intro i hk h1 h2 prog w A R s h;obtain⟨hp,g,d,tk,os⟩:=s;obtain⟨hA,⟨hx,ix⟩,⟨hy,iy⟩,hl,hb,h⟩:=h
  wp_walk using wpAny_loadPart' hl,wpAny_loadPart' hb
  have hlt:i<items.size:=by omega
  obtain⟨u,hu,ru⟩:=ix i hlt;have hi1:items[((i:Nat):Int).toNat]?=some u:=by rw[Int.toNat_natCast];exact hu
  have gx:xs.drop i=xs.getD i []::xs.drop (i+1):=by rw[List.drop_eq_getElem_cons (by omega:i<xs.length),Dm (by omega:i<xs.length)]
  have hc:((i:Int)+1)=((i+1:Nat):Int):=by push_cast;rfl
  rw[hi1];rw[gx]at h;by_cases c:i<items2.size
  ·obtain⟨v,hv,rv⟩:=iy i c;have hi2:items2[((i:Nat):Int).toNat]?=some v:=by rw[Int.toNat_natCast];exact hv
   have gy:ys.drop i=ys.getD i []::ys.drop (i+1):=by rw[List.drop_eq_getElem_cons (by omega:i<ys.length),Dm (by omega:i<ys.length)]
   rw[gy]at h;rw[hi2];refine wpAny_bind (DQ ru rv ?_ prog w _ _ ?_)
   ·show A.units+1<cLine;omega
   by_cases e:xs.getD i []=ys.getD i []
   ·rw[decide_eq_true e]
    wp_walk
    rw[hc];exact⟨plainId_quiet plain_eq_loop _,codeAny_builtin entry_eq_loop (by
     rw[Around.under_plainId plain_eq_loop _];refine ih (i+1) (by omega) (by omega) (by omega) prog w A R _ ⟨hA,⟨hx,ix⟩,⟨hy,iy⟩,hl,hb,?_⟩;have q:j8 (xs.getD i []::xs.drop (i+1)) (ys.getD i []::ys.drop (i+1))=j8 (xs.drop (i+1)) (ys.drop (i+1)):=if_pos e;rw[q]at h;exact h)⟩
   ·rw[decide_eq_false e]
    wp_walk using wpAny_loadPart' hl,wpAny_loadPart' hb
    rw[hi1,hi2];have q:j8 (xs.getD i []::xs.drop (i+1)) (ys.getD i []::ys.drop (i+1))=b0 (xs.getD i []) (ys.getD i []):=if_neg e;rw[q]at h;dsimp only;refine wpAny_bind (DP ru rv ?_ ?_)
    ·show A.units+1<cLine;omega
    wp_walk
    exact h
  ·have hi2:items2[((i:Nat):Int).toNat]?=none:=by simp;omega
   rw[hi2];rw[List.drop_eq_nil_of_le (by omega:ys.length<=i)]at h
   wp_walk using wpAny_loadPart' hl,wpAny_loadPart' hb
   show R (.ok (.ret (.bool (decide (items.size<items2.size))))) _;rw[decide_eq_false (by omega)];exact h
open PySem.MeetsSeq3 in
open PySem.AutoSeq1 (wpAny_loadPart') in
theorem Ad (l b:Addr) (items items2:Array Value) (n n2:Nat) (dd dd2:Option Addr) (sl sl2:Array (Option Value)) (xs ys:List (List Int)) :
  Meets (Builtin.«list.__lt__» ⟨[.ref l,.ref b],[]⟩)
   (λA R s=>A.units+4<cLine/\vo s.heap items xs/\vo s.heap items2 ys/\s.heap.get? l=some { cls:=.type "list",dict:=dd,data:=.seq items n,slots:=sl }/\s.heap.get? b=some { cls:=.type "list",dict:=dd2,data:=.seq items2 n2,slots:=sl2 } /\
    R (.ok (.ret (.bool (j8 xs ys)))) s):=by
 intro prog w A R s h;obtain⟨hp,g,d,tk,os⟩:=s;obtain⟨hA,hx,hy,hl,hb,h⟩:=h;have f3:=PySem.AutoSeq1.sub_list_list
 wp_walk using wpAny_loadPart' hl,wpAny_loadPart' hb
 exact⟨plainId_quiet plain_eq_loop _,codeAny_builtin entry_eq_loop (by
  rw[Around.under_plainId plain_eq_loop _];exact z_ l b items items2 n n2 dd dd2 sl sl2 xs ys _ 0 rfl (Nat.zero_le _) (Nat.zero_le _) prog w A R _ ⟨by omega,hx,hy,hl,hb,h⟩)⟩
def qY (h:Heap) (v:Value) (z:List Int):Prop:=∃(l:Addr) (items:Array Value) (n:Nat) (xs:List (List Int)),v=.ref l/\h.get? l=some { cls:=.type "list",dict:=none,data:=.seq items n,slots:=#[] }/\vo h items xs/\j5 xs/\z=enc xs
section
variable {prog:Program} {w:World} {A:Around} {E:Value->Shared->Prop} {s:Shared}
theorem B3 {x y:List Int} {Q:Bool->Shared->Prop} (hu:qY s.heap u x) (hv:qY s.heap v y) (ha:A.units+6<cLine) (h:Q (b0 x y) s):wpAny (model prog w) A (oneLt' true u v) Q E s:=by
 obtain⟨l,items,n,xs,rfl,hl,hx,px,rfl⟩:=hu;obtain⟨b,items2,n2,ys,rfl,hb,hy,py,rfl⟩:=hv;rw[oneLt'_eq];simp only[if_true];refine wpAny_bind (wpAny_cRoomFor (by omega) ?_);refine wpAny_bind (wpAny_callSpecialIfBound?_slot (name:="__lt__") ⟨_,hl,rfl⟩ PySem.F.slot_list_lt (call_meets PySem.F.slot_list_lt ⟨_,hl,rfl⟩ PySem.F.entry_list_lt (PySem.F.args_list_lt_2 _ _) (Ad l b items items2 n n2 none none #[] #[] xs ys) ⟨?_,hx,hy,hl,hb,?_⟩))
 ·show A.units+4<cLine;omega
 ·rw[qw px py];exact wpAny_truthy_bool h
end
section
variable {prog:Program} {w:World} {A:Around} {E:Value->Shared->Prop} {s:Shared}
theorem yB {a:Addr} {vs:List Value} {ls:List (List Int)} {P:PySem.Fin->Shared->Prop} (ho:s.heap.get? a=some (seqObj "list" vs.toArray n)) (hr:vs.length=ls.length/\∀h':Heap,(∀b o,b≠a->s.heap.get? b=some o->h'.get? b=some o)->∀i,i<ls.length->qY h' (vs.getD i Value.none) (ls.getD i [])) (h64:vs.length<64) (ha:A.units+6<cLine)
  (h:∀p:List Nat,p.Perm (List.range ls.length)->p.map (λi=>ls.getD i [])=vF ls->P (.done (.ret .none)) { s with heap:=sortedHeap s.heap a vs (p.map λi=>vs.getD i Value.none).toArray }) :
  wpAny (model prog w) A (Builtin.«list.sort» ⟨[.ref a],[]⟩) P E s:=by
 rw[list_sort_plain];have hlt:a<s.heap.objs.size:=Heap.lt_size ho;refine wpAny_bind (listItems_at ho rfl ?_);refine wpAny_bind (listUpdate_at ho rfl ?_ (by rw[List.size_toArray,sizeLine_eq];omega) (Nat.zero_le _));obtain⟨e1,ho1⟩:∃e1,(s.heap.update a (Obj.mapSeq λ_=>#[])).get? a=some (seqObj "list" #[] e1):=⟨_,get?_update_seq ho (λ_=>#[])⟩;refine wpAny_bind (seqEpoch_at ho1 rfl ?_);refine wpAny_bind (wpAny_newTuple ?_ (by show vs.length<=_;rw[sizeLine_eq];omega));refine wpAny_bind (wpAny_newList ?_ (Nat.zero_le _));refine wpAny_holding ?_;have ho6:(((s.heap.update a (Obj.mapSeq λ_=>#[])).push (seqObj "tuple" vs.toArray 0)).push (seqObj "list" #[] 0)).get? a=some (seqObj "list" #[] e1):=by
  rw[Heap.get?_push_ne _ _ _ (by rw[size_push',Heap.size_update];exact Nat.ne_of_lt (Nat.lt_succ_of_lt hlt)),Heap.get?_push_ne _ _ _ (by rw[Heap.size_update];exact Nat.ne_of_lt hlt)];exact ho1
 show wpAny (model prog w) A _ P E { s with heap:=((s.heap.update a (Obj.mapSeq λ_=>#[])).push (seqObj "tuple" vs.toArray 0)).push (seqObj "list" #[] 0) };dsimp only;have keep:∀b o,b≠a->s.heap.get? b=some o->(((s.heap.update a (Obj.mapSeq λ_=>#[])).push (seqObj "tuple" vs.toArray 0)).push (seqObj "list" #[] 0)).get? b=some o:=λb o hb e=>by
  refine Heap.get?_push_of_some _ (Heap.get?_push_of_some _ ?_);rw[Heap.get?_update_ne _ _ _ _ hb];exact e
 have rows:∀i,i<ls.length->qY (((s.heap.update a (Obj.mapSeq λ_=>#[])).push (seqObj "tuple" vs.toArray 0)).push (seqObj "list" #[] 0)) (vs.getD i Value.none) (ls.getD i []):=hr.2 _ keep;have hl:=hr.1;by_cases h2:vs.toArray.size<2
 ·rw[if_pos h2,if_pos h2];refine wpAny_bind (wpAny_pure ?_);rw[StateT.run_pure];refine wpAny_bind (wpAny_pure ?_);dsimp only;refine wpAny_bind (seqEpoch_at ho6 rfl ?_);refine wpAny_bind (listUpdate_at ho6 rfl ?_ (hsz2:=by rw[Array.size_map];show(pairsOf vs).size<=_;rw[pairsOf_size,sizeLine_eq];omega));simp only[bne_self_eq_false,Bool.false_eq_true,if_false];refine wpAny_pure ?_;have h2:vs.length<2:=by simpa using h2
  have out:Array.map (λx=>x.2) (arrOf (SortSt.mk' general' (vs.toArray.zip vs.toArray) #[] 7 none))=((List.range ls.length).map λi=>vs.getD i Value.none).toArray:=by
   show Array.map (λx=>x.2) (vs.toArray.zip vs.toArray)=_;rw[zQ,<- hl,vN]
  have srt:(List.range ls.length).map (λi=>ls.getD i [])=vF ls:=by
   match ls,hl,h2 with
   | [],_,_=>exact(hJ (List.Perm.refl _) List.Pairwise.nil).symm
   | [x],_,_=>exact(hJ (xs:=[x]) (ys:=[x]) (List.Perm.refl _) (List.pairwise_singleton _ _)).symm
   | _::_::_,h,h'=>rw[h]at h';simp at h';omega
  have:=h (List.range ls.length) (List.Perm.refl _) srt;rw[<- out]at this;exact this
 ·rw[if_neg h2,if_neg h2];have h2:2<=vs.length:=by simpa using h2
  have mem:∀v∈vs,∃i,i<ls.length/\vs.getD i Value.none=v:=λv hv=>by
   obtain⟨i,hi,e⟩:=List.mem_iff_getElem.mp hv;exact⟨i,by omega,by rw[List.getD_eq_getElem?_getD,List.getElem?_eq_getElem hi,e];rfl⟩
  refine wpAny_bind (PySem.W.kas_kind (T:=.type "list") h2 (λv hv=>?_) rfl rfl ?_)
  ·obtain⟨i,hi,rfl⟩:=mem v hv;obtain⟨l,items,m,xs,e,hg,_⟩:=rows i hi;rw[e];exact λA Q E s' kp q=>wpAny_typeOf (T:="list") ⟨_,kp _ _ hg,rfl⟩ q
  have est:SortSt.mk' oneType' (vs.toArray.zip vs.toArray) #[] 7 none=PySem.W.kas_st oneType' (pairsOf vs) (List.toArray (List.range vs.length)):=by
   have e:=PySem.W.kas_range (pairsOf vs);rw[pairsOf_size]at e;show SortSt.mk' oneType' (pairsOf vs) #[] 7 none=SortSt.mk' oneType' ((List.toArray (List.range vs.length)).map (PySem.W.kas_item (pairsOf vs))) #[] 7 none;rw[e]
  have gs:=yz (n:=ls.length) (r:=rk ls) (by omega);have ask:=uM (prog:=prog) (w:=w) (A:=A) (κ:=oneType') (it:=pairsOf vs) (s:={ s with heap:=((s.heap.update a (Obj.mapSeq λ_=>#[])).push (seqObj "tuple" vs.toArray 0)).push (seqObj "list" #[] 0) }) (λi j C hij hC=>by
   unfold PySem.W.kas_cmp;rw[PySem.W.kas_item_eq,PySem.W.kas_item_eq,keyLt'_oneType];refine B3 (rows i hij.1) (rows j hij.2) ha ?_;rw[zn hij.1 hij.2];exact hC) gs
  rw[<- hl]at ask;have run:=PySem.W.kas_runs (E:=E) (Q:=λ_ st' s'=>∃p:Array Nat,arrOf st'=p.map (PySem.W.kas_item (pairsOf vs))/\failedOf st'=none/\s'={ s with heap:=((s.heap.update a (Obj.mapSeq λ_=>#[])).push (seqObj "tuple" vs.toArray 0)).push (seqObj "list" #[] 0) }/\PN vs.length p/\Up (rk ls) p vs.length)
   h2 h64 (λp' st' s' a1 a2 a3 a4=>⟨p',a2,a3,a4.1,a4.2⟩) ask
  rw[<- est]at run;refine wpAny_bind (wpAny_mono run ?_ λ_ _ e=>e);rintro⟨⟨⟩,st'⟩ s' ⟨p,har,hf,rfl,hpn,hup⟩;rw[hl]at hpn hup;dsimp only;have hout:(arrOf st').map (·.2)=(p.toList.map λi=>vs.getD i Value.none).toArray:=by
   apply Array.toList_inj.mp;rw[har,Array.map_map,Array.toList_map];exact List.map_congr_left λi _=>by show(PySem.W.kas_item (pairsOf vs) i).2=_;rw[PySem.W.kas_item_eq]
  have hsz:(p.toList.map λi=>vs.getD i Value.none).toArray.size=ls.length:=by rw[List.size_toArray,List.length_map,Array.length_toList,hpn.size]
  rw[hout];refine wpAny_bind (seqEpoch_at ho6 rfl ?_);refine wpAny_bind (listUpdate_at ho6 rfl ?_ (Nat.zero_le _) (Nat.le_trans (Nat.le_of_eq hsz) (by rw[sizeLine_eq];omega)));rw[hf];simp only[bne_self_eq_false,Bool.false_eq_true,if_false];refine wpAny_pure (h p.toList ?_ (DI hpn hup));have:=Array.perm_iff_toList_perm.mp hpn.pe;rwa[List.toList_toArray]at this
theorem uW {l:Addr} {vs:List Value} {ls:List (List Int)} {Q:Value->Shared->Prop} (hl:s.heap.IsList l vs.toArray) (hr:vs.length=ls.length/\∀h':Heap,(∀b o,s.heap.get? b=some o->h'.get? b=some o)->∀i,i<ls.length->qY h' (vs.getD i Value.none) (ls.getD i [])) (h64:vs.length<64) (ha:A.units+8<cLine)
  (h:∀p:List Nat,p.Perm (List.range ls.length)->p.map (λi=>ls.getD i [])=vF ls->Q (.ref (s.heap.objs.size+1)) { s with heap:=sortedAll s.heap vs (p.map λi=>vs.getD i Value.none).toArray }) :
  wpAny (model prog w) A (call (.builtin "sorted") [.ref l]) Q E s:=by
 refine Calls.call_function_entry kind_sorted plain_sorted entry_sorted (args_sorted1 _) ?_;unfold Builtin.«sorted»;refine wpAny_bind (m:=checkCount "sorted" 1 1 _) (wpAny_pure ?_);refine wpAny_bind (collect_list hl ?_ (by rw[sizeLine_eq];omega));refine wpAny_bind (wpAny_newList ?_ (by rw[sizeLine_eq];omega));have hsz:((s.heap.push (seqObj "list" #[] 0)).update s.heap.objs.size (Obj.mapSeq (· ++ vs.toArray))).objs.size=s.heap.objs.size+1:=by
  rw[Heap.size_update,size_push']
 have hoL:(((s.heap.push (seqObj "list" #[] 0)).update s.heap.objs.size (Obj.mapSeq (· ++ vs.toArray))).push (seqObj "list" vs.toArray 0)).get? (s.heap.objs.size+1)=some (seqObj "list" vs.toArray 0):=by
  rw[<- hsz];exact Heap.get?_push_size _ rfl
 have keep:∀b o,s.heap.get? b=some o->(((s.heap.push (seqObj "list" #[] 0)).update s.heap.objs.size (Obj.mapSeq (· ++ vs.toArray))).push (seqObj "list" vs.toArray 0)).get? b=some o:=λb o q=>by
  have hlt:b<s.heap.objs.size:=Heap.lt_size q;rw[Heap.get?_push_ne _ _ _ (by rw[hsz];exact Nat.ne_of_lt (Nat.lt_succ_of_lt hlt)),Heap.get?_update_ne _ _ _ _ (Nat.ne_of_lt hlt),Heap.get?_push_ne _ _ _ (Nat.ne_of_lt hlt)];exact q
 show wpAny _ _ _ _ _ { s with heap:=((s.heap.push (seqObj "list" #[] 0)).update s.heap.objs.size (Obj.mapSeq (· ++ vs.toArray))).push (seqObj "list" vs.toArray 0) };rw[hsz];refine wpAny_bind (wpAny_holding (wpAny_call_entry slot_list_sort ⟨_,hoL,rfl⟩ entry_list_sort (yB (ls:=ls) hoL ⟨hr.1,λh' kp=>hr.2 h' λb o q=>kp b o (λz=>?_) (keep b o q)⟩ h64 ?_ λp a1 a2=>⟨_,rfl,?_⟩) (args_list_sort _)))
 ·have e3:=Heap.lt_size q;rw[z]at e3;exact absurd e3 (Nat.not_lt_of_ge (Nat.le_succ _))
 ·exact ha
 ·exact wpAny_pure ⟨_,rfl,h p a1 a2⟩
end
def mB:List D->Option (List (List (List Int)))
 | []=>some []
 | .lst xs::r=>match kK xs with
  | some l=>(mB r).map (l :: ·)
  | none=>none
 | _=>none
def EZ (x:List (List Int)):D:=.lst (x.map rwI)
def qB:D->R (List D)
 | .lst xs=>match mB xs with
  | some fs=>if fs.length<64/\fs.all zF=true then .val ((pC fs).map EZ)else .bad
  | none=>.bad
 | _=>.bad
def oK (F:Rho->R D):Rho->R (List D):=λU=>(F U).bind qB
variable {f:List (List Int)}
section
variable {C:Addr} {X:Cx}
def FamH (H:Hp) (v:V) (f:List (List Int)):Prop:=∃(b:Addr) (bs:List V),v=.ref b/\H b=some (.lst bs)/\bs.length=f.length/\∀j,j<f.length->∃c,bs.getD j .non=.ref c/\H c=some (.lst ((f.getD j []).map V.int))
def FL:List V->Hp->VK->Prop:=λvs H Q=>∃(l:Addr) (as:List V) (fs:List (List (List Int))),vs=[.ref l]/\H l=some (.lst as)/\as.length=fs.length/\(∀i,i<fs.length->FamH H (as.getD i .non) (fs.getD i []))/\fs.length<64/\fs.all zF=true /\
 ∀(p:List Nat) (l':Addr),p.Perm (List.range fs.length)->p.map (λi=>fs.getD i [])=pC fs->H l'=none->Q (.ref l') (upd H l' (.lst (p.map λi=>as.getD i .non)))
theorem EY {pins:List (Addr×Obj)} {O:St} {H:Hp} {s:Shared} (I:Inv X pins O H s) {v:V} (rv:RelV v u) (hp:j5 f) (h:FamH H v f) {h':Heap} (kp:∀b o,s.heap.get? b=some o->h'.get? b=some o):qY h' u (enc f):=by
 obtain⟨b,bs,rfl,hb,hl,hj⟩:=h;obtain rfl:=(show u=Value.ref b from rv);obtain⟨z,its,n,r,hlen,e⟩:=I.lstM hb;refine⟨b,its.toArray,n,f,rfl,kp _ _ e,⟨by rw[List.size_toArray];omega,λj hj'=>?_⟩,hp,rfl⟩;have hj':j<its.length:=by simpa using hj'
 obtain⟨c,g1,g2⟩:=hj j (by omega);have q:bs[j]?=some (.ref c):=by rw[<- g1,List.getD_eq_getElem?_getD,List.getElem?_eq_getElem (by omega:j<bs.length)];rfl
 obtain⟨t,g3,g4⟩:=r.get q;obtain rfl:=(show t=Value.ref c from g4);exact⟨.ref c,by rw[List.getElem?_toArray];exact g3,(BF I g2).kept kp⟩
theorem tw (hu:X.A.units+9<cLine):jK X (.builtin "sorted") FL:=by
 intro pins s O H xs us Q I rv h;obtain⟨l,as,fs,rfl,e,hl,hrow,h64,hpos,q⟩:=h;obtain⟨u,rfl,ru⟩:=mo rv;obtain rfl:=(show u=Value.ref l from ru);obtain⟨z,its,m,r,hlen,eo⟩:=I.lstM e;have hpos:∀f∈fs,j5 f:=λf hf=>posF_iff.mp (List.all_eq_true.mp hpos f hf);have gm:∀i,i<fs.length->fs.getD i []∈fs:=λi hi=>by
  rw[List.getD_eq_getElem?_getD,List.getElem?_eq_getElem hi];exact List.getElem_mem hi
 have ge:∀i,i<fs.length->(fs.map enc).getD i []=enc (fs.getD i []):=λi hi=>by
  rw[List.getD_eq_getElem?_getD,List.getD_eq_getElem?_getD,List.getElem?_map,List.getElem?_eq_getElem hi];rfl
 refine uW (s:=s) (l:=l) (vs:=its) (ls:=fs.map enc) ⟨_,eo,rfl,m,rfl⟩ ⟨by rw[List.length_map];omega,λh' kp i hi=>?_⟩ (by omega) (by omega) λp hp hsrt=>?_
 ·have hi:i<fs.length:=by simpa using hi
  rw[ge i hi];have q:as[i]?=some (as.getD i .non):=by rw[List.getD_eq_getElem?_getD,List.getElem?_eq_getElem (by omega:i<as.length)];rfl
  obtain⟨t,g3,g4⟩:=r.get q;have:its.getD i Value.none=t:=by rw[List.getD_eq_getElem?_getD,g3];rfl
  rw[this];exact EY I g4 (hpos _ (gm i hi)) (hrow i hi) kp
 rw[List.length_map]at hp;obtain⟨c,hc⟩:=vG (h:=s.heap) (vs:=its) (out:=(p.map λi=>its.getD i Value.none).toArray);have inp:∀i∈p,i<fs.length:=λi hi=>by
  have:=hp.mem_iff.mp hi;rwa[List.mem_range]at this
 have rr:=Vals.of_getD r λi hi=>by rw[hl];exact inp i hi
 have pl:p.length=fs.length:=by rw[hp.length_eq,List.length_range]
 have hs2:p.map (λi=>fs.getD i [])=pC fs:=by
  refine oX (λx hx=>?_) (λy hy=>hpos y ((jL fs).mem_iff.mp hy)) ?_
  ·obtain⟨i,hi,rfl⟩:=List.mem_map.mp hx;exact hpos _ (gm i (inp i hi))
  ·rw[<- nI,<- hsrt,List.map_map];exact List.map_congr_left λi hi=>(ge i (inp i hi)).symm
 exact⟨.ref (s.heap.objs.size+1),upd H (s.heap.objs.size+1) (.lst (p.map λi=>as.getD i .non)),I.laid (t':=s.toks) (λb o e=>tP b o e) (Nat.le_succ _) (show ObjOk X.prog X.w _ _ _ (.lst _)from⟨by rw[List.length_map,sizeLine_eq];omega,_,c,rr,hc⟩),rfl,q p _ hp hs2 (I.hok.fresh (Nat.le_succ _))⟩
theorem uY {K:Frag} {M:Hp}:∀{xs:List D} {fs:List (List (List Int))} {vs:List V},mB xs=some fs->HasL K C M vs xs->vs.length=fs.length/\∀i,i<fs.length->FamH M (vs.getD i .non) (fs.getD i [])
 | [],fs,vs,e,h=>by cases e;cases h;exact⟨rfl,λi hi=>by cases hi⟩
 | x::r,fs,vs,e,h=>by
  cases x with
  | lst ys =>
   unfold mB at e;cases z:kK ys with
   | none=>rw[z]at e;cases e
   | some l =>
    rw[z]at e;dsimp only at e;cases z2:mB r with
    | none=>rw[z2]at e;cases e
    | some l' =>
     rw[z2]at e;cases e;cases h with
     | cons a b =>
      cases a with
      | lst q hh =>
       obtain⟨i1,i2⟩:=uY z2 b;obtain⟨j1,j2⟩:=t6 z hh;refine⟨by rw[List.length_cons,List.length_cons,i1],λi hi=>?_⟩;cases i with
       | zero=>exact⟨_,_,rfl,q,j1,j2⟩
       | succ i=>exact i2 i (by simpa using hi)
  | _=>cases e
theorem AH {K:Frag} {M:Hp} {v:V} (h:FamH M v f):Has K C M v (EZ f):=by
 obtain⟨b,bs,rfl,hb,hl,hj⟩:=h;refine .lst hb ?_;have:=wJ (C:=C) (K:=K) (M:=M) (ls:=f) (vs:=bs) hj (p:=List.range f.length) λi hi=>List.mem_range.mp hi;have e1:(List.range f.length).map (λi=>f.getD i [])=f:=by
  apply List.ext_getElem
  ·simp
  ·intro i h1 h2;simp[h2]
 have e2:(List.range f.length).map (λi=>bs.getD i V.non)=bs:=by
  apply List.ext_getElem
  ·simp[hl]
  ·intro i h1 h2;simp[h2]
 rw[e1,e2]at this;exact this
theorem tO {K:Frag} {M:Hp} {fs:List (List (List Int))} {vs:List V} (h:∀i,i<fs.length->FamH M (vs.getD i .non) (fs.getD i [])):∀{p:List Nat},(∀i∈p,i<fs.length)->HasL K C M (p.map λi=>vs.getD i .non) ((p.map λi=>fs.getD i []).map EZ)
 | [],_=>.nil
 | i::p,hp=>by
  rw[List.map_cons,List.map_cons,List.map_cons];exact .cons (AH (h i (hp i (by simp)))) (tO h λj hj=>hp j (by simp[hj]))
theorem FamH.mono {M H:Hp} {v:V} (h:FamH M v f) (s:Same M H):FamH H v f:=by
 obtain⟨b,bs,e,hb,hl,hj⟩:=h;exact⟨b,bs,e,s _ _ hb,hl,λj hj'=>by obtain⟨c,g1,g2⟩:=hj j hj';exact⟨c,g1,s _ _ g2⟩⟩
theorem oJ {e : Expr} {pos : Pos} (hu : X.A.units + 9 < cLine) (hg : Gl X "sorted") (hm : X.mg "sorted" = none) (hst : starEach [e] X.env = (false, eval e X.env) :: starEach [] X.env) (he : EB C X e F) :
    FD C X (.Call (.Name "sorted" p) [e] [] pos) (oK F) :=
  aR (gd (tw hu) hg hm boot_sorted (ci he dD hst) (he := hst) (hpl := aq)) fun O H Q yy5 => by
   obtain ⟨U, r0, q⟩ := yy5
   exact ⟨U, r0, aW (P := fun z H => pF (X := X) (jJ C X U O) z O H Q) (fun _ h => h) (fun h => h) q fun x v H1 s1 h1 q1 => by
    cases x with
    | lst xs =>
      obtain ⟨a, vs, rfl, e1, h2⟩ := h1.lst msk_sub
      unfold qB at q1
      dsimp only at q1
      cases z : mB xs with
      | none => rw [z] at q1; exact q1.elim
      | some fs =>
        rw [z] at q1
        dsimp only at q1
        by_cases c : fs.length < 64 /\ fs.all zF = true
        · rw [if_pos c] at q1
          obtain ⟨i1, i2⟩ := uY z h2
          refine ⟨a, vs, fs, rfl, e1, i1, fun i hi => (i2 i hi).mono msk_sub, c.1, c.2, fun p l hp hs hl => ?_⟩
          refine q1 l _ H1 s1 hl ?_
          rw [<- hs]
          exact tO i2 fun i hi => List.mem_range.mp (hp.mem_iff.mp hi)
        · rw [if_neg c] at q1; exact q1.elim
    | _ => exact q1.elim⟩
end
abbrev sh (d:D):Option Slt:=some (.shr d)
end DL
namespace Ar
abbrev Arr:=Nat×Nat×List Nat
def Ok (sz:List Nat) (x:Arr):Prop:=∃n m,sz[x.1]?=some n/\sz[x.2.1]?=some m/\x.2.2.length=n/\∀y∈x.2.2,y<m
def comp (x y:Arr):Arr:=(x.1,y.2.1,x.2.2.map λi=>y.2.2.getD i 0)
def idm (sz:List Nat) (b:Nat):Arr:=(b,b,List.range (sz.getD b 0))
def funs:Nat->Nat->List (List Nat)
 | 0,_=>[[]]
 | n+1,m=>(List.range m).flatMap λy=>(funs n m).map λl=>y::l
theorem uF:∀{l:List Nat} {m:Nat},(∀y∈l,y<m)->l∈funs l.length m
 | [],m,_=>by simp[funs]
 | y::l,m,h=>by
  have h1:y<m:=h y (by simp);have h2:l∈funs l.length m:=uF λz hz=>h z (by simp[hz]);show y::l∈funs (l.length+1) m;simp only[funs,List.mem_flatMap,List.mem_map,List.mem_range];exact⟨y,h1,l,h2,rfl⟩
def Du (sz:List Nat):List Arr:=(List.range sz.length).flatMap λa=>(List.range sz.length).flatMap λb=>(funs (sz.getD a 0) (sz.getD b 0)).map λf=>(a,b,f)
theorem uE {sz:List Nat} {x:Arr} (h:Ok sz x):x∈Du sz:=by
 obtain⟨a,b,f⟩:=x;obtain⟨n,m,h1,h2,h3,h4⟩:=h;have ha:a<sz.length:=(List.getElem?_eq_some_iff.mp h1).1;have hb:b<sz.length:=(List.getElem?_eq_some_iff.mp h2).1;simp only[Du,List.mem_flatMap,List.mem_map,List.mem_range];refine⟨a,ha,b,hb,f,?_,rfl⟩;have e1:sz.getD a 0=n:=by simp only[List.getD,h1];rfl
 have e2:sz.getD b 0=m:=by simp only[List.getD,h2];rfl
 rw[e1,e2,<- h3];exact uF h4
theorem gT {Y:Type} [DecidableEq Y]:∀{l u:List Y},l.Nodup->(∀x∈l,x∈u)->l.length<=u.length
 | [],_,_,_=>by simp
 | x::l,u,nd,h=>by
  obtain⟨h1,h2⟩:=List.nodup_cons.mp nd;have hx:x∈u:=h x (by simp);have hl:l.length<=(u.erase x).length:=gT h2 λy hy=>by
   have:y≠x:=λe=>h1 (e▸hy);exact(List.mem_erase_of_ne this).mpr (h y (by simp[hy]))
  rw[List.length_erase_of_mem hx]at hl;have:0<u.length:=List.length_pos_of_mem hx;simp only[List.length_cons];omega
def szs:List (List Nat):=[[1],[1,1],[1,1,1],[1,1,1,1],[1,2],[2,1],[2,2],[0,2],[2],[3],[1,1,2],[0,1,2],[1,2,2],[2,1,0]]
theorem tM:∀sz∈szs,(Du sz).length<=27:=by decide +kernel
theorem gE:∀sz∈szs,1<=sz.length/\sz.length<=4/\∀n∈sz,n<=3:=by decide +kernel
def qg (kn:List Arr) (x:Arr):List Arr:=if x∈kn then kn else kn++[x]
def jf (kn:List Arr) (f s:Arr):List Arr:=if f.2.1=s.1 then qg kn (comp f s)else kn
def lJ (k:Arr) (kn:List Arr) (o:Arr):List Arr:=jf (jf kn k o) o k
def rS (k:Arr) (kn snap:List Arr):List Arr:=snap.foldl (lJ k) kn
theorem vn (kn:List Arr) (x:Arr):kn <+: qg kn x:=by
 unfold qg;split
 ·exact List.prefix_refl _
 ·exact List.prefix_append _ _
theorem Bl (kn:List Arr) (x:Arr):x∈qg kn x:=by
 unfold qg;split
 ·assumption
 ·simp
theorem lO (kn:List Arr) (f s:Arr):kn <+: jf kn f s:=by
 unfold jf;split
 ·exact vn _ _
 ·exact List.prefix_refl _
theorem tH (k:Arr) (kn:List Arr) (o:Arr):kn <+: lJ k kn o:=(lO kn k o).trans (lO _ o k)
theorem jk (k:Arr):∀(snap kn:List Arr),kn <+: rS k kn snap
 | [],kn=>List.prefix_refl _
 | o::r,kn=>(tH k kn o).trans (jk k r _)
structure Kn (sz:List Nat) (kn:List Arr):Prop where
 nd:kn.Nodup
 ok:∀x∈kn,Ok sz x
theorem CQ {sz:List Nat} {x y:Arr} (hx:Ok sz x) (hy:Ok sz y) (e:x.2.1=y.1):Ok sz (comp x y):=by
 obtain⟨n,m,h1,h2,h3,h4⟩:=hx;obtain⟨n',m',g1,g2,g3,g4⟩:=hy;refine⟨n,m',h1,g2,by simp[comp,h3],λz hz=>?_⟩;simp only[comp,List.mem_map]at hz;obtain⟨i,hi,rfl⟩:=hz;have hm:m=n':=by rw[e]at h2;rw[h2]at g1;exact Option.some.inj g1
 have:i<y.2.2.length:=by rw[g3,<- hm];exact h4 i hi
 have e3:y.2.2.getD i 0=y.2.2[i]:=by simp[List.getD,List.getElem?_eq_getElem this]
 rw[e3];exact g4 _ (List.getElem_mem this)
theorem xP {sz kn x} (h:Kn sz kn) (hx:Ok sz x):Kn sz (qg kn x):=by
 unfold qg;split
 ·exact h
 ·rename_i hn;refine⟨?_,λy hy=>?_⟩
  ·rw[List.nodup_append];refine⟨h.nd,by simp,λa ha b hb=>?_⟩;simp at hb;subst hb;exact λe=>hn (e▸ha)
  ·rcases List.mem_append.mp hy with q|q
   ·exact h.ok y q
   ·simp at q;subst q;exact hx
theorem nG {sz kn f s} (h:Kn sz kn) (hf:Ok sz f) (hs:Ok sz s):Kn sz (jf kn f s):=by
 unfold jf;split
 ·exact xP h (CQ hf hs ‹_›)
 ·exact h
theorem wF {sz k kn o} (h:Kn sz kn) (hk:Ok sz k) (ho:Ok sz o):Kn sz (lJ k kn o):=nG (nG h hk ho) ho hk
theorem w6 {sz k} (hk:Ok sz k):∀{snap kn:List Arr},Kn sz kn->(∀o∈snap,Ok sz o)->Kn sz (rS k kn snap)
 | [],kn,h,_=>h
 | o::r,kn,h,hs=>w6 hk (snap:=r) (wF h hk (hs o (by simp))) λq hq=>hs q (by simp[hq])
theorem ql {kn f s} (e:f.2.1=s.1):comp f s∈jf kn f s:=by
 unfold jf;rw[if_pos e];exact Bl _ _
theorem y7 {k kn o}:(k.2.1=o.1->comp k o∈lJ k kn o)/\(o.2.1=k.1->comp o k∈lJ k kn o) :=
 ⟨λe=>(lO _ o k).subset (ql e),λe=>ql e⟩
theorem nQ {k}:∀{snap kn:List Arr} {o:Arr},o∈snap->(k.2.1=o.1->comp k o∈rS k kn snap)/\(o.2.1=k.1->comp o k∈rS k kn snap)
 | q::r,kn,o,h=>by
  rcases List.mem_cons.mp h with e|h
  ·subst e;have t:=y7 (k:=k) (kn:=kn) (o:=o);exact⟨λe=>(jk k r _).subset (t.1 e),λe=>(jk k r _).subset (t.2 e)⟩
  ·exact nQ (snap:=r) (kn:=lJ k kn q) h
def Cl (kn:List Arr) (n:Nat):Prop:=∀i j x y,i<n->j<n->kn[i]?=some x->kn[j]?=some y->x.2.1=y.1->comp x y∈kn
theorem wY {Y:Type} {l l':List Y} (h:l <+: l') {i:Nat} {x:Y} (e:l[i]?=some x):l'[i]?=some x:=by
 obtain⟨t,rfl⟩:=h;rw[List.getElem?_append_left (List.getElem?_eq_some_iff.mp e).1];exact e
theorem BV {kn:List Arr} {n:Nat} {k:Arr} (h:Cl kn n) (hk:kn[n]?=some k):Cl (rS k kn kn) (n+1):=by
 have pre:=jk k kn kn;have hn:n<kn.length:=(List.getElem?_eq_some_iff.mp hk).1;have back:∀{i x},i<n+1->(rS k kn kn)[i]?=some x->kn[i]?=some x:=λ{i x} hi e=>by
  have hl:i<kn.length:=by omega
  have:kn[i]?=some kn[i]:=by simp[hl]
  rw[wY pre this]at e;rw[this];exact e
 intro i j x y hi hj hx hy e;have hx':=back hi hx;have hy':=back hj hy;by_cases ei:i=n
 ·subst ei;rw[hk]at hx';cases hx';exact(nQ (List.mem_of_getElem? hy')).1 e
 ·by_cases ej:j=n
  ·subst ej;rw[hk]at hy';cases hy';exact(nQ (List.mem_of_getElem? hx')).2 e
  ·exact pre.subset (h i j x y (by omega) (by omega) hx' hy' e)
theorem Fh {kn:List Arr} (h:Cl kn kn.length):∀x∈kn,∀y∈kn,x.2.1=y.1->comp x y∈kn:=by
 intro x hx y hy e;obtain⟨i,hi,rfl⟩:=List.mem_iff_getElem.mp hx;obtain⟨j,hj,rfl⟩:=List.mem_iff_getElem.mp hy;exact h i j _ _ hi hj (by simp[hi]) (by simp[hj]) e
structure Good (sz:List Nat) (kn:List Arr):Prop where
 szm:sz∈szs
 nd:kn.Nodup
 ok:∀x∈kn,Ok sz x
 rest:∀b,b<sz.length->idm sz b∈kn
 cl:∀x∈kn,∀y∈kn,x.2.1=y.1->comp x y∈kn
theorem Good.few {sz kn} (g:Good sz kn):kn.length<=27 :=
 Nat.le_trans (gT g.nd λx hx=>uE (g.ok x hx)) (tM sz g.szm)
theorem Good.perm {sz kn kn'} (g:Good sz kn) (p:kn'.Perm kn):Good sz kn' :=
 ⟨g.szm,p.nodup_iff.mpr g.nd,λx hx=>g.ok x (p.mem_iff.mp hx),λb hb=>p.mem_iff.mpr (g.rest b hb),λx hx y hy e=>p.mem_iff.mpr (g.cl x (p.mem_iff.mp hx) y (p.mem_iff.mp hy) e)⟩
end Ar
namespace Ar
theorem ar {Y:Type} {l:List Y} {i:Nat} {d:Y} (h:i<l.length):l.getD i d=l[i]:=by
 rw[List.getD_eq_getElem?_getD,List.getElem?_eq_getElem h];rfl
structure aS (en:List (Nat×Nat)) (re:List Nat) (tb:List (List Int)):Prop where
 nb1:1<=re.length
 nb6:re.length<=6
 na1:1<=en.length
 na40:en.length<=40
 eb:∀i,i<en.length->(en.getD i (0,0)).1<re.length/\(en.getD i (0,0)).2<re.length
 rs:∀b,b<re.length->re.getD b 0<en.length/\en.getD (re.getD b 0) (0,0)=(b,b)
 tl:tb.length=en.length
 rl:∀i,i<en.length->(tb.getD i []).length=en.length
 tp:∀i j,i<en.length->j<en.length->(en.getD i (0,0)).2=(en.getD j (0,0)).1 ->
  ∃k,k<en.length/\(tb.getD i []).getD j (-1)=(k:Int)/\en.getD k (0,0)=((en.getD i (0,0)).1,(en.getD j (0,0)).2)
 tn:∀i j,i<en.length->j<en.length->(en.getD i (0,0)).2≠(en.getD j (0,0)).1->(tb.getD i []).getD j (-1)=-1
 ul:∀i,i<en.length->(tb.getD (re.getD (en.getD i (0,0)).1 0) []).getD i (-1)=(i:Int)
 ur:∀i,i<en.length->(tb.getD i []).getD (re.getD (en.getD i (0,0)).2 0) (-1)=(i:Int)
 as:∀i j k x y:Nat,i<en.length->j<en.length->k<en.length->(tb.getD i []).getD j (-1)=(x:Int)->(tb.getD j []).getD k (-1)=(y:Int) ->
  (tb.getD x []).getD k (-1)=(tb.getD i []).getD y (-1)
def aH (kn:List Arr):List (Nat×Nat):=kn.map λx=>(x.1,x.2.1)
def aL (sz:List Nat) (kn:List Arr):List Nat:=(List.range sz.length).map λb=>kn.idxOf (idm sz b)
def mk (kn:List Arr) (x y:Arr):Int:=if x.2.1=y.1 then(kn.idxOf (comp x y):Int)else -1
def bO (kn:List Arr):List (List Int):=kn.map λx=>kn.map λy=>mk kn x y
theorem wy {sz:List Nat} {x y z:Arr} (hx:Ok sz x) (hy:Ok sz y) (hz:Ok sz z) (e:x.2.1=y.1) (e':y.2.1=z.1):comp (comp x y) z=comp x (comp y z):=by
 obtain⟨n,m,h1,h2,h3,h4⟩:=hx;obtain⟨n',m',g1,g2,g3,g4⟩:=hy;have hm:m=n':=by rw[e]at h2;rw[h2]at g1;exact Option.some.inj g1
 simp only[comp,List.map_map,Prod.mk.injEq,true_and];refine List.map_congr_left λi hi=>?_;have hl:i<y.2.2.length:=by rw[g3,<- hm];exact h4 i hi
 simp only[Function.comp,List.getD_eq_getElem?_getD,List.getElem?_map];rw[List.getElem?_eq_getElem hl];simp
theorem oq (l:List Nat):(List.range l.length).map (λi=>l.getD i 0)=l:=by
 apply List.ext_getElem
 ·simp
 ·intro i h1 h2;simp only[List.getElem_map,List.getElem_range];exact ar h2
theorem A7 {sz:List Nat} {x:Arr} (hx:Ok sz x):comp (idm sz x.1) x=x:=by
 obtain⟨n,m,h1,h2,h3,h4⟩:=hx;have e:sz.getD x.1 0=x.2.2.length:=by rw[List.getD_eq_getElem?_getD,h1,h3];rfl
 simp only[comp,idm,e,oq]
theorem A6 {sz:List Nat} {x:Arr} (hx:Ok sz x):comp x (idm sz x.2.1)=x:=by
 obtain⟨n,m,h1,h2,h3,h4⟩:=hx;have e:sz.getD x.2.1 0=m:=by rw[List.getD_eq_getElem?_getD,h2];rfl
 have:(x.2.2.map λi=>(List.range m).getD i 0)=x.2.2:=by
  conv=>rhs;rw[<- List.map_id x.2.2]
  refine List.map_congr_left λi hi=>?_;have:=h4 i hi;rw[ar (by simpa using this)];simp
 simp only[comp,idm,e,this]
section
variable {sz:List Nat} {kn:List Arr}
theorem cP:(aH kn).length=kn.length:=by simp[aH]
theorem ji:(aL sz kn).length=sz.length:=by simp[aL]
theorem ib {i:Nat} (h:i<kn.length):(aH kn).getD i (0,0)=(kn[i].1,kn[i].2.1):=by
 rw[ar (by rw[cP];exact h)];simp[aH]
theorem y9 {i:Nat} (h:i<kn.length):(bO kn).getD i []=kn.map λy=>mk kn kn[i] y:=by
 rw[ar (by simp[bO];exact h)];simp[bO]
theorem kD {i j:Nat} (h:i<kn.length) (h':j<kn.length):((bO kn).getD i []).getD j (-1)=mk kn kn[i] kn[j]:=by
 rw[y9 h,ar (by simpa using h')];simp
theorem wR {b:Nat} (h:b<sz.length):(aL sz kn).getD b 0=kn.idxOf (idm sz b):=by
 rw[ar (by rw[ji];exact h)];simp[aL]
theorem ue {x:Arr} (h:Ok sz x):x.1<sz.length/\x.2.1<sz.length:=by
 obtain⟨n,m,h1,h2,_⟩:=h;exact⟨(List.getElem?_eq_some_iff.mp h1).1,(List.getElem?_eq_some_iff.mp h2).1⟩
theorem jq {x:Arr} (h:x∈kn):∃hl:kn.idxOf x<kn.length,kn[kn.idxOf x]=x :=
 ⟨List.idxOf_lt_length_of_mem h,List.getElem_idxOf _⟩
theorem vX {x y:Arr} {k:Nat} (h:mk kn x y=(k:Int)):x.2.1=y.1/\k=kn.idxOf (comp x y):=by
 unfold mk at h;split at h
 ·exact⟨‹_›,by omega⟩
 ·omega
theorem sE (g:Good sz kn):aS (aH kn) (aL sz kn) (bO kn):=by
 have few:=g.few;obtain⟨s1,s4,_⟩:=gE sz g.szm;have okat:∀{i} (h:i<kn.length),Ok sz kn[i]:=λh=>g.ok _ (List.getElem_mem h);have n1:1<=kn.length:=List.length_pos_of_mem (g.rest 0 (by omega));have idn:∀{i} (h:i<kn.length),kn.idxOf kn[i]=i:=λ{i} h=>g.nd.idxOf_getElem i h;refine⟨by rw[ji];exact s1,by rw[ji];omega,by rw[cP];exact n1,by rw[cP];omega,?_,?_,?_,?_,?_,?_,?_,?_,?_⟩
 ·intro i h;rw[cP]at h;rw[ib h,ji];exact ue (okat h)
 ·intro b h;rw[ji]at h;obtain⟨hl,e⟩:=jq (g.rest b h);rw[wR h,cP,ib hl,e];exact⟨hl,rfl⟩
 ·simp[bO,cP]
 ·intro i h;rw[cP]at h;rw[y9 h,cP];simp
 ·intro i j hi hj e;rw[cP]at hi hj;rw[ib hi,ib hj]at e;obtain⟨hl,ek⟩:=jq (g.cl _ (List.getElem_mem hi) _ (List.getElem_mem hj) e);refine⟨kn.idxOf (comp kn[i] kn[j]),by rw[cP];exact hl,?_,?_⟩
  ·rw[kD hi hj,mk,if_pos e]
  ·rw[ib hl,ek,ib hi,ib hj];rfl
 ·intro i j hi hj e;rw[cP]at hi hj;rw[ib hi,ib hj]at e;rw[kD hi hj,mk,if_neg e]
 ·intro i h;rw[cP]at h;have o:=okat h;obtain⟨hl,e⟩:=jq (g.rest _ (ue o).1);rw[ib h,wR (ue o).1,kD hl h,e,mk,if_pos (show(idm sz kn[i].1).2.1=kn[i].1 from rfl),A7 o,idn h]
 ·intro i h;rw[cP]at h;have o:=okat h;obtain⟨hl,e⟩:=jq (g.rest _ (ue o).2);rw[ib h,wR (ue o).2,kD h hl,e,mk,if_pos (show kn[i].2.1=(idm sz kn[i].2.1).1 from rfl),A6 o,idn h]
 ·intro i j k x y hi hj hk hx hy;rw[cP]at hi hj hk;rw[kD hi hj]at hx;rw[kD hj hk]at hy;obtain⟨e1,rfl⟩:=vX hx;obtain⟨e2,rfl⟩:=vX hy;obtain⟨l1,q1⟩:=jq (g.cl _ (List.getElem_mem hi) _ (List.getElem_mem hj) e1);obtain⟨l2,q2⟩:=jq (g.cl _ (List.getElem_mem hj) _ (List.getElem_mem hk) e2);rw[kD l1 hk,kD hi l2,q1,q2];have a1:(comp kn[i] kn[j]).2.1=kn[k].1:=e2;have a2:kn[i].2.1=(comp kn[j] kn[k]).1:=e1;rw[mk,mk,if_pos a1,if_pos a2,wy (okat hi) (okat hj) (okat hk) e1 e2]
end
end Ar
namespace Ar
section
variable {en:List (Nat×Nat)} {re:List Nat} {tb:List (List Int)}
end
end Ar
namespace DL
open L2
section
variable {Y β:Type}
@[simp] theorem ac (a:Y) (f:Y->R β):(R.val a).bind f=f a:=Eq.trans rfl rfl
@[simp] theorem rX (a:Y):noE (R.val a)=.val a:=Eq.trans rfl rfl
@[simp] theorem Gd (a:D):noex (R.val a)=.val a:=Eq.trans rfl rfl
end
variable {i j:Int}
section
variable (U:Rho)
@[simp] theorem aK (a b:Rho->R Out):sq a b U=(a U).bind λo=>match o with
 | .nx U'=>b U'
 | o=>.val o:=Eq.trans rfl rfl
@[simp] theorem jl:nxt U=.val (.nx U):=Eq.trans rfl rfl
@[simp] theorem eD (i:Nat) (e:Rho->R D):asg i e U=(e U).bind λd=>.val (.nx (U.set i (some (.shr d)))):=Eq.trans rfl rfl
@[simp] theorem Ek (i:Nat) (e:Rho->R (List D)):own i e U=(e U).bind λd=>.val (.nx (U.set i (some (.own d)))):=Eq.trans rfl rfl
@[simp] theorem bT (e:Rho->R D):ret e U=(e U).bind λd=>.val (.rt d):=Eq.trans rfl rfl
@[simp] theorem Ff (e:Rho->R D):drp e U=(e U).bind λ_=>.val (.nx U):=Eq.trans rfl rfl
@[simp] theorem bL (t:Rho->R Bool) (a b:Rho->R Out):DL.iff t a b U=(t U).bind λc=>if c=true then a U else b U:=Eq.trans rfl rfl
@[simp] theorem eN (F:Rho->R D):tst F U=(F U).bind asB:=Eq.trans rfl rfl
@[simp] theorem Fj (b:Bool):asB (.bl b)=.val b:=Eq.trans rfl rfl
@[simp] theorem GQ (a b:Rho->R Bool):yL a b U=(a U).bind λx=>if x=true then b U else .val false:=Eq.trans rfl rfl
@[simp] theorem vT (a b:Rho->R Bool):orB a b U=(a U).bind λx=>if x=true then .val true else b U:=Eq.trans rfl rfl
@[simp] theorem jT (a:Rho->R Bool):dP a U=(a U).bind λx=>.val (!x):=Eq.trans rfl rfl
@[simp] theorem Fw (i:Nat):vr i U=match U[i]? with
 | some (some (.shr d))=>.val d
 | _=>.bad:=Eq.trans rfl rfl
@[simp] theorem Fx (i:Nat):vb i U=match U[i]? with
 | some (some (.shr d))=>.val d
 | some (some (.own xs))=>.val (.lst xs)
 | some (some (.tre (.l .s) (.lst xs)))=>.val (.lst xs)
 | _=>.bad:=Eq.trans rfl rfl
@[simp] theorem qx (d:D):kd d U=.val d:=Eq.trans rfl rfl
@[simp] theorem bN (f:D->D->R D) (a b:Rho->R D):bin f a b U=(a U).bind λx=>(b U).bind λy=>f x y:=Eq.trans rfl rfl
@[simp] theorem gS (f:D->R D) (a:Rho->R D):una f a U=(a U).bind f:=Eq.trans rfl rfl
@[simp] theorem qS:aN U=.val []:=Eq.trans rfl rfl
@[simp] theorem cF (a:Rho->R D) (r:Rho->R (List D)):aC a r U=(a U).bind λx=>(r U).bind λxs=>.val (x::xs):=Eq.trans rfl rfl
@[simp] theorem lv (a:Rho->R (List D)):eT a U=(a U).bind mkT:=Eq.trans rfl rfl
@[simp] theorem GE (a:Rho->R (List D)):eL a U=(a U).bind mkL:=Eq.trans rfl rfl
@[simp] theorem HF (a b:D):mkT [a,b]=.val (.tup [a,b]):=Eq.trans rfl rfl
@[simp] theorem HE (a b c:D):mkT [a,b,c]=.val (.tup [a,b,c]):=Eq.trans rfl rfl
@[simp] theorem HD (a b c d e:D):mkT [a,b,c,d,e]=.val (.tup [a,b,c,d,e]):=Eq.trans rfl rfl
@[simp] theorem HG (a b:D):mkL [a,b]=.val (.lst [a,b]):=Eq.trans rfl rfl
@[simp] theorem bD (F:Rho->R (List D)):eLs F U=(F U).bind λxs=>.val (.lst xs):=Eq.trans rfl rfl
@[simp] theorem Gx:ku aN U=.val []:=Eq.trans rfl rfl
@[simp] theorem AK (F:Rho->R D):fIt F U=(F U).bind itD:=Eq.trans rfl rfl
@[simp] theorem GM (xs:List D):itD (.lst xs)=.val xs:=Eq.trans rfl rfl
@[simp] theorem GL (xs:List D):itD (.tup xs)=.val xs:=Eq.trans rfl rfl
@[simp] theorem Bb (n:Nat) (den:List D->R D) (a:Rho->R (List D)):cal n den a U=(a U).bind λds=>if ds.length=n then noex (den ds)else .bad:=Eq.trans rfl rfl
@[simp] theorem xp (i:Nat) (F:Rho->R Out):fz i F U=F (frz i U):=Eq.trans rfl rfl
@[simp] theorem ck (src:Rho->R (List D)) (T:D->Rho->Option Rho) (F:Rho->R Out):br src T F U=(src U).bind λxs=>bK T F xs U:=Eq.trans rfl rfl
@[simp] theorem li (F:Rho->R (List D)):bC F U=(F U).bind pG:=Eq.trans rfl rfl
@[simp] theorem sL (F:Rho->R (List D)):eE F U=(F U).bind wu:=Eq.trans rfl rfl
@[simp] theorem sQ (xs:List D):wu [.lst xs]=.val (enu 0 xs):=Eq.trans rfl rfl
@[simp] theorem Fv (F:Rho->R (List D)):jv F U=(F U).bind rgT:=Eq.trans rfl rfl
@[simp] theorem CK (F:Rho->R (List D)):CL F U=(F U).bind Cs:=Eq.trans rfl rfl
@[simp] theorem Cr (i j:Int):Cs [.int i,.int j]=.val (.int (if j>i then j else i)):=Eq.trans rfl rfl
@[simp] theorem Hn (d:D):fin (.val (.rt d))=.val d:=Eq.trans rfl rfl
@[simp] theorem Ho (U:Rho):fin (.val (.nx U))=.val .non:=Eq.trans rfl rfl
@[simp] theorem EC (den:Rho->R D) (Fa:Rho->R (List D)):mkH den Fa U=(Fa U).bind λds=>match ds with
 | [e,r,t]=>noex (den (jZ e r t))
 | _=>.bad:=Eq.trans rfl rfl
@[simp] theorem Hg (xs:List D):aJ (.lst xs)=.val (.int xs.length):=Eq.trans rfl rfl
@[simp] theorem He (xs:List D):j4 (.lst xs)=.val (.tup xs):=Eq.trans rfl rfl
@[simp] theorem GN (i:Int):mU (.int i)=.val (.int (-i)):=Eq.trans rfl rfl
@[simp] theorem oB (f:Int->Int->R D) (i j:Int):iI f (.int i) (.int j)=f i j:=Eq.trans rfl rfl
@[simp] theorem Hf (i j:Int):flt i j=.val (.bl (decide (i<j))):=Eq.trans rfl rfl
@[simp] theorem Hh (i j:Int):fle i j=.val (.bl (decide (i<=j))):=Eq.trans rfl rfl
@[simp] theorem Hq (i j:Int):fgt i j=.val (.bl (decide (j<i))):=Eq.trans rfl rfl
@[simp] theorem xv (i j:Int):b_ (.int i) (.int j)=.val (.int (i+j)):=Eq.trans rfl rfl
theorem c_ (h:0<j):bn i j=.val (.int (i%j)):=if_pos h
theorem xu (h:0<j/\j<1073741824):dQ i j=.val (.int (i/j)):=if_pos h
theorem lf (h:-(2 ^ 64)<j/\j<2 ^ 64):gi i j=.val (.int (i*j)):=if_pos (.inr h)
@[simp] theorem Hs (f g:Int->Int->Bool) (a b c:Rho->R D):chn f g a b c U=(a U).bind λx=>(b U).bind λy=>match x,y with
 | .int i,.int j=>if f i j=true then(c U).bind λz=>match z with
   | .int k=>.val (.bl (g j k))
   | _=>.bad
  else .val (.bl false)
 | _,_=>.bad:=Eq.trans rfl rfl
end
theorem tD {Y:Type} (xs:List Y) (i:Nat):atI xs (i:Int)=xs[i]?:=by
 unfold atI ixN;rw[if_pos (Int.natCast_nonneg i)];by_cases h:i<xs.length
 ·rw[if_pos (by exact_mod_cast h)];simp
 ·rw[if_neg (by intro z;exact h (by exact_mod_cast z))];simp at h;simp[List.getElem?_eq_none h]
variable {xs:List D}
theorem ia {i:Nat} {d:D} (h:xs[i]?=some d):fix (.lst xs) (.int (i:Int))=.val d:=by
 show(match atI xs (i:Int)with|some d=>R.val d|none=>.bad)=_;rw[tD,h]
theorem xq {i:Nat} {d:D} (h:xs[i]?=some d):fix (.tup xs) (.int (i:Int))=.val d:=by
 show(match atI xs (i:Int)with|some d=>R.val d|none=>.bad)=_;rw[tD,h]
theorem Dp {xs:List Int} {i:Nat} {d:Int} (h:xs[i]?=some d):fix (.scr xs) (.int (i:Int))=.val (.int d):=by
 show(match atI xs (i:Int)with|some d=>R.val (D.int d)|none=>R.bad)=_;rw[tD,h]
@[simp] theorem AC (a:D) (r:List D):fix (.tup (a::r)) (.int 0)=.val a:=xq (i:=0) rfl
@[simp] theorem AB (a b:D) (r:List D):fix (.tup (a::b::r)) (.int 1)=.val b:=xq (i:=1) rfl
@[simp] theorem EU (a b c:D) (r:List D):fix (.tup (a::b::c::r)) (.int 2)=.val c:=xq (i:=2) rfl
theorem vd {T:D->Rho->Option Rho} {e:Rho->R D} {g:D->D} {U:Rho}:∀{xs:List D},(∀x∈xs,∃U1,T x U=some U1/\e U1=.val (g x))->jD T tT e xs U=.val (xs.map g)
 | [],_=>rfl
 | x::r,h=>by
  obtain⟨U1,h1,h2⟩:=h x (by simp);have ih:=vd (T:=T) (e:=e) (g:=g) (U:=U) (xs:=r) λy hy=>h y (by simp[hy]);unfold jD;rw[h1];show(noE (tT U1)).bind _=_;simp[tT,h2,ih]
theorem fU {T:D->Rho->Option Rho} {F:Rho->R Out} (I:Nat->Rho->Prop) (step:∀(i:Nat) x U,xs[i]?=some x->I i U->∃U1 U2,T x U=some U1/\F U1=.val (.nx U2)/\I (i+1) U2) {U:Rho} (h:I 0 U):∃U',bK T F xs U=.val (.nx U')/\I xs.length U':=by
 suffices ∀(n k:Nat) (U:Rho),k+n=xs.length->I k U->∃U',bK T F (xs.drop k) U=.val (.nx U')/\I xs.length U' by
  have:=this xs.length 0 U (by omega) h;rwa[List.drop_zero]at this
 intro n
 induction n with
 | zero =>
  intro k U hk hI;have hk:k=xs.length:=by omega
  subst hk;rw[List.drop_length];exact⟨U,rfl,hI⟩
 | succ n ih =>
  intro k U hk hI;have hlt:k<xs.length:=by omega
  obtain⟨U1,U2,h1,h2,h3⟩:=step k xs[k] U (by simp[hlt]) hI;rw[List.drop_eq_getElem_cons hlt];unfold bK;rw[h1];show ∃U',(F U1).bind _=_/\_;rw[h2];exact ih (k+1) U2 (by omega) h3
end DL
namespace DL
open L2 Ar
def pln:Nat->D->Bool
 | _,.non=>true
 | _,.int _=>true
 | n+1,.lst xs=>xs.all (pln n)
 | n+1,.tup xs=>xs.all (pln n)
 | _,_=>false
theorem dZ:∀{n:Nat} {x:D},pln n x=true->eqb n x=true:=by
 intro n
 induction n with
 | zero =>
  intro x h;cases x with
  | non=>rfl
  | int _=>rfl
  | _=>cases h
 | succ n ih =>
  intro x h;cases x with
  | non=>rfl
  | int _=>rfl
  | lst xs=>exact List.all_eq_true.mpr λy hy=>ih (List.all_eq_true.mp h y hy)
  | tup xs=>exact List.all_eq_true.mpr λy hy=>ih (List.all_eq_true.mp h y hy)
  | _=>cases h
variable {n:Nat} {xs:List D}
theorem ua (ih:∀{x y:D},pln n x=true->pln n y=true->(pyq n x y=true↔x=y)) {ys:List D} (hx:xs.all (pln n)=true) (hy:ys.all (pln n)=true) :
  (decide (xs.length=ys.length)&&(List.range xs.length).all λj=>pyq n (xs.getD j .non) (ys.getD j .non))=true↔xs=ys:=by
 rw[Bool.and_eq_true,decide_eq_true_iff,List.all_eq_true];rw[List.all_eq_true]at hx hy;constructor
 ·rintro⟨hl,h⟩;apply List.ext_getElem hl;intro j h1 h2;have:=h j (List.mem_range.mpr h1);rw[ar h1,ar h2]at this;exact(ih (hx _ (List.getElem_mem h1)) (hy _ (List.getElem_mem h2))).mp this
 ·rintro rfl;refine⟨rfl,λj hj=>?_⟩;have h1:=List.mem_range.mp hj;rw[ar h1];exact(ih (hx _ (List.getElem_mem h1)) (hx _ (List.getElem_mem h1))).mpr rfl
theorem d6 {p q:Prop} (h:¬ p) (g:¬ q):p↔q:=⟨λx=>absurd x h,λx=>absurd x g⟩
theorem xn {a b:Int}:(a==b)=true↔D.int a=D.int b:=beq_iff_eq.trans ⟨congrArg D.int,λh=>by cases h;rfl⟩
theorem iC:∀(n:Nat) {x y:D},pln n x=true->pln n y=true->(pyq n x y=true↔x=y):=by
 intro n
 induction n with
 | zero =>
  intro x y hx hy;cases x with
  | non =>
   cases y with
   | non=>exact⟨λ_=>rfl,λ_=>rfl⟩
   | int b=>exact d6 Bool.false_ne_true (λh=>by cases h)
   | _=>cases hy
  | int a =>
   cases y with
   | int b=>exact xn
   | non=>exact d6 Bool.false_ne_true (λh=>by cases h)
   | _=>cases hy
  | _=>cases hx
 | succ n ih =>
  intro x y hx hy;cases x with
  | lst xs =>
   cases y with
   | lst ys=>rw[rK,ua ih hx hy];exact⟨congrArg D.lst,λh=>by cases h;rfl⟩
   | non=>exact d6 Bool.false_ne_true (λh=>by cases h)
   | int _=>exact d6 Bool.false_ne_true (λh=>by cases h)
   | tup _=>exact d6 Bool.false_ne_true (λh=>by cases h)
   | _=>cases hy
  | tup xs =>
   cases y with
   | tup ys=>rw[rJ,ua ih hx hy];exact⟨congrArg D.tup,λh=>by cases h;rfl⟩
   | non=>exact d6 Bool.false_ne_true (λh=>by cases h)
   | int _=>exact d6 Bool.false_ne_true (λh=>by cases h)
   | lst _=>exact d6 Bool.false_ne_true (λh=>by cases h)
   | _=>cases hy
  | non =>
   cases y with
   | non=>exact⟨λ_=>rfl,λ_=>rfl⟩
   | int b=>exact d6 Bool.false_ne_true (λh=>by cases h)
   | lst _=>exact d6 Bool.false_ne_true (λh=>by cases h)
   | tup _=>exact d6 Bool.false_ne_true (λh=>by cases h)
   | _=>cases hy
  | int a =>
   cases y with
   | int b=>exact xn
   | non=>exact d6 Bool.false_ne_true (λh=>by cases h)
   | lst _=>exact d6 Bool.false_ne_true (λh=>by cases h)
   | tup _=>exact d6 Bool.false_ne_true (λh=>by cases h)
   | _=>cases hy
  | _=>cases hx
variable {x:D}
theorem jr (h:pln 9 x=true):feq x x=.val (.bl true):=by
 unfold feq;rw[if_pos ⟨dZ h,dZ h⟩,(iC 9 h h).mpr rfl]
theorem lg {y:D} (h:pln 9 x=true) (h':pln 9 y=true) (e:x≠y):feq x y=.val (.bl false):=by
 unfold feq;rw[if_pos ⟨dZ h,dZ h'⟩];cases q:pyq 9 x y with
 | false=>rfl
 | true=>exact absurd ((iC 9 h h').mp q) e
theorem h_ (h:pln 9 x=true):fne x x=.val (.bl false):=by
 unfold fne;rw[if_pos ⟨dZ h,dZ h⟩,(iC 9 h h).mpr rfl];rfl
theorem uT {y:D} (h:pln 9 x=true) (h':pln 9 y=true) (e:x≠y):fne x y=.val (.bl true):=by
 unfold fne;rw[if_pos ⟨dZ h,dZ h'⟩];cases q:pyq 9 x y with
 | false=>rfl
 | true=>exact absurd ((iC 9 h h').mp q) e
@[simp] theorem wm (a b:Int):feq (.int a) (.int b)=.val (.bl (decide (a=b))):=by
 by_cases h:a=b
 ·subst h;rw[jr rfl];simp
 ·rw[lg rfl rfl (by simpa using h)];simp[h]
@[simp] theorem Av (a b:Int):fne (.int a) (.int b)=.val (.bl (decide (a≠b))):=by
 by_cases h:a=b
 ·subst h;rw[h_ rfl];simp
 ·rw[uT rfl rfl (by simpa using h)];simp[h]
abbrev nD (n:Nat):D:=.int (n:Int)
def au (x:Arr):D:=.tup [nD x.1,nD x.2.1,.tup (x.2.2.map nD)]
def bM (p:Nat×Nat):D:=.tup [nD p.1,nD p.2]
def be (en:List (Nat×Nat)):D:=.lst (en.map bM)
def aF (re:List Nat):D:=.lst (re.map nD)
def am (r:List Int):D:=.lst (r.map D.int)
def ai (tb:List (List Int)):D:=.lst (tb.map am)
theorem nD_inj {a b:Nat}:nD a=nD b↔a=b:=by
 simp only[nD,D.int.injEq];omega
theorem endD_inj {p q:Nat×Nat}:bM p=bM q↔p=q:=by
 obtain⟨a,b⟩:=p;obtain⟨c,d⟩:=q;simp only[bM,nD,D.tup.injEq,List.cons.injEq,D.int.injEq,and_true,Prod.mk.injEq];omega
theorem nh {Y:Type} {f:Y->D} (hf:∀a b,f a=f b->a=b):∀{l m:List Y},l.map f=m.map f->l=m
 | [],[],_=>rfl
 | [],_::_,h=>by simp at h
 | _::_,[],h=>by simp at h
 | a::l,b::m,h=>by
  simp only[List.map_cons,List.cons.injEq]at h;rw[hf _ _ h.1,nh hf h.2]
theorem arrD_inj {x y:Arr}:au x=au y↔x=y:=by
 obtain⟨a,b,l⟩:=x;obtain⟨c,d,m⟩:=y;constructor
 ·intro h;simp only[au,nD,D.tup.injEq,List.cons.injEq,D.int.injEq,Int.natCast_inj,and_true]at h;obtain⟨h1,h2,h3⟩:=h;rw[h1,h2,nh (λa b e=>nD_inj.mp e) h3]
 ·rintro h;rw[h]
variable {Y:Type}
theorem all_map {f:Y->D} (h:∀a,pln n (f a)=true) (l:List Y):(l.map f).all (pln n)=true:=by
 rw[List.all_eq_true];intro y hy;obtain⟨a,_,rfl⟩:=List.mem_map.mp hy;exact h a
variable {k:Nat}
theorem wZ (n:Nat):pln k (nD n)=true:=by unfold nD pln;rfl
theorem w4 (n:Int):pln k (.int n)=true:=by cases k<;>rfl
theorem rQ (h:xs.all (pln k)=true):pln (k+1) (.tup xs)=true:=h
theorem rR (h:xs.all (pln k)=true):pln (k+1) (.lst xs)=true:=h
theorem kP (p:Nat×Nat):pln (k+1) (bM p)=true:=rQ (by simp[wZ])
theorem jR (x:Arr):pln (k+2) (au x)=true:=rQ (by simp[wZ];exact rQ (all_map (λa=>wZ a) _))
theorem gP (r:List Int):pln (k+1) (am r)=true:=rR (all_map (λp=>w4 p) _)
theorem nc (tb:List (List Int)):pln (k+2) (ai tb)=true:=rR (all_map (λp=>gP p) _)
variable {i:Nat}
theorem dn {f:Y->D} {l:List Y} {d:Y} (h:i<l.length):(l.map f)[i]?=some (f (l.getD i d)):=by
 rw[ar h];simp[h]
theorem d7 {en:List (Nat×Nat)} (h:i<en.length):fix (be en) (.int (i:Int))=.val (bM (en.getD i (0,0))):=ia (dn h)
theorem nj {re:List Nat} (h:i<re.length):fix (aF re) (.int (i:Int))=.val (nD (re.getD i 0)):=ia (dn h)
theorem bx {tb:List (List Int)} (h:i<tb.length):fix (ai tb) (.int (i:Int))=.val (am (tb.getD i [])):=ia (dn h)
theorem bz {r:List Int} (h:i<r.length):fix (am r) (.int (i:Int))=.val (.int (r.getD i (-1))):=ia (dn h)
@[simp] theorem Hj (p:Nat×Nat):fix (bM p) (.int 0)=.val (nD p.1):=AC _ _
@[simp] theorem Hi (p:Nat×Nat):fix (bM p) (.int 1)=.val (nD p.2):=AB _ _ _
@[simp] theorem Hm (x:Arr):fix (au x) (.int 0)=.val (nD x.1):=AC _ _
@[simp] theorem Hl (x:Arr):fix (au x) (.int 1)=.val (nD x.2.1):=AB _ _ _
@[simp] theorem Hk (x:Arr):fix (au x) (.int 2)=.val (.tup (x.2.2.map nD)):=EU _ _ _ _
@[simp] theorem Ay (en:List (Nat×Nat)):aJ (be en)=.val (.int en.length):=by unfold be;simp
@[simp] theorem Ax (re:List Nat):aJ (aF re)=.val (.int re.length):=by unfold aF;simp
@[simp] theorem uU (r:List Int):aJ (am r)=.val (.int r.length):=by unfold am;simp
@[simp] theorem Gu (r:List (List Int)):aJ (ai r)=.val (.int r.length):=by unfold ai;simp
@[simp] theorem Gv (p:Nat×Nat):aJ (bM p)=.val (.int 2):=Eq.trans rfl rfl
variable {U:Rho}
theorem ot {F:Rho->R Out} {j:Nat} (I:Rho->Prop) (step:∀(k:Nat) x U,xs[k]?=some x->I U->∃U2,F ((U.set i (some (.shr (.int (k:Int))))).set j (some (.shr x)))=.val (.nx U2)/\I U2) (h:I U) :
  ∃U',bK (tg2 i j) F (enu 0 xs) U=.val (.nx U')/\I U':=by
 refine fU (λ_=>I) (λk y U e hI=>?_) h;obtain⟨x,e1,rfl⟩:=wt e;rw[Nat.zero_add];obtain⟨U2,h1,h2⟩:=step k x U e1 hI;exact⟨_,U2,rfl,h1,h2⟩
theorem d5 {F:Rho->R Out} (I:Nat->Rho->Prop) (step:∀(k:Nat) U,k<n->I k U->∃U2,F (U.set i (some (.shr (.int (k:Int)))))=.val (.nx U2)/\I (k+1) U2) (h:I 0 U) :
  ∃U',bK (tgN i) F (rng 0 n) U=.val (.nx U')/\I n U':=by
 have hl:(rng 0 n).length=n:=by unfold rng;simp
 obtain⟨U',h1,h2⟩:=fU (T:=tgN i) (F:=F) I (xs:=rng 0 n) (λk y U e hI=>by
  have hk:k<n:=by rw[<- hl];exact(List.getElem?_eq_some_iff.mp e).1
  have:y=.int (k:Int):=by
   unfold rng at e;rw[List.getElem?_map,List.getElem?_range hk]at e;simp at e;exact e.symm
  subst this;obtain⟨U2,h1,h2⟩:=step k U hk hI;exact⟨_,U2,rfl,h1,h2⟩) h
 exact⟨U',h1,by rw[hl]at h2;exact h2⟩
theorem hU (h:n<=100000):pG [.int (n:Int)]=.val (rng 0 n):=by
 have:-(2 ^ 62)<=(n:Int)/\(n:Int)<2 ^ 62:=by constructor<;>omega
 unfold pG;dsimp only;rw[if_pos this,Int.toNat_natCast]
theorem jh {z:Int} (h:0<=z) (h':z<=100000):pG [.int z]=.val (rng 0 z.toNat):=by
 have:-(2 ^ 62)<=z/\z<2 ^ 62:=by constructor<;>omega
 unfold pG;dsimp only;rw[if_pos this]
theorem BI (n:Nat):(rng 0 n).length=n:=by unfold rng;simp
theorem B_ (h:x∈rng 0 n):∃k:Nat,k<n/\x=.int (k:Int):=by
 unfold rng at h;obtain⟨k,hk,rfl⟩:=List.mem_map.mp h;exact⟨k,List.mem_range.mp hk,by simp⟩
theorem oM {src:Rho->R (List D)} {m:Nat} {e:Rho->R D} {g:Nat->D} (hs:src U=.val (rng 0 m)) (hl:m<=100000) (h:∀k:Nat,k<m->e ((U++List.replicate n none).set i (some (.shr (.int (k:Int)))))=.val (g k)) :
  a_ src n (tgN i) tT e U=.val ((List.range m).map g):=by
 unfold a_;rw[hs,ac,if_pos (show(rng 0 m).length<=LIM by rw[BI];exact hl)];have:jD (tgN i) tT e (rng 0 m) (U++List.replicate n none)=.val ((rng 0 m).map λx=>match x with | .int z=>g z.toNat|_=>.non):=vd λx hx=>by
  obtain⟨k,hk,rfl⟩:=B_ hx;exact⟨_,rfl,by rw[h k hk];simp⟩
 rw[this,rX];unfold rng;rw[List.map_map]
 congr 1
 apply List.map_congr_left;intro k hk;simp
theorem bw {src:Rho->R (List D)} {e:Rho->R D} {f g:Y->D} {l:List Y} (hs:src U=.val (l.map f)) (hl:l.length<=100000) (h:∀a∈l,e ((U++List.replicate n none).set i (some (.shr (f a))))=.val (g a)) :
  a_ src n (tgN i) tT e U=.val (l.map g):=by
 unfold a_;rw[hs,ac,if_pos (show(l.map f).length<=LIM by rw[List.length_map];exact hl)]
 suffices ∀l:List Y,(∀a∈l,e ((U++List.replicate n none).set i (some (.shr (f a))))=.val (g a))->jD (tgN i) tT e (l.map f) (U++List.replicate n none)=.val (l.map g) by
  rw[this l h];rfl
 intro l
 induction l with
 | nil=>intro _;rfl
 | cons a r ih =>
  intro h;have h1:=h a (by simp);have h2:=ih λb hb=>h b (by simp[hb]);rw[List.map_cons];unfold jD;show(noE (tT _)).bind _=_;rw[h2];simp only[tT,rX,ac,if_true];rw[h1];rfl
end DL
namespace DL
open PySem PySem.Spec PyProof.Rows L2
structure Txt (K:Frag) (mg:Str->Option Value) (C:Addr):Prop where
 cl:Cls K C
 nE:NoAttr K C "ends"
 nR:NoAttr K C "rests"
 nT:NoAttr K C "table"
 len:mg "len"=none
 list:mg "list"=none
 tuple:mg "tuple"=none
 range:mg "range"=none
 enumerate:mg "enumerate"=none
 max:mg "max"=none
 isinstance:mg "isinstance"=none
 all:mg "all"=none
 zip:mg "zip"=none
 sorted:mg "sorted"=none
 int:mg "int"=none
 bool:mg "bool"=none
 ih:IsH K C
 hall:mg "Hall"=some (.ref C)
 most_boxes:∃t,mg "MOST_BOXES"=some (.int 6 t)
 most_arrows:∃t,mg "MOST_ARROWS"=some (.int 40 t)
 most_things:∃t,mg "MOST_THINGS"=some (.int 40 t)
 kt_int:KTy K "int"
 kt_bool:KTy K "bool"
 kt_list:KTy K "list"
abbrev sAt (i:Nat):Stmt:=PySem.Challenge.pw_arrowhall_k12_whole_as_many_as_things.main.body.getD i (.Pass ⟨0,0,0,0⟩)
section
variable {C:Addr} {X:Cx} {e:Expr} {p pos:Pos} {F:Rho->R D}
theorem edl (h:EB C X e F) (hg:Gl X "len") (hm:X.mg "len"=none) (hst:starEach [e] X.env=(false,eval e X.env)::starEach [] X.env):ED C X (.Call (.Name "len" p) [e] [] pos) (una aJ F):=Fd h hg hm hst (λt ha=>gd ly hg hm PySem.boot_len ha (he:=hst) (hpl:=aq))
theorem fdl (h:EB C X e F) (hg:Gl X "list") (hm:X.mg "list"=none) (hst:starEach [e] X.env=(false,eval e X.env)::starEach [] X.env):FD C X (.Call (.Name "list" p) [e] [] pos) (fIt F):=Cu h hg hm hst (λt ha=>cA lx hg hm boot_list ha (he:=hst) (hpl:=aq))
end
section
variable {C:Addr} {X:Cx} {x:Str} {p pos pos':Pos} {e:Expr} {es:List Expr} {k n m:Nat} {kr:OK} {den:List D->R D} {F:Rho->R D} {Fa:Rho->R (List D)}
theorem vB (i:Nat) (hN:X.N[i]?=some x:=by rfl) (hv:Vis X.env.scope x:=by first|exact Or.inl rfl|exact Or.inr (Or.inl rfl)|exact Or.inr (Or.inr rfl)) (hd:(x==("__debug__":Str))=false:=by decide) (hcd:(x==("__classdict__":Str))=false:=by decide):EB C X (.Name x pos) (vb i):=Fe (pv i hN hv hd hcd)
theorem vE (i:Nat) (hN:X.N[i]?=some x:=by rfl) (hv:Vis X.env.scope x:=by first|exact Or.inl rfl|exact Or.inr (Or.inl rfl)|exact Or.inr (Or.inr rfl)) (hd:(x==("__debug__":Str))=false:=by decide) (hcd:(x==("__classdict__":Str))=false:=by decide):ED C X (.Name x pos) (vr i):=E6 (pv i hN hv hd hcd)
theorem bI {i j}:EB C X (.Constant (.int i) j pos) (kd (.int i)):=EB.of bh
theorem sS (i:Nat) (hN:X.N.Nodup) (he:ED C X e F) (hi:X.N[i]?=some x:=by rfl) (hx:Loc X.env.scope x:=by first|exact Or.inl rfl|exact Or.inr rfl) (hs:swapsWith e (some (.Name x pos')) pos.line X.env=pure false:=by rfl) (hf:X.fn x=true\/X.env.scope.names.lookup x=some .local:=by first|exact .inl rfl|exact .inr rfl):SD C X (.Assign [.Name x pos'] e pos) (asg i F):=DM hN hi hx he hs hf
theorem gN (i:Nat) (hN:X.N.Nodup) (hi:X.N[i]?=some x:=by rfl) (hx:Loc X.env.scope x:=by first|exact Or.inl rfl|exact Or.inr rfl) (hf:X.fn x=true\/X.env.scope.names.lookup x=some .local:=by first|exact .inl rfl|exact .inr rfl):GD C X (.Name x pos) [i] (tgN i):=Cq hN hi hx hf
theorem eF (F:Fn X.prog X.w X.K X.mg X.base C k x n den) (hr:Room m X.A) (ha:AD C X (e::es) Fa) (he:starEach (e::es) X.env=(false,eval e X.env)::starEach es X.env) (hpl:(backTo pos (starEach es X.env)).any (·.1)=false) (hk:k<=m:=by decide) (hg:Gl X x:=by exact rfl) (hx:X.xe=λ_ _=>False:=by rfl) (hdb:(x==("__debug__":Str))=false:=by decide):ED C X (.Call (.Name x p) (e::es) [] pos) (cal n den Fa):=GC F (hr.mono hk) hg ha hx hdb he hpl
end
seal ED EB TD AD FD ID GD WD vu SD SDs KD ND SDi SDj Bn qT KDm TDm
variable {P:Program} {w:World} {K:Frag} {mg:Str->Option Value} {base:Heap} {C:Addr}
variable {f a:Addr} {fd:FuncData} (cdv:Value) (A:Around) (outer:List Env) (s:Shared) (H:Hp) (E:XK) (T:Txt K mg C)
abbrev iq:Stmt:=sAt 44
abbrev pj:List Str:=["script","k","base"]
theorem HX:ax pj ["script","k"] (ao iq):=by constructor<;>first|rfl|decide +kernel
def iS:Rho->R Out:=(sq (iff (tst (bin (iI flt) (vb 1) (una aJ (vb 0))))
 (ret (bin fix (vb 0) (vb 1)))
 nxt)
 (sq (asg 2 (kd (.int 0)))
 (sq (iff (tst (bin (iI fgt) (una aJ (vb 0)) (kd (.int 0))))
 (asg 2 (bin fix (vb 0) (kd (.int 0))))
 nxt)
 (ret (bin (iI bn) (bin b_ (bin (iI gi) (bin (iI bn) (vb 2) (kd (.int 65521))) (kd (.int 48271))) (bin (iI gi) (vb 1) (kd (.int 30103)))) (kd (.int 65521)))))))
def aA (ds:List D):R D:=fin (iS (st0 pj ds))
include T in
theorem ux (F:Fun K "_law_cell" "_law_cell" iq a fd) (hm:mg "_law_cell"=some (.ref a)) (hb:Binds K fd ["script","k"] []):Fn P w K mg base C 1 "_law_cell" 2 aA :=
 ⟨a,fd,_,aV (den:=iS) F HX (λ_ _ _ _ _ _ hr=>(ah (bj (C8 (vB 1) (EB.of (edl (vB 0) rfl T.len aa)))
 (ag (aD (ak (vB 0) (vB 1))))
 aE)
 (ah (sS 2 HX.nd bh)
 (ah (bj (tJ (EB.of (edl (vB 0) rfl T.len aa)) bI)
 (ag (sS 2 HX.nd (ak (vB 0) bI)))
 aE)
 (ag (aD (cQ (EB.of (dF (EB.of (oZ (EB.of (cQ (vB 2) bI)) bI)) (EB.of (oZ (vB 1) bI)))) bI))))))),hm,F.kp,hb⟩
abbrev gG:Stmt:=sAt 47
abbrev mD:List Str:=["script","k","cell","way"]
theorem Id:ax mD ["script","k"] (ao gG):=by constructor<;>first|rfl|decide +kernel
abbrev Nc_law_sizes_0:List Str:=["script","k","cell","way","box"]
theorem nW:Nc_law_sizes_0.Nodup:=by decide +kernel
def gW:Rho->R Out:=(sq (asg 2 (cal 2 aA (aC (vr 0) (aC (vr 1) aN))))
 (sq (asg 3 (bin (iI bn) (vb 2) (kd (.int 4))))
 (sq (iff (tst (bin feq (vb 3) (kd (.int 0))))
 (ret (eLs (a_ (bC (aC (bin b_ (kd (.int 1)) (bin (iI bn) (bin (iI dQ) (vb 2) (kd (.int 4))) (kd (.int 4)))) aN)) 1 (tgN 4) tT (kd (.int 1)))))
 nxt)
 (sq (iff (tst (bin feq (vb 3) (kd (.int 1))))
 (ret (bin fix (eL (aC (eL (aC (kd (.int 1)) (aC (kd (.int 2)) aN))) (aC (eL (aC (kd (.int 2)) (aC (kd (.int 1)) aN))) (aC (eL (aC (kd (.int 2)) (aC (kd (.int 2)) aN))) (aC (eL (aC (kd (.int 0)) (aC (kd (.int 2)) aN))) (aC (eL (aC (kd (.int 2)) aN)) (aC (eL (aC (kd (.int 1)) aN)) aN))))))) (bin (iI bn) (bin (iI dQ) (vb 2) (kd (.int 4))) (kd (.int 6)))))
 nxt)
 (sq (iff (tst (bin feq (vb 3) (kd (.int 2))))
 (ret (eL (aC (kd (.int 3)) aN)))
 nxt)
 (ret (bin fix (eL (aC (eL (aC (kd (.int 1)) (aC (kd (.int 1)) (aC (kd (.int 2)) aN)))) (aC (eL (aC (kd (.int 0)) (aC (kd (.int 1)) (aC (kd (.int 2)) aN)))) (aC (eL (aC (kd (.int 1)) (aC (kd (.int 2)) (aC (kd (.int 2)) aN)))) (aC (eL (aC (kd (.int 2)) (aC (kd (.int 1)) (aC (kd (.int 0)) aN)))) (aC (eL (aC (kd (.int 2)) (aC (kd (.int 2)) aN))) aN)))))) (bin (iI bn) (bin (iI dQ) (vb 2) (kd (.int 4))) (kd (.int 5))))))))))
def dg (ds:List D):R D:=fin (gW (st0 mD ds))
variable (f27:Fn P w K mg base C 1 "_law_cell" 2 aA)
include T f27 in
theorem sg (F:Fun K "_law_sizes" "_law_sizes" gG a fd) (hm:mg "_law_sizes"=some (.ref a)) (hb:Binds K fd ["script","k"] []):Fn P w K mg base C 2 "_law_sizes" 2 dg :=
 ⟨a,fd,_,aV (den:=gW) F Id (λ_ _ _ _ _ _ hr=>(ah (sS 2 Id.nd (eF f27 hr (ab (vE 0) (ab (vE 1) af aa) aa) aa (aj aa aq)))
 (ah (sS 3 Id.nd (cQ (vB 2) bI))
 (ah (bj (gD (bi hr) (vB 3) bI)
 (ag (aD (bB (ba (N':=Nc_law_sizes_0) (n:=1) rfl rfl rfl (dq 4) bu (bv rfl T.range (ab (dF bI (EB.of (cQ (EB.of (gR (vB 2) bI)) bI))) af bp) (bb bp)) (λL cs s H fp=>(gN 4 nW)) (λL cs s H fp=>aX) (λL cs s H fp=>bh)))))
 aE)
 (ah (bj (gD (bi hr) (vB 3) bI)
 (ag (aD (ak (EB.of (bX (ab (bX (ab bh (ab bh af aw) aw)) (ab (bX (ab bh (ab bh af aw) aw)) (ab (bX (ab bh (ab bh af aw) aw)) (ab (bX (ab bh (ab bh af aw) aw)) (ab (bX (ab bh af aw)) (ab (bX (ab bh af aw)) af dR) dR) dR) dR) dR) dR))) (EB.of (cQ (EB.of (gR (vB 2) bI)) bI)))))
 aE)
 (ah (bj (gD (bi hr) (vB 3) bI)
 (ag (aD (bX (ab bh af aw))))
 aE)
 (ag (aD (ak (EB.of (bX (ab (bX (ab bh (ab bh (ab bh af aw) aw) aw)) (ab (bX (ab bh (ab bh (ab bh af aw) aw) aw)) (ab (bX (ab bh (ab bh (ab bh af aw) aw) aw)) (ab (bX (ab bh (ab bh (ab bh af aw) aw) aw)) (ab (bX (ab bh (ab bh af aw) aw)) af dR) dR) dR) dR) dR))) (EB.of (cQ (EB.of (gR (vB 2) bI)) bI))))))))))),hm,F.kp,hb⟩
abbrev ik:Stmt:=sAt 46
abbrev pc:List Str:=["step"]
theorem tS:ax pc ["step"] (ao ik):=by constructor<;>first|rfl|decide +kernel
def iO:Rho->R Out:=(ret (bin (iI bn) (bin b_ (bin (iI gi) (vb 0) (kd (.int 48271))) (kd (.int 11))) (kd (.int 2147483647))))
def aQ (ds:List D):R D:=fin (iO (st0 pc ds))
include T in
theorem ut (F:Fun K "_law_next" "_law_next" ik a fd) (hm:mg "_law_next"=some (.ref a)) (hb:Binds K fd ["step"] []):Fn P w K mg base C 1 "_law_next" 1 aQ :=
 ⟨a,fd,_,aV (den:=iO) F tS (λ_ _ _ _ _ _ hr=>(ag (aD (cQ (EB.of (dF (EB.of (oZ (vB 0) bI)) bI)) bI)))),hm,F.kp,hb⟩
abbrev cG:Stmt:=sAt 48
abbrev iX:List Str:=["known","met","arrow","at","other","first","second","made"]
theorem HY:ax iX ["known"] (ao cG):=by constructor<;>first|rfl|decide +kernel
abbrev Nc_law_closed_0:List Str:=["known","met","arrow","at","other","first","second","made","x"]
theorem mM:Nc_law_closed_0.Nodup:=by decide +kernel
def gr:Rho->R Out:=(sq (AZ 1)
 (sq (oH 0 2 1)
 (sq (asg 3 (kd (.int 0)))
 (sq (whD (tst (bin (iI flt) (vb 3) (una aJ (vb 0))))
 (sq (br (fIt (eLs (fIt (vb 0)))) (tgN 4)
 (br (fIt (eL (aC (eT (aC (bin fix (vb 0) (vb 3)) (aC (vr 4) aN))) (aC (eT (aC (vr 4) (aC (bin fix (vb 0) (vb 3)) aN))) aN)))) (tg2 5 6)
 (iff (tst (bin feq (bin fix (vb 5) (kd (.int 1))) (bin fix (vb 6) (kd (.int 0)))))
 (sq (asg 7 (eT (aC (bin fix (vb 5) (kd (.int 0))) (aC (bin fix (vb 6) (kd (.int 1))) (aC (una j4 (eLs (a_ (fIt (bin fix (vb 5) (kd (.int 2)))) 1 (tgN 8) tT (bin fix (bin fix (vb 6) (kd (.int 2))) (vb 8))))) aN)))))
 (iff (AY 1 (vr 7))
 (sq (sX 1 (vr 7) (kd (.bl true)))
 (app 0 (vr 7)))
 nxt))
 nxt)))
 (asg 3 (bin b_ (vb 3) (kd (.int 1))))) 30)
 (fz 0 (ret (vr 0)))))))
def cx (xs:List D):R D:=fin (gr (st1 iX xs))
include T in
theorem mZ (hr:Room 0 (A.deeper (envOfC "_law_closed" (ao cG) s.heap.objs.size f cdv))) :
  SDs C (jb CX0 P w K mg base iX "_law_closed" (ao cG) f cdv A outer s H E).nox (cJ cG) gr :=
 (ah (wO (i:=1) HY.nd rfl (Or.inl rfl))
 (ah (xZ (qp hr) PassesOwn.never rfl (pv 0) (ay (i:=2) HY.nd rfl (Or.inl rfl)) (pv 1) (pv 2))
 (ah (sS 3 HY.nd bh)
 (ah (zg 30 PassesOwn.never (C8 (vB 3) (EB.of (edl (vB 0) rfl T.len aa)))
 (ah (bq PassesOwn.never rfl (bG (bB (fdl (vB 0) rfl T.list aa))) (gN 4 HY.nd)
 (ag (bq PassesOwn.never rfl (bG (bX (ab (cq (ab (ak (vB 0) (vB 3)) (ab (vE 4) af aa) ae)) (ab (cq (ab (vE 4) (ab (ak (vB 0) (vB 3)) af ae) aa)) af nH) nH))) (bW rfl (ay (i:=5) HY.nd rfl (Or.inl rfl)) (ay (i:=6) HY.nd rfl (Or.inr rfl)))
 (ag (bj (gD (bi hr) (EB.of (ak (vB 5) bI)) (EB.of (ak (vB 6) bI)))
 (ah (sS 7 HY.nd (cq (ab (ak (vB 5) bI) (ab (ak (vB 6) bI) (ab (lu (EB.of (bB (ba (N':=Nc_law_closed_0) (n:=1) rfl rfl rfl (dq 8) bu (bG (ak (vB 5) bI)) (λL cs s H fp=>(gN 8 mM)) (λL cs s H fp=>aX) (λL cs s H fp=>(ak (EB.of (ak (vB 6) bI)) (vB 8)))))) rfl T.tuple aO (λt ha=>cA dw rfl T.tuple boot_tuple ha (he:=aO) (hpl:=aq))) af av) ae) ae)))
 (ag (bj (Bu (qp hr) (pv 1) (vE 7))
 (ah (wN (qp hr) (pv 1) (vE 7) eK)
 (ag (jg (pv 0) (vE 7) (hst:=aa))))
 aE)))
 aE)))))
 (ag (sS 3 HY.nd (dF (vB 3) bI)))))
 (ii 0 (ag (aD (vE 0))))))))
include T in
theorem pU (F:Fun K "_law_closed" "_law_closed" cG a fd) (hm:mg "_law_closed"=some (.ref a)) (hb:Binds K fd ["known"] []):Mv P w K mg base C 1 "_law_closed" cx :=
 ⟨a,fd,_,Gg F HY (λcdv A outer s H E hr=>mZ cdv A outer s H E T hr),hm,F.kp,hb⟩
abbrev fO:Stmt:=sAt 49
abbrev lF:List Str:=["script","k","sizes","known","step","turn","one","other","row","x","mixed","arrow"]
theorem HV:ax lF ["script","k","sizes"] (ao fO):=by constructor<;>first|rfl|decide +kernel
abbrev Nc_law_arrows_0:List Str:=["script","k","sizes","known","step","turn","one","other","row","x","mixed","arrow","box"]
theorem mO:Nc_law_arrows_0.Nodup:=by decide +kernel
def gu:Rho->R Out:=(sq (own 3 (a_ (bC (aC (una aJ (vb 2)) aN)) 1 (tgN 12) tT (eT (aC (vr 12) (aC (vr 12) (aC (jv (aC (bin fix (vb 2) (vb 12)) aN)) aN))))))
 (sq (asg 4 (cal 1 aQ (aC (bin b_ (bin (iI bn) (bin (iI gi) (cal 2 aA (aC (vr 0) (aC (vr 1) aN))) (kd (.int 1000003))) (kd (.int 2147483647))) (kd (.int 17))) aN)))
 (sq (br (bC (aC (bin (iI bn) (cal 2 aA (aC (vr 0) (aC (bin b_ (vb 1) (kd (.int 1))) aN))) (kd (.int 5))) aN)) (tgN 5)
 (sq (asg 4 (cal 1 aQ (aC (vr 4) aN)))
 (sq (asg 6 (bin (iI bn) (bin (iI dQ) (vb 4) (kd (.int 64))) (una aJ (vb 2))))
 (sq (asg 4 (cal 1 aQ (aC (vr 4) aN)))
 (sq (asg 7 (bin (iI bn) (bin (iI dQ) (vb 4) (kd (.int 64))) (una aJ (vb 2))))
 (sq (own 8 (ku aN))
 (sq (br (bC (aC (bin fix (vb 2) (vb 6)) aN)) (tgN 9)
 (sq (asg 4 (cal 1 aQ (aC (vr 4) aN)))
 (iff (tst (bin feq (bin fix (vb 2) (vb 6)) (kd (.int 3))))
 (ins 8 (bin (iI bn) (bin (iI dQ) (vb 4) (kd (.int 64))) (bin b_ (vb 9) (kd (.int 1)))) (vr 9))
 (app 8 (bin (iI bn) (bin (iI dQ) (vb 4) (kd (.int 64))) (CL (aC (kd (.int 1)) (aC (bin fix (vb 2) (vb 7)) aN))))))))
 (iff (orB (tst (bin feq (bin fix (vb 2) (vb 6)) (kd (.int 0)))) (tst (bin (iI fgt) (bin fix (vb 2) (vb 7)) (kd (.int 0)))))
 (iff (tst (bin (mT true) (eT (aC (vr 6) (aC (vr 7) (aC (una j4 (vb 8)) aN)))) (vb 3)))
 (app 3 (eT (aC (vr 6) (aC (vr 7) (aC (una j4 (vb 8)) aN)))))
 nxt)
 nxt))))))))
 (sq (B8 3 cx)
 (sq (own 10 (ku aN))
 (fz 3 (sq (br (fIt (vr 3)) (tgN 11)
 (sq (asg 4 (cal 1 aQ (aC (vr 4) aN)))
 (ins 10 (bin (iI bn) (bin (iI dQ) (vb 4) (kd (.int 64))) (bin b_ (una aJ (vb 10)) (kd (.int 1)))) (vr 11))))
 (fz 10 (ret (vr 10))))))))))
def cu (ds:List D):R D:=fin (gu (st0 lF ds))
variable (f46:Mv P w K mg base C 1 "_law_closed" cx)
variable (f34:Fn P w K mg base C 1 "_law_next" 1 aQ)
include T f27 f46 f34 in
theorem pX (F:Fun K "_law_arrows" "_law_arrows" fO a fd) (hm:mg "_law_arrows"=some (.ref a)) (hb:Binds K fd ["script","k","sizes"] []):Fn P w K mg base C 2 "_law_arrows" 3 cu :=
 ⟨a,fd,_,aV (den:=gu) F HV (λ_ _ _ _ _ _ hr=>(ah (BD (f_ (i:=3) (ay (i:=3) HV.nd rfl (Or.inl rfl)) (N':=Nc_law_arrows_0) (n:=1) rfl rfl rfl (dq 12) bu (bv rfl T.range (ab (edl (vB 2) rfl T.len aa) af av) (bb av)) (λL cs s H fp=>(gN 12 mO)) (λL cs s H fp=>aX) (λL cs s H fp=>(cq (ab (vE 12) (ab (vE 12) (ab (u7 rfl (ab (ak (vB 2) (vB 12)) af ae) rfl T.range rfl T.tuple (bb ae) av (λt ha=>cA (jE rfl) rfl T.tuple boot_tuple ha (he:=av) (hpl:=aq))) af av) aa) aa))) rfl))
 (ah (sS 4 HV.nd (eF f34 hr (ab (dF (EB.of (cQ (EB.of (oZ (EB.of (eF f27 hr (ab (vE 0) (ab (vE 1) af aa) aa) aa (aj aa aq))) bI)) bI)) bI) af bp) bp aq))
 (ah (bq PassesOwn.never rfl (bv rfl T.range (ab (cQ (EB.of (eF f27 hr (ab (vE 0) (ab (dF (vB 1) bI) af bp) aa) aa (aj bp aq))) bI) af bp) (bb bp)) (gN 5 HV.nd)
 (ah (sS 4 HV.nd (eF f34 hr (ab (vE 4) af aa) aa aq))
 (ah (sS 6 HV.nd (cQ (EB.of (gR (vB 4) bI)) (EB.of (edl (vB 2) rfl T.len aa))))
 (ah (sS 4 HV.nd (eF f34 hr (ab (vE 4) af aa) aa aq))
 (ah (sS 7 HV.nd (cQ (EB.of (gR (vB 4) bI)) (EB.of (edl (vB 2) rfl T.len aa))))
 (ah (kj (i:=8) HV.nd rfl (Or.inl rfl) (kt af))
 (ah (bq PassesOwn.never rfl (bv rfl T.range (ab (ak (vB 2) (vB 6)) af ae) (bb ae)) (gN 9 HV.nd)
 (ah (sS 4 HV.nd (eF f34 hr (ab (vE 4) af aa) aa aq))
 (ag (bj (gD (bi hr) (EB.of (ak (vB 2) (vB 6))) bI)
 (ag (zh (pv 8) (cQ (EB.of (gR (vB 4) bI)) (EB.of (dF (vB 9) bI))) (vE 9) (hst:=bp) (hst2:=aa)))
 (ag (jg (pv 8) (cQ (EB.of (gR (vB 4) bI)) (EB.of (E_ rfl (ab bh (ab (ak (vB 2) (vB 7)) af ae) aw) rfl T.max (λt ha=>gd (qM rfl) rfl T.max boot_max ha (he:=aw) (hpl:=(aj ae aq)))))) (hst:=bp)))))))
 (ag (bj (lM (hE (gD (bi hr) (EB.of (ak (vB 2) (vB 6))) bI) (fX (tJ (EB.of (ak (vB 2) (vB 7))) bI))))
 (ag (bj (DA (bi hr) (EB.of (cq (ab (vE 6) (ab (vE 7) (ab (lu (vB 8) rfl T.tuple aa (λt ha=>cA dw rfl T.tuple boot_tuple ha (he:=aa) (hpl:=aq))) af av) aa) aa))) (vB 3))
 (ag (jg (pv 3) (cq (ab (vE 6) (ab (vE 7) (ab (lu (vB 8) rfl T.tuple aa (λt ha=>cA dw rfl T.tuple boot_tuple ha (he:=aa) (hpl:=aq))) af av) aa) aa)) (hst:=nH)))
 aE))
 aE)))))))))
 (ah (BE f46 (hr.mono (by decide)) rfl (pv 3) (i:=3) HV.nd rfl (Or.inl rfl) rfl)
 (ah (kj (i:=10) HV.nd rfl (Or.inl rfl) (kt af))
 (ii 3 (ah (bq PassesOwn.never rfl (bG (vE 3)) (gN 11 HV.nd)
 (ah (sS 4 HV.nd (eF f34 hr (ab (vE 4) af aa) aa aq))
 (ag (zh (pv 10) (cQ (EB.of (gR (vB 4) bI)) (EB.of (dF (EB.of (edl (vB 10) rfl T.len aa)) bI))) (vE 11) (hst:=bp) (hst2:=aa)))))
 (ii 10 (ag (aD (vE 10)))))))))))),hm,F.kp,hb⟩
abbrev gH:Stmt:=sAt 50
abbrev mE:List Str:=["script","k","sizes","known","place","at","table","first","row","second","made","rests"]
theorem Ic:ax mE ["script","k"] (ao gH):=by constructor<;>first|rfl|decide +kernel
abbrev Nc_law_parts_0:List Str:=["script","k","sizes","known","place","at","table","first","row","second","made","rests","x"]
theorem nZ:Nc_law_parts_0.Nodup:=by decide +kernel
abbrev Nc_law_parts_1:List Str:=["script","k","sizes","known","place","at","table","first","row","second","made","rests","box"]
theorem nY:Nc_law_parts_1.Nodup:=by decide +kernel
abbrev Nc_law_parts_2:List Str:=["script","k","sizes","known","place","at","table","first","row","second","made","rests","arrow"]
theorem nX:Nc_law_parts_2.Nodup:=by decide +kernel
def gX:Rho->R Out:=(sq (asg 2 (cal 2 dg (aC (vr 0) (aC (vr 1) aN))))
 (sq (asg 3 (cal 3 cu (aC (vr 0) (aC (bin b_ (vb 1) (kd (.int 1))) (aC (vr 2) aN)))))
 (sq (AZ 4)
 (sq (br (bC (aC (una aJ (vb 3)) aN)) (tgN 5)
 (sX 4 (bin fix (vb 3) (vb 5)) (vr 5)))
 (sq (own 6 (ku aN))
 (sq (br (fIt (vr 3)) (tgN 7)
 (sq (own 8 (ku aN))
 (sq (br (fIt (vr 3)) (tgN 9)
 (sq (asg 10 (una mU (kd (.int 1))))
 (sq (iff (tst (bin feq (bin fix (vb 7) (kd (.int 1))) (bin fix (vb 9) (kd (.int 0)))))
 (asg 10 (sZ 4 (eT (aC (bin fix (vb 7) (kd (.int 0))) (aC (bin fix (vb 9) (kd (.int 1))) (aC (una j4 (eLs (a_ (fIt (bin fix (vb 7) (kd (.int 2)))) 1 (tgN 12) tT (bin fix (bin fix (vb 9) (kd (.int 2))) (vb 12))))) aN))))))
 nxt)
 (app 8 (vr 10)))))
 (fz 8 (app 6 (vr 8))))))
 (sq (asg 11 (eLs (a_ (bC (aC (una aJ (vb 2)) aN)) 1 (tgN 12) tT (sZ 4 (eT (aC (vr 12) (aC (vr 12) (aC (jv (aC (bin fix (vb 2) (vb 12)) aN)) aN))))))))
 (fz 6 (ret (eT (aC (eLs (a_ (fIt (vr 3)) 1 (tgN 12) tT (eT (aC (bin fix (vb 12) (kd (.int 0))) (aC (bin fix (vb 12) (kd (.int 1))) aN))))) (aC (vr 11) (aC (vr 6) (aC (vr 3) (aC (vr 2) aN)))))))))))))))
def dh (ds:List D):R D:=fin (gX (st0 mE ds))
variable (f24:Fn P w K mg base C 2 "_law_arrows" 3 cu)
variable (f38:Fn P w K mg base C 2 "_law_sizes" 2 dg)
include T f24 f38 in
theorem si (F:Fun K "_law_parts" "_law_parts" gH a fd) (hm:mg "_law_parts"=some (.ref a)) (hb:Binds K fd ["script","k"] []):Fn P w K mg base C 3 "_law_parts" 2 dh :=
 ⟨a,fd,_,aV (den:=gX) F Ic (λ_ _ _ _ _ _ hr=>(ah (sS 2 Ic.nd (eF f38 hr (ab (vE 0) (ab (vE 1) af aa) aa) aa (aj aa aq)))
 (ah (sS 3 Ic.nd (eF f24 hr (ab (vE 0) (ab (dF (vB 1) bI) (ab (vE 2) af aa) bp) aa) aa (aj bp (aj aa aq))))
 (ah (wO (i:=4) Ic.nd rfl (Or.inr rfl))
 (ah (bq PassesOwn.never rfl (bv rfl T.range (ab (edl (vB 3) rfl T.len aa) af av) (bb av)) (gN 5 Ic.nd)
 (ag (wN (qp hr) (pv 4) (ak (vB 3) (vB 5)) (vE 5))))
 (ah (kj (i:=6) Ic.nd rfl (Or.inl rfl) (kt af))
 (ah (bq PassesOwn.never rfl (bG (vE 3)) (gN 7 Ic.nd)
 (ah (kj (i:=8) Ic.nd rfl (Or.inl rfl) (kt af))
 (ah (bq PassesOwn.never rfl (bG (vE 3)) (gN 9 Ic.nd)
 (ah (sS 10 Ic.nd (oY bI))
 (ah (bj (gD (bi hr) (EB.of (ak (vB 7) bI)) (EB.of (ak (vB 9) bI)))
 (ag (sS 10 Ic.nd (xE (qp hr) (pv 4) (cq (ab (ak (vB 7) bI) (ab (ak (vB 9) bI) (ab (lu (EB.of (bB (ba (N':=Nc_law_parts_0) (n:=1) rfl rfl rfl (dq 12) bu (bG (ak (vB 7) bI)) (λL cs s H fp=>(gN 12 nZ)) (λL cs s H fp=>aX) (λL cs s H fp=>(ak (EB.of (ak (vB 9) bI)) (vB 12)))))) rfl T.tuple aO (λt ha=>cA dw rfl T.tuple boot_tuple ha (he:=aO) (hpl:=aq))) af av) ae) ae)))))
 aE)
 (ag (jg (pv 8) (vE 10) (hst:=aa))))))
 (ii 8 (ag (jg (pv 6) (vE 8) (hst:=aa)))))))
 (ah (m8 (f_ (i:=11) (ay (i:=11) Ic.nd rfl (Or.inl rfl)) (N':=Nc_law_parts_1) (n:=1) rfl rfl rfl (dq 12) bu (bv rfl T.range (ab (edl (vB 2) rfl T.len aa) af av) (bb av)) (λL cs s H fp=>(gN 12 nY)) (λL cs s H fp=>aX) (λL cs s H fp=>(xE (qp hr) (pv 4) (cq (ab (vE 12) (ab (vE 12) (ab (u7 rfl (ab (ak (vB 2) (vB 12)) af ae) rfl T.range rfl T.tuple (bb ae) av (λt ha=>cA (jE rfl) rfl T.tuple boot_tuple ha (he:=av) (hpl:=aq))) af av) aa) aa)))) rfl))
 (ii 6 (ag (aD (cq (ab (bB (ba (N':=Nc_law_parts_2) (n:=1) rfl rfl rfl (dq 12) bu (bG (vE 3)) (λL cs s H fp=>(gN 12 nX)) (λL cs s H fp=>aX) (λL cs s H fp=>(cq (ab (ak (vB 12) bI) (ab (ak (vB 12) bI) af ae) ae))))) (ab (vE 11) (ab (vE 6) (ab (vE 3) (ab (vE 2) af aa) aa) aa) aa) aO))))))))))))),hm,F.kp,hb⟩
abbrev dY:Stmt:=sAt 10
abbrev jI:List Str:=["ends","rests"]
theorem mJ:ax jI ["ends","rests"] (ao dY):=by constructor<;>first|rfl|decide +kernel
def eV:Rho->R Out:=(sq (iff (dP (tst (chn (λi j=>decide (i<=j)) (λi j=>decide (i<=j)) (kd (.int 1)) (una aJ (vb 1)) (kd (.int 6)))))
 bad
 nxt)
 (iff (dP (tst (chn (λi j=>decide (i<=j)) (λi j=>decide (i<=j)) (kd (.int 1)) (una aJ (vb 0)) (kd (.int 40)))))
 bad
 nxt))
def cf (ds:List D):R D:=fin (eV (st0 jI ds))
include T in
theorem mR (F:Fun K "check_counts" "check_counts" dY a fd) (hm:mg "check_counts"=some (.ref a)) (hb:Binds K fd ["ends","rests"] []):Fn P w K mg base C 1 "check_counts" 2 cf :=
 ⟨a,fd,_,aV (den:=eV) F mJ (λ_ _ _ _ _ _ hr=>(ah (bj (cU (tK (f:=λi j=>decide (i<=j)) (g:=λi j=>decide (i<=j)) qs qs bI (EB.of (edl (vB 1) rfl T.len aa)) (EB.of (o3 rfl T.most_boxes.choose_spec))))
 (ag dU)
 aE)
 (ag (bj (cU (tK (f:=λi j=>decide (i<=j)) (g:=λi j=>decide (i<=j)) qs qs bI (EB.of (edl (vB 0) rfl T.len aa)) (EB.of (o3 rfl T.most_arrows.choose_spec))))
 (ag dU)
 aE)))),hm,F.kp,hb⟩
abbrev ir:Stmt:=sAt 9
abbrev pk:List Str:=["number","count"]
theorem tW:ax pk ["number","count"] (ao ir):=by constructor<;>first|rfl|decide +kernel
def iT:Rho->R Out:=(ret (chn (λi j=>decide (i<=j)) (λi j=>decide (i<j)) (kd (.int 0)) (vb 0) (vb 1)))
def bm (ds:List D):R D:=fin (iT (st0 pk ds))
include T in
theorem uz (F:Fun K "is_below" "is_below" ir a fd) (hm:mg "is_below"=some (.ref a)) (hb:Binds K fd ["number","count"] []):Fn P w K mg base C 1 "is_below" 2 bm :=
 ⟨a,fd,_,aV (den:=iT) F tW (λ_ _ _ _ _ _ hr=>(ag (aD (AX (f:=λi j=>decide (i<=j)) (g:=λi j=>decide (i<j)) qs Dh bI (vB 0) (vB 1))))),hm,F.kp,hb⟩
abbrev fR:Stmt:=sAt 11
abbrev lH:List Str:=["ends","boxes","arrow","pair"]
theorem HJ:ax lH ["ends","boxes"] (ao fR):=by constructor<;>first|rfl|decide +kernel
def gA:Rho->R Out:=(br (eE (aC (vr 0) aN)) (tg2 2 3)
 (iff (orB (tst (bin fne (una aJ (vb 3)) (kd (.int 2)))) (orB (dP (tst (cal 2 bm (aC (bin fix (vb 3) (kd (.int 0))) (aC (vr 1) aN))))) (dP (tst (cal 2 bm (aC (bin fix (vb 3) (kd (.int 1))) (aC (vr 1) aN)))))))
 bad
 nxt))
def cO (ds:List D):R D:=fin (gA (st0 lH ds))
variable (f19:Fn P w K mg base C 1 "is_below" 2 bm)
include T f19 in
theorem p5 (F:Fun K "check_ends" "check_ends" fR a fd) (hm:mg "check_ends"=some (.ref a)) (hb:Binds K fd ["ends","boxes"] []):Fn P w K mg base C 2 "check_ends" 2 cO :=
 ⟨a,fd,_,aV (den:=gA) F HJ (λ_ _ _ _ _ _ hr=>(ag (bq PassesOwn.never rfl (cz rfl T.enumerate (ab (vE 0) af aa) (bb aa)) (bW rfl (ay (i:=2) HJ.nd rfl (Or.inl rfl)) (ay (i:=3) HJ.nd rfl (Or.inl rfl)))
 (ag (bj (lM (hE (cT (bi hr) (EB.of (edl (vB 3) rfl T.len aa)) bI) (hE (cU (dC (eF f19 hr (ab (ak (vB 3) bI) (ab (vE 1) af aa) ae) ae (aj aa aq)))) (fX (cU (dC (eF f19 hr (ab (ak (vB 3) bI) (ab (vE 1) af aa) ae) ae (aj aa aq))))))))
 (ag dU)
 aE))))),hm,F.kp,hb⟩
abbrev fg:Stmt:=sAt 12
abbrev kh:List Str:=["ends","rests","box","rest"]
theorem HL:ax kh ["ends","rests"] (ao fg):=by constructor<;>first|rfl|decide +kernel
def fE:Rho->R Out:=(br (eE (aC (vr 1) aN)) (tg2 2 3)
 (iff (orB (dP (tst (cal 2 bm (aC (vr 3) (aC (una aJ (vb 0)) aN))))) (tst (bin fne (bin fix (vb 0) (vb 3)) (eT (aC (vr 2) (aC (vr 2) aN))))))
 bad
 nxt))
def cC (ds:List D):R D:=fin (fE (st0 kh ds))
include T f19 in
theorem oj (F:Fun K "check_rests" "check_rests" fg a fd) (hm:mg "check_rests"=some (.ref a)) (hb:Binds K fd ["ends","rests"] []):Fn P w K mg base C 2 "check_rests" 2 cC :=
 ⟨a,fd,_,aV (den:=fE) F HL (λ_ _ _ _ _ _ hr=>(ag (bq PassesOwn.never rfl (cz rfl T.enumerate (ab (vE 1) af aa) (bb aa)) (bW rfl (ay (i:=2) HL.nd rfl (Or.inl rfl)) (ay (i:=3) HL.nd rfl (Or.inl rfl)))
 (ag (bj (lM (hE (cU (dC (eF f19 hr (ab (vE 3) (ab (edl (vB 0) rfl T.len aa) af av) aa) aa (aj av aq)))) (fX (cT (bi hr) (EB.of (ak (vB 0) (vB 3))) (EB.of (cq (ab (vE 2) (ab (vE 2) af aa) aa)))))))
 (ag dU)
 aE))))),hm,F.kp,hb⟩
abbrev fQ:Stmt:=sAt 13
abbrev iY:List Str:=["table","arrows","one","row"]
theorem HK:ax iY ["table","arrows"] (ao fQ):=by constructor<;>first|rfl|decide +kernel
def gw:Rho->R Out:=(sq (iff (tst (bin fne (una aJ (vb 0)) (vb 1)))
 bad
 nxt)
 (br (eE (aC (vr 0) aN)) (tg2 2 3)
 (iff (tst (bin fne (una aJ (vb 3)) (vb 1)))
 bad
 nxt)))
def cN (ds:List D):R D:=fin (gw (st0 iY ds))
include T in
theorem pZ (F:Fun K "check_form" "check_form" fQ a fd) (hm:mg "check_form"=some (.ref a)) (hb:Binds K fd ["table","arrows"] []):Fn P w K mg base C 1 "check_form" 2 cN :=
 ⟨a,fd,_,aV (den:=gw) F HK (λ_ _ _ _ _ _ hr=>(ah (bj (cT (bi hr) (EB.of (edl (vB 0) rfl T.len aa)) (vB 1))
 (ag dU)
 aE)
 (ag (bq PassesOwn.never rfl (cz rfl T.enumerate (ab (vE 0) af aa) (bb aa)) (bW rfl (ay (i:=2) HK.nd rfl (Or.inl rfl)) (ay (i:=3) HK.nd rfl (Or.inl rfl)))
 (ag (bj (cT (bi hr) (EB.of (edl (vB 3) rfl T.len aa)) (vB 1))
 (ag dU)
 aE)))))),hm,F.kp,hb⟩
abbrev fh:Stmt:=sAt 15
abbrev ki:List Str:=["ends","one","other","made"]
theorem nL:ax ki ["ends","one","other","made"] (ao fh):=by constructor<;>first|rfl|decide +kernel
def fF:Rho->R Out:=(iff (tst (bin fne (bin fix (bin fix (vb 0) (vb 1)) (kd (.int 1))) (bin fix (bin fix (vb 0) (vb 2)) (kd (.int 0)))))
 (iff (tst (bin fne (vb 3) (una mU (kd (.int 1)))))
 bad
 nxt)
 (iff (orB (dP (tst (cal 2 bm (aC (vr 3) (aC (una aJ (vb 0)) aN))))) (tst (bin fne (bin fix (vb 0) (vb 3)) (eT (aC (bin fix (bin fix (vb 0) (vb 1)) (kd (.int 0))) (aC (bin fix (bin fix (vb 0) (vb 2)) (kd (.int 1))) aN))))))
 bad
 nxt))
def cD (ds:List D):R D:=fin (fF (st0 ki ds))
include T f19 in
theorem om (F:Fun K "check_entry" "check_entry" fh a fd) (hm:mg "check_entry"=some (.ref a)) (hb:Binds K fd ["ends","one","other","made"] []):Fn P w K mg base C 2 "check_entry" 4 cD :=
 ⟨a,fd,_,aV (den:=fF) F nL (λ_ _ _ _ _ _ hr=>(ag (bj (cT (bi hr) (EB.of (ak (EB.of (ak (vB 0) (vB 1))) bI)) (EB.of (ak (EB.of (ak (vB 0) (vB 2))) bI)))
 (ag (bj (cT (bi hr) (vB 3) (EB.of (oY bI)))
 (ag dU)
 aE))
 (ag (bj (lM (hE (cU (dC (eF f19 hr (ab (vE 3) (ab (edl (vB 0) rfl T.len aa) af av) aa) aa (aj av aq)))) (fX (cT (bi hr) (EB.of (ak (vB 0) (vB 3))) (EB.of (cq (ab (ak (EB.of (ak (vB 0) (vB 1))) bI) (ab (ak (EB.of (ak (vB 0) (vB 2))) bI) af ae) ae)))))))
 (ag dU)
 aE))))),hm,F.kp,hb⟩
abbrev ff:Stmt:=sAt 14
abbrev kg:List Str:=["ends","table","one","row","other","made"]
theorem HM:ax kg ["ends","table"] (ao ff):=by constructor<;>first|rfl|decide +kernel
def fD:Rho->R Out:=(br (eE (aC (vr 1) aN)) (tg2 2 3)
 (br (eE (aC (vr 3) aN)) (tg2 4 5)
 (drp (cal 4 cD (aC (vr 0) (aC (vr 2) (aC (vr 4) (aC (vr 5) aN))))))))
def cB (ds:List D):R D:=fin (fD (st0 kg ds))
variable (f9:Fn P w K mg base C 2 "check_entry" 4 cD)
include T f9 in
theorem oi (F:Fun K "check_table" "check_table" ff a fd) (hm:mg "check_table"=some (.ref a)) (hb:Binds K fd ["ends","table"] []):Fn P w K mg base C 3 "check_table" 2 cB :=
 ⟨a,fd,_,aV (den:=fD) F HM (λ_ _ _ _ _ _ hr=>(ag (bq PassesOwn.never rfl (cz rfl T.enumerate (ab (vE 1) af aa) (bb aa)) (bW rfl (ay (i:=2) HM.nd rfl (Or.inl rfl)) (ay (i:=3) HM.nd rfl (Or.inl rfl)))
 (ag (bq PassesOwn.never rfl (cz rfl T.enumerate (ab (vE 3) af aa) (bb aa)) (bW rfl (ay (i:=4) HM.nd rfl (Or.inl rfl)) (ay (i:=5) HM.nd rfl (Or.inl rfl)))
 (ag (eW (EB.of (eF f9 hr (ab (vE 0) (ab (vE 2) (ab (vE 4) (ab (vE 5) af aa) aa) aa) aa) aa (aj aa (aj aa (aj aa aq)))))))))))),hm,F.kp,hb⟩
abbrev cg:Stmt:=sAt 16
abbrev fu:List Str:=["ends","rests","table","arrow","pair"]
theorem HI:ax fu ["ends","rests","table"] (ao cg):=by constructor<;>first|rfl|decide +kernel
def cI:Rho->R Out:=(br (eE (aC (vr 0) aN)) (tg2 3 4)
 (iff (orB (tst (bin fne (bin fix (bin fix (vb 2) (bin fix (vb 1) (bin fix (vb 4) (kd (.int 0))))) (vb 3)) (vb 3))) (tst (bin fne (bin fix (bin fix (vb 2) (vb 3)) (bin fix (vb 1) (bin fix (vb 4) (kd (.int 1))))) (vb 3))))
 bad
 nxt))
def bt (ds:List D):R D:=fin (cI (st0 fu ds))
include T in
theorem i9 (F:Fun K "check_beside_rests" "check_beside_rests" cg a fd) (hm:mg "check_beside_rests"=some (.ref a)) (hb:Binds K fd ["ends","rests","table"] []):Fn P w K mg base C 1 "check_beside_rests" 3 bt :=
 ⟨a,fd,_,aV (den:=cI) F HI (λ_ _ _ _ _ _ hr=>(ag (bq PassesOwn.never rfl (cz rfl T.enumerate (ab (vE 0) af aa) (bb aa)) (bW rfl (ay (i:=3) HI.nd rfl (Or.inl rfl)) (ay (i:=4) HI.nd rfl (Or.inl rfl)))
 (ag (bj (lM (hE (cT (bi hr) (EB.of (ak (EB.of (ak (vB 2) (EB.of (ak (vB 1) (EB.of (ak (vB 4) bI)))))) (vB 3))) (vB 3)) (fX (cT (bi hr) (EB.of (ak (EB.of (ak (vB 2) (vB 3))) (EB.of (ak (vB 1) (EB.of (ak (vB 4) bI)))))) (vB 3)))))
 (ag dU)
 aE))))),hm,F.kp,hb⟩
abbrev dX:Stmt:=sAt 18
abbrev gB:List Str:=["table","one","other","made","third","later"]
theorem HN:ax gB ["table","one","other","made"] (ao dX):=by constructor<;>first|rfl|decide +kernel
def eU:Rho->R Out:=(br (eE (aC (bin fix (vb 0) (vb 2)) aN)) (tg2 4 5)
 (iff (yL (tst (bin fne (vb 5) (una mU (kd (.int 1))))) (tst (bin fne (bin fix (bin fix (vb 0) (vb 3)) (vb 4)) (bin fix (bin fix (vb 0) (vb 1)) (vb 5)))))
 bad
 nxt))
def ce (ds:List D):R D:=fin (eU (st0 gB ds))
include T in
theorem mQ (F:Fun K "check_thirds" "check_thirds" dX a fd) (hm:mg "check_thirds"=some (.ref a)) (hb:Binds K fd ["table","one","other","made"] []):Fn P w K mg base C 1 "check_thirds" 4 ce :=
 ⟨a,fd,_,aV (den:=eU) F HN (λ_ _ _ _ _ _ hr=>(ag (bq PassesOwn.never rfl (cz rfl T.enumerate (ab (ak (vB 0) (vB 2)) af ae) (bb ae)) (bW rfl (ay (i:=4) HN.nd rfl (Or.inl rfl)) (ay (i:=5) HN.nd rfl (Or.inl rfl)))
 (ag (bj (lM (yT (cT (bi hr) (vB 5) (EB.of (oY bI))) (wE (cT (bi hr) (EB.of (ak (EB.of (ak (vB 0) (vB 3))) (vB 4))) (EB.of (ak (EB.of (ak (vB 0) (vB 1))) (vB 5)))))))
 (ag dU)
 aE))))),hm,F.kp,hb⟩
abbrev dW:Stmt:=sAt 17
abbrev jH:List Str:=["table","one","row","other","made"]
theorem HP:ax jH ["table"] (ao dW):=by constructor<;>first|rfl|decide +kernel
def eS:Rho->R Out:=(br (eE (aC (vr 0) aN)) (tg2 1 2)
 (br (eE (aC (vr 2) aN)) (tg2 3 4)
 (iff (tst (bin fne (vb 4) (una mU (kd (.int 1)))))
 (drp (cal 4 ce (aC (vr 0) (aC (vr 1) (aC (vr 3) (aC (vr 4) aN))))))
 nxt)))
def ca (ds:List D):R D:=fin (eS (st0 jH ds))
variable (f14:Fn P w K mg base C 1 "check_thirds" 4 ce)
include T f14 in
theorem mP (F:Fun K "check_threes" "check_threes" dW a fd) (hm:mg "check_threes"=some (.ref a)) (hb:Binds K fd ["table"] []):Fn P w K mg base C 2 "check_threes" 1 ca :=
 ⟨a,fd,_,aV (den:=eS) F HP (λ_ _ _ _ _ _ hr=>(ag (bq PassesOwn.never rfl (cz rfl T.enumerate (ab (vE 0) af aa) (bb aa)) (bW rfl (ay (i:=1) HP.nd rfl (Or.inl rfl)) (ay (i:=2) HP.nd rfl (Or.inl rfl)))
 (ag (bq PassesOwn.never rfl (cz rfl T.enumerate (ab (vE 2) af aa) (bb aa)) (bW rfl (ay (i:=3) HP.nd rfl (Or.inl rfl)) (ay (i:=4) HP.nd rfl (Or.inl rfl)))
 (ag (bj (cT (bi hr) (vB 4) (EB.of (oY bI)))
 (ag (eW (EB.of (eF f14 hr (ab (vE 0) (ab (vE 1) (ab (vE 3) (ab (vE 4) af aa) aa) aa) aa) aa (aj aa (aj aa (aj aa aq)))))))
 aE))))))),hm,F.kp,hb⟩
abbrev bP:Stmt:=Co (sAt 19) 0
abbrev fk:List Str:=["self","ends","rests","table"]
theorem nM:ax fk ["self","ends","rests","table"] (ao bP):=by constructor<;>first|rfl|decide +kernel
abbrev Nc_Hall___init_0:List Str:=["self","ends","rests","table","row"]
theorem lU:Nc_Hall___init_0.Nodup:=by decide +kernel
def jB:Rho->R D:=CN [(cal 2 cf (aC (vr 1) (aC (vr 2) aN))),(cal 2 cO (aC (vr 1) (aC (una aJ (vb 2)) aN))),(cal 2 cC (aC (vr 1) (aC (vr 2) aN))),(cal 2 cN (aC (vr 3) (aC (una aJ (vb 1)) aN))),(cal 2 cB (aC (vr 1) (aC (vr 3) aN))),(cal 3 bt (aC (vr 1) (aC (vr 2) (aC (vr 3) aN)))),(cal 1 ca (aC (vr 3) aN))] (fIt (vb 1)) (fIt (vb 2)) (a_ (fIt (vr 3)) 1 (tgN 4) tT (eLs (fIt (vb 4))))
variable (f5:Fn P w K mg base C 1 "check_beside_rests" 3 bt)
variable (f7:Fn P w K mg base C 1 "check_counts" 2 cf)
variable (f8:Fn P w K mg base C 2 "check_ends" 2 cO)
variable (f10:Fn P w K mg base C 1 "check_form" 2 cN)
variable (f12:Fn P w K mg base C 2 "check_rests" 2 cC)
variable (f13:Fn P w K mg base C 3 "check_table" 2 cB)
variable (f15:Fn P w K mg base C 2 "check_threes" 1 ca)
include T f5 f7 f8 f10 f12 f13 f15 in
theorem mi (hr:Room 3 (A.deeper (envOfC "Hall.__init__" (ao bP) s.heap.objs.size f cdv))) :
  PSs (jb CX0 P w K mg base fk "Hall.__init__" (ao bP) f cdv A outer s H E).nox (cJ bP) (tCk C (jb CX0 P w K mg base fk "Hall.__init__" (ao bP) f cdv A outer s H E).nox [(cal 2 cf (aC (vr 1) (aC (vr 2) aN))),(cal 2 cO (aC (vr 1) (aC (una aJ (vb 2)) aN))),(cal 2 cC (aC (vr 1) (aC (vr 2) aN))),(cal 2 cN (aC (vr 3) (aC (una aJ (vb 1)) aN))),(cal 2 cB (aC (vr 1) (aC (vr 3) aN))),(cal 3 bt (aC (vr 1) (aC (vr 2) (aC (vr 3) aN)))),(cal 1 ca (aC (vr 3) aN))] (tI C (jb CX0 P w K mg base fk "Hall.__init__" (ao bP) f cdv A outer s H E).nox (fIt (vb 1)) (fIt (vb 2)) (a_ (fIt (vr 3)) 1 (tgN 4) tT (eLs (fIt (vb 4)))))) :=
 (kl (nP (EB.of (eF f7 hr (ab (vE 1) (ab (vE 2) af aa) aa) aa (aj aa aq))))
 (kl (nP (EB.of (eF f8 hr (ab (vE 1) (ab (edl (vB 2) rfl T.len aa) af av) aa) aa (aj av aq))))
 (kl (nP (EB.of (eF f12 hr (ab (vE 1) (ab (vE 2) af aa) aa) aa (aj aa aq))))
 (kl (nP (EB.of (eF f10 hr (ab (vE 3) (ab (edl (vB 1) rfl T.len aa) af av) aa) aa (aj av aq))))
 (kl (nP (EB.of (eF f13 hr (ab (vE 1) (ab (vE 3) af aa) aa) aa (aj aa aq))))
 (kl (nP (EB.of (eF f5 hr (ab (vE 1) (ab (vE 2) (ab (vE 3) af aa) aa) aa) aa (aj aa (aj aa aq)))))
 (kl (nP (EB.of (eF f15 hr (ab (vE 3) af aa) aa aq)))
 (F0 (zA (pv 0) (fdl (vB 1) rfl T.list aa)) (zA (pv 0) (fdl (vB 2) rfl T.list aa)) (zA (pv 0) (ba (N':=Nc_Hall___init_0) (n:=1) rfl rfl rfl (dq 4) bu (bG (vE 3)) (λL cs s H fp=>(gN 4 lU)) (λL cs s H fp=>aX) (λL cs s H fp=>(bB (fdl (vB 4) rfl T.list aa)))))))))))))
include T f5 f7 f8 f10 f12 f13 f15 in
theorem oo (F:Fun K "__init__" "Hall.__init__" bP a fd) (M:Mk K C a) (hb:Binds K fd ["self","ends","rests","table"] []):FnH P w K mg base C 4 jB :=
 ⟨a,fd,M,Cm F nM T.cl T.nE T.nR T.nT (λcdv A outer s H E hr=>mi cdv A outer s H E T f5 f7 f8 f10 f12 f13 f15 hr),T.hall,hb⟩
abbrev io:Stmt:=sAt 52
abbrev ph:List Str:=["parts"]
theorem tU:ax ph ["parts"] (ao io):=by constructor<;>first|rfl|decide +kernel
abbrev Nc_law_hall_0:List Str:=["parts","row"]
theorem pH:Nc_law_hall_0.Nodup:=by decide +kernel
def iQ:Rho->R Out:=(ret (mkH jB (aC (eLs (fIt (bin fix (vb 0) (kd (.int 0))))) (aC (eLs (fIt (bin fix (vb 0) (kd (.int 1))))) (aC (eLs (a_ (fIt (bin fix (vb 0) (kd (.int 2)))) 1 (tgN 1) tT (eLs (fIt (vb 1))))) aN)))))
def dL (ds:List D):R D:=fin (iQ (st0 ph ds))
variable (f0:FnH P w K mg base C 4 jB)
include T f0 in
theorem uv (F:Fun K "_law_hall" "_law_hall" io a fd) (hm:mg "_law_hall"=some (.ref a)) (hb:Binds K fd ["parts"] []):Fn P w K mg base C 6 "_law_hall" 1 dL :=
 ⟨a,fd,_,aV (den:=iQ) F tU (λ_ _ _ _ _ _ hr=>(ag (aD (CH f0 (hr.mono (by decide)) rfl (ab (bB (fdl (EB.of (ak (vB 0) bI)) rfl T.list ae)) (ab (bB (fdl (EB.of (ak (vB 0) bI)) rfl T.list ae)) (ab (bB (ba (N':=Nc_law_hall_0) (n:=1) rfl rfl rfl (dq 1) bu (bG (ak (vB 0) bI)) (λL cs s H fp=>(gN 1 pH)) (λL cs s H fp=>aX) (λL cs s H fp=>(bB (fdl (vB 1) rfl T.list aa))))) af aO) av) av) rfl (he:=av) (hpl:=(aj av (aj aO aq))))))),hm,F.kp,hb⟩
abbrev cZ:Stmt:=sAt 54
abbrev ie:List Str:=["parts"]
theorem kG:ax ie ["parts"] (ao cZ):=by constructor<;>first|rfl|decide +kernel
abbrev Nc_law_reading_of_0:List Str:=["parts","size"]
theorem j3:Nc_law_reading_of_0.Nodup:=by decide +kernel
abbrev Nc_law_reading_of_1:List Str:=["parts","arrow"]
theorem j0:Nc_law_reading_of_1.Nodup:=by decide +kernel
def dG:Rho->R Out:=(ret (eT (aC (eLs (a_ (fIt (bin fix (vb 0) (kd (.int 4)))) 1 (tgN 1) tT (vr 1))) (aC (eLs (a_ (fIt (bin fix (vb 0) (kd (.int 3)))) 1 (tgN 1) tT (eLs (fIt (bin fix (vb 1) (kd (.int 2))))))) aN))))
def bS (ds:List D):R D:=fin (dG (st0 ie ds))
include T in
theorem kU (F:Fun K "_law_reading_of" "_law_reading_of" cZ a fd) (hm:mg "_law_reading_of"=some (.ref a)) (hb:Binds K fd ["parts"] []):Fn P w K mg base C 1 "_law_reading_of" 1 bS :=
 ⟨a,fd,_,aV (den:=dG) F kG (λ_ _ _ _ _ _ hr=>(ag (aD (cq (ab (bB (ba (N':=Nc_law_reading_of_0) (n:=1) rfl rfl rfl (dq 1) bu (bG (ak (vB 0) bI)) (λL cs s H fp=>(gN 1 j3)) (λL cs s H fp=>aX) (λL cs s H fp=>(vE 1)))) (ab (bB (ba (N':=Nc_law_reading_of_1) (n:=1) rfl rfl rfl (dq 1) bu (bG (ak (vB 0) bI)) (λL cs s H fp=>(gN 1 j0)) (λL cs s H fp=>aX) (λL cs s H fp=>(bB (fdl (EB.of (ak (vB 1) bI)) rfl T.list ae))))) af aO) aO))))),hm,F.kp,hb⟩
abbrev fN:Stmt:=sAt 56
abbrev lE:List Str:=["parts","one","other","maps","arrow","more"]
theorem HW:ax lE ["parts","one","other"] (ao fN):=by constructor<;>first|rfl|decide +kernel
abbrev Nc_law_beside_0:List Str:=["parts","one","other","maps","arrow","more","thing"]
theorem mN:Nc_law_beside_0.Nodup:=by decide +kernel
abbrev Nc_law_beside_1:List Str:=["parts","one","other","maps","arrow","more","a","b"]
theorem iZ:Nc_law_beside_1.Nodup:=by decide +kernel
def gt:Rho->R Out:=(sq (own 3 (ku aN))
 (sq (br (bC (aC (una aJ (bin fix (vb 0) (kd (.int 0)))) aN)) (tgN 4)
 (sq (asg 5 (bin fix (bin fix (vb 1) (kd (.int 0))) (bin fix (bin fix (bin fix (vb 0) (kd (.int 0))) (vb 4)) (kd (.int 1)))))
 (app 3 (bin b_ (bin fix (bin fix (vb 1) (kd (.int 1))) (vb 4)) (eLs (a_ (fIt (bin fix (bin fix (vb 2) (kd (.int 1))) (vb 4))) 1 (tgN 6) tT (bin b_ (vb 6) (vb 5))))))))
 (fz 3 (ret (eT (aC (eLs (a_ (mV (aC (bin fix (vb 1) (kd (.int 0))) (aC (bin fix (vb 2) (kd (.int 0))) aN))) 2 (tg2 6 7) tT (bin b_ (vb 6) (vb 7)))) (aC (vr 3) aN)))))))
def cM (ds:List D):R D:=fin (gt (st0 lE ds))
include T in
theorem pW (F:Fun K "_law_beside" "_law_beside" fN a fd) (hm:mg "_law_beside"=some (.ref a)) (hb:Binds K fd ["parts","one","other"] []):Fn P w K mg base C 1 "_law_beside" 3 cM :=
 ⟨a,fd,_,aV (den:=gt) F HW (λ_ _ _ _ _ _ hr=>(ah (kj (i:=3) HW.nd rfl (Or.inl rfl) (kt af))
 (ah (bq PassesOwn.never rfl (bv rfl T.range (ab (edl (EB.of (ak (vB 0) bI)) rfl T.len ae) af av) (bb av)) (gN 4 HW.nd)
 (ah (sS 5 HW.nd (ak (EB.of (ak (vB 1) bI)) (EB.of (ak (EB.of (ak (EB.of (ak (vB 0) bI)) (vB 4))) bI))))
 (ag (jg (pv 3) (dF (EB.of (ak (EB.of (ak (vB 1) bI)) (vB 4))) (EB.of (bB (ba (N':=Nc_law_beside_0) (n:=1) rfl rfl rfl (dq 6) bu (bG (ak (EB.of (ak (vB 2) bI)) (vB 4))) (λL cs s H fp=>(gN 6 mN)) (λL cs s H fp=>aX) (λL cs s H fp=>(dF (vB 6) (vB 5))))))) (hst:=bp)))))
 (ii 3 (ag (aD (cq (ab (bB (ba (N':=Nc_law_beside_1) (n:=2) rfl rfl rfl (Am 6) nC (sC rfl T.zip (ab (ak (vB 1) bI) (ab (ak (vB 2) bI) af ae) ae) ae (aj ae aq)) (λL cs s H fp=>(bW rfl (ay (i:=6) iZ rfl (Or.inl rfl)) (ay (i:=7) iZ rfl (Or.inl rfl)))) (λL cs s H fp=>aX) (λL cs s H fp=>(dF (vB 6) (vB 7))))) (ab (vE 3) af aa) aO)))))))),hm,F.kp,hb⟩
abbrev eX:Stmt:=sAt 53
abbrev j_:List Str:=["parts","box","other"]
theorem nJ:ax j_ ["parts","box","other"] (ao eX):=by constructor<;>first|rfl|decide +kernel
abbrev Nc_law_between_0:List Str:=["parts","box","other","arrow"]
theorem lT:Nc_law_between_0.Nodup:=by decide +kernel
def fA:Rho->R Out:=(ret (eLs (a_ (bC (aC (una aJ (bin fix (vb 0) (kd (.int 0)))) aN)) 1 (tgN 3) (tst (bin feq (bin fix (bin fix (vb 0) (kd (.int 0))) (vb 3)) (eT (aC (vr 1) (aC (vr 2) aN))))) (vr 3))))
def bY (ds:List D):R D:=fin (fA (st0 j_ ds))
include T in
theorem n_ (F:Fun K "_law_between" "_law_between" eX a fd) (hm:mg "_law_between"=some (.ref a)) (hb:Binds K fd ["parts","box","other"] []):Fn P w K mg base C 1 "_law_between" 3 bY :=
 ⟨a,fd,_,aV (den:=fA) F nJ (λ_ _ _ _ _ _ hr=>(ag (aD (bB (ba (N':=Nc_law_between_0) (n:=1) rfl rfl rfl (dq 3) bu (bv rfl T.range (ab (edl (EB.of (ak (vB 0) bI)) rfl T.len ae) af av) (bb av)) (λL cs s H fp=>(gN 3 lT)) (λL cs s H fp=>(xo (gD (bi hr) (EB.of (ak (EB.of (ak (vB 0) bI)) (vB 3))) (EB.of (cq (ab (vE 1) (ab (vE 2) af aa) aa)))))) (λL cs s H fp=>(vE 3))))))),hm,F.kp,hb⟩
abbrev jN:Stmt:=sAt 55
abbrev qV:List Str:=["parts","box","things","maps","arrow","one","other"]
theorem Ib:ax qV ["parts","box"] (ao jN):=by constructor<;>first|rfl|decide +kernel
abbrev Nc_law_out_0:List Str:=["parts","box","things","maps","arrow","one","6.","other"]
theorem r_:Nc_law_out_0.Nodup:=by decide +kernel
abbrev Nc_law_out_1:List Str:=["parts","box","things","maps","arrow","one","other","first"]
theorem rZ:Nc_law_out_1.Nodup:=by decide +kernel
abbrev Nc_law_out_2:List Str:=["parts","box","things","maps","arrow","one","other","row"]
theorem rY:Nc_law_out_2.Nodup:=by decide +kernel
def jy:Rho->R Out:=(sq (asg 2 (eLs (a_ (bC (aC (una aJ (bin fix (vb 0) (kd (.int 1)))) aN)) 1 (tgN 7) tT (cal 3 bY (aC (vr 0) (aC (vr 1) (aC (vr 7) aN)))))))
 (sq (own 3 (ku aN))
 (sq (br (bC (aC (una aJ (bin fix (vb 0) (kd (.int 0)))) aN)) (tgN 4)
 (sq (asT (tg2 5 6) (bin fix (bin fix (vb 0) (kd (.int 0))) (vb 4)))
 (app 3 (eLs (a_ (fIt (bin fix (vb 2) (vb 5))) 1 (tgN 7) tT (sA (bin fix (vb 2) (vb 6)) (bin fix (bin fix (bin fix (vb 0) (kd (.int 2))) (vb 7)) (vb 4))))))))
 (fz 3 (ret (eT (aC (eLs (a_ (fIt (vr 2)) 1 (tgN 7) tT (una aJ (vb 7)))) (aC (vr 3) aN))))))))
def cW (ds:List D):R D:=fin (jy (st0 qV ds))
variable (f26:Fn P w K mg base C 1 "_law_between" 3 bY)
include T f26 in
theorem vY (F:Fun K "_law_out" "_law_out" jN a fd) (hm:mg "_law_out"=some (.ref a)) (hb:Binds K fd ["parts","box"] []):Fn P w K mg base C 2 "_law_out" 2 cW :=
 ⟨a,fd,_,aV (den:=jy) F Ib (λ_ _ _ _ _ _ hr=>(ah (sS 2 Ib.nd (bB (ba (N':=Nc_law_out_0) (n:=1) rfl rfl rfl (dq 7) bu (bv rfl T.range (ab (edl (EB.of (ak (vB 0) bI)) rfl T.len ae) af av) (bb av)) (λL cs s H fp=>(gN 7 r_)) (λL cs s H fp=>aX) (λL cs s H fp=>(eF f26 hr (ab (vE 0) (ab (vE 1) (ab (vE 7) af aa) aa) aa) aa (aj aa (aj aa aq)))))))
 (ah (kj (i:=3) Ib.nd rfl (Or.inl rfl) (kt af))
 (ah (bq PassesOwn.never rfl (bv rfl T.range (ab (edl (EB.of (ak (vB 0) bI)) rfl T.len ae) af av) (bb av)) (gN 4 Ib.nd)
 (ah (zi (ak (EB.of (ak (vB 0) bI)) (vB 4)) (bW rfl (ay (i:=5) Ib.nd rfl (Or.inl rfl)) (ay (i:=6) Ib.nd rfl (Or.inr rfl))))
 (ag (jg (pv 3) (bB (ba (N':=Nc_law_out_1) (n:=1) rfl rfl rfl (dq 7) bu (bG (ak (vB 2) (vB 5))) (λL cs s H fp=>(gN 7 rZ)) (λL cs s H fp=>aX) (λL cs s H fp=>(o0 (EB.of (ak (vB 2) (vB 6))) (ak (EB.of (ak (EB.of (ak (vB 0) bI)) (vB 7))) (vB 4)) ae)))) (hst:=aO)))))
 (ii 3 (ag (aD (cq (ab (bB (ba (N':=Nc_law_out_2) (n:=1) rfl rfl rfl (dq 7) bu (bG (vE 2)) (λL cs s H fp=>(gN 7 rY)) (λL cs s H fp=>aX) (λL cs s H fp=>(edl (vB 7) rfl T.len aa)))) (ab (vE 3) af aa) aO))))))))),hm,F.kp,hb⟩
abbrev cy:Stmt:=sAt 57
abbrev fI:List Str:=["script","k","parts","point","none","plain","way","out"]
theorem HZ:ax fI ["script","k","parts"] (ao cy):=by constructor<;>first|rfl|decide +kernel
abbrev Nc_law_drawn_reading_0:List Str:=["script","k","parts","point","none","plain","way","out","box"]
theorem iH:Nc_law_drawn_reading_0.Nodup:=by decide +kernel
abbrev Nc_law_drawn_reading_1:List Str:=["script","k","parts","point","none","plain","way","out","arrow"]
theorem iG:Nc_law_drawn_reading_1.Nodup:=by decide +kernel
abbrev Nc_law_drawn_reading_2:List Str:=["script","k","parts","point","none","plain","way","out","box"]
theorem iF:Nc_law_drawn_reading_2.Nodup:=by decide +kernel
abbrev Nc_law_drawn_reading_3:List Str:=["script","k","parts","point","none","plain","way","out","arrow"]
theorem iE:Nc_law_drawn_reading_3.Nodup:=by decide +kernel
def cR:Rho->R Out:=(sq (asg 3 (eT (aC (eLs (a_ (fIt (bin fix (vb 2) (kd (.int 1)))) 1 (tgN 8) tT (kd (.int 1)))) (aC (eLs (a_ (fIt (bin fix (vb 2) (kd (.int 0)))) 1 (tgN 8) tT (eL (aC (kd (.int 0)) aN)))) aN))))
 (sq (asg 4 (eT (aC (eLs (a_ (fIt (bin fix (vb 2) (kd (.int 1)))) 1 (tgN 8) tT (kd (.int 0)))) (aC (eLs (a_ (fIt (bin fix (vb 2) (kd (.int 0)))) 1 (tgN 8) tT (eL aN))) aN))))
 (sq (asg 5 (cal 1 bS (aC (vr 2) aN)))
 (sq (asg 6 (bin (iI bn) (cal 2 aA (aC (vr 0) (aC (vr 1) aN))) (kd (.int 5))))
 (sq (iff (tst (bin feq (vb 6) (kd (.int 0))))
 (ret (vr 5))
 nxt)
 (sq (iff (tst (bin feq (vb 6) (kd (.int 1))))
 (ret (cal 3 cM (aC (vr 2) (aC (vr 5) (aC (vr 3) aN)))))
 nxt)
 (sq (iff (tst (bin feq (vb 6) (kd (.int 2))))
 (ret (cal 3 cM (aC (vr 2) (aC (vr 3) (aC (bin fix (eL (aC (vr 4) (aC (vr 3) aN))) (bin (iI bn) (cal 2 aA (aC (vr 0) (aC (bin b_ (vb 1) (kd (.int 1))) aN))) (kd (.int 2)))) aN)))))
 nxt)
 (sq (iff (tst (bin feq (vb 6) (kd (.int 3))))
 (sq (asg 7 (cal 2 cW (aC (vr 2) (aC (bin (iI bn) (cal 2 aA (aC (vr 0) (aC (bin b_ (vb 1) (kd (.int 1))) aN))) (una aJ (bin fix (vb 2) (kd (.int 1))))) aN))))
 (sq (iff (tst (bin (iI fle) (una i5 (bin fix (vb 7) (kd (.int 0)))) (kd (.int 3))))
 (ret (vr 7))
 nxt)
 (ret (vr 5))))
 nxt)
 (ret (vr 4))))))))))
def bE (ds:List D):R D:=fin (cR (st0 fI ds))
variable (f25:Fn P w K mg base C 1 "_law_beside" 3 cM)
variable (f35:Fn P w K mg base C 2 "_law_out" 2 cW)
variable (f37:Fn P w K mg base C 1 "_law_reading_of" 1 bS)
include T f27 f25 f35 f37 in
theorem jo (F:Fun K "_law_drawn_reading" "_law_drawn_reading" cy a fd) (hm:mg "_law_drawn_reading"=some (.ref a)) (hb:Binds K fd ["script","k","parts"] []):Fn P w K mg base C 3 "_law_drawn_reading" 3 bE :=
 ⟨a,fd,_,aV (den:=cR) F HZ (λ_ _ _ _ _ _ hr=>(ah (sS 3 HZ.nd (cq (ab (bB (ba (N':=Nc_law_drawn_reading_0) (n:=1) rfl rfl rfl (dq 8) bu (bG (ak (vB 2) bI)) (λL cs s H fp=>(gN 8 iH)) (λL cs s H fp=>aX) (λL cs s H fp=>bh))) (ab (bB (ba (N':=Nc_law_drawn_reading_1) (n:=1) rfl rfl rfl (dq 8) bu (bG (ak (vB 2) bI)) (λL cs s H fp=>(gN 8 iG)) (λL cs s H fp=>aX) (λL cs s H fp=>(bX (ab bh af aw))))) af aO) aO)))
 (ah (sS 4 HZ.nd (cq (ab (bB (ba (N':=Nc_law_drawn_reading_2) (n:=1) rfl rfl rfl (dq 8) bu (bG (ak (vB 2) bI)) (λL cs s H fp=>(gN 8 iF)) (λL cs s H fp=>aX) (λL cs s H fp=>bh))) (ab (bB (ba (N':=Nc_law_drawn_reading_3) (n:=1) rfl rfl rfl (dq 8) bu (bG (ak (vB 2) bI)) (λL cs s H fp=>(gN 8 iE)) (λL cs s H fp=>aX) (λL cs s H fp=>(bX af)))) af aO) aO)))
 (ah (sS 5 HZ.nd (eF f37 hr (ab (vE 2) af aa) aa aq))
 (ah (sS 6 HZ.nd (cQ (EB.of (eF f27 hr (ab (vE 0) (ab (vE 1) af aa) aa) aa (aj aa aq))) bI))
 (ah (bj (gD (bi hr) (vB 6) bI)
 (ag (aD (vE 5)))
 aE)
 (ah (bj (gD (bi hr) (vB 6) bI)
 (ag (aD (eF f25 hr (ab (vE 2) (ab (vE 5) (ab (vE 3) af aa) aa) aa) aa (aj aa (aj aa aq)))))
 aE)
 (ah (bj (gD (bi hr) (vB 6) bI)
 (ag (aD (eF f25 hr (ab (vE 2) (ab (vE 3) (ab (ak (EB.of (bX (ab (vE 4) (ab (vE 3) af aa) aa))) (EB.of (cQ (EB.of (eF f27 hr (ab (vE 0) (ab (dF (vB 1) bI) af bp) aa) aa (aj bp aq))) bI))) af ae) aa) aa) aa (aj aa (aj ae aq)))))
 aE)
 (ah (bj (gD (bi hr) (vB 6) bI)
 (ah (sS 7 HZ.nd (eF f35 hr (ab (vE 2) (ab (cQ (EB.of (eF f27 hr (ab (vE 0) (ab (dF (vB 1) bI) af bp) aa) aa (aj bp aq))) (EB.of (edl (EB.of (ak (vB 2) bI)) rfl T.len ae))) af bp) aa) aa (aj bp aq)))
 (ah (bj (Fz (EB.of (sU rfl rfl T.max ae (EB.of (ak (vB 7) bI)))) bI)
 (ag (aD (vE 7)))
 aE)
 (ag (aD (vE 5)))))
 aE)
 (ag (aD (vE 4)))))))))))),hm,F.kp,hb⟩
abbrev gK:Stmt:=sAt 20
abbrev mG:List Str:=["hall","box"]
theorem rB:ax mG ["hall","box"] (ao gK):=by constructor<;>first|rfl|decide +kernel
def gZ:Rho->R Out:=(iff (dP (tst (cal 2 bm (aC (vr 1) (aC (una aJ (una (du 1) (vb 0))) aN)))))
 bad
 nxt)
def bA (ds:List D):R D:=fin (gZ (st0 mG ds))
include T f19 in
theorem sn (F:Fun K "check_box" "check_box" gK a fd) (hm:mg "check_box"=some (.ref a)) (hb:Binds K fd ["hall","box"] []):Fn P w K mg base C 2 "check_box" 2 bA :=
 ⟨a,fd,_,aV (den:=gZ) F rB (λ_ _ _ _ _ _ hr=>(ag (bj (cU (dC (eF f19 hr (ab (vE 1) (ab (edl (EB.of (dE (k:=1) (vB 0) T.cl T.nR rfl (λ_ _ _=>rfl))) rfl T.len aU) af av) aa) aa (aj av aq))))
 (ag dU)
 aE))),hm,F.kp,hb⟩
abbrev jP:Stmt:=sAt 21
abbrev qX:List Str:=["hall","box","other"]
theorem vI:ax qX ["hall","box","other"] (ao jP):=by constructor<;>first|rfl|decide +kernel
abbrev Nc_between_0:List Str:=["hall","box","other","arrow","pair"]
theorem kR:Nc_between_0.Nodup:=by decide +kernel
def jA:Rho->R Out:=(sq (drp (cal 2 bA (aC (vr 0) (aC (vr 1) aN))))
 (sq (drp (cal 2 bA (aC (vr 0) (aC (vr 2) aN))))
 (ret (eLs (a_ (eE (aC (una (du 0) (vb 0)) aN)) 2 (tg2 3 4) (tst (bin feq (vb 4) (eT (aC (vr 1) (aC (vr 2) aN))))) (vr 3))))))
def bZ (ds:List D):R D:=fin (jA (st0 qX ds))
variable (f6:Fn P w K mg base C 2 "check_box" 2 bA)
include T f6 in
theorem v7 (F:Fun K "between" "between" jP a fd) (hm:mg "between"=some (.ref a)) (hb:Binds K fd ["hall","box","other"] []):Fn P w K mg base C 3 "between" 3 bZ :=
 ⟨a,fd,_,aV (den:=jA) F vI (λ_ _ _ _ _ _ hr=>(ah (eW (EB.of (eF f6 hr (ab (vE 0) (ab (vE 1) af aa) aa) aa (aj aa aq))))
 (ah (eW (EB.of (eF f6 hr (ab (vE 0) (ab (vE 2) af aa) aa) aa (aj aa aq))))
 (ag (aD (bB (ba (N':=Nc_between_0) (n:=2) rfl rfl rfl (Am 3) nC (cz rfl T.enumerate (ab (dE (k:=0) (vB 0) T.cl T.nE rfl (λ_ _ _=>rfl)) af aU) (bb aU)) (λL cs s H fp=>(bW rfl (ay (i:=3) kR rfl (Or.inl rfl)) (ay (i:=4) kR rfl (Or.inl rfl)))) (λL cs s H fp=>(xo (gD (bi hr) (vB 4) (EB.of (cq (ab (vE 1) (ab (vE 2) af aa) aa)))))) (λL cs s H fp=>(vE 3))))))))),hm,F.kp,hb⟩
abbrev fL:Stmt:=sAt 32
abbrev lC:List Str:=["hall","things","arrow","pair"]
theorem Ig:ax lC ["hall","things","arrow"] (ao fL):=by constructor<;>first|rfl|decide +kernel
abbrev Nc_led_behind_0:List Str:=["hall","things","arrow","pair","first"]
theorem mL:Nc_led_behind_0.Nodup:=by decide +kernel
def gp:Rho->R Out:=(sq (asg 3 (bin fix (una (du 0) (vb 0)) (vb 2)))
 (ret (eLs (a_ (fIt (bin fix (vb 1) (bin fix (vb 3) (kd (.int 0))))) 1 (tgN 4) tT (sA (bin fix (vb 1) (bin fix (vb 3) (kd (.int 1)))) (bin fix (bin fix (una (du 2) (vb 0)) (vb 4)) (vb 2)))))))
def cr (ds:List D):R D:=fin (gp (st0 lC ds))
include T in
theorem pR (F:Fun K "led_behind" "led_behind" fL a fd) (hm:mg "led_behind"=some (.ref a)) (hb:Binds K fd ["hall","things","arrow"] []):Fn P w K mg base C 1 "led_behind" 3 cr :=
 ⟨a,fd,_,aV (den:=gp) F Ig (λ_ _ _ _ _ _ hr=>(ah (sS 3 Ig.nd (ak (EB.of (dE (k:=0) (vB 0) T.cl T.nE rfl (λ_ _ _=>rfl))) (vB 2)))
 (ag (aD (bB (ba (N':=Nc_led_behind_0) (n:=1) rfl rfl rfl (dq 4) bu (bG (ak (vB 1) (EB.of (ak (vB 3) bI)))) (λL cs s H fp=>(gN 4 mL)) (λL cs s H fp=>aX) (λL cs s H fp=>(o0 (EB.of (ak (vB 1) (EB.of (ak (vB 3) bI)))) (ak (EB.of (ak (EB.of (dE (k:=2) (vB 0) T.cl T.nT rfl (λ_ _ _=>rfl))) (vB 4))) (vB 2)) ae)))))))),hm,F.kp,hb⟩
abbrev kH:Stmt:=sAt 31
abbrev vp:List Str:=["hall","box","things","counts","maps"]
theorem Ih:ax vp ["hall","box"] (ao kH):=by constructor<;>first|rfl|decide +kernel
abbrev Nc_out_of_0:List Str:=["hall","box","things","counts","maps","other"]
theorem um:Nc_out_of_0.Nodup:=by decide +kernel
abbrev Nc_out_of_1:List Str:=["hall","box","things","counts","maps","arrows"]
theorem uk:Nc_out_of_1.Nodup:=by decide +kernel
abbrev Nc_out_of_2:List Str:=["hall","box","things","counts","maps","arrow"]
theorem uh:Nc_out_of_2.Nodup:=by decide +kernel
def kz:Rho->R Out:=(sq (asg 2 (eLs (a_ (bC (aC (una aJ (una (du 1) (vb 0))) aN)) 1 (tgN 5) tT (cal 3 bZ (aC (vr 0) (aC (vr 1) (aC (vr 5) aN)))))))
 (sq (asg 3 (eLs (a_ (fIt (vr 2)) 1 (tgN 5) tT (una aJ (vb 5)))))
 (sq (asg 4 (eLs (a_ (bC (aC (una aJ (una (du 0) (vb 0))) aN)) 1 (tgN 5) tT (cal 3 cr (aC (vr 0) (aC (vr 2) (aC (vr 5) aN)))))))
 (ret (eT (aC (vr 3) (aC (vr 4) aN)))))))
def dI (ds:List D):R D:=fin (kz (st0 vp ds))
variable (f2:Fn P w K mg base C 3 "between" 3 bZ)
variable (f40:Fn P w K mg base C 1 "led_behind" 3 cr)
include T f2 f40 in
theorem yo (F:Fun K "out_of" "out_of" kH a fd) (hm:mg "out_of"=some (.ref a)) (hb:Binds K fd ["hall","box"] []):Fn P w K mg base C 4 "out_of" 2 dI :=
 ⟨a,fd,_,aV (den:=kz) F Ih (λ_ _ _ _ _ _ hr=>(ah (sS 2 Ih.nd (bB (ba (N':=Nc_out_of_0) (n:=1) rfl rfl rfl (dq 5) bu (bv rfl T.range (ab (edl (EB.of (dE (k:=1) (vB 0) T.cl T.nR rfl (λ_ _ _=>rfl))) rfl T.len aU) af av) (bb av)) (λL cs s H fp=>(gN 5 um)) (λL cs s H fp=>aX) (λL cs s H fp=>(eF f2 hr (ab (vE 0) (ab (vE 1) (ab (vE 5) af aa) aa) aa) aa (aj aa (aj aa aq)))))))
 (ah (m8 (f_ (i:=3) (ay (i:=3) Ih.nd rfl (Or.inl rfl)) (N':=Nc_out_of_1) (n:=1) rfl rfl rfl (dq 5) bu (bG (vE 2)) (λL cs s H fp=>(gN 5 uk)) (λL cs s H fp=>aX) (λL cs s H fp=>(edl (vB 5) rfl T.len aa)) rfl))
 (ah (m8 (f_ (i:=4) (ay (i:=4) Ih.nd rfl (Or.inl rfl)) (N':=Nc_out_of_2) (n:=1) rfl rfl rfl (dq 5) bu (bv rfl T.range (ab (edl (EB.of (dE (k:=0) (vB 0) T.cl T.nE rfl (λ_ _ _=>rfl))) rfl T.len aU) af av) (bb av)) (λL cs s H fp=>(gN 5 uh)) (λL cs s H fp=>aX) (λL cs s H fp=>(eF f40 hr (ab (vE 0) (ab (vE 2) (ab (vE 5) af aa) aa) aa) aa (aj aa (aj aa aq)))) rfl))
 (ag (aD (cq (ab (vE 3) (ab (vE 4) af aa) aa)))))))),hm,F.kp,hb⟩
abbrev gM:Stmt:=sAt 24
abbrev mI:List Str:=["numbers","count"]
theorem rE:ax mI ["numbers","count"] (ao gM):=by constructor<;>first|rfl|decide +kernel
abbrev Nc_are_below_0:List Str:=["numbers","count","number"]
theorem n9:Nc_are_below_0.Nodup:=by decide +kernel
def g9:Rho->R Out:=(ret (una sK (eLs (a_ (fIt (vr 0)) 1 (tgN 2) tT (cal 2 bm (aC (vr 2) (aC (vr 1) aN)))))))
def bJ (ds:List D):R D:=fin (g9 (st0 mI ds))
include T f19 in
theorem ss (F:Fun K "are_below" "are_below" gM a fd) (hm:mg "are_below"=some (.ref a)) (hb:Binds K fd ["numbers","count"] []):Fn P w K mg base C 2 "are_below" 2 bJ :=
 ⟨a,fd,_,aV (den:=g9) F rE (λ_ _ _ _ _ _ hr=>(ag (aD (sW rfl rfl T.all aO (EB.of (bB (ba (N':=Nc_are_below_0) (n:=1) rfl rfl rfl (dq 2) bu (bG (vE 0)) (λL cs s H fp=>(gN 2 n9)) (λL cs s H fp=>aX) (λL cs s H fp=>(eF f19 hr (ab (vE 2) (ab (vE 1) af aa) aa) aa (aj aa aq)))))))))),hm,F.kp,hb⟩
abbrev iw:Stmt:=sAt 26
abbrev pz:List Str:=["hall","counts","maps","pair","things"]
theorem HQ:ax pz ["hall","counts","maps"] (ao iw):=by constructor<;>first|rfl|decide +kernel
def iV:Rho->R Out:=(sq (iff (orB (tst (bin fne (una aJ (vb 1)) (una aJ (una (du 1) (vb 0))))) (tst (bin fne (una aJ (vb 2)) (una aJ (una (du 0) (vb 0))))))
 (ret (kd (.bl false)))
 nxt)
 (sq (iff (dP (tst (cal 2 bJ (aC (vr 1) (aC (bin b_ (kd (.int 40)) (kd (.int 1))) aN)))))
 (ret (kd (.bl false)))
 nxt)
 (sq (br (mV (aC (una (du 0) (vb 0)) (aC (vr 2) aN))) (tg2 3 4)
 (iff (orB (tst (bin fne (una aJ (vb 4)) (bin fix (vb 1) (bin fix (vb 3) (kd (.int 0)))))) (dP (tst (cal 2 bJ (aC (vr 4) (aC (bin fix (vb 1) (bin fix (vb 3) (kd (.int 1)))) aN))))))
 (ret (kd (.bl false)))
 nxt))
 (ret (kd (.bl true))))))
def fq (ds:List D):R D:=fin (iV (st0 pz ds))
variable (f1:Fn P w K mg base C 2 "are_below" 2 bJ)
include T f1 in
theorem uB (F:Fun K "has_form" "has_form" iw a fd) (hm:mg "has_form"=some (.ref a)) (hb:Binds K fd ["hall","counts","maps"] []):Fn P w K mg base C 3 "has_form" 3 fq :=
 ⟨a,fd,_,aV (den:=iV) F HQ (λ_ _ _ _ _ _ hr=>(ah (bj (lM (hE (cT (bi hr) (EB.of (edl (vB 1) rfl T.len aa)) (EB.of (edl (EB.of (dE (k:=1) (vB 0) T.cl T.nR rfl (λ_ _ _=>rfl))) rfl T.len aU))) (fX (cT (bi hr) (EB.of (edl (vB 2) rfl T.len aa)) (EB.of (edl (EB.of (dE (k:=0) (vB 0) T.cl T.nE rfl (λ_ _ _=>rfl))) rfl T.len aU))))))
 (ag (aD eK))
 aE)
 (ah (bj (cU (dC (eF f1 hr (ab (vE 1) (ab (dF (EB.of (o3 rfl T.most_things.choose_spec)) bI) af bp) aa) aa (aj bp aq))))
 (ag (aD eK))
 aE)
 (ah (bq PassesOwn.never rfl (sC rfl T.zip (ab (dE (k:=0) (vB 0) T.cl T.nE rfl (λ_ _ _=>rfl)) (ab (vE 2) af aa) aU) aU (aj aa aq)) (bW rfl (ay (i:=3) HQ.nd rfl (Or.inl rfl)) (ay (i:=4) HQ.nd rfl (Or.inl rfl)))
 (ag (bj (lM (hE (cT (bi hr) (EB.of (edl (vB 4) rfl T.len aa)) (EB.of (ak (vB 1) (EB.of (ak (vB 3) bI))))) (fX (cU (dC (eF f1 hr (ab (vE 4) (ab (ak (vB 1) (EB.of (ak (vB 3) bI))) af ae) aa) aa (aj ae aq)))))))
 (ag (aD eK))
 aE)))
 (ag (aD eK)))))),hm,F.kp,hb⟩
abbrev e_:Stmt:=sAt 27
abbrev kf:List Str:=["hall","counts","maps"]
theorem nK:ax kf ["hall","counts","maps"] (ao e_):=by constructor<;>first|rfl|decide +kernel
abbrev Nc_keeps_rests_0:List Str:=["hall","counts","maps","box","rest"]
theorem hX:Nc_keeps_rests_0.Nodup:=by decide +kernel
def fC:Rho->R Out:=(ret (una sK (eLs (a_ (eE (aC (una (du 1) (vb 0)) aN)) 2 (tg2 3 4) tT (bin feq (bin fix (vb 2) (vb 4)) (eLs (AJ (aC (bin fix (vb 1) (vb 3)) aN))))))))
def cY (ds:List D):R D:=fin (fC (st0 kf ds))
include T in
theorem oh (F:Fun K "keeps_rests" "keeps_rests" e_ a fd) (hm:mg "keeps_rests"=some (.ref a)) (hb:Binds K fd ["hall","counts","maps"] []):Fn P w K mg base C 1 "keeps_rests" 3 cY :=
 ⟨a,fd,_,aV (den:=fC) F nK (λ_ _ _ _ _ _ hr=>(ag (aD (sW rfl rfl T.all aO (EB.of (bB (ba (N':=Nc_keeps_rests_0) (n:=2) rfl rfl rfl (Am 3) nC (cz rfl T.enumerate (ab (dE (k:=1) (vB 0) T.cl T.nR rfl (λ_ _ _=>rfl)) af aU) (bb aU)) (λL cs s H fp=>(bW rfl (ay (i:=3) hX rfl (Or.inl rfl)) (ay (i:=4) hX rfl (Or.inl rfl)))) (λL cs s H fp=>aX) (λL cs s H fp=>(u9 (bi hr) (EB.of (ak (vB 2) (vB 4))) (EB.of (bB (EX rfl (ab (ak (vB 1) (vB 3)) af ae) rfl T.range rfl T.list (bb ae))))))))))))),hm,F.kp,hb⟩
abbrev iA:Stmt:=sAt 25
abbrev pA:List Str:=["first","second"]
theorem tY:ax pA ["first","second"] (ao iA):=by constructor<;>first|rfl|decide +kernel
abbrev Nc_followed_0:List Str:=["first","second","thing"]
theorem pP:Nc_followed_0.Nodup:=by decide +kernel
def iW:Rho->R Out:=(ret (eLs (a_ (fIt (vr 0)) 1 (tgN 2) tT (bin fix (vb 1) (vb 2)))))
def bR (ds:List D):R D:=fin (iW (st0 pA ds))
include T in
theorem uC (F:Fun K "followed" "followed" iA a fd) (hm:mg "followed"=some (.ref a)) (hb:Binds K fd ["first","second"] []):Fn P w K mg base C 1 "followed" 2 bR :=
 ⟨a,fd,_,aV (den:=iW) F tY (λ_ _ _ _ _ _ hr=>(ag (aD (bB (ba (N':=Nc_followed_0) (n:=1) rfl rfl rfl (dq 2) bu (bG (vE 0)) (λL cs s H fp=>(gN 2 pP)) (λL cs s H fp=>aX) (λL cs s H fp=>(ak (vB 1) (vB 2)))))))),hm,F.kp,hb⟩
abbrev eZ:Stmt:=sAt 28
abbrev ke:List Str:=["hall","maps","one","row","other","made"]
theorem HS:ax ke ["hall","maps"] (ao eZ):=by constructor<;>first|rfl|decide +kernel
def fB:Rho->R Out:=(sq (br (eE (aC (una (du 2) (vb 0)) aN)) (tg2 2 3)
 (br (eE (aC (vr 3) aN)) (tg2 4 5)
 (iff (yL (tst (bin fne (vb 5) (una mU (kd (.int 1))))) (tst (bin fne (bin fix (vb 1) (vb 5)) (cal 2 bR (aC (bin fix (vb 1) (vb 2)) (aC (bin fix (vb 1) (vb 4)) aN))))))
 (ret (kd (.bl false)))
 nxt)))
 (ret (kd (.bl true))))
def cX (ds:List D):R D:=fin (fB (st0 ke ds))
variable (f16:Fn P w K mg base C 1 "followed" 2 bR)
include T f16 in
theorem og (F:Fun K "keeps_table" "keeps_table" eZ a fd) (hm:mg "keeps_table"=some (.ref a)) (hb:Binds K fd ["hall","maps"] []):Fn P w K mg base C 2 "keeps_table" 2 cX :=
 ⟨a,fd,_,aV (den:=fB) F HS (λ_ _ _ _ _ _ hr=>(ah (bq PassesOwn.never rfl (cz rfl T.enumerate (ab (dE (k:=2) (vB 0) T.cl T.nT rfl (λ_ _ _=>rfl)) af aU) (bb aU)) (bW rfl (ay (i:=2) HS.nd rfl (Or.inl rfl)) (ay (i:=3) HS.nd rfl (Or.inl rfl)))
 (ag (bq PassesOwn.never rfl (cz rfl T.enumerate (ab (vE 3) af aa) (bb aa)) (bW rfl (ay (i:=4) HS.nd rfl (Or.inl rfl)) (ay (i:=5) HS.nd rfl (Or.inl rfl)))
 (ag (bj (lM (yT (cT (bi hr) (vB 5) (EB.of (oY bI))) (wE (cT (bi hr) (EB.of (ak (vB 1) (vB 5))) (EB.of (eF f16 hr (ab (ak (vB 1) (vB 2)) (ab (ak (vB 1) (vB 4)) af ae) ae) ae (aj ae aq)))))))
 (ag (aD eK))
 aE)))))
 (ag (aD eK)))),hm,F.kp,hb⟩
abbrev fP:Stmt:=sAt 29
abbrev lG:List Str:=["hall","counts","maps"]
theorem pE:ax lG ["hall","counts","maps"] (ao fP):=by constructor<;>first|rfl|decide +kernel
def gv:Rho->R Out:=(ret (yK (cal 3 fq (aC (vr 0) (aC (vr 1) (aC (vr 2) aN)))) (yK (cal 3 cY (aC (vr 0) (aC (vr 1) (aC (vr 2) aN)))) (cal 2 cX (aC (vr 0) (aC (vr 2) aN))))))
def cw (ds:List D):R D:=fin (gv (st0 lG ds))
variable (f17:Fn P w K mg base C 3 "has_form" 3 fq)
variable (f22:Fn P w K mg base C 1 "keeps_rests" 3 cY)
variable (f23:Fn P w K mg base C 2 "keeps_table" 2 cX)
include T f17 f22 f23 in
theorem pY (F:Fun K "is_reading" "is_reading" fP a fd) (hm:mg "is_reading"=some (.ref a)) (hb:Binds K fd ["hall","counts","maps"] []):Fn P w K mg base C 4 "is_reading" 3 cw :=
 ⟨a,fd,_,aV (den:=gv) F pE (λ_ _ _ _ _ _ hr=>(ag (aD (sV (eF f17 hr (ab (vE 0) (ab (vE 1) (ab (vE 2) af aa) aa) aa) aa (aj aa (aj aa aq))) (sV (eF f22 hr (ab (vE 0) (ab (vE 1) (ab (vE 2) af aa) aa) aa) aa (aj aa (aj aa aq))) (sT (eF f23 hr (ab (vE 0) (ab (vE 2) af aa) aa) aa (aj aa aq)))))))),hm,F.kp,hb⟩
abbrev dA:Stmt:=sAt 30
abbrev i7:List Str:=["hall","reading"]
theorem lP:ax i7 ["hall","reading"] (ao dA):=by constructor<;>first|rfl|decide +kernel
def d_:Rho->R Out:=(iff (orB (tst (bin fne (una aJ (vb 1)) (kd (.int 2)))) (dP (tst (cal 3 cw (aC (vr 0) (aC (bin fix (vb 1) (kd (.int 0))) (aC (bin fix (vb 1) (kd (.int 1))) aN)))))))
 bad
 nxt)
def bf (ds:List D):R D:=fin (d_ (st0 i7 ds))
variable (f21:Fn P w K mg base C 4 "is_reading" 3 cw)
include T f21 in
theorem lW (F:Fun K "check_reading" "check_reading" dA a fd) (hm:mg "check_reading"=some (.ref a)) (hb:Binds K fd ["hall","reading"] []):Fn P w K mg base C 5 "check_reading" 2 bf :=
 ⟨a,fd,_,aV (den:=d_) F lP (λ_ _ _ _ _ _ hr=>(ag (bj (lM (hE (cT (bi hr) (EB.of (edl (vB 1) rfl T.len aa)) bI) (fX (cU (dC (eF f21 hr (ab (vE 0) (ab (ak (vB 1) bI) (ab (ak (vB 1) bI) af ae) ae) aa) aa (aj ae (aj ae aq))))))))
 (ag dU)
 aE))),hm,F.kp,hb⟩
abbrev iu:Stmt:=sAt 35
abbrev pu:List Str:=["counts","others"]
theorem tX:ax pu ["counts","others"] (ao iu):=by constructor<;>first|rfl|decide +kernel
abbrev Nc_has_room_0:List Str:=["counts","others","count","other"]
theorem j7:Nc_has_room_0.Nodup:=by decide +kernel
def iU:Rho->R Out:=(ret (una sK (eLs (a_ (mV (aC (vr 0) (aC (vr 1) aN))) 2 (tg2 2 3) tT (orV (bin (iI fgt) (vb 3) (kd (.int 0))) (bin feq (vb 2) (kd (.int 0))))))))
def dM (ds:List D):R D:=fin (iU (st0 pu ds))
include T in
theorem uA (F:Fun K "has_room" "has_room" iu a fd) (hm:mg "has_room"=some (.ref a)) (hb:Binds K fd ["counts","others"] []):Fn P w K mg base C 1 "has_room" 2 dM :=
 ⟨a,fd,_,aV (den:=iU) F tX (λ_ _ _ _ _ _ hr=>(ag (aD (sW rfl rfl T.all aO (EB.of (bB (ba (N':=Nc_has_room_0) (n:=2) rfl rfl rfl (Am 2) nC (sC rfl T.zip (ab (vE 0) (ab (vE 1) af aa) aa) aa (aj aa aq)) (λL cs s H fp=>(bW rfl (ay (i:=2) j7 rfl (Or.inl rfl)) (ay (i:=3) j7 rfl (Or.inl rfl)))) (λL cs s H fp=>aX) (λL cs s H fp=>(Gz (GB (vB 3) bI) (sT (u9 (bi hr) (vB 2) bI))))))))))),hm,F.kp,hb⟩
abbrev fY:Stmt:=sAt 38
abbrev pb:List Str:=["things","thing","goal"]
theorem x9:ax pb ["things","thing","goal"] (ao fY):=by constructor<;>first|rfl|decide +kernel
def ky:Rho->R (D×Rho):=(sqB (ifJ (tst (una (λd=>.val (p9 d)) (bin fix (vb 0) (vb 1))))
 (stP 0 .s (pN0 0) (vr 1) (vr 2))
 nxJ)
 (rtB (bin feq (bin fix (vb 0) (vb 1)) (vb 2))))
def dN (ds es:List D):R (D×List D):=(ky (stM pb [(.l .s)] ds es)).bind (ud [(.l .s)])
include T in
theorem vl (hr:Room 0 (A.deeper (envOfC "settle" (ao fY) s.heap.objs.size f cdv))) :
  qT C (jb CX0 P w K mg base pb "settle" (ao fY) f cdv A outer s H E).nox 1 (cJ fY) ky :=
 (xY (DK (DB (EB.of (ak (vB 0) (vB 1))))
 (zd (FJ (BB (k':=.s) (w_ (pv 0)) (vE 1) (Ag (vE 2)))))
 ze)
 (zf (u9 (bi hr) (EB.of (ak (vB 0) (vB 1))) (vB 2))))
include T in
theorem yn (F:Fun K "settle" "settle" fY a fd) (hm:mg "settle"=some (.ref a)) (hb:Binds K fd ["things","thing","goal"] []):MvB P w K mg base C 1 "settle" [(.l .s)] 2 dN :=
 ⟨a,fd,_,Ey F x9 rfl (by decide) (λcdv A outer s H E hr=>vl cdv A outer s H E T hr),hm,F.kp,hb⟩
abbrev fJ:Stmt:=sAt 37
abbrev lA:List Str:=["hall","one","other","change","box","thing","goal","more","arrow","pair"]
theorem Ii:ax lA ["hall","one","other","change","box","thing","goal"] (ao fJ):=by constructor<;>first|rfl|decide +kernel
abbrev Nc_told_along_0:List Str:=["hall","one","other","change","box","thing","goal","more","arrow","pair","things"]
theorem mK:Nc_told_along_0.Nodup:=by decide +kernel
def gn:Rho->R Out:=(sq (trS 7 (.l (.l .s)) (eLs (a_ (fIt (vr 3)) 1 (tgN 10) tT (eLs (fIt (vb 10))))))
 (sq (br (eE (aC (una (du 0) (vb 0)) aN)) (tg2 8 9)
 (ifM (anM (tst (bin feq (bin fix (vb 9) (kd (.int 0))) (vb 4))) (noM (tsM (mvP 7 (pN 7 (pN0 7) (bin fix (vb 9) (kd (.int 1)))) dN 2 (aC (bin fix (bin fix (bin fix (vb 1) (kd (.int 1))) (vb 8)) (vb 5)) (aC (bin fix (bin fix (bin fix (vb 2) (kd (.int 1))) (vb 8)) (vb 6)) aN))))))
 (ret (eL aN))
 nxt))
 (fz 7 (ret (eL (aC (vr 7) aN))))))
def bU (ds:List D):R D:=fin (gn (st0 lA ds))
variable (f47:MvB P w K mg base C 1 "settle" [(.l .s)] 2 dN)
include T f47 in
theorem pQ (F:Fun K "told_along" "told_along" fJ a fd) (hm:mg "told_along"=some (.ref a)) (hb:Binds K fd ["hall","one","other","change","box","thing","goal"] []):Fn P w K mg base C 2 "told_along" 7 bU :=
 ⟨a,fd,_,aV (den:=gn) F Ii (λ_ _ _ _ _ _ hr=>(ah (BC (mq (i:=7) (ay (i:=7) Ii.nd rfl (Or.inl rfl)) (N':=Nc_told_along_0) (n:=1) rfl rfl rfl (dq 10) (bG (vE 3)) (λL cs s H fp=>(gN 10 mK)) (λL cs s H fp=>aX) (λL cs s H fp=>(Gn (fdl (vB 10) rfl T.list aa))) rfl))
 (ah (bq PassesOwn.never rfl (cz rfl T.enumerate (ab (dE (k:=0) (vB 0) T.cl T.nE rfl (λ_ _ _=>rfl)) af aU) (bb aU)) (bW rfl (ay (i:=8) Ii.nd rfl (Or.inl rfl)) (ay (i:=9) Ii.nd rfl (Or.inl rfl)))
 (ag (DN (Dz (gD (bi hr) (EB.of (ak (vB 9) bI)) (vB 4)) (Dy (Dx (Ci f47 (hr.mono (by decide)) rfl (Gf (w_ (pv 7)) (ak (vB 9) bI)) (ab (ak (EB.of (ak (EB.of (ak (vB 1) bI)) (vB 8))) (vB 5)) (ab (ak (EB.of (ak (EB.of (ak (vB 2) bI)) (vB 8))) (vB 6)) af ae) ae) ae (aj ae (aj ae aq))))))
 (ag (aD (bX af)))
 aE)))
 (ii 7 (ag (aD (bX (ab (vE 7) af aa)))))))),hm,F.kp,hb⟩
abbrev jM:Stmt:=sAt 36
abbrev qU:List Str:=["hall","one","other","begun","box","thing","later","change","goal"]
theorem Ij:ax qU ["hall","one","other","begun","box","thing"] (ao jM):=by constructor<;>first|rfl|decide +kernel
def jx:Rho->R Out:=(sq (own 6 (ku aN))
 (sq (br (fIt (vr 3)) (tgN 7)
 (iff (tst (una (λd=>.val (eR d)) (bin fix (bin fix (vb 7) (vb 4)) (vb 5))))
 (app 6 (vr 7))
 (br (bC (aC (bin fix (bin fix (vb 2) (kd (.int 0))) (vb 4)) aN)) (tgN 8)
 (ext 6 (cal 7 bU (aC (vr 0) (aC (vr 1) (aC (vr 2) (aC (vr 7) (aC (vr 4) (aC (vr 5) (aC (vr 8) aN))))))))))))
 (fz 6 (ret (vr 6)))))
def cV (ds:List D):R D:=fin (jx (st0 qU ds))
variable (f44:Fn P w K mg base C 2 "told_along" 7 bU)
include T f44 in
theorem vW (F:Fun K "told_on" "told_on" jM a fd) (hm:mg "told_on"=some (.ref a)) (hb:Binds K fd ["hall","one","other","begun","box","thing"] []):Fn P w K mg base C 3 "told_on" 6 cV :=
 ⟨a,fd,_,aV (den:=jx) F Ij (λ_ _ _ _ _ _ hr=>(ah (kj (i:=6) Ij.nd rfl (Or.inl rfl) (kt af))
 (ah (bq PassesOwn.never rfl (bG (vE 3)) (gN 7 Ij.nd)
 (ag (bj (Bs (EB.of (ak (EB.of (ak (vB 7) (vB 4))) (vB 5))))
 (ag (jg (pv 6) (vE 7) (hst:=aa)))
 (ag (bq PassesOwn.never rfl (bv rfl T.range (ab (ak (EB.of (ak (vB 2) bI)) (vB 4)) af ae) (bb ae)) (gN 8 Ij.nd)
 (ag (DO (pv 6) (eF f44 hr (ab (vE 0) (ab (vE 1) (ab (vE 2) (ab (vE 7) (ab (vE 4) (ab (vE 5) (ab (vE 8) af aa) aa) aa) aa) aa) aa) aa) aa (aj aa (aj aa (aj aa (aj aa (aj aa (aj aa aq))))))) (hst:=av))))))))
 (ii 6 (ag (aD (vE 6))))))),hm,F.kp,hb⟩
abbrev jO:Stmt:=sAt 34
abbrev qW:List Str:=["hall","one","other","begun","box","count","thing"]
theorem HH:ax qW ["hall","one","other"] (ao jO):=by constructor<;>first|rfl|decide +kernel
abbrev Nc_changes_0:List Str:=["hall","one","other","begun","box","5.","thing","count"]
theorem sd:Nc_changes_0.Nodup:=by decide +kernel
def jz:Rho->R Out:=(sq (drp (cal 2 bf (aC (vr 0) (aC (vr 1) aN))))
 (sq (drp (cal 2 bf (aC (vr 0) (aC (vr 2) aN))))
 (sq (iff (dP (tst (cal 2 dM (aC (bin fix (vb 1) (kd (.int 0))) (aC (bin fix (vb 2) (kd (.int 0))) aN)))))
 (ret (eL aN))
 nxt)
 (sq (asg 3 (eL (aC (eLs (a_ (fIt (bin fix (vb 1) (kd (.int 0)))) 1 (tgN 7) tT (bin yA (eL (aC (kd .non) aN)) (vb 7)))) aN)))
 (sq (br (eE (aC (bin fix (vb 1) (kd (.int 0))) aN)) (tg2 4 5)
 (br (bC (aC (vr 5) aN)) (tgN 6)
 (asg 3 (cal 6 cV (aC (vr 0) (aC (vr 1) (aC (vr 2) (aC (vr 3) (aC (vr 4) (aC (vr 6) aN))))))))))
 (ret (vr 3)))))))
def gj (ds:List D):R D:=fin (jz (st0 qW ds))
variable (f11:Fn P w K mg base C 5 "check_reading" 2 bf)
variable (f18:Fn P w K mg base C 1 "has_room" 2 dM)
variable (f45:Fn P w K mg base C 3 "told_on" 6 cV)
include T f11 f18 f45 in
theorem vZ (F:Fun K "changes" "changes" jO a fd) (hm:mg "changes"=some (.ref a)) (hb:Binds K fd ["hall","one","other"] []):Fn P w K mg base C 6 "changes" 3 gj :=
 ⟨a,fd,_,aV (den:=jz) F HH (λ_ _ _ _ _ _ hr=>(ah (eW (EB.of (eF f11 hr (ab (vE 0) (ab (vE 1) af aa) aa) aa (aj aa aq))))
 (ah (eW (EB.of (eF f11 hr (ab (vE 0) (ab (vE 2) af aa) aa) aa (aj aa aq))))
 (ah (bj (cU (dC (eF f18 hr (ab (ak (vB 1) bI) (ab (ak (vB 2) bI) af ae) ae) ae (aj ae aq))))
 (ag (aD (bX af)))
 aE)
 (ah (sS 3 HH.nd (bX (ab (bB (ba (N':=Nc_changes_0) (n:=1) rfl rfl rfl (dq 7) bu (bG (ak (vB 1) bI)) (λL cs s H fp=>(gN 7 sd)) (λL cs s H fp=>aX) (λL cs s H fp=>(E7 (EB.of (bX (ab E9 af aw))) (vB 7))))) af aO)))
 (ah (bq PassesOwn.never rfl (cz rfl T.enumerate (ab (ak (vB 1) bI) af ae) (bb ae)) (bW rfl (ay (i:=4) HH.nd rfl (Or.inl rfl)) (ay (i:=5) HH.nd rfl (Or.inl rfl)))
 (ag (bq PassesOwn.never rfl (bv rfl T.range (ab (vE 5) af aa) (bb aa)) (gN 6 HH.nd)
 (ag (sS 3 HH.nd (eF f45 hr (ab (vE 0) (ab (vE 1) (ab (vE 2) (ab (vE 3) (ab (vE 4) (ab (vE 6) af aa) aa) aa) aa) aa) aa) aa (aj aa (aj aa (aj aa (aj aa (aj aa aq)))))))))))
 (ag (aD (vE 3))))))))),hm,F.kp,hb⟩
abbrev kI:Stmt:=sAt 41
abbrev vq:List Str:=["hall","box","other","maps","thing"]
theorem x_:ax vq ["hall","box","other","maps","thing"] (ao kI):=by constructor<;>first|rfl|decide +kernel
abbrev Nc_led_to_0:List Str:=["hall","box","other","maps","thing","arrow"]
theorem uo:Nc_led_to_0.Nodup:=by decide +kernel
def kB:Rho->R Out:=(ret (eLs (a_ (fIt (cal 3 bZ (aC (vr 0) (aC (vr 1) (aC (vr 2) aN))))) 1 (tgN 5) tT (bin fix (bin fix (vb 3) (vb 5)) (vb 4)))))
def fW (ds:List D):R D:=fin (kB (st0 vq ds))
include T f2 in
theorem yp (F:Fun K "led_to" "led_to" kI a fd) (hm:mg "led_to"=some (.ref a)) (hb:Binds K fd ["hall","box","other","maps","thing"] []):Fn P w K mg base C 4 "led_to" 5 fW :=
 ⟨a,fd,_,aV (den:=kB) F x_ (λ_ _ _ _ _ _ hr=>(ag (aD (bB (ba (N':=Nc_led_to_0) (n:=1) rfl rfl rfl (dq 5) bu (bG (eF f2 hr (ab (vE 0) (ab (vE 1) (ab (vE 2) af aa) aa) aa) aa (aj aa (aj aa aq)))) (λL cs s H fp=>(gN 5 uo)) (λL cs s H fp=>aX) (λL cs s H fp=>(ak (EB.of (ak (vB 3) (vB 5))) (vB 4)))))))),hm,F.kp,hb⟩
abbrev gL:Stmt:=sAt 40
abbrev mH:List Str:=["hall","box","reading","thing"]
theorem rD:ax mH ["hall","box","reading","thing"] (ao gL):=by constructor<;>first|rfl|decide +kernel
abbrev Nc_change_of_0:List Str:=["hall","box","reading","thing","other"]
theorem n8:Nc_change_of_0.Nodup:=by decide +kernel
def g8:Rho->R Out:=(sq (drp (cal 2 bA (aC (vr 0) (aC (vr 1) aN))))
 (sq (drp (cal 2 bf (aC (vr 0) (aC (vr 2) aN))))
 (sq (iff (dP (tst (cal 2 bm (aC (vr 3) (aC (bin fix (bin fix (vb 2) (kd (.int 0))) (vb 1)) aN)))))
 bad
 nxt)
 (ret (eLs (a_ (bC (aC (una aJ (una (du 1) (vb 0))) aN)) 1 (tgN 4) tT (cal 5 fW (aC (vr 0) (aC (vr 1) (aC (vr 4) (aC (bin fix (vb 2) (kd (.int 1))) (aC (vr 3) aN))))))))))))
def d8 (ds:List D):R D:=fin (g8 (st0 mH ds))
variable (f41:Fn P w K mg base C 4 "led_to" 5 fW)
include T f19 f6 f11 f41 in
theorem so (F:Fun K "change_of" "change_of" gL a fd) (hm:mg "change_of"=some (.ref a)) (hb:Binds K fd ["hall","box","reading","thing"] []):Fn P w K mg base C 6 "change_of" 4 d8 :=
 ⟨a,fd,_,aV (den:=g8) F rD (λ_ _ _ _ _ _ hr=>(ah (eW (EB.of (eF f6 hr (ab (vE 0) (ab (vE 1) af aa) aa) aa (aj aa aq))))
 (ah (eW (EB.of (eF f11 hr (ab (vE 0) (ab (vE 2) af aa) aa) aa (aj aa aq))))
 (ah (bj (cU (dC (eF f19 hr (ab (vE 3) (ab (ak (EB.of (ak (vB 2) bI)) (vB 1)) af ae) aa) aa (aj ae aq))))
 (ag dU)
 aE)
 (ag (aD (bB (ba (N':=Nc_change_of_0) (n:=1) rfl rfl rfl (dq 4) bu (bv rfl T.range (ab (edl (EB.of (dE (k:=1) (vB 0) T.cl T.nR rfl (λ_ _ _=>rfl))) rfl T.len aU) af av) (bb av)) (λL cs s H fp=>(gN 4 n8)) (λL cs s H fp=>aX) (λL cs s H fp=>(eF f41 hr (ab (vE 0) (ab (vE 1) (ab (vE 4) (ab (ak (vB 2) bI) (ab (vE 3) af aa) ae) aa) aa) aa) aa (aj aa (aj aa (aj ae (aj aa aq)))))))))))))),hm,F.kp,hb⟩
abbrev gJ:Stmt:=sAt 33
abbrev mF:List Str:=["hall","one","other","change","arrow","pair"]
theorem HR:ax mF ["hall","one","other","change"] (ao gJ):=by constructor<;>first|rfl|decide +kernel
abbrev Nc_is_change_0:List Str:=["hall","one","other","change","arrow","pair","things"]
theorem n0:Nc_is_change_0.Nodup:=by decide +kernel
abbrev Nc_is_change_1:List Str:=["hall","one","other","change","arrow","pair","things","count"]
theorem jm:Nc_is_change_1.Nodup:=by decide +kernel
def gY:Rho->R Out:=(sq (iff (tst (bin fne (eLs (a_ (fIt (vr 3)) 1 (tgN 6) tT (una aJ (vb 6)))) (bin fix (vb 1) (kd (.int 0)))))
 (ret (kd (.bl false)))
 nxt)
 (sq (iff (dP (tst (una sK (eLs (a_ (mV (aC (vr 3) (aC (bin fix (vb 2) (kd (.int 0))) aN))) 2 (tg2 6 7) tT (cal 2 bJ (aC (vr 6) (aC (vr 7) aN))))))))
 (ret (kd (.bl false)))
 nxt)
 (sq (br (eE (aC (una (du 0) (vb 0)) aN)) (tg2 4 5)
 (iff (tst (bin fne (cal 2 bR (aC (bin fix (bin fix (vb 1) (kd (.int 1))) (vb 4)) (aC (bin fix (vb 3) (bin fix (vb 5) (kd (.int 1)))) aN))) (cal 2 bR (aC (bin fix (vb 3) (bin fix (vb 5) (kd (.int 0)))) (aC (bin fix (bin fix (vb 2) (kd (.int 1))) (vb 4)) aN)))))
 (ret (kd (.bl false)))
 nxt))
 (ret (kd (.bl true))))))
def di (ds:List D):R D:=fin (gY (st0 mF ds))
include T f1 f16 in
theorem sk (F:Fun K "is_change" "is_change" gJ a fd) (hm:mg "is_change"=some (.ref a)) (hb:Binds K fd ["hall","one","other","change"] []):Fn P w K mg base C 3 "is_change" 4 di :=
 ⟨a,fd,_,aV (den:=gY) F HR (λ_ _ _ _ _ _ hr=>(ah (bj (cT (bi hr) (EB.of (bB (ba (N':=Nc_is_change_0) (n:=1) rfl rfl rfl (dq 6) bu (bG (vE 3)) (λL cs s H fp=>(gN 6 n0)) (λL cs s H fp=>aX) (λL cs s H fp=>(edl (vB 6) rfl T.len aa))))) (EB.of (ak (vB 1) bI)))
 (ag (aD eK))
 aE)
 (ah (bj (cU (dC (sW rfl rfl T.all aO (EB.of (bB (ba (N':=Nc_is_change_1) (n:=2) rfl rfl rfl (Am 6) nC (sC rfl T.zip (ab (vE 3) (ab (ak (vB 2) bI) af ae) aa) aa (aj ae aq)) (λL cs s H fp=>(bW rfl (ay (i:=6) jm rfl (Or.inl rfl)) (ay (i:=7) jm rfl (Or.inl rfl)))) (λL cs s H fp=>aX) (λL cs s H fp=>(eF f1 hr (ab (vE 6) (ab (vE 7) af aa) aa) aa (aj aa aq)))))))))
 (ag (aD eK))
 aE)
 (ah (bq PassesOwn.never rfl (cz rfl T.enumerate (ab (dE (k:=0) (vB 0) T.cl T.nE rfl (λ_ _ _=>rfl)) af aU) (bb aU)) (bW rfl (ay (i:=4) HR.nd rfl (Or.inl rfl)) (ay (i:=5) HR.nd rfl (Or.inl rfl)))
 (ag (bj (cT (bi hr) (EB.of (eF f16 hr (ab (ak (EB.of (ak (vB 1) bI)) (vB 4)) (ab (ak (vB 3) (EB.of (ak (vB 5) bI))) af ae) ae) ae (aj ae aq))) (EB.of (eF f16 hr (ab (ak (vB 3) (EB.of (ak (vB 5) bI))) (ab (ak (EB.of (ak (vB 2) bI)) (vB 4)) af ae) ae) ae (aj ae aq))))
 (ag (aD eK))
 aE)))
 (ag (aD eK)))))),hm,F.kp,hb⟩
abbrev ij:Stmt:=sAt 42
abbrev o_:List Str:=["hall","box","reading","change"]
theorem tR:ax o_ ["hall","box","reading","change"] (ao ij):=by constructor<;>first|rfl|decide +kernel
def iN:Rho->R Out:=(sq (drp (cal 2 bA (aC (vr 0) (aC (vr 1) aN))))
 (sq (drp (cal 2 bf (aC (vr 0) (aC (vr 2) aN))))
 (sq (iff (dP (tst (cal 4 di (aC (vr 0) (aC (cal 2 dI (aC (vr 0) (aC (vr 1) aN))) (aC (vr 2) (aC (vr 3) aN)))))))
 bad
 nxt)
 (ret (bin fix (bin fix (vb 3) (vb 1)) (sA (cal 3 bZ (aC (vr 0) (aC (vr 1) (aC (vr 1) aN)))) (bin fix (una (du 1) (vb 0)) (vb 1))))))))
def dH (ds:List D):R D:=fin (iN (st0 o_ ds))
variable (f20:Fn P w K mg base C 3 "is_change" 4 di)
variable (f42:Fn P w K mg base C 4 "out_of" 2 dI)
include T f6 f2 f11 f20 f42 in
theorem uq (F:Fun K "thing_of" "thing_of" ij a fd) (hm:mg "thing_of"=some (.ref a)) (hb:Binds K fd ["hall","box","reading","change"] []):Fn P w K mg base C 6 "thing_of" 4 dH :=
 ⟨a,fd,_,aV (den:=iN) F tR (λ_ _ _ _ _ _ hr=>(ah (eW (EB.of (eF f6 hr (ab (vE 0) (ab (vE 1) af aa) aa) aa (aj aa aq))))
 (ah (eW (EB.of (eF f11 hr (ab (vE 0) (ab (vE 2) af aa) aa) aa (aj aa aq))))
 (ah (bj (cU (dC (eF f20 hr (ab (vE 0) (ab (eF f42 hr (ab (vE 0) (ab (vE 1) af aa) aa) aa (aj aa aq)) (ab (vE 2) (ab (vE 3) af aa) aa) av) aa) aa (aj av (aj aa (aj aa aq))))))
 (ag dU)
 aE)
 (ag (aD (ak (EB.of (ak (vB 3) (vB 1))) (EB.of (o0 (EB.of (eF f2 hr (ab (vE 0) (ab (vE 1) (ab (vE 1) af aa) aa) aa) aa (aj aa (aj aa aq)))) (ak (EB.of (dE (k:=1) (vB 0) T.cl T.nR rfl (λ_ _ _=>rfl))) (vB 1)) ae))))))))),hm,F.kp,hb⟩
abbrev ip:Stmt:=sAt 51
abbrev pi:List Str:=["rows"]
theorem tV:ax pi ["rows"] (ao ip):=by constructor<;>first|rfl|decide +kernel
abbrev Nc_law_copy_0:List Str:=["rows","row"]
theorem pO:Nc_law_copy_0.Nodup:=by decide +kernel
def iR:Rho->R Out:=(ret (eLs (a_ (fIt (vr 0)) 1 (tgN 1) tT (eLs (fIt (vb 1))))))
def cE (ds:List D):R D:=fin (iR (st0 pi ds))
include T in
theorem uw (F:Fun K "_law_copy" "_law_copy" ip a fd) (hm:mg "_law_copy"=some (.ref a)) (hb:Binds K fd ["rows"] []):Fn P w K mg base C 1 "_law_copy" 1 cE :=
 ⟨a,fd,_,aV (den:=iR) F tV (λ_ _ _ _ _ _ hr=>(ag (aD (bB (ba (N':=Nc_law_copy_0) (n:=1) rfl rfl rfl (dq 1) bu (bG (vE 0)) (λL cs s H fp=>(gN 1 pO)) (λL cs s H fp=>aX) (λL cs s H fp=>(bB (fdl (vB 1) rfl T.list aa)))))))),hm,F.kp,hb⟩
abbrev fM:Stmt:=sAt 61
abbrev lD:List Str:=["reading"]
theorem pD:ax lD ["reading"] (ao fM):=by constructor<;>first|rfl|decide +kernel
def gq:Rho->R Out:=(ret (eT (aC (eLs (fIt (bin fix (vb 0) (kd (.int 0))))) (aC (cal 1 cE (aC (bin fix (vb 0) (kd (.int 1))) aN)) aN))))
def bQ (ds:List D):R D:=fin (gq (st0 lD ds))
variable (f28:Fn P w K mg base C 1 "_law_copy" 1 cE)
include T f28 in
theorem pT (F:Fun K "_law_handed" "_law_handed" fM a fd) (hm:mg "_law_handed"=some (.ref a)) (hb:Binds K fd ["reading"] []):Fn P w K mg base C 2 "_law_handed" 1 bQ :=
 ⟨a,fd,_,aV (den:=gq) F pD (λ_ _ _ _ _ _ hr=>(ag (aD (cq (ab (bB (fdl (EB.of (ak (vB 0) bI)) rfl T.list ae)) (ab (eF f28 hr (ab (ak (vB 0) bI) af ae) ae aq) af av) av))))),hm,F.kp,hb⟩
abbrev dz:Stmt:=sAt 58
abbrev i6:List Str:=["parts","one","other","change","arrow","first","last","thing","behind"]
theorem H_:ax i6 ["parts","one","other","change"] (ao dz):=by constructor<;>first|rfl|decide +kernel
def d9:Rho->R Out:=(sq (br (bC (aC (una aJ (bin fix (vb 0) (kd (.int 0)))) aN)) (tgN 4)
 (sq (asT (tg2 5 6) (bin fix (bin fix (vb 0) (kd (.int 0))) (vb 4)))
 (br (bC (aC (bin fix (bin fix (vb 1) (kd (.int 0))) (vb 5)) aN)) (tgN 7)
 (sq (asg 8 (bin fix (bin fix (bin fix (vb 1) (kd (.int 1))) (vb 4)) (vb 7)))
 (iff (tst (bin fne (bin fix (bin fix (vb 3) (vb 6)) (vb 8)) (bin fix (bin fix (bin fix (vb 2) (kd (.int 1))) (vb 4)) (bin fix (bin fix (vb 3) (vb 5)) (vb 7)))))
 (ret (kd (.bl false)))
 nxt)))))
 (ret (kd (.bl true))))
def bV (ds:List D):R D:=fin (d9 (st0 i6 ds))
include T in
theorem lV (F:Fun K "_law_is_change" "_law_is_change" dz a fd) (hm:mg "_law_is_change"=some (.ref a)) (hb:Binds K fd ["parts","one","other","change"] []):Fn P w K mg base C 1 "_law_is_change" 4 bV :=
 ⟨a,fd,_,aV (den:=d9) F H_ (λ_ _ _ _ _ _ hr=>(ah (bq PassesOwn.never rfl (bv rfl T.range (ab (edl (EB.of (ak (vB 0) bI)) rfl T.len ae) af av) (bb av)) (gN 4 H_.nd)
 (ah (zi (ak (EB.of (ak (vB 0) bI)) (vB 4)) (bW rfl (ay (i:=5) H_.nd rfl (Or.inl rfl)) (ay (i:=6) H_.nd rfl (Or.inl rfl))))
 (ag (bq PassesOwn.never rfl (bv rfl T.range (ab (ak (EB.of (ak (vB 1) bI)) (vB 5)) af ae) (bb ae)) (gN 7 H_.nd)
 (ah (sS 8 H_.nd (ak (EB.of (ak (EB.of (ak (vB 1) bI)) (vB 4))) (vB 7)))
 (ag (bj (cT (bi hr) (EB.of (ak (EB.of (ak (vB 3) (vB 6))) (vB 8))) (EB.of (ak (EB.of (ak (EB.of (ak (vB 2) bI)) (vB 4))) (EB.of (ak (EB.of (ak (vB 3) (vB 5))) (vB 7))))))
 (ag (aD eK))
 aE)))))))
 (ag (aD eK)))),hm,F.kp,hb⟩
abbrev im:Stmt:=sAt 62
abbrev pf:List Str:=["one","other","total","box","k"]
theorem Ia:ax pf ["one","other"] (ao im):=by constructor<;>first|rfl|decide +kernel
def iP:Rho->R Out:=(sq (asg 2 (kd (.int 1)))
 (sq (br (bC (aC (una aJ (bin fix (vb 0) (kd (.int 0)))) aN)) (tgN 3)
 (br (bC (aC (bin fix (bin fix (vb 0) (kd (.int 0))) (vb 3)) aN)) (tgN 4)
 (asg 2 (bin (iI gi) (vb 2) (bin fix (bin fix (vb 1) (kd (.int 0))) (vb 3))))))
 (ret (vr 2))))
def dJ (ds:List D):R D:=fin (iP (st0 pf ds))
include T in
theorem uu (F:Fun K "_law_many" "_law_many" im a fd) (hm:mg "_law_many"=some (.ref a)) (hb:Binds K fd ["one","other"] []):Fn P w K mg base C 1 "_law_many" 2 dJ :=
 ⟨a,fd,_,aV (den:=iP) F Ia (λ_ _ _ _ _ _ hr=>(ah (sS 2 Ia.nd bh)
 (ah (bq PassesOwn.never rfl (bv rfl T.range (ab (edl (EB.of (ak (vB 0) bI)) rfl T.len ae) af av) (bb av)) (gN 3 Ia.nd)
 (ag (bq PassesOwn.never rfl (bv rfl T.range (ab (ak (EB.of (ak (vB 0) bI)) (vB 3)) af ae) (bb ae)) (gN 4 Ia.nd)
 (ag (sS 2 Ia.nd (oZ (vB 2) (EB.of (ak (EB.of (ak (vB 1) bI)) (vB 3)))))))))
 (ag (aD (vE 2)))))),hm,F.kp,hb⟩
abbrev gF:Stmt:=sAt 45
abbrev mC:List Str:=["found"]
theorem rz:ax mC ["found"] (ao gF):=by constructor<;>first|rfl|decide +kernel
def gU:Rho->R Out:=(ret (yK (una (AE "int") (vb 0)) (Gc (una (AE "bool") (vb 0)))))
def df (ds:List D):R D:=fin (gU (st0 mC ds))
include T in
theorem se (F:Fun K "_law_whole" "_law_whole" gF a fd) (hm:mg "_law_whole"=some (.ref a)) (hb:Binds K fd ["found"] []):Fn P w K mg base C 1 "_law_whole" 1 df :=
 ⟨a,fd,_,aV (den:=gU) F rz (λ_ _ _ _ _ _ hr=>(ag (aD (sV (ww T.kt_int rfl T.isinstance rfl T.int CW (vB 0) aa) (sT (E8 (ww T.kt_bool rfl T.isinstance rfl T.bool Bf (vB 0) aa))))))),hm,F.kp,hb⟩
abbrev kJ:Stmt:=sAt 63
abbrev Bp:List Str:=["script","parts","hall","box","reading","first","made","thing","change","found","some"]
theorem HU:ax Bp ["script"] (ao kJ):=by constructor<;>first|rfl|decide +kernel
abbrev Nc_law_0:List Str:=["script","parts","hall","box","reading","first","made","7.","change","found","some","thing"]
theorem z7:Nc_law_0.Nodup:=by decide +kernel
abbrev Nc_law_1:List Str:=["script","parts","hall","box","reading","first","made","thing","change","found","some","row"]
theorem zZ:Nc_law_1.Nodup:=by decide +kernel
def s_:Rho->R Out:=(sq (asg 1 (cal 2 dh (aC (vr 0) (aC (kd (.int 0)) aN))))
 (sq (asg 2 (cal 1 dL (aC (vr 1) aN)))
 (sq (asg 3 (bin (iI bn) (cal 2 aA (aC (vr 0) (aC (kd (.int 4)) aN))) (una aJ (bin fix (vb 1) (kd (.int 1))))))
 (sq (asg 4 (cal 3 bE (aC (vr 0) (aC (kd (.int 5)) (aC (vr 1) aN)))))
 (sq (asg 5 (cal 2 dI (aC (vr 2) (aC (vr 3) aN))))
 (sq (asg 6 (eLs (a_ (bC (aC (bin fix (bin fix (vb 4) (kd (.int 0))) (vb 3)) aN)) 1 (tgN 11) tT (cal 4 d8 (aC (vr 2) (aC (vr 3) (aC (cal 1 bQ (aC (vr 4) aN)) (aC (vr 11) aN))))))))
 (sq (br (bC (aC (una aJ (vb 6)) aN)) (tgN 7)
 (sq (asg 8 (bin fix (vb 6) (vb 7)))
 (sq (iff (orB (dP (tst (una (AE "list") (vb 8)))) (tst (bin fne (Fg (vb 6) (vr 8)) (kd (.int 1)))))
 (ret (kd (.bl false)))
 nxt)
 (sq (iff (tst (bin fne (eLs (a_ (fIt (vr 8)) 1 (tgN 11) tT (una aJ (vb 11)))) (bin fix (vb 5) (kd (.int 0)))))
 (ret (kd (.bl false)))
 nxt)
 (sq (iff (dP (tst (cal 4 bV (aC (vr 1) (aC (vr 5) (aC (vr 4) (aC (vr 8) aN)))))))
 (ret (kd (.bl false)))
 nxt)
 (sq (asg 9 (cal 4 dH (aC (vr 2) (aC (vr 3) (aC (cal 1 bQ (aC (vr 4) aN)) (aC (cal 1 cE (aC (vr 8) aN)) aN))))))
 (iff (orB (dP (tst (cal 1 df (aC (vr 9) aN)))) (tst (bin fne (vb 9) (vb 7))))
 (ret (kd (.bl false)))
 nxt)))))))
 (sq (iff (orB (tst (bin (iI fgt) (una i5 (bin fix (vb 5) (kd (.int 0)))) (kd (.int 3)))) (orB (tst (bin (iI fgt) (una i5 (bin fix (vb 4) (kd (.int 0)))) (kd (.int 3)))) (tst (bin (iI fgt) (cal 2 dJ (aC (vr 5) (aC (vr 4) aN))) (kd (.int 2000))))))
 (ret (kd (.bl true)))
 nxt)
 (sq (asg 10 (cal 3 gj (aC (vr 2) (aC (cal 1 bQ (aC (vr 5) aN)) (aC (cal 1 bQ (aC (vr 4) aN)) aN)))))
 (ret (yK (bin feq (una aJ (vb 10)) (bin fix (bin fix (vb 4) (kd (.int 0))) (vb 3))) (bin feq (eLs (oK (vb 10))) (eLs (oK (vb 6)))))))))))))))
def o4 (ds:List D):R D:=fin (s_ (st0 Bp ds))
variable (f29:Fn P w K mg base C 3 "_law_drawn_reading" 3 bE)
variable (f30:Fn P w K mg base C 6 "_law_hall" 1 dL)
variable (f31:Fn P w K mg base C 2 "_law_handed" 1 bQ)
variable (f32:Fn P w K mg base C 1 "_law_is_change" 4 bV)
variable (f33:Fn P w K mg base C 1 "_law_many" 2 dJ)
variable (f36:Fn P w K mg base C 3 "_law_parts" 2 dh)
variable (f39:Fn P w K mg base C 1 "_law_whole" 1 df)
variable (f3:Fn P w K mg base C 6 "change_of" 4 d8)
variable (f4:Fn P w K mg base C 6 "changes" 3 gj)
variable (f43:Fn P w K mg base C 6 "thing_of" 4 dH)
include T f27 f42 f28 f29 f30 f31 f32 f33 f36 f39 f3 f4 f43 in
theorem Bg (hr:Room 6 (A.deeper (envOfC "law" (ao kJ) s.heap.objs.size f cdv))) :
  SDs C (jb CX0 P w K mg base Bp "law" (ao kJ) f cdv A outer s H E).nox (cJ kJ) s_ :=
 (ah (sS 1 HU.nd (eF f36 hr (ab (vE 0) (ab bh af aw) aa) aa (aj aw aq)))
 (ah (sS 2 HU.nd (eF f30 hr (ab (vE 1) af aa) aa aq))
 (ah (sS 3 HU.nd (cQ (EB.of (eF f27 hr (ab (vE 0) (ab bh af aw) aa) aa (aj aw aq))) (EB.of (edl (EB.of (ak (vB 1) bI)) rfl T.len ae))))
 (ah (sS 4 HU.nd (eF f29 hr (ab (vE 0) (ab bh (ab (vE 1) af aa) aw) aa) aa (aj aw (aj aa aq))))
 (ah (sS 5 HU.nd (eF f42 hr (ab (vE 2) (ab (vE 3) af aa) aa) aa (aj aa aq)))
 (ah (m8 (f_ (i:=6) (ay (i:=6) HU.nd rfl (Or.inl rfl)) (N':=Nc_law_0) (n:=1) rfl rfl rfl (dq 11) bu (bv rfl T.range (ab (ak (EB.of (ak (vB 4) bI)) (vB 3)) af ae) (bb ae)) (λL cs s H fp=>(gN 11 z7)) (λL cs s H fp=>aX) (λL cs s H fp=>(eF f3 hr (ab (vE 2) (ab (vE 3) (ab (eF f31 hr (ab (vE 4) af aa) aa aq) (ab (vE 11) af aa) av) aa) aa) aa (aj aa (aj av (aj aa aq))))) rfl))
 (ah (bq PassesOwn.never rfl (bv rfl T.range (ab (edl (vB 6) rfl T.len aa) af av) (bb av)) (gN 7 HU.nd)
 (ah (sS 8 HU.nd (ak (vB 6) (vB 7)))
 (ah (bj (lM (hE (cU (dC (ww T.kt_list rfl T.isinstance rfl T.list Be (vB 8) aa))) (fX (cT (bi hr) (EB.of (AV (bi hr) (vB 6) (vE 8) aa (λho ha=>qr PySem.F.plainAttrs_list PySem.F.slot_list_count PySem.F.type_list_count (xf (bi hr)) ho ha))) bI))))
 (ag (aD eK))
 aE)
 (ah (bj (cT (bi hr) (EB.of (bB (ba (N':=Nc_law_1) (n:=1) rfl rfl rfl (dq 11) bu (bG (vE 8)) (λL cs s H fp=>(gN 11 zZ)) (λL cs s H fp=>aX) (λL cs s H fp=>(edl (vB 11) rfl T.len aa))))) (EB.of (ak (vB 5) bI)))
 (ag (aD eK))
 aE)
 (ah (bj (cU (dC (eF f32 hr (ab (vE 1) (ab (vE 5) (ab (vE 4) (ab (vE 8) af aa) aa) aa) aa) aa (aj aa (aj aa (aj aa aq))))))
 (ag (aD eK))
 aE)
 (ah (sS 9 HU.nd (eF f43 hr (ab (vE 2) (ab (vE 3) (ab (eF f31 hr (ab (vE 4) af aa) aa aq) (ab (eF f28 hr (ab (vE 8) af aa) aa aq) af av) av) aa) aa) aa (aj aa (aj av (aj av aq)))))
 (ag (bj (lM (hE (cU (dC (eF f39 hr (ab (vE 9) af aa) aa aq))) (fX (cT (bi hr) (vB 9) (vB 7)))))
 (ag (aD eK))
 aE))))))))
 (ah (bj (lM (hE (tJ (EB.of (sU rfl rfl T.max ae (EB.of (ak (vB 5) bI)))) bI) (hE (tJ (EB.of (sU rfl rfl T.max ae (EB.of (ak (vB 4) bI)))) bI) (fX (tJ (EB.of (eF f33 hr (ab (vE 5) (ab (vE 4) af aa) aa) aa (aj aa aq))) bI)))))
 (ag (aD eK))
 aE)
 (ah (sS 10 HU.nd (eF f4 hr (ab (vE 2) (ab (eF f31 hr (ab (vE 5) af aa) aa aq) (ab (eF f31 hr (ab (vE 4) af aa) aa aq) af av) av) aa) aa (aj av (aj av aq))))
 (ag (aD (sV (u9 (bi hr) (EB.of (edl (vB 10) rfl T.len aa)) (EB.of (ak (EB.of (ak (vB 4) bI)) (vB 3)))) (sT (u9 (bi hr) (EB.of (bB (oJ (bi hr) rfl T.sorted aa (vB 10)))) (EB.of (bB (oJ (bi hr) rfl T.sorted aa (vB 6))))))))))))))))))
end DL
namespace DL
open PySem L2 Ar
theorem js (a b:Int):bm [.int a,.int b]=.val (.bl (decide (0<=a)&&decide (a<b))):=by
 simp only[bm,iT];show fin (ret _ [sh (.int a),sh (.int b)])=_;by_cases h:(0:Int)<=a<;>simp[h]
variable {a b:Nat}
theorem ic (h:a<b):bm [.int (a:Int),.int (b:Int)]=.val (.bl true):=by
 rw[js];simp;exact h
variable {k i j:Nat} {x:D} {xs:List D} {U:Rho}
section
variable {en:List (Nat×Nat)} {re:List Nat} {tb:List (List Int)}
theorem mY (h:aS en re tb):cf [be en,aF re]=.val .non:=by
 have h1:=h.nb1;have h2:=h.nb6;have h3:=h.na1;have h4:=h.na40;simp only[cf,eV];show fin (sq _ _ [sh (be en),sh (aF re)])=_;have a1:(1:Int)<=re.length:=by omega
 have a2:(re.length:Int)<=6:=by omega
 have a3:(1:Int)<=en.length:=by omega
 have a4:(en.length:Int)<=40:=by omega
 simp[a1,a2,a3,a4]
theorem AU (e:(en.map bM)[k]?=some x):k<en.length/\x=bM (en.getD k (0,0)):=by
 have hk:k<en.length:=by have:=(List.getElem?_eq_some_iff.mp e).1;simpa using this
 rw[dn (d:=(0,0)) hk]at e;exact⟨hk,(Option.some.inj e).symm⟩
theorem DU (e:(re.map nD)[k]?=some x):k<re.length/\x=nD (re.getD k 0):=by
 have hk:k<re.length:=by have:=(List.getElem?_eq_some_iff.mp e).1;simpa using this
 rw[dn (d:=0) hk]at e;exact⟨hk,(Option.some.inj e).symm⟩
theorem vz (e:(tb.map am)[k]?=some x):k<tb.length/\x=am (tb.getD k []):=by
 have hk:k<tb.length:=by have:=(List.getElem?_eq_some_iff.mp e).1;simpa using this
 rw[dn (d:=[]) hk]at e;exact⟨hk,(Option.some.inj e).symm⟩
theorem vK {r:List Int} (e:(r.map D.int)[k]?=some x):k<r.length/\x=.int (r.getD k (-1)):=by
 have hk:k<r.length:=by have:=(List.getElem?_eq_some_iff.mp e).1;simpa using this
 rw[dn (d:=-1) hk]at e;exact⟨hk,(Option.some.inj e).symm⟩
theorem keep {F:Rho->R Out} {U1:Rho} {I:Rho->Prop} (h:F U1=.val (.nx U1)) (hI:I U1):∃U2,F U1=.val (.nx U2)/\I U2:=⟨U1,h,hI⟩
theorem iL {F:Rho->R Out} (I:Rho->Prop) (step:∀(k:Nat) x U,xs[k]?=some x->I U->∃U2,F ((U.set i (sh (.int (k:Int)))).set j (sh x))=.val (.nx U2)/\I U2) (h:I U):fin (bK (tg2 i j) F (enu 0 xs) U)=.val .non:=by
 obtain⟨U',e,_⟩:=ot I step h;rw[e];rfl
theorem qe (h:aS en re tb):cO [be en,.int re.length]=.val .non:=by
 simp only[cO,gA];show fin (bK (tg2 2 3) _ (enu 0 (en.map bM)) [sh (be en),sh (.int re.length),none,none])=_;refine iL (λU=>∃a b,U=[sh (be en),sh (.int re.length),a,b]) (λk x U ex hI=>?_) ⟨none,none,rfl⟩;obtain⟨a,b,rfl⟩:=hI;obtain⟨hk,rfl⟩:=AU ex;obtain⟨b1,b2⟩:=h.eb k hk;refine keep ?_ ⟨_,_,rfl⟩;simp[-List.getD_eq_getElem?_getD,ic b1,ic b2]
theorem oS (h:aS en re tb):cC [be en,aF re]=.val .non:=by
 simp only[cC,fE];show fin (bK (tg2 2 3) _ (enu 0 (re.map nD)) [sh (be en),sh (aF re),none,none])=_;refine iL (λU=>∃a b,U=[sh (be en),sh (aF re),a,b]) (λk x U ex hI=>?_) ⟨none,none,rfl⟩;obtain⟨a,b,rfl⟩:=hI;obtain⟨hk,rfl⟩:=DU ex;obtain⟨b1,b2⟩:=h.rs k hk;have e2:fne (bM (en.getD (re.getD k 0) (0,0))) (.tup [.int (k:Int),.int (k:Int)])=.val (.bl false):=by
  rw[b2];exact h_ (x:=bM (k,k)) (kP _)
 refine keep ?_ ⟨_,_,rfl⟩;simp[-List.getD_eq_getElem?_getD,ic b1,d7 b1,e2]
theorem qd (h:aS en re tb):cN [ai tb,.int en.length]=.val .non:=by
 simp only[cN,gw];have ht:=h.tl;have:sq (DL.iff (tst (bin fne (una aJ (vb 0)) (vb 1))) bad nxt) (br (eE (aC (vr 0) aN)) (tg2 2 3) (DL.iff (tst (bin fne (una aJ (vb 3)) (vb 1))) bad nxt)) (st0 iY [ai tb,.int en.length])=bK (tg2 2 3) (DL.iff (tst (bin fne (una aJ (vb 3)) (vb 1))) bad nxt) (enu 0 (tb.map am)) [sh (ai tb),sh (.int en.length),none,none]:=by
  show sq _ _ [sh (ai tb),sh (.int en.length),none,none]=_;simp[ht];rfl
 rw[this];refine iL (λU=>∃a b,U=[sh (ai tb),sh (.int en.length),a,b]) (λk x U ex hI=>?_) ⟨none,none,rfl⟩;obtain⟨a,b,rfl⟩:=hI;obtain⟨hk,rfl⟩:=vz ex;have b1:=h.rl k (by omega);refine keep ?_ ⟨_,_,rfl⟩;simp[-List.getD_eq_getElem?_getD,b1]
theorem oU (h:aS en re tb) (hi:i<en.length) (hj:j<en.length):cD [be en,.int (i:Int),.int (j:Int),.int ((tb.getD i []).getD j (-1))]=.val .non:=by
 simp only[cD,fF];show fin (DL.iff _ _ _ [sh (be en),sh (.int (i:Int)),sh (.int (j:Int)),sh (.int ((tb.getD i []).getD j (-1)))])=_;by_cases e:(en.getD i (0,0)).2=(en.getD j (0,0)).1
 ·obtain⟨k,k1,k2,k3⟩:=h.tp i j hi hj e;have e2:fne (bM (en.getD k (0,0))) (.tup [nD (en.getD i (0,0)).1,nD (en.getD j (0,0)).2])=.val (.bl false):=by
   rw[k3];exact h_ (x:=bM _) (kP _)
  rw[k2];simp[-List.getD_eq_getElem?_getD,d7 hi,d7 hj,e,ic k1,d7 k1,e2]
 ·have e1:=h.tn i j hi hj e;have e':((en.getD i (0,0)).2:Int)≠((en.getD j (0,0)).1:Int):=by omega
  rw[e1];simp[-List.getD_eq_getElem?_getD,d7 hi,d7 hj,e']
theorem oR (h:aS en re tb):cB [be en,ai tb]=.val .non:=by
 simp only[cB,fD];show fin (bK (tg2 2 3) _ (enu 0 (tb.map am)) [sh (be en),sh (ai tb),none,none,none,none])=_;refine iL (λU=>∃a b c d,U=[sh (be en),sh (ai tb),a,b,c,d]) (λk x U ex hI=>?_) ⟨none,none,none,none,rfl⟩;obtain⟨a,b,c,d,rfl⟩:=hI;obtain⟨hk,rfl⟩:=vz ex;have hk':k<en.length:=by have:=h.tl;omega
 show ∃U2,bK (tg2 4 5) _ (enu 0 ((tb.getD k []).map D.int)) [sh (be en),sh (ai tb),sh (.int (k:Int)),sh (am (tb.getD k [])),c,d]=_/\_;have:=ot (i:=4) (j:=5) (F:=drp (cal 4 cD (aC (vr 0) (aC (vr 2) (aC (vr 4) (aC (vr 5) aN)))))) (λU=>∃c d,U=[sh (be en),sh (ai tb),sh (.int (k:Int)),sh (am (tb.getD k [])),c,d]) (xs:=(tb.getD k []).map D.int) (λm x U ex hI=>?_) (U:=[sh (be en),sh (ai tb),sh (.int (k:Int)),sh (am (tb.getD k [])),c,d]) ⟨c,d,rfl⟩
 ·obtain⟨U',e,c',d',rfl⟩:=this;exact⟨_,e,_,_,_,_,rfl⟩
 ·obtain⟨c,d,rfl⟩:=hI;obtain⟨hm,rfl⟩:=vK ex;have hm':m<en.length:=by rw[h.rl k hk']at hm;exact hm
  refine keep ?_ ⟨_,_,rfl⟩;simp[-List.getD_eq_getElem?_getD,oU h hk' hm']
theorem qG (h:aS en re tb) (hi:i<en.length) (hj:j<en.length):(tb.getD i []).getD j (-1)=-1\/∃k:Nat,k<en.length/\(tb.getD i []).getD j (-1)=(k:Int):=by
 by_cases e:(en.getD i (0,0)).2=(en.getD j (0,0)).1
 ·obtain⟨k,k1,k2,_⟩:=h.tp i j hi hj e;exact .inr ⟨k,k1,k2⟩
 ·exact .inl (h.tn i j hi hj e)
theorem lq (h:aS en re tb) (hi:i<en.length) (hj:j<en.length) (e:(tb.getD i []).getD j (-1)=(k:Int)):(en.getD i (0,0)).2=(en.getD j (0,0)).1/\k<en.length/\en.getD k (0,0)=((en.getD i (0,0)).1,(en.getD j (0,0)).2):=by
 by_cases e0:(en.getD i (0,0)).2=(en.getD j (0,0)).1
 ·obtain⟨k',k1,k2,k3⟩:=h.tp i j hi hj e0;have:k'=k:=by rw[k2]at e;omega
  subst this;exact⟨e0,k1,k3⟩
 ·rw[h.tn i j hi hj e0]at e;omega
theorem ja (h:aS en re tb):bt [be en,aF re,ai tb]=.val .non:=by
 simp only[bt,cI];show fin (bK (tg2 3 4) _ (enu 0 (en.map bM)) [sh (be en),sh (aF re),sh (ai tb),none,none])=_;refine iL (λU=>∃a b,U=[sh (be en),sh (aF re),sh (ai tb),a,b]) (λk x U ex hI=>?_) ⟨none,none,rfl⟩;obtain⟨a,b,rfl⟩:=hI;obtain⟨hk,rfl⟩:=AU ex;obtain⟨b1,b2⟩:=h.eb k hk;have r1:=(h.rs _ b1).1;have r2:=(h.rs _ b2).1;have u1:=h.ul k hk;have u2:=h.ur k hk;have ht:=h.tl;have t1:=bx (tb:=tb) (show re.getD (en.getD k (0,0)).1 0<tb.length by omega);have t2:=bx (tb:=tb) (show k<tb.length by omega);have t3:=bz (r:=tb.getD (re.getD (en.getD k (0,0)).1 0) []) (i:=k) (by rw[h.rl _ r1];exact hk);have t4:=bz (r:=tb.getD k []) (i:=re.getD (en.getD k (0,0)).2 0) (by rw[h.rl _ hk];exact r2);refine keep ?_ ⟨_,_,rfl⟩;simp[-List.getD_eq_getElem?_getD,nj b1,nj b2,t1,t2,t3,t4,u1,u2]
theorem mX (h:aS en re tb) {x:Nat} (hi:i<en.length) (hj:j<en.length) (e:(tb.getD i []).getD j (-1)=(x:Int)):ce [ai tb,.int (i:Int),.int (j:Int),.int (x:Int)]=.val .non:=by
 simp only[ce,eU];have ht:=h.tl;obtain⟨_,hx,_⟩:=lq h hi hj e;have t1:=bx (tb:=tb) (show i<tb.length by omega);have t2:=bx (tb:=tb) (show j<tb.length by omega);have t3:=bx (tb:=tb) (show x<tb.length by omega);have:∀F,br (eE (aC (bin fix (vb 0) (vb 2)) aN)) (tg2 4 5) F (st0 gB [ai tb,.int (i:Int),.int (j:Int),.int (x:Int)])=bK (tg2 4 5) F (enu 0 ((tb.getD j []).map D.int)) [sh (ai tb),sh (.int (i:Int)),sh (.int (j:Int)),sh (.int (x:Int)),none,none]:=λF=>by
  show br _ _ F [sh (ai tb),sh (.int (i:Int)),sh (.int (j:Int)),sh (.int (x:Int)),none,none]=_;simp[-List.getD_eq_getElem?_getD,t2];rfl
 rw[this];refine iL (λU=>∃a b,U=[sh (ai tb),sh (.int (i:Int)),sh (.int (j:Int)),sh (.int (x:Int)),a,b]) (λk d U ex hI=>?_) ⟨none,none,rfl⟩;obtain⟨a,b,rfl⟩:=hI;obtain⟨hk,rfl⟩:=vK ex;rw[h.rl j hj]at hk;refine keep ?_ ⟨_,_,rfl⟩;rcases qG h hj hk with ey|⟨y,hy,ey⟩
 ·rw[ey];simp
 ·rw[ey];have as:=h.as i j k x y hi hj hk e ey;have t4:=bz (r:=tb.getD x []) (i:=k) (by rw[h.rl _ hx];exact hk);have t5:=bz (r:=tb.getD i []) (i:=y) (by rw[h.rl _ hi];exact hy);have ny:(y:Int) ≠ -1:=by omega
  simp[-List.getD_eq_getElem?_getD,t1,t3,t4,t5,as,ny]
theorem mW (h:aS en re tb):ca [ai tb]=.val .non:=by
 simp only[ca,eS];show fin (bK (tg2 1 2) _ (enu 0 (tb.map am)) [sh (ai tb),none,none,none,none])=_;refine iL (λU=>∃a b c d,U=[sh (ai tb),a,b,c,d]) (λk x U ex hI=>?_) ⟨none,none,none,none,rfl⟩;obtain⟨a,b,c,d,rfl⟩:=hI;obtain⟨hk,rfl⟩:=vz ex;have hk':k<en.length:=by have:=h.tl;omega
 have:=ot (i:=3) (j:=4) (F:=DL.iff (tst (bin fne (vb 4) (una mU (kd (.int 1))))) (drp (cal 4 ce (aC (vr 0) (aC (vr 1) (aC (vr 3) (aC (vr 4) aN)))))) nxt) (λU=>∃c d,U=[sh (ai tb),sh (.int (k:Int)),sh (am (tb.getD k [])),c,d]) (xs:=(tb.getD k []).map D.int) (λm x U ex hI=>?_) (U:=[sh (ai tb),sh (.int (k:Int)),sh (am (tb.getD k [])),c,d]) ⟨c,d,rfl⟩
 ·obtain⟨U',e,c',d',rfl⟩:=this;exact⟨_,e,_,_,_,_,rfl⟩
 ·obtain⟨c,d,rfl⟩:=hI;obtain⟨hm,rfl⟩:=vK ex;have hm':m<en.length:=by rw[h.rl k hk']at hm;exact hm
  refine keep ?_ ⟨_,_,rfl⟩;rcases qG h hk' hm' with ey|⟨y,hy,ey⟩
  ·rw[ey];simp
  ·have:=mX h hk' hm' ey;rw[ey];have ny:(y:Int) ≠ -1:=by omega
   simp[-List.getD_eq_getElem?_getD,this,ny]
theorem CG (h:aS en re tb):jB (jZ (be en) (aF re) (ai tb))=.val (.ob (be en) (aF re) (ai tb)):=by
 have n1:=h.na40;have n2:=h.tl;have hf:a_ (fIt (vr 3)) 1 (tgN 4) tT (eLs (fIt (vb 4))) (jZ (be en) (aF re) (ai tb))=.val (tb.map am):=bw (f:=am) rfl (by omega) λr _=>rfl;unfold jB CN;rw[hf];unfold jZ;simp[-List.getD_eq_getElem?_getD,yN,mY h,qe h,oS h,qd h,oR h,ja h,mW h];rfl
end
theorem jX (ns:List Int) (k:Nat):∃c:Int,aA [.scr ns,.int (k:Int)]=.val (.int c):=by
 simp only[aA,iS];have m1:∀i:Int,bn i 65521=.val (.int (i%65521)):=λi=>c_ (by decide);have m2:∀i:Int,gi i 48271=.val (.int (i*48271)):=λi=>lf (by decide);have m3:∀i:Int,gi i 30103=.val (.int (i*30103)):=λi=>lf (by decide);show ∃c,fin (sq _ _ [sh (.scr ns),sh (.int (k:Int)),none])=_;have t1:tst (bin (iI flt) (vb 1) (una aJ (vb 0))) [sh (.scr ns),sh (.int (k:Int)),none]=.val (decide ((k:Int)<(ns.length:Int))):=Eq.trans rfl rfl;rw[aK,bL,t1,ac];by_cases h:k<ns.length
 ·have e:fix (.scr ns) (.int (k:Int))=.val (.int ns[k]):=Dp (List.getElem?_eq_getElem h);refine⟨ns[k],?_⟩;rw[if_pos (decide_eq_true (Int.ofNat_lt.mpr h)),bT,bN];show fin (R.bind (R.bind (fix (.scr ns) (.int (k:Int))) _) _)=_;rw[e];rfl
 ·rw[if_neg (by rw[decide_eq_false (λz=>h (Int.ofNat_lt.mp z))];decide),jl,ac];dsimp only;have t2:tst (bin (iI fgt) (una aJ (vb 0)) (kd (.int 0))) [sh (.scr ns),sh (.int (k:Int)),sh (.int 0)]=.val (decide ((0:Int)<(ns.length:Int))):=Eq.trans rfl rfl;have last:∀b:Int,ret (bin (iI bn) (bin b_ (bin (iI gi) (bin (iI bn) (vb 2) (kd (.int 65521))) (kd (.int 48271))) (bin (iI gi) (vb 1) (kd (.int 30103)))) (kd (.int 65521))) [sh (.scr ns),sh (.int (k:Int)),sh (.int b)]=.val (.rt (.int ((b%65521*48271+k*30103)%65521))):=λb=>by
   have v2:vb 2 [sh (.scr ns),sh (.int (k:Int)),sh (.int b)]=.val (.int b):=Eq.trans rfl rfl;have v1:vb 1 [sh (.scr ns),sh (.int (k:Int)),sh (.int b)]=.val (.int (k:Int)):=Eq.trans rfl rfl;rw[bT,bN _ (iI bn),bN _ b_,bN _ (iI gi),bN _ (iI bn),v2,ac,qx,ac,oB,m1,ac,qx,ac,oB,m2,ac,bN _ (iI gi),v1,ac,qx,ac,oB,m3,ac,xv,ac,ac,oB,m1,ac]
  have a2:asg 2 (kd (.int 0)) [sh (.scr ns),sh (.int (k:Int)),none]=.val (.nx [sh (.scr ns),sh (.int (k:Int)),sh (.int 0)]):=Eq.trans rfl rfl;rw[aK,a2,ac];dsimp only;rw[aK,bL,t2,ac];by_cases h0:0<ns.length
  ·have e:fix (.scr ns) (.int 0)=.val (.int ns[0]):=Dp (i:=0) (List.getElem?_eq_getElem h0);refine⟨(ns[0]%65521*48271+k*30103)%65521,?_⟩;rw[if_pos (decide_eq_true (show(0:Int)<(ns.length:Int)from Int.ofNat_lt.mpr h0)),eD,bN];show fin (R.bind (R.bind (fix (.scr ns) (.int 0)) _) _)=_;rw[e];show fin (ret _ [sh (.scr ns),sh (.int (k:Int)),sh (.int ns[0])])=_;rw[last];rfl
  ·refine⟨(0%65521*48271+k*30103)%65521,?_⟩;rw[if_neg (by rw[decide_eq_false (λ(z:(0:Int)<(ns.length:Int))=>h0 (Int.ofNat_lt.mp z))];decide),jl,ac];dsimp only;rw[last];rfl
theorem lj (s:Int):∃c:Int,aQ [.int s]=.val (.int c):=by
 simp only[aQ,iO];have m1:∀i:Int,bn i 2147483647=.val (.int (i%2147483647)):=λi=>c_ (by decide);have m2:∀i:Int,gi i 48271=.val (.int (i*48271)):=λi=>lf (by decide);show ∃c,fin (ret _ [sh (.int s)])=_;refine⟨(s*48271+11)%2147483647,?_⟩;simp[m1,m2]
theorem za (m:Nat) (h:m=1\/m=2\/m=3\/m=4):∃sz∈szs,D.lst ((List.range m).map λ_=>D.int 1)=aF sz:=by
 rcases h with rfl|rfl|rfl|rfl
 ·exact⟨[1],by decide,rfl⟩
 ·exact⟨[1,1],by decide,rfl⟩
 ·exact⟨[1,1,1],by decide,rfl⟩
 ·exact⟨[1,1,1,1],by decide,rfl⟩
def l6:List (List Nat):=[[1,2],[2,1],[2,2],[0,2],[2],[1]]
def l5:List (List Nat):=[[1,1,2],[0,1,2],[1,2,2],[2,1,0],[2,2]]
theorem Gk:∀i,i<6->l6.getD i []∈szs:=by decide
theorem Gm:∀i,i<5->l5.getD i []∈szs:=by decide
theorem fo (c:Int) (m:Nat) (h:0<m):∃i:Nat,i<m/\c%(m:Int)=(i:Int):=by
 have h':(0:Int)<(m:Int):=Int.ofNat_lt.mpr h;obtain⟨i,e⟩:=Int.eq_ofNat_of_zero_le (Int.emod_nonneg c (Int.ne_of_gt h'));refine⟨i,?_,e⟩;have:=Int.emod_lt_of_pos c h';rw[e]at this;exact Int.ofNat_lt.mp this
theorem AM (ns:List Int) (k:Nat):∃sz∈szs,dg [.scr ns,.int (k:Int)]=.val (aF sz):=by
 simp only[dg,gW];obtain⟨c,hc⟩:=jX ns k;have d4:dQ c 4=.val (.int (c/4)):=xu (by decide);show ∃sz∈szs,fin (sq _ _ [sh (.scr ns),sh (.int (k:Int)),none,none])=_;have x1:asg 2 (cal 2 aA (aC (vr 0) (aC (vr 1) aN))) [sh (.scr ns),sh (.int (k:Int)),none,none]=.val (.nx [sh (.scr ns),sh (.int (k:Int)),sh (.int c),none]):=by
  rw[eD,Bb];show R.bind (noex (aA [.scr ns,.int (k:Int)])) _=_;rw[hc];rfl
 have x2:asg 3 (bin (iI bn) (vb 2) (kd (.int 4))) [sh (.scr ns),sh (.int (k:Int)),sh (.int c),none]=.val (.nx [sh (.scr ns),sh (.int (k:Int)),sh (.int c),sh (.int (c%4))]):=by
  rw[eD,bN];show R.bind (bn c 4) _=_;rw[c_ (by decide)];rfl
 rw[aK,x1,ac];dsimp only;rw[aK,x2,ac];dsimp only;have ix:∀(w:Int) (m:Int),0<m->bin (iI bn) (bin (iI dQ) (vb 2) (kd (.int 4))) (kd (.int m)) [sh (.scr ns),sh (.int (k:Int)),sh (.int c),sh (.int w)]=.val (.int (c/4%m)):=λw m hm=>by
  rw[bN,bN];show R.bind (dQ c 4) _=_;rw[d4];show bn (c/4) m=_;exact c_ hm
 have ts:∀(w:Int) (m:Int),tst (bin feq (vb 3) (kd (.int m))) [sh (.scr ns),sh (.int (k:Int)),sh (.int c),sh (.int w)]=.val (decide (w=m)):=λw m=>by
  rw[eN,bN];show R.bind (feq (.int w) (.int m)) asB=_;rw[wm];rfl
 obtain⟨i,hi,ei⟩:=fo c 4 (by decide);have ei:c%4=(i:Int):=ei;rw[ei]
 match i,hi with
 | 0,_ =>
  obtain⟨j,hj,ej⟩:=fo (c/4) 4 (by decide);have ej:c/4%4=(j:Int):=ej;have hz:pG [.int (1+c/4%4)]=.val (rng 0 (1+j)):=by
   rw[ej];have:=hU (n:=1+j) (Nat.le_trans (Nat.add_le_add_left (Nat.le_of_lt hj) 1) (by decide));rw[Int.natCast_add]at this;exact this
  have hf:a_ (bC (aC (bin b_ (kd (.int 1)) (bin (iI bn) (bin (iI dQ) (vb 2) (kd (.int 4))) (kd (.int 4)))) aN)) 1 (tgN 4) tT (kd (.int 1)) [sh (.scr ns),sh (.int (k:Int)),sh (.int c),sh (.int ((0:Nat):Int))]=.val ((List.range (1+j)).map λ_=>D.int 1):=by
   refine oM ?_ (Nat.le_trans (Nat.add_le_add_left (Nat.le_of_lt hj) 1) (by decide)) λk _=>rfl;rw[li,cF,bN,qx,ac,ix _ 4 (by decide),ac,xv,ac,qS,ac,ac,hz]
  obtain⟨sz,hs,e⟩:=za (1+j) (by
   match j,hj with
   | 0,_=>exact .inl rfl
   | 1,_=>exact .inr (.inl rfl)
   | 2,_=>exact .inr (.inr (.inl rfl))
   | 3,_=>exact .inr (.inr (.inr rfl)))
  refine⟨sz,hs,?_⟩;rw[aK,bL,ts,ac,if_pos (by decide),bT,bD,hf,ac,ac,ac];exact congrArg R.val e
 | 1,_ =>
  obtain⟨j,hj,ej⟩:=fo (c/4) 6 (by decide);have ej:c/4%6=(j:Int):=ej;refine⟨_,Gk j hj,?_⟩;have el:eL (aC (eL (aC (kd (.int 1)) (aC (kd (.int 2)) aN))) (aC (eL (aC (kd (.int 2)) (aC (kd (.int 1)) aN))) (aC (eL (aC (kd (.int 2)) (aC (kd (.int 2)) aN))) (aC (eL (aC (kd (.int 0)) (aC (kd (.int 2)) aN))) (aC (eL (aC (kd (.int 2)) aN)) (aC (eL (aC (kd (.int 1)) aN)) aN)))))) [sh (.scr ns),sh (.int (k:Int)),sh (.int c),sh (.int ((1:Nat):Int))]=.val (.lst (l6.map aF)):=Eq.trans rfl rfl;rw[aK,bL,ts,ac,if_neg (by decide),jl,ac];dsimp only;rw[aK,bL,ts,ac,if_pos (by decide),bT,bN,el,ac,ix _ 6 (by decide),ac,ej,ia (dn (d:=[]) hj)];rfl
 | 2,_ =>
  refine⟨[3],by decide,?_⟩;rw[aK,bL,ts,ac,if_neg (by decide),jl,ac];dsimp only;rw[aK,bL,ts,ac,if_neg (by decide),jl,ac];dsimp only;rw[aK,bL,ts,ac,if_pos (by decide)];exact Eq.trans rfl rfl
 | 3,_ =>
  obtain⟨j,hj,ej⟩:=fo (c/4) 5 (by decide);have ej:c/4%5=(j:Int):=ej;refine⟨_,Gm j hj,?_⟩;have el:eL (aC (eL (aC (kd (.int 1)) (aC (kd (.int 1)) (aC (kd (.int 2)) aN)))) (aC (eL (aC (kd (.int 0)) (aC (kd (.int 1)) (aC (kd (.int 2)) aN)))) (aC (eL (aC (kd (.int 1)) (aC (kd (.int 2)) (aC (kd (.int 2)) aN)))) (aC (eL (aC (kd (.int 2)) (aC (kd (.int 1)) (aC (kd (.int 0)) aN)))) (aC (eL (aC (kd (.int 2)) (aC (kd (.int 2)) aN))) aN))))) [sh (.scr ns),sh (.int (k:Int)),sh (.int c),sh (.int ((3:Nat):Int))]=.val (.lst (l5.map aF)):=Eq.trans rfl rfl;rw[aK,bL,ts,ac,if_neg (by decide),jl,ac];dsimp only;rw[aK,bL,ts,ac,if_neg (by decide),jl,ac];dsimp only;rw[aK,bL,ts,ac,if_neg (by decide),jl,ac];dsimp only;rw[bT,bN,el,ac,ix _ 5 (by decide),ac,ej,ia (dn (d:=[]) hj)];rfl
def h8 (x:Arr):KA:=((x.1:Int),(x.2.1:Int),x.2.2.map λ(n:Nat)=>(n:Int))
theorem l_:∀l:List Nat,eI (l.map nD)=some (l.map λ(n:Nat)=>(n:Int))
 | []=>rfl
 | a::l=>by
  show(eI (l.map nD)).map _=_;rw[l_ l];rfl
theorem hZ (x:Arr):p8 (au x)=some (h8 x):=by
 show(eI (x.2.2.map nD)).map _=_;rw[l_];rfl
theorem oz {x y:Arr} (h:h8 x=h8 y):x=y:=by
 obtain⟨a,b,l⟩:=x;obtain⟨c,d,m⟩:=y;simp only[h8,Prod.mk.injEq]at h;obtain⟨h1,h2,h3⟩:=h;have e3:l=m:=by
  have:∀{l m:List Nat},(l.map λ(n:Nat)=>(n:Int))=(m.map λ(n:Nat)=>(n:Int))->l=m:=by
   intro l
   induction l with
   | nil=>intro m h;cases m with
    | nil=>rfl
    | cons _ _=>simp at h
   | cons a l ih=>intro m h;cases m with
    | nil=>simp at h
    | cons b m =>
     simp only[List.map_cons,List.cons.injEq]at h;rw[ih h.2];congr 1;omega
  exact this h3
 rw[e3,show a=c by omega,show b=d by omega]
def met (kn:List Arr):List (KA×D):=kn.map λx=>(h8 x,.bl true)
theorem xj (kn:List Arr) (x:Arr):((met kn).any λp=>decide (p.1=h8 x))=decide (x∈kn):=by
 unfold met;rw[List.any_map];by_cases h:x∈kn
 ·rw[decide_eq_true h,List.any_eq_true];exact⟨x,h,by simp⟩
 ·rw[decide_eq_false h,List.any_eq_false];intro y hy;simp only[Function.comp,decide_eq_true_eq];exact λe=>h (oz e▸hy)
variable {kn:List Arr}
theorem xi {x:Arr} (h:x∉kn):oy (met kn) (h8 x) (.bl true)=met (kn++[x]):=by
 unfold oy;rw[xj,decide_eq_false h,if_neg (by decide)];unfold met;rw[List.map_append];rfl
theorem xk:∀(l acc:List Arr),(acc++l).Nodup->(acc++l).length<=100000->uD (l.map au) (met acc)=some (met (acc++l))
 | [],acc,_,_=>by rw[List.append_nil];rfl
 | x::l,acc,nd,hl=>by
  have hx:x∉acc:=λh=>by
   rw[List.nodup_append]at nd;exact nd.2.2 x h x (by simp) rfl
  have e:acc++x::l=(acc++[x])++l:=by simp
  rw[List.map_cons];unfold uD;rw[hZ];dsimp only;have hl1:(met acc).length<=100000:=by unfold met;rw[List.length_map];simp at hl;omega
  rw[if_pos hl1,xi hx,e];exact xk l (acc++[x]) (by rw[<- e];exact nd) (by rw[<- e];exact hl)
variable {d:D} {n:Nat} {kvs:List (KA×D)} {ka:KA}
section
variable (U:Rho)
@[simp] theorem xG (i:Nat):AZ i U=.val (.nx (U.set i (some (.dic [])))):=Eq.trans rfl rfl
theorem jG {e:Rho->R D} (h:U[i]?=some (some (.own xs))) (he:e U=.val d) (hl:xs.length<100000):app i e U=.val (.nx (U.set i (some (.own (xs++[d]))))):=by
 unfold app;rw[h];dsimp only;rw[he,ac,if_pos (show xs.length<LIM from hl)]
theorem Al {k e:Rho->R D} (h:U[i]?=some (some (.own xs))) (hk:k U=.val (.int (n:Int))) (he:e U=.val d) (hn:n<=xs.length) (hl:xs.length<100000):ins i k e U=.val (.nx (U.set i (some (.own (xs.take n++d::xs.drop n))))):=by
 unfold ins;rw[h];dsimp only;rw[hk,ac,he,ac];dsimp only;rw[if_pos ⟨by omega,by omega,(show xs.length<LIM from hl)⟩];rfl
theorem xF {k e:Rho->R D} {kd:D} (h:U[i]?=some (some (.dic kvs))) (hk:k U=.val kd) (he:e U=.val d) (ek:p8 kd=some ka) (hl:kvs.length<=100000):sX i k e U=.val (.nx (U.set i (some (.dic (oy kvs ka d))))):=by
 unfold sX;rw[he,ac,hk,rX,ac,ek];dsimp only;rw[h];dsimp only;rw[if_pos hl]
theorem xH {k:Rho->R D} {kd:D} (h:U[i]?=some (some (.dic kvs))) (hk:k U=.val kd) (ek:p8 kd=some ka) (hg:wc kvs ka=some d):sZ i k U=.val d:=by
 unfold sZ;rw[h];dsimp only;rw[hk,ac,ek];dsimp only;rw[hg]
theorem CM {k:Rho->R D} {kd:D} (h:U[i]?=some (some (.dic kvs))) (hk:k U=.val kd) (ek:p8 kd=some ka):AY i k U=.val (!(kvs.any λp=>decide (p.1=ka))):=by
 unfold AY;rw[hk,ac,h];dsimp only;rw[ek]
end
def rC (kn:List Arr) (a:Nat) (o f s m:Option Slt):Rho:=[some (.own (kn.map au)),some (.dic (met kn)),none,sh (nD a),o,f,s,m]
abbrev o9:Rho->R Out:=DL.iff (tst (bin feq (bin fix (vb 5) (kd (.int 1))) (bin fix (vb 6) (kd (.int 0)))))
 (sq (asg 7 (eT (aC (bin fix (vb 5) (kd (.int 0))) (aC (bin fix (vb 6) (kd (.int 1))) (aC (una j4 (eLs (a_ (fIt (bin fix (vb 5) (kd (.int 2)))) 1 (tgN 8) tT (bin fix (bin fix (vb 6) (kd (.int 2))) (vb 8))))) aN)))))
 (DL.iff (AY 1 (vr 7))
 (sq (sX 1 (vr 7) (kd (.bl true)))
 (app 0 (vr 7)))
 nxt))
 nxt
theorem zV {sz:List Nat} {f s:Arr} (hf:Ok sz f) (hs:Ok sz s) (e:f.2.1=s.1):∀i∈f.2.2,i<s.2.2.length:=by
 obtain⟨n,m,h1,h2,h3,h4⟩:=hf;obtain⟨n',m',g1,g2,g3,g4⟩:=hs;have hm:m=n':=by rw[e]at h2;rw[h2]at g1;exact Option.some.inj g1
 intro i hi;rw[g3,<- hm];exact h4 i hi
theorem Ex {sz:List Nat} (hz:sz∈szs) {f:Arr} (hf:Ok sz f):f.2.2.length<=3:=by
 obtain⟨n,m,h1,h2,h3,h4⟩:=hf;rw[h3];exact(gE sz hz).2.2 n (List.mem_of_getElem? h1)
theorem Kn.few {sz kn} (hz:sz∈szs) (g:Kn sz kn):kn.length<=27 :=
 Nat.le_trans (gT g.nd λx hx=>uE (g.ok x hx)) (tM sz hz)
variable {src:Rho->R (List D)}
theorem xI {sz:List Nat} (hz:sz∈szs) {f s:Arr} (hf:Ok sz f) (hs:Ok sz s) (e:f.2.1=s.1) {el:Rho->R D} (h1:src U=.val (f.2.2.map nD)) (h2:∀k:Nat,el ((U++List.replicate 1 none).set i (sh (nD k)))=fix (.tup (s.2.2.map nD)) (.int (k:Int))) :
  a_ src 1 (tgN i) tT el U=.val ((comp f s).2.2.map nD):=by
 have hl:=Ex hz hf;have:=bw (f:=nD) (g:=λk=>nD (s.2.2.getD k 0)) (n:=1) (i:=i) (e:=el) h1 (by omega) λk hk=>by
  rw[h2 k];exact xq (dn (zV hf hs e k hk))
 rw[this];simp only[comp,List.map_map];rfl
theorem u6 {sz kn:List _} (hz:sz∈szs) (hk:Kn sz kn) {f s:Arr} (hf:Ok sz f) (hs:Ok sz s) (a:Nat) (o m:Option Slt) :
  ∃m',o9 (rC kn a o (sh (au f)) (sh (au s)) m)=.val (.nx (rC (jf kn f s) a o (sh (au f)) (sh (au s)) m')):=by
 have few:=Kn.few hz hk;unfold jf;by_cases e:f.2.1=s.1
 ·rw[if_pos e];have hc:=xI hz hf hs e (src:=fIt (bin fix (vb 5) (kd (.int 2)))) (el:=bin fix (bin fix (vb 6) (kd (.int 2))) (vb 8)) (i:=8) (U:=rC kn a o (sh (au f)) (sh (au s)) m) (by simp[rC]) (λk=>by simp[rC]);refine⟨sh (au (comp f s)),?_⟩;have ht:tst (bin feq (bin fix (vb 5) (kd (.int 1))) (bin fix (vb 6) (kd (.int 0)))) (rC kn a o (sh (au f)) (sh (au s)) m)=.val true:=by
   unfold rC;simp[e]
  have hv:eT (aC (bin fix (vb 5) (kd (.int 0))) (aC (bin fix (vb 6) (kd (.int 1))) (aC (una j4 (eLs (a_ (fIt (bin fix (vb 5) (kd (.int 2)))) 1 (tgN 8) tT (bin fix (bin fix (vb 6) (kd (.int 2))) (vb 8))))) aN))) (rC kn a o (sh (au f)) (sh (au s)) m)=.val (au (comp f s)):=by
   simp only[lv,cF,gS,bD,hc];unfold rC;simp;rfl
  show DL.iff _ _ _ _=_;rw[bL,ht,ac,if_pos rfl,aK,eD,hv];show DL.iff _ _ _ (rC kn a o (sh (au f)) (sh (au s)) (sh (au (comp f s))))=_;unfold qg;rw[bL,CM (kvs:=met kn) _ rfl (kd:=au (comp f s)) rfl (hZ _),xj];by_cases hin:comp f s∈kn
  ·rw[if_pos hin,decide_eq_true hin];rfl
  ·rw[if_neg hin,decide_eq_false hin];show sq _ _ _=_;rw[aK,xF (kvs:=met kn) _ rfl (kd:=au (comp f s)) rfl (d:=.bl true) rfl (hZ _) (by unfold met;rw[List.length_map];omega),xi hin];rw[ac];dsimp only;rw[jG (xs:=kn.map au) _ rfl (d:=au (comp f s)) rfl (by rw[List.length_map];omega)];unfold rC;rw[List.map_append];rfl
 ·rw[if_neg e];refine⟨m,?_⟩;have e':¬ ((f.2.1:Int)=(s.1:Int)):=by omega
  unfold rC;simp[e']
abbrev zb:Rho->R (List D):=fIt (eL (aC (eT (aC (bin fix (vb 0) (vb 3)) (aC (vr 4) aN))) (aC (eT (aC (vr 4) (aC (bin fix (vb 0) (vb 3)) aN))) aN)))
theorem Cv {sz kn:List _} (hz:sz∈szs) (hk:Kn sz kn) {k o:Arr} (ha:kn[a]?=some k) (ho:Ok sz o) (f s m:Option Slt) :
  ∃f' s' m',br zb (tg2 5 6) o9 (rC kn a (sh (au o)) f s m)=.val (.nx (rC (lJ k kn o) a (sh (au o)) f' s' m')):=by
 have hkk:Ok sz k:=hk.ok k (List.mem_of_getElem? ha);have hx:fix (.lst (kn.map au)) (.int (a:Int))=.val (au k):=ia (by rw[List.getElem?_map,ha];rfl);have hs:zb (rC kn a (sh (au o)) f s m)=.val [.tup [au k,au o],.tup [au o,au k]]:=by
  unfold rC;simp[hx]
 obtain⟨m1,e1⟩:=u6 hz hk hkk ho a (sh (au o)) m;obtain⟨m2,e2⟩:=u6 hz (nG hk hkk ho) ho hkk a (sh (au o)) m1;refine⟨sh (au o),sh (au k),m2,?_⟩;rw[ck,hs,ac];unfold bK;show(o9 (rC kn a (sh (au o)) (sh (au k)) (sh (au o)) m)).bind _=_;rw[e1,ac];dsimp only;unfold bK;show(o9 (rC (jf kn k o) a (sh (au o)) (sh (au o)) (sh (au k)) m1)).bind _=_;rw[e2,ac];rfl
theorem xw {sz:List Nat} (hz:sz∈szs) {a:Nat} {k:Arr}:∀(snap:List Arr) {kn:List Arr} (hk:Kn sz kn) (ha:kn[a]?=some k) (hs:∀o∈snap,Ok sz o) (o f s m:Option Slt),
  ∃o' f' s' m',bK (tgN 4) (br zb (tg2 5 6) o9) (snap.map au) (rC kn a o f s m)=.val (.nx (rC (rS k kn snap) a o' f' s' m'))
 | [],kn,hk,ha,hs,o,f,s,m=>⟨o,f,s,m,rfl⟩
 | q::r,kn,hk,ha,hs,o,f,s,m=>by
  have hq:=hs q (by simp);have hkk:Ok sz k:=hk.ok k (List.mem_of_getElem? ha);obtain⟨f1,s1,m1,e1⟩:=Cv hz hk ha hq f s m;obtain⟨o2,f2,s2,m2,e2⟩:=xw hz r (wF hk hkk hq) (wY (tH k kn q) ha) (λx hx=>hs x (by simp[hx])) (sh (au q)) f1 s1 m1;refine⟨o2,f2,s2,m2,?_⟩;rw[List.map_cons];unfold bK;show(br zb (tg2 5 6) o9 (rC kn a (sh (au q)) f s m)).bind _=_;rw[e1,ac];exact e2
abbrev Bh:Rho->R Out:=sq (br (fIt (eLs (fIt (vb 0)))) (tgN 4) (br zb (tg2 5 6) o9)) (asg 3 (bin b_ (vb 3) (kd (.int 1))))
abbrev A5:Rho->R Bool:=tst (bin (iI flt) (vb 3) (una aJ (vb 0)))
theorem AQ {sz:List Nat} (hz:sz∈szs) {k:Arr} (hk:Kn sz kn) (ha:kn[a]?=some k) (o f s m:Option Slt) :
  ∃o' f' s' m',Bh (rC kn a o f s m)=.val (.nx (rC (rS k kn kn) (a+1) o' f' s' m')):=by
 obtain⟨o',f',s',m',e⟩:=xw hz kn hk ha hk.ok o f s m;refine⟨o',f',s',m',?_⟩;show sq _ _ _=_;rw[aK,ck];have:fIt (eLs (fIt (vb 0))) (rC kn a o f s m)=.val (kn.map au):=by unfold rC;simp
 rw[this,ac,e,ac];show asg 3 _ _=_;unfold rC;simp
theorem uZ {sz:List Nat} (hz:sz∈szs):∀(n a:Nat) (kn:List Arr) (o f s m:Option Slt),Kn sz kn->Cl kn a->a<=kn.length->28<=n+a ->
  ∃kn' a' o' f' s' m',whD A5 Bh n (rC kn a o f s m)=.val (.nx (rC kn' a' o' f' s' m'))/\Kn sz kn'/\kn <+: kn'/\Cl kn' kn'.length
 | 0,a,kn,o,f,s,m,hk,hc,hl,hn=>by have:=Kn.few hz hk;omega
 | n+1,a,kn,o,f,s,m,hk,hc,hl,hn=>by
  have hcond:A5 (rC kn a o f s m)=.val (decide (a<kn.length)):=by
   unfold rC;simp
  unfold whD;rw[hcond,ac];by_cases h:a<kn.length
  ·rw[decide_eq_true h,if_pos rfl];have ha:kn[a]?=some kn[a]:=by simp[h]
   obtain⟨o',f',s',m',e⟩:=AQ hz hk ha o f s m;have hkk:Ok sz kn[a]:=hk.ok _ (List.getElem_mem h);have pre:=jk kn[a] kn kn;obtain⟨kn',a',o2,f2,s2,m2,e2,g1,g2,g3⟩:=uZ hz n (a+1) (rS kn[a] kn kn) o' f' s' m' (w6 hkk hk hk.ok) (BV hc ha) (Nat.le_trans h pre.length_le) (by omega);rw[e,ac];exact⟨kn',a',o2,f2,s2,m2,e2,g1,pre.trans g2,g3⟩
  ·rw[decide_eq_false h];have:a=kn.length:=by omega
   subst this;exact⟨kn,kn.length,o,f,s,m,rfl,hk,List.prefix_refl _,hc⟩
theorem yF {sz kn:List _} (hz:sz∈szs) (hk:Kn sz kn):∃kn',cx (kn.map au)=.val (.lst (kn'.map au))/\Kn sz kn'/\kn <+: kn'/\∀x∈kn',∀y∈kn',x.2.1=y.1->comp x y∈kn':=by
 have few:=Kn.few hz hk;obtain⟨kn',a',o',f',s',m',e,g1,g2,g3⟩:=uZ hz 30 0 kn none none none none hk (λi j x y hi=>absurd hi (Nat.not_lt_zero _)) (Nat.zero_le _) (by omega);refine⟨kn',?_,g1,g2,Fh g3⟩;have hm:uD (kn.map au) []=some (met kn):=xk kn [] (by simpa using hk.nd) (by simp;omega);have h0:oH 0 2 1 [some (.own (kn.map au)),some (.dic []),none,none,none,none,none,none]=.val (.nx [some (.own (kn.map au)),some (.dic (met kn)),none,none,none,none,none,none]):=by
  show(match uD (kn.map au) []with|some kvs'=>_|none=>_)=_;rw[hm];rfl
 simp only[cx,gr];show fin (sq (AZ 1) _ [some (.own (kn.map au)),none,none,none,none,none,none,none])=_;rw[aK,xG,ac];show fin (sq (oH 0 2 1) _ [some (.own (kn.map au)),some (.dic []),none,none,none,none,none,none])=_;rw[aK,h0,ac];show fin (sq (asg 3 (kd (.int 0))) _ [some (.own (kn.map au)),some (.dic (met kn)),none,none,none,none,none,none])=_;rw[aK,eD,qx,ac,ac];show fin (sq (whD A5 Bh 30) _ (rC kn 0 none none none none))=_;rw[aK,e,ac];rfl
theorem BH (n:Nat):rng 0 n=(List.range n).map nD:=by
 unfold rng;apply List.map_congr_left;intro k _;simp[nD]
theorem wP (h:n<=100000):rgT [.int (n:Int)]=.val (.tup ((List.range n).map nD)):=by
 have:-(2 ^ 62)<=(n:Int)/\(n:Int)<=100000:=by constructor<;>omega
 unfold rgT;dsimp only;rw[if_pos this,Int.toNat_natCast,BH]
theorem Au (x:Arr) (kn:List Arr):mT true (au x) (.lst (kn.map au))=.val (.bl (!decide (x∈kn))):=by
 have h1:eqb 8 (au x)=true:=dZ (jR x);have h2:(kn.map au).all (eqb 8)=true:=by
  rw[List.all_eq_true];intro y hy;obtain⟨a,_,rfl⟩:=List.mem_map.mp hy;exact dZ (jR a)
 unfold mT;dsimp only;rw[if_pos ⟨h1,h2⟩];have:((kn.map au).any λy=>pyq 8 y (au x))=decide (x∈kn):=by
  rw[List.any_map];by_cases h:x∈kn
  ·rw[decide_eq_true h,List.any_eq_true];exact⟨x,h,(iC 8 (jR x) (jR x)).mpr rfl⟩
  ·rw[decide_eq_false h,List.any_eq_false];intro y hy e;exact h (arrD_inj.mp ((iC 8 (jR y) (jR x)).mp e)▸hy)
 rw[this];rfl
theorem xU:∀sz∈szs,∀a,a<sz.length->∀b,b<sz.length->sz.getD a 0=3->sz.getD b 0=3:=by decide +kernel
theorem jW {sz:List Nat} (h:i<sz.length):fix (aF sz) (.int (i:Int))=.val (.int ((sz.getD i 0:Nat):Int)):=nj h
theorem EQ {sz:List Nat} (h:b<sz.length):Ok sz (idm sz b):=by
 refine⟨sz[b],sz[b],by simp[idm,h],by simp[idm,h],?_,λy hy=>?_⟩
 ·simp[idm,h]
 ·simp[idm,h]at hy;exact hy
theorem EO (sz:List Nat):Kn sz ((List.range sz.length).map (idm sz)):=by
 refine⟨?_,λx hx=>?_⟩
 ·unfold List.Nodup;rw[List.pairwise_map];exact List.nodup_range.imp λ{a b} h e=>h (by simpa[idm]using congrArg (·.1) e)
 ·obtain⟨b,hb,rfl⟩:=List.mem_map.mp hx;exact EQ (List.mem_range.mp hb)
def rA (ns:List Int) (k:Nat) (sz:List Nat) (known:Slt) (st:Int) (a5 a6 a7 a8 a9 a10 a11:Option Slt):Rho:=[sh (.scr ns),sh (nD k),sh (aF sz),some known,sh (.int st),a5,a6,a7,a8,a9,a10,a11]
variable {o:Nat} {known:Slt} {st s1:Int} {l:List Nat} {a5 a10 a11 a9 a6 a7 a8:Option Slt}
section
variable {ns:List Int} {k:Nat} {sz:List Nat}
abbrev zm:Rho->R Out:=sq (asg 4 (cal 1 aQ (aC (vr 4) aN)))
 (DL.iff (tst (bin feq (bin fix (vb 2) (vb 6)) (kd (.int 3))))
 (ins 8 (bin (iI bn) (bin (iI dQ) (vb 4) (kd (.int 64))) (bin b_ (vb 9) (kd (.int 1)))) (vr 9))
 (app 8 (bin (iI bn) (bin (iI dQ) (vb 4) (kd (.int 64))) (CL (aC (kd (.int 1)) (aC (bin fix (vb 2) (vb 7)) aN))))))
def bnd (s1 s2:Nat):Nat:=if s1=3 then 3 else max 1 s2
theorem d64 (i:Int):dQ i 64=.val (.int (i/64)):=xu (by decide)
theorem Cz {o1 o2 x:Nat} (h1:o1<sz.length) (h2:o2<sz.length) (hx:x<sz.getD o1 0) (hl:l.length=x) (hx3:sz.getD o1 0<=3) (hb:∀y∈l,y<bnd (sz.getD o1 0) (sz.getD o2 0)) :
  ∃(st':Int) (l':List Nat),zm (rA ns k sz known st a5 (sh (nD o1)) (sh (nD o2)) (some (.own (l.map nD))) (sh (nD x)) a10 a11)=.val (.nx (rA ns k sz known st' a5 (sh (nD o1)) (sh (nD o2)) (some (.own (l'.map nD))) (sh (nD x)) a10 a11))/\l'.length=x+1/\∀y∈l',y<bnd (sz.getD o1 0) (sz.getD o2 0):=by
 obtain⟨st',hst⟩:=lj st;have f1:=jW (sz:=sz) h1;have f2:=jW (sz:=sz) h2;have hA:asg 4 (cal 1 aQ (aC (vr 4) aN)) (rA ns k sz known st a5 (sh (nD o1)) (sh (nD o2)) (some (.own (l.map nD))) (sh (nD x)) a10 a11)=.val (.nx (rA ns k sz known st' a5 (sh (nD o1)) (sh (nD o2)) (some (.own (l.map nD))) (sh (nD x)) a10 a11)):=by
  unfold rA;simp[hst]
 have hT:tst (bin feq (bin fix (vb 2) (vb 6)) (kd (.int 3))) (rA ns k sz known st' a5 (sh (nD o1)) (sh (nD o2)) (some (.own (l.map nD))) (sh (nD x)) a10 a11)=.val (decide (((sz.getD o1 0:Nat):Int)=3)):=by
  unfold rA;simp[-List.getD_eq_getElem?_getD,f1]
 show ∃(st':Int) (l':List Nat),sq _ _ _=_/\_;rw[aK,hA,ac];dsimp only;rw[bL,hT,ac];by_cases e3:sz.getD o1 0=3
 ·rw[if_pos (by simp[-List.getD_eq_getElem?_getD,e3])];have hm:bn (st'/64) ((x:Int)+1)=.val (.int (st'/64%((x:Int)+1))):=c_ (by omega);have p0:0<=st'/64%((x:Int)+1):=Int.emod_nonneg _ (by omega);have p1:st'/64%((x:Int)+1)<(x:Int)+1:=Int.emod_lt_of_pos _ (by omega);obtain⟨p,hp⟩:∃p:Nat,st'/64%((x:Int)+1)=(p:Int):=⟨_,(Int.toNat_of_nonneg p0).symm⟩;refine⟨st',l.take p++x::l.drop p,?_,?_,λy hy=>?_⟩
  ·rw[Al (xs:=l.map nD) (n:=p) (d:=nD x) _ rfl (by unfold rA;simp[d64,hm,hp]) rfl (by rw[List.length_map];omega) (by rw[List.length_map];omega)];unfold rA;simp
  ·rw[List.length_append,List.length_cons,List.length_take,List.length_drop];omega
  ·unfold bnd;rw[if_pos e3];rcases List.mem_append.mp hy with q|q
   ·have:=hb y (List.mem_of_mem_take q);unfold bnd at this;rw[if_pos e3]at this;exact this
   ·rcases List.mem_cons.mp q with q|q
    ·rw[q];omega
    ·have:=hb y (List.mem_of_mem_drop q);unfold bnd at this;rw[if_pos e3]at this;exact this
 ·have e3':¬ (((sz.getD o1 0:Nat):Int)=3):=by omega
  rw[if_neg (by simp[-List.getD_eq_getElem?_getD];exact e3')];have hmx:(if((sz.getD o2 0:Nat):Int)>1 then((sz.getD o2 0:Nat):Int)else 1)=((max 1 (sz.getD o2 0):Nat):Int):=by
   split<;>omega
  have hm:bn (st'/64) ((max 1 (sz.getD o2 0):Nat):Int)=.val (.int (st'/64%((max 1 (sz.getD o2 0):Nat):Int))):=c_ (by omega);have p0:0<=st'/64%((max 1 (sz.getD o2 0):Nat):Int):=Int.emod_nonneg _ (by omega);have p1:st'/64%((max 1 (sz.getD o2 0):Nat):Int)<((max 1 (sz.getD o2 0):Nat):Int):=Int.emod_lt_of_pos _ (by omega);obtain⟨p,hp⟩:∃p:Nat,st'/64%((max 1 (sz.getD o2 0):Nat):Int)=(p:Int):=⟨_,(Int.toNat_of_nonneg p0).symm⟩;refine⟨st',l++[p],?_,by rw[List.length_append,hl];rfl,λy hy=>?_⟩
  ·rw[jG (xs:=l.map nD) (d:=nD p) _ rfl (by unfold rA;simp only[bN,gS,Fx,qx,ac,CK,cF,qS,oB,List.getElem?_cons_succ,List.getElem?_cons_zero,f2,Cr,d64];rw[hmx,hm,hp]) (by rw[List.length_map];omega)];unfold rA;simp
  ·rcases List.mem_append.mp hy with q|q
   ·exact hb y q
   ·rw[List.mem_singleton.mp q];unfold bnd;rw[if_neg e3];omega
theorem Cw {o1 o2:Nat} (h1:o1<sz.length) (h2:o2<sz.length) (hx3:sz.getD o1 0<=3) :
  ∃(st':Int) (l:List Nat) (a9':Option Slt),bK (tgN 9) zm (rng 0 (sz.getD o1 0)) (rA ns k sz known st a5 (sh (nD o1)) (sh (nD o2)) (some (.own [])) a9 a10 a11)=.val (.nx (rA ns k sz known st' a5 (sh (nD o1)) (sh (nD o2)) (some (.own (l.map nD))) a9' a10 a11))/\l.length=sz.getD o1 0/\∀y∈l,y<bnd (sz.getD o1 0) (sz.getD o2 0):=by
 obtain⟨U',e,st',l,a9',rfl,g1,g2⟩:=d5 (i:=9) (n:=sz.getD o1 0) (F:=zm) (U:=rA ns k sz known st a5 (sh (nD o1)) (sh (nD o2)) (some (.own [])) a9 a10 a11) (λx U=>∃(st:Int) (l:List Nat) (a9:Option Slt),U=rA ns k sz known st a5 (sh (nD o1)) (sh (nD o2)) (some (.own (l.map nD))) a9 a10 a11/\l.length=x/\∀y∈l,y<bnd (sz.getD o1 0) (sz.getD o2 0)) (λx U hx hI=>by
  obtain⟨st,l,a9,rfl,hl,hb⟩:=hI;obtain⟨st',l',e,g1,g2⟩:=Cz (ns:=ns) (k:=k) (known:=known) (st:=st) (a5:=a5) (a10:=a10) (a11:=a11) h1 h2 hx hl hx3 hb;exact⟨_,e,st',l',_,rfl,g1,g2⟩) ⟨st,[],a9,rfl,rfl,λy hy=>by cases hy⟩
 exact⟨st',l,a9',e,g1,g2⟩
abbrev vm:Rho->R Out:=sq (asg 4 (cal 1 aQ (aC (vr 4) aN)))
 (sq (asg 6 (bin (iI bn) (bin (iI dQ) (vb 4) (kd (.int 64))) (una aJ (vb 2))))
 (sq (asg 4 (cal 1 aQ (aC (vr 4) aN)))
 (sq (asg 7 (bin (iI bn) (bin (iI dQ) (vb 4) (kd (.int 64))) (una aJ (vb 2))))
 (sq (own 8 (ku aN))
 (sq (br (bC (aC (bin fix (vb 2) (vb 6)) aN)) (tgN 9) zm)
 (DL.iff (orB (tst (bin feq (bin fix (vb 2) (vb 6)) (kd (.int 0)))) (tst (bin (iI fgt) (bin fix (vb 2) (vb 7)) (kd (.int 0)))))
 (DL.iff (tst (bin (mT true) (eT (aC (vr 6) (aC (vr 7) (aC (una j4 (vb 8)) aN)))) (vb 3)))
 (app 3 (eT (aC (vr 6) (aC (vr 7) (aC (una j4 (vb 8)) aN)))))
 nxt)
 nxt))))))
theorem Aw:aJ (aF sz)=.val (.int ((sz.length:Nat):Int)):=by
 show R.val (D.int (((sz.map nD).length:Nat):Int))=_;rw[List.length_map]
theorem zW (h:aQ [.int st]=.val (.int s1)):asg 4 (cal 1 aQ (aC (vr 4) aN)) (rA ns k sz known st a5 a6 a7 a8 a9 a10 a11)=.val (.nx (rA ns k sz known s1 a5 a6 a7 a8 a9 a10 a11)):=by
 rw[eD,Bb];show R.bind (noex (aQ [.int st])) _=_;rw[h];rfl
theorem zJ (q:bn (s1/64) (sz.length:Int)=.val (.int (o:Int))):bin (iI bn) (bin (iI dQ) (vb 4) (kd (.int 64))) (una aJ (vb 2)) (rA ns k sz known s1 a5 a6 a7 a8 a9 a10 a11)=.val (nD o):=by
 rw[bN,bN];show R.bind (dQ s1 64) _=_;rw[d64,ac,gS];show R.bind (R.bind (.val (aF sz)) aJ) _=_;rw[ac,Aw];exact q
theorem BN (q:bn (s1/64) (sz.length:Int)=.val (.int (o:Int))):asg 6 (bin (iI bn) (bin (iI dQ) (vb 4) (kd (.int 64))) (una aJ (vb 2))) (rA ns k sz known s1 a5 a6 a7 a8 a9 a10 a11)=.val (.nx (rA ns k sz known s1 a5 (sh (nD o)) a7 a8 a9 a10 a11)):=by
 rw[eD,zJ q];rfl
theorem BM (q:bn (s1/64) (sz.length:Int)=.val (.int (o:Int))):asg 7 (bin (iI bn) (bin (iI dQ) (vb 4) (kd (.int 64))) (una aJ (vb 2))) (rA ns k sz known s1 a5 a6 a7 a8 a9 a10 a11)=.val (.nx (rA ns k sz known s1 a5 a6 (sh (nD o)) a8 a9 a10 a11)):=by
 rw[eD,zJ q];rfl
theorem pick (st:Int) (h:1<=n):∃p:Nat,p<n/\bn (st/64) (n:Int)=.val (.int (p:Int)):=by
 have hm:bn (st/64) (n:Int)=.val (.int (st/64%(n:Int))):=c_ (by omega);have p0:0<=st/64%(n:Int):=Int.emod_nonneg _ (by omega);have p1:st/64%(n:Int)<(n:Int):=Int.emod_lt_of_pos _ (by omega);refine⟨(st/64%(n:Int)).toNat,by omega,?_⟩;rw[hm,Int.toNat_of_nonneg p0]
theorem AR (hz:sz∈szs) (hk:Kn sz kn) (st:Int) (a5 a6 a7 a8 a9 a10 a11:Option Slt) :
  ∃(kn':List Arr) (st':Int) (b6 b7 b8 b9:Option Slt),vm (rA ns k sz (.own (kn.map au)) st a5 a6 a7 a8 a9 a10 a11)=.val (.nx (rA ns k sz (.own (kn'.map au)) st' a5 b6 b7 b8 b9 a10 a11))/\Kn sz kn'/\kn <+: kn':=by
 obtain⟨l1,l4,l3⟩:=gE sz hz;have few:=Kn.few hz hk;obtain⟨s1,hs1⟩:=lj st;obtain⟨o1,ho1,q1⟩:=pick s1 l1;obtain⟨s2,hs2⟩:=lj s1;obtain⟨o2,ho2,q2⟩:=pick s2 l1;have g3:sz.getD o1 0<=3:=by rw[ar ho1];exact l3 _ (List.getElem_mem ho1)
 obtain⟨s3,l,a9',e,hl,hb⟩:=Cw (ns:=ns) (k:=k) (sz:=sz) (known:=.own (kn.map au)) (st:=s2) (a5:=a5) (a9:=a9) (a10:=a10) (a11:=a11) ho1 ho2 g3;have f1:=jW (sz:=sz) ho1;have f2:=jW (sz:=sz) ho2;have hr:pG [.int ((sz.getD o1 0:Nat):Int)]=.val (rng 0 (sz.getD o1 0)):=hU (by omega);have start:vm (rA ns k sz (.own (kn.map au)) st a5 a6 a7 a8 a9 a10 a11)=DL.iff (orB (tst (bin feq (bin fix (vb 2) (vb 6)) (kd (.int 0)))) (tst (bin (iI fgt) (bin fix (vb 2) (vb 7)) (kd (.int 0)))))
   (DL.iff (tst (bin (mT true) (eT (aC (vr 6) (aC (vr 7) (aC (una j4 (vb 8)) aN)))) (vb 3)))
   (app 3 (eT (aC (vr 6) (aC (vr 7) (aC (una j4 (vb 8)) aN))))) nxt) nxt (rA ns k sz (.own (kn.map au)) s3 a5 (sh (nD o1)) (sh (nD o2)) (some (.own (l.map nD))) a9' a10 a11):=by
  have x1:asg 4 (cal 1 aQ (aC (vr 4) aN)) (rA ns k sz (.own (kn.map au)) st a5 a6 a7 a8 a9 a10 a11)=.val (.nx (rA ns k sz (.own (kn.map au)) s1 a5 a6 a7 a8 a9 a10 a11)):=zW hs1;have x2:asg 6 (bin (iI bn) (bin (iI dQ) (vb 4) (kd (.int 64))) (una aJ (vb 2))) (rA ns k sz (.own (kn.map au)) s1 a5 a6 a7 a8 a9 a10 a11)=.val (.nx (rA ns k sz (.own (kn.map au)) s1 a5 (sh (nD o1)) a7 a8 a9 a10 a11)):=BN q1;have x3:asg 4 (cal 1 aQ (aC (vr 4) aN)) (rA ns k sz (.own (kn.map au)) s1 a5 (sh (nD o1)) a7 a8 a9 a10 a11)=.val (.nx (rA ns k sz (.own (kn.map au)) s2 a5 (sh (nD o1)) a7 a8 a9 a10 a11)):=zW hs2;have x4:asg 7 (bin (iI bn) (bin (iI dQ) (vb 4) (kd (.int 64))) (una aJ (vb 2))) (rA ns k sz (.own (kn.map au)) s2 a5 (sh (nD o1)) a7 a8 a9 a10 a11)=.val (.nx (rA ns k sz (.own (kn.map au)) s2 a5 (sh (nD o1)) (sh (nD o2)) a8 a9 a10 a11)):=BM q2;have x5:own 8 (ku aN) (rA ns k sz (.own (kn.map au)) s2 a5 (sh (nD o1)) (sh (nD o2)) a8 a9 a10 a11)=.val (.nx (rA ns k sz (.own (kn.map au)) s2 a5 (sh (nD o1)) (sh (nD o2)) (some (.own [])) a9 a10 a11)):=Eq.trans rfl rfl;have x6:br (bC (aC (bin fix (vb 2) (vb 6)) aN)) (tgN 9) zm (rA ns k sz (.own (kn.map au)) s2 a5 (sh (nD o1)) (sh (nD o2)) (some (.own [])) a9 a10 a11)=.val (.nx (rA ns k sz (.own (kn.map au)) s3 a5 (sh (nD o1)) (sh (nD o2)) (some (.own (l.map nD))) a9' a10 a11)):=by
   rw[ck];have:bC (aC (bin fix (vb 2) (vb 6)) aN) (rA ns k sz (.own (kn.map au)) s2 a5 (sh (nD o1)) (sh (nD o2)) (some (.own [])) a9 a10 a11)=.val (rng 0 (sz.getD o1 0)):=by unfold rA;simp[-List.getD_eq_getElem?_getD,f1,hr]
   rw[this,ac,e]
  show sq _ _ _=_;rw[aK,x1,ac];dsimp only;rw[aK,x2,ac];dsimp only;rw[aK,x3,ac];dsimp only;rw[aK,x4,ac];dsimp only;rw[aK,x5,ac];dsimp only;rw[aK,x6,ac]
 rw[start];have hT:orB (tst (bin feq (bin fix (vb 2) (vb 6)) (kd (.int 0)))) (tst (bin (iI fgt) (bin fix (vb 2) (vb 7)) (kd (.int 0)))) (rA ns k sz (.own (kn.map au)) s3 a5 (sh (nD o1)) (sh (nD o2)) (some (.own (l.map nD))) a9' a10 a11)=.val (decide (sz.getD o1 0=0\/0<sz.getD o2 0)):=by
  unfold rA;by_cases z:sz.getD o1 0=0
  ·simp[-List.getD_eq_getElem?_getD,f1,z]
  ·have z':¬ (((sz.getD o1 0:Nat):Int)=0):=by omega
   simp[-List.getD_eq_getElem?_getD,f1,f2,z,z']
 rw[bL,hT,ac];by_cases hc:sz.getD o1 0=0\/0<sz.getD o2 0
 ·rw[decide_eq_true hc,if_pos rfl];have hok:Ok sz (o1,o2,l):=by
   refine⟨sz.getD o1 0,sz.getD o2 0,by rw[ar ho1];simp[ho1],by rw[ar ho2];simp[ho2],hl,λy hy=>?_⟩;have:=hb y hy;unfold bnd at this;have hy0:sz.getD o1 0≠0:=λz=>by
    rw[z]at hl;have:l=[]:=List.length_eq_zero_iff.mp hl;rw[this]at hy;cases hy
   split at this
   ·rename_i e3;have:=xU sz hz o1 ho1 o2 ho2 e3;omega
   ·rcases hc with hc|hc
    ·exact absurd hc hy0
    ·have:max 1 (sz.getD o2 0)=sz.getD o2 0:=by omega
     omega
  have hv:eT (aC (vr 6) (aC (vr 7) (aC (una j4 (vb 8)) aN))) (rA ns k sz (.own (kn.map au)) s3 a5 (sh (nD o1)) (sh (nD o2)) (some (.own (l.map nD))) a9' a10 a11)=.val (au (o1,o2,l)):=by
   unfold rA;simp;rfl
  have hn:tst (bin (mT true) (eT (aC (vr 6) (aC (vr 7) (aC (una j4 (vb 8)) aN)))) (vb 3)) (rA ns k sz (.own (kn.map au)) s3 a5 (sh (nD o1)) (sh (nD o2)) (some (.own (l.map nD))) a9' a10 a11)=.val (!decide ((o1,o2,l)∈kn)):=by
   rw[eN,bN,hv,ac];show((R.val (D.lst (kn.map au))).bind λy=>mT true (au (o1,o2,l)) y).bind asB=_;rw[ac,Au];rfl
  rw[bL,hn,ac];refine⟨qg kn (o1,o2,l),s3,sh (nD o1),sh (nD o2),some (.own (l.map nD)),a9',?_,xP hk hok,vn _ _⟩;unfold qg;by_cases hin:(o1,o2,l)∈kn
  ·rw[if_pos hin,decide_eq_true hin];rfl
  ·rw[if_neg hin,decide_eq_false hin];rw[if_pos (show(!false)=true from rfl)];rw[jG (xs:=kn.map au) _ rfl hv (by rw[List.length_map];omega)];unfold rA;rw[List.map_append];rfl
 ·rw[decide_eq_false hc];exact⟨kn,s3,_,_,_,_,rfl,hk,List.prefix_refl _⟩
end
section
variable {ns:List Int} {k:Nat} {sz:List Nat}
theorem E4 (hz:sz∈szs) (a3 a4 a5 a6 a7 a8 a9 a10 a11:Option Slt):a_ (bC (aC (una aJ (vb 2)) aN)) 1 (tgN 12) tT (eT (aC (vr 12) (aC (vr 12) (aC (jv (aC (bin fix (vb 2) (vb 12)) aN)) aN)))) [sh (.scr ns),sh (nD k),sh (aF sz),a3,a4,a5,a6,a7,a8,a9,a10,a11]=.val (((List.range sz.length).map (idm sz)).map au):=by
 obtain⟨l1,l4,l3⟩:=gE sz hz;have:=oM (src:=bC (aC (una aJ (vb 2)) aN)) (m:=sz.length) (n:=1) (i:=12) (e:=eT (aC (vr 12) (aC (vr 12) (aC (jv (aC (bin fix (vb 2) (vb 12)) aN)) aN)))) (g:=λb=>au (idm sz b)) (U:=[sh (.scr ns),sh (nD k),sh (aF sz),a3,a4,a5,a6,a7,a8,a9,a10,a11]) (by simp;exact hU (by omega)) (by omega) λb hb=>by
  have f1:=jW (sz:=sz) hb;have hs:sz.getD b 0<=3:=by rw[ar hb];exact l3 _ (List.getElem_mem hb)
  have:=wP (n:=sz.getD b 0) (by omega);simp[-List.getD_eq_getElem?_getD,f1,this];rfl
 rw[this,List.map_map];rfl
theorem zK {mx:List Arr} {x:Arr} {l:List Arr} (p:Nat) (h:mx.Perm l):(mx.take p++x::mx.drop p).Perm (l++[x]):=by
 have h1:(mx.take p++x::mx.drop p).Perm (x::(mx.take p++mx.drop p)):=List.perm_middle;rw[List.take_append_drop]at h1;exact h1.trans ((h.cons x).trans (List.perm_append_singleton x l).symm)
abbrev B9:Rho->R Out:=sq (asg 4 (cal 1 aQ (aC (vr 4) aN)))
 (ins 10 (bin (iI bn) (bin (iI dQ) (vb 4) (kd (.int 64))) (bin b_ (una aJ (vb 10)) (kd (.int 1)))) (vr 11))
theorem CA {mx:List Arr} {x:Arr} (hl:mx.length<=27) (a5 a6 a7 a8 a9:Option Slt) :
  ∃(st':Int) (p:Nat),B9 (rA ns k sz known st a5 a6 a7 a8 a9 (some (.own (mx.map au))) (sh (au x)))=.val (.nx (rA ns k sz known st' a5 a6 a7 a8 a9 (some (.own ((mx.take p++x::mx.drop p).map au))) (sh (au x)))):=by
 obtain⟨s1,hs1⟩:=lj st;obtain⟨p,hp,q⟩:=pick s1 (n:=mx.length+1) (by omega);have q':bn (s1/64) ((mx.length:Int)+1)=.val (.int (p:Int)):=q;refine⟨s1,p,?_⟩;have x1:asg 4 (cal 1 aQ (aC (vr 4) aN)) (rA ns k sz known st a5 a6 a7 a8 a9 (some (.own (mx.map au))) (sh (au x)))=.val (.nx (rA ns k sz known s1 a5 a6 a7 a8 a9 (some (.own (mx.map au))) (sh (au x)))):=by unfold rA;simp[hs1]
 show sq _ _ _=_;rw[aK,x1,ac];dsimp only;rw[Al (xs:=mx.map au) (n:=p) (d:=au x) _ rfl (by unfold rA;simp[d64,q']) rfl (by rw[List.length_map];omega) (by rw[List.length_map];omega)];unfold rA;simp
theorem yG (hz:sz∈szs) (ns:List Int) (k:Nat):∃kn,Good sz kn/\cu [.scr ns,.int (k:Int),aF sz]=.val (.lst (kn.map au)):=by
 obtain⟨l1,l4,l3⟩:=gE sz hz;obtain⟨c1,hc1⟩:=jX ns k;obtain⟨c2,hc2⟩:=jX ns (k+1);obtain⟨s0,hs0⟩:=lj (c1*1000003%2147483647+17);have hc2':aA [.scr ns,.int ((k:Int)+1)]=.val (.int c2):=hc2;have m5:bn c2 5=.val (.int (c2%5)):=c_ (by decide);have mm:gi c1 1000003=.val (.int (c1*1000003)):=lf (by decide);have md:bn (c1*1000003) 2147483647=.val (.int (c1*1000003%2147483647)):=c_ (by decide);have hr:pG [.int (c2%5)]=.val (rng 0 (c2%5).toNat):=jh (by omega) (by omega)
 let kn0:=(List.range sz.length).map (idm sz)
 have hk0:Kn sz kn0:=EO sz;obtain⟨U1,e1,kn1,st1,a5,a6,a7,a8,a9,rfl,hk1,hp1⟩:=d5 (i:=5) (n:=(c2%5).toNat) (F:=vm) (U:=rA ns k sz (.own (kn0.map au)) s0 none none none none none none none) (λ_ U=>∃(kn:List Arr) (st:Int) (a5 a6 a7 a8 a9:Option Slt),U=rA ns k sz (.own (kn.map au)) st a5 a6 a7 a8 a9 none none/\Kn sz kn/\kn0 <+: kn) (λx U hx hI=>by
  obtain⟨kn,st,a5,a6,a7,a8,a9,rfl,hk,hp⟩:=hI;obtain⟨kn',st',b6,b7,b8,b9,e,g1,g2⟩:=AR (ns:=ns) (k:=k) hz hk st (sh (.int (x:Int))) a6 a7 a8 a9 none none;exact⟨_,e,kn',st',_,b6,b7,b8,b9,rfl,g1,hp.trans g2⟩) ⟨kn0,s0,none,none,none,none,none,rfl,hk0,List.prefix_refl _⟩
 obtain⟨kn2,hcl,hk2,hp2,hcl2⟩:=yF hz hk1;have few2:=Kn.few hz hk2;have good:Good sz kn2:=⟨hz,hk2.nd,hk2.ok,λb hb=>hp2.subset (hp1.subset (List.mem_map.mpr ⟨b,List.mem_range.mpr hb,rfl⟩)),hcl2⟩;obtain⟨U3,e3,mx,st3,a11,rfl,hperm⟩:=fU (T:=tgN 11) (F:=B9) (xs:=kn2.map au) (U:=rA ns k sz (.shr (.lst (kn2.map au))) st1 a5 a6 a7 a8 a9 (some (.own [])) none) (λi U=>∃(mx:List Arr) (st:Int) (a11:Option Slt),U=rA ns k sz (.shr (.lst (kn2.map au))) st a5 a6 a7 a8 a9 (some (.own (mx.map au))) a11/\mx.Perm (kn2.take i)) (λi x U hx hI=>by
  obtain⟨mx,st,a11,rfl,hperm⟩:=hI;have hi:i<kn2.length:=by have:=(List.getElem?_eq_some_iff.mp hx).1;simpa using this
  have hxe:x=au kn2[i]:=by
   rw[List.getElem?_map]at hx;simp[hi]at hx;exact hx.symm
  subst hxe;have hml:mx.length<=27:=by rw[hperm.length_eq,List.length_take];omega
  obtain⟨st',p,e⟩:=CA (ns:=ns) (k:=k) (sz:=sz) (known:=.shr (.lst (kn2.map au))) (st:=st) (x:=kn2[i]) hml a5 a6 a7 a8 a9;refine⟨_,_,rfl,e,_,st',_,rfl,?_⟩;rw[List.take_succ_eq_append_getElem hi];exact zK p hperm) ⟨[],st1,none,rfl,by simp⟩
 rw[List.length_map,List.take_length]at hperm;refine⟨mx,good.perm hperm,?_⟩;simp only[cu,gu];show fin (sq (own 3 _) _ [sh (.scr ns),sh (nD k),sh (aF sz),none,none,none,none,none,none,none,none,none])=_;rw[aK,Ek,E4 hz,ac,ac];show fin (sq (asg 4 _) _ [sh (.scr ns),sh (nD k),sh (aF sz),some (.own (kn0.map au)),none,none,none,none,none,none,none,none])=_;have x1:asg 4 (cal 1 aQ (aC (bin b_ (bin (iI bn) (bin (iI gi) (cal 2 aA (aC (vr 0) (aC (vr 1) aN))) (kd (.int 1000003))) (kd (.int 2147483647))) (kd (.int 17))) aN)) [sh (.scr ns),sh (nD k),sh (aF sz),some (.own (kn0.map au)),none,none,none,none,none,none,none,none]=.val (.nx (rA ns k sz (.own (kn0.map au)) s0 none none none none none none none)):=by
  unfold rA;simp[hc1,mm,md,hs0]
 rw[aK,x1,ac];dsimp only;have x2:br (bC (aC (bin (iI bn) (cal 2 aA (aC (vr 0) (aC (bin b_ (vb 1) (kd (.int 1))) aN))) (kd (.int 5))) aN)) (tgN 5) vm (rA ns k sz (.own (kn0.map au)) s0 none none none none none none none)=.val (.nx (rA ns k sz (.own (kn1.map au)) st1 a5 a6 a7 a8 a9 none none)):=by
  rw[ck];have:bC (aC (bin (iI bn) (cal 2 aA (aC (vr 0) (aC (bin b_ (vb 1) (kd (.int 1))) aN))) (kd (.int 5))) aN) (rA ns k sz (.own (kn0.map au)) s0 none none none none none none none)=.val (rng 0 (c2%5).toNat):=by unfold rA;simp[hc2',m5,hr]
  rw[this,ac,e1]
 show fin (sq (br (bC (aC (bin (iI bn) (cal 2 aA (aC (vr 0) (aC (bin b_ (vb 1) (kd (.int 1))) aN))) (kd (.int 5))) aN)) (tgN 5) vm) _ _)=_;rw[aK,x2,ac];dsimp only;have x3:B8 3 cx (rA ns k sz (.own (kn1.map au)) st1 a5 a6 a7 a8 a9 none none)=.val (.nx (rA ns k sz (.shr (.lst (kn2.map au))) st1 a5 a6 a7 a8 a9 none none)):=by
  show(noex (cx (kn1.map au))).bind _=_;rw[hcl];rfl
 rw[aK,x3,ac];dsimp only;have x4:own 10 (ku aN) (rA ns k sz (.shr (.lst (kn2.map au))) st1 a5 a6 a7 a8 a9 none none)=.val (.nx (rA ns k sz (.shr (.lst (kn2.map au))) st1 a5 a6 a7 a8 a9 (some (.own [])) none)):=by unfold rA;simp
 rw[aK,x4,ac];dsimp only;show fin (sq (br (fIt (vr 3)) (tgN 11) B9) _ (rA ns k sz (.shr (.lst (kn2.map au))) st1 a5 a6 a7 a8 a9 (some (.own [])) none))=_;have x5:br (fIt (vr 3)) (tgN 11) B9 (rA ns k sz (.shr (.lst (kn2.map au))) st1 a5 a6 a7 a8 a9 (some (.own [])) none)=.val (.nx (rA ns k sz (.shr (.lst (kn2.map au))) st3 a5 a6 a7 a8 a9 (some (.own (mx.map au))) a11)):=by
  rw[ck];show(R.val (kn2.map au)).bind _=_;rw[ac,e3]
 rw[aK,x5,ac];rfl
end
def plD:List Arr->Nat->List (KA×D)
 | [],_=>[]
 | x::r,s=>(h8 x,nD s)::plD r (s+1)
theorem zG:∀(l:List Arr) (s:Nat),(plD l s).length=l.length
 | [],_=>rfl
 | x::r,s=>by simp[plD,zG r (s+1)]
theorem zI (x:Arr):∀(l:List Arr) (s:Nat),((plD l s).any λp=>decide (p.1=h8 x))=decide (x∈l)
 | [],_=>by simp[plD]
 | y::r,s=>by
  show(decide (h8 y=h8 x)||(plD r (s+1)).any λp=>decide (p.1=h8 x))=_;rw[zI x r (s+1)];by_cases h:y=x
  ·subst h;simp
  ·have:¬ h8 y=h8 x:=λe=>h (oz e);have h':¬ x=y:=λe=>h e.symm;simp[this,h']
theorem zH (x:Arr):∀(l:List Arr) (s:Nat),plD (l++[x]) s=plD l s++[(h8 x,nD (s+l.length))]
 | [],s=>rfl
 | y::r,s=>by
  show(h8 y,nD s)::plD (r++[x]) (s+1)=_;rw[zH x r (s+1)];have:s+1+r.length=s+(y::r).length:=by simp;omega
  rw[this];rfl
theorem D6 {x:Arr} {l:List Arr} (h:x∉l):oy (plD l 0) (h8 x) (nD l.length)=plD (l++[x]) 0:=by
 unfold oy;rw[zI,decide_eq_false h,if_neg (by decide),zH,Nat.zero_add]
theorem vQ {x:Arr}:∀{l:List Arr} (s:Nat),x∈l->wc (plD l s) (h8 x)=some (nD (s+l.idxOf x))
 | [],_,h=>by cases h
 | y::r,s,h=>by
  unfold wc plD;by_cases e:y=x
  ·subst e;simp
  ·have e':¬ h8 y=h8 x:=λz=>e (oz z);rw[List.find?_cons_of_neg (by simpa using e')];have hr:x∈r:=by
    rcases List.mem_cons.mp h with q|q
    ·exact absurd q.symm e
    ·exact q
   have ih:=vQ (l:=r) (s+1) hr;unfold wc at ih;rw[ih];have:(y::r).idxOf x=r.idxOf x+1:=by
    rw[List.idxOf_cons];have:(y==x)=false:=by simpa using e
    rw[this];rfl
   rw[this]
   congr 2
   omega
def rP (ns:List Int) (k:Nat) (sz:List Nat) (kn:List Arr) (pl:List (KA×D)) (a5 a6 a7 a8 a9 a10 a11:Option Slt):Rho:=[sh (.scr ns),sh (nD k),sh (aF sz),sh (.lst (kn.map au)),some (.dic pl),a5,a6,a7,a8,a9,a10,a11]
section
variable {ns:List Int} {k:Nat} {sz:List Nat} {kn:List Arr}
theorem EW (h:i<kn.length):fix (.lst (kn.map au)) (.int (i:Int))=.val (au kn[i]):=ia (by simp[h])
theorem AN (g:Good sz kn) (a6 a7 a8 a9 a10 a11:Option Slt):∃a5,br (bC (aC (una aJ (vb 3)) aN)) (tgN 5) (sX 4 (bin fix (vb 3) (vb 5)) (vr 5)) (rP ns k sz kn [] none a6 a7 a8 a9 a10 a11)=.val (.nx (rP ns k sz kn (plD kn 0) a5 a6 a7 a8 a9 a10 a11)):=by
 have few:=g.few;obtain⟨U',e,a5,rfl⟩:=d5 (i:=5) (n:=kn.length) (F:=sX 4 (bin fix (vb 3) (vb 5)) (vr 5)) (U:=rP ns k sz kn [] none a6 a7 a8 a9 a10 a11) (λi U=>∃a5,U=rP ns k sz kn (plD (kn.take i) 0) a5 a6 a7 a8 a9 a10 a11) (λi U hi hI=>by
  obtain⟨a5,rfl⟩:=hI;have hx:=EW hi;have hl:(kn.take i).length=i:=by rw[List.length_take];omega
  have nin:kn[i]∉kn.take i:=λh=>by
   obtain⟨j,hj,e⟩:=List.mem_take_iff_getElem.mp h;exact(List.pairwise_iff_getElem.mp g.nd) j i (by omega) hi (by omega) e
  refine⟨_,?_,sh (.int (i:Int)),rfl⟩;show sX 4 _ _ (rP ns k sz kn (plD (kn.take i) 0) (sh (.int (i:Int))) a6 a7 a8 a9 a10 a11)=_;rw[xF (kvs:=plD (kn.take i) 0) (kd:=au kn[i]) (d:=nD i) _ rfl (by unfold rP;simp[hx]) rfl (hZ _) (by rw[zG];omega)];have:=D6 nin;rw[hl]at this;rw[this,<- List.take_succ_eq_append_getElem hi];rfl) ⟨none,rfl⟩
 refine⟨a5,?_⟩;rw[ck];have:bC (aC (una aJ (vb 3)) aN) (rP ns k sz kn [] none a6 a7 a8 a9 a10 a11)=.val (rng 0 kn.length):=by
  unfold rP;simp;exact hU (by omega)
 rw[this,ac,e,List.take_length]
abbrev E5:Rho->R Out:=sq (asg 10 (una mU (kd (.int 1))))
 (sq (DL.iff (tst (bin feq (bin fix (vb 7) (kd (.int 1))) (bin fix (vb 9) (kd (.int 0)))))
 (asg 10 (sZ 4 (eT (aC (bin fix (vb 7) (kd (.int 0))) (aC (bin fix (vb 9) (kd (.int 1))) (aC (una j4 (eLs (a_ (fIt (bin fix (vb 7) (kd (.int 2)))) 1 (tgN 12) tT (bin fix (bin fix (vb 9) (kd (.int 2))) (vb 12))))) aN))))))
 nxt)
 (app 8 (vr 10)))
theorem CF (g:Good sz kn) {x y:Arr} (hx:x∈kn) (hy:y∈kn) {row:List D} (hl:row.length<=27) (a5 a6 a10 a11:Option Slt) :
  ∃b10,E5 (rP ns k sz kn (plD kn 0) a5 a6 (sh (au x)) (some (.own row)) (sh (au y)) a10 a11)=.val (.nx (rP ns k sz kn (plD kn 0) a5 a6 (sh (au x)) (some (.own (row++[.int (mk kn x y)]))) (sh (au y)) b10 a11)):=by
 have x1:asg 10 (una mU (kd (.int 1))) (rP ns k sz kn (plD kn 0) a5 a6 (sh (au x)) (some (.own row)) (sh (au y)) a10 a11)=.val (.nx (rP ns k sz kn (plD kn 0) a5 a6 (sh (au x)) (some (.own row)) (sh (au y)) (sh (.int (-1))) a11)):=by unfold rP;simp
 have last:∀z:Int,app 8 (vr 10) (rP ns k sz kn (plD kn 0) a5 a6 (sh (au x)) (some (.own row)) (sh (au y)) (sh (.int z)) a11)=.val (.nx (rP ns k sz kn (plD kn 0) a5 a6 (sh (au x)) (some (.own (row++[.int z]))) (sh (au y)) (sh (.int z)) a11)):=λz=>by
  rw[jG (xs:=row) (d:=.int z) _ rfl rfl (by omega)];rfl
 have hT:tst (bin feq (bin fix (vb 7) (kd (.int 1))) (bin fix (vb 9) (kd (.int 0)))) (rP ns k sz kn (plD kn 0) a5 a6 (sh (au x)) (some (.own row)) (sh (au y)) (sh (.int (-1))) a11)=.val (decide (x.2.1=y.1)):=by
  unfold rP;simp;omega
 show ∃b10,sq _ _ _=_;rw[aK,x1,ac];dsimp only;rw[aK,bL,hT,ac];unfold mk;by_cases e:x.2.1=y.1
 ·rw[decide_eq_true e,if_pos rfl,if_pos e];have hc:=xI g.szm (g.ok x hx) (g.ok y hy) e (src:=fIt (bin fix (vb 7) (kd (.int 2)))) (el:=bin fix (bin fix (vb 9) (kd (.int 2))) (vb 12)) (i:=12) (U:=rP ns k sz kn (plD kn 0) a5 a6 (sh (au x)) (some (.own row)) (sh (au y)) (sh (.int (-1))) a11) (by simp[rP]) (λk=>by simp[rP]);have hv:eT (aC (bin fix (vb 7) (kd (.int 0))) (aC (bin fix (vb 9) (kd (.int 1))) (aC (una j4 (eLs (a_ (fIt (bin fix (vb 7) (kd (.int 2)))) 1 (tgN 12) tT (bin fix (bin fix (vb 9) (kd (.int 2))) (vb 12))))) aN))) (rP ns k sz kn (plD kn 0) a5 a6 (sh (au x)) (some (.own row)) (sh (au y)) (sh (.int (-1))) a11)=.val (au (comp x y)):=by
   simp only[lv,cF,gS,bD,hc];unfold rP;simp;rfl
  have hg:=vQ 0 (g.cl x hx y hy e);rw[Nat.zero_add]at hg;rw[eD,xH (kvs:=plD kn 0) _ rfl hv (hZ _) hg,ac,ac];dsimp only;exact⟨_,last _⟩
 ·rw[decide_eq_false e,if_neg (by decide),if_neg e];exact⟨_,last _⟩
abbrev BG:Rho->R Out:=sq (own 8 (ku aN))
 (sq (br (fIt (vr 3)) (tgN 9) E5)
 (fz 8 (app 6 (vr 8))))
theorem Cy (g:Good sz kn) {x:Arr} (hx:x∈kn) {tab:List D} (hl:tab.length<=27) (a5 a8 a9 a10 a11:Option Slt) :
  ∃b8 b9 b10,BG (rP ns k sz kn (plD kn 0) a5 (some (.own tab)) (sh (au x)) a8 a9 a10 a11)=.val (.nx (rP ns k sz kn (plD kn 0) a5 (some (.own (tab++[am (kn.map λy=>mk kn x y)]))) (sh (au x)) b8 b9 b10 a11)):=by
 have few:=g.few;obtain⟨U',e,a9',a10',rfl⟩:=fU (T:=tgN 9) (F:=E5) (xs:=kn.map au) (U:=rP ns k sz kn (plD kn 0) a5 (some (.own tab)) (sh (au x)) (some (.own [])) a9 a10 a11) (λi U=>∃a9 a10,U=rP ns k sz kn (plD kn 0) a5 (some (.own tab)) (sh (au x)) (some (.own (((kn.take i).map λy=>mk kn x y).map D.int))) a9 a10 a11) (λi d U hd hI=>by
  obtain⟨a9,a10,rfl⟩:=hI;have hi:i<kn.length:=by have:=(List.getElem?_eq_some_iff.mp hd).1;simpa using this
  have hde:d=au kn[i]:=by
   rw[List.getElem?_map]at hd;simp[hi]at hd;exact hd.symm
  subst hde;obtain⟨b10,e⟩:=CF (ns:=ns) (k:=k) g hx (List.getElem_mem hi) (row:=((kn.take i).map λy=>mk kn x y).map D.int) (by simp;omega) a5 (some (.own tab)) a10 a11;refine⟨_,_,rfl,e,sh (au kn[i]),b10,?_⟩;rw[List.take_succ_eq_append_getElem hi,List.map_append,List.map_append];rfl) ⟨a9,a10,rfl⟩
 rw[List.length_map,List.take_length]at e;refine⟨sh (am (kn.map λy=>mk kn x y)),a9',a10',?_⟩;show sq _ _ _=_;have x1:own 8 (ku aN) (rP ns k sz kn (plD kn 0) a5 (some (.own tab)) (sh (au x)) a8 a9 a10 a11)=.val (.nx (rP ns k sz kn (plD kn 0) a5 (some (.own tab)) (sh (au x)) (some (.own [])) a9 a10 a11)):=by unfold rP;simp
 rw[aK,x1,ac];dsimp only;rw[aK,ck];show((((R.val (kn.map au)).bind _)).bind _)=_;rw[ac,e,ac];dsimp only;rw[xp];show app 6 (vr 8) (rP ns k sz kn (plD kn 0) a5 (some (.own tab)) (sh (au x)) (sh (am (kn.map λy=>mk kn x y))) a9' a10' a11)=_;rw[jG (xs:=tab) (d:=am (kn.map λy=>mk kn x y)) _ rfl rfl (by omega)];rfl
theorem AO (ns:List Int) (k:Nat):∃sz kn,Good sz kn/\dh [.scr ns,.int (k:Int)]=.val (.tup [be (aH kn),aF (aL sz kn),ai (bO kn),.lst (kn.map au),aF sz]):=by
 obtain⟨sz,hz,hs⟩:=AM ns k;obtain⟨l1,l4,l3⟩:=gE sz hz;obtain⟨kn,g,ha⟩:=yG hz ns (k+1);have ha':cu [.scr ns,.int ((k:Int)+1),aF sz]=.val (.lst (kn.map au)):=ha;have few:=g.few;obtain⟨a5,ep⟩:=AN (ns:=ns) (k:=k) g none none none none none none;obtain⟨U',et,a7,a8,a9,a10,rfl⟩:=fU (T:=tgN 7) (F:=BG) (xs:=kn.map au) (U:=rP ns k sz kn (plD kn 0) a5 (some (.own [])) none none none none none) (λi U=>∃a7 a8 a9 a10,U=rP ns k sz kn (plD kn 0) a5 (some (.own ((kn.take i).map λx=>am (kn.map λy=>mk kn x y)))) a7 a8 a9 a10 none) (λi d U hd hI=>by
  obtain⟨a7,a8,a9,a10,rfl⟩:=hI;have hi:i<kn.length:=by have:=(List.getElem?_eq_some_iff.mp hd).1;simpa using this
  have hde:d=au kn[i]:=by
   rw[List.getElem?_map]at hd;simp[hi]at hd;exact hd.symm
  subst hde;obtain⟨b8,b9,b10,e⟩:=Cy (ns:=ns) (k:=k) g (List.getElem_mem hi) (tab:=(kn.take i).map λx=>am (kn.map λy=>mk kn x y)) (by simp;omega) a5 a8 a9 a10 none;refine⟨_,_,rfl,e,sh (au kn[i]),b8,b9,b10,?_⟩;rw[List.take_succ_eq_append_getElem hi,List.map_append];rfl) ⟨none,none,none,none,rfl⟩
 rw[List.length_map,List.take_length]at et;refine⟨sz,kn,g,?_⟩;simp only[dh,gX];show fin (sq (asg 2 _) _ [sh (.scr ns),sh (nD k),none,none,none,none,none,none,none,none,none,none])=_;have x1:asg 2 (cal 2 dg (aC (vr 0) (aC (vr 1) aN))) [sh (.scr ns),sh (nD k),none,none,none,none,none,none,none,none,none,none]=.val (.nx [sh (.scr ns),sh (nD k),sh (aF sz),none,none,none,none,none,none,none,none,none]):=by simp[hs]
 rw[aK,x1,ac];dsimp only;have x2:asg 3 (cal 3 cu (aC (vr 0) (aC (bin b_ (vb 1) (kd (.int 1))) (aC (vr 2) aN)))) [sh (.scr ns),sh (nD k),sh (aF sz),none,none,none,none,none,none,none,none,none]=.val (.nx [sh (.scr ns),sh (nD k),sh (aF sz),sh (.lst (kn.map au)),none,none,none,none,none,none,none,none]):=by simp[ha']
 rw[aK,x2,ac];dsimp only;rw[aK,xG,ac];dsimp only;show fin (sq (br _ (tgN 5) _) _ (rP ns k sz kn [] none none none none none none none))=_;rw[aK,ep,ac];dsimp only;have x3:own 6 (ku aN) (rP ns k sz kn (plD kn 0) a5 none none none none none none)=.val (.nx (rP ns k sz kn (plD kn 0) a5 (some (.own [])) none none none none none)):=by unfold rP;simp
 rw[aK,x3,ac];dsimp only;have x4:br (fIt (vr 3)) (tgN 7) BG (rP ns k sz kn (plD kn 0) a5 (some (.own [])) none none none none none)=.val (.nx (rP ns k sz kn (plD kn 0) a5 (some (.own (kn.map λx=>am (kn.map λy=>mk kn x y)))) a7 a8 a9 a10 none)):=by
  rw[ck];show(R.val (kn.map au)).bind _=_;rw[ac,et]
 show fin (sq (br (fIt (vr 3)) (tgN 7) BG) _ _)=_;rw[aK,x4,ac];dsimp only;have hrest:a_ (bC (aC (una aJ (vb 2)) aN)) 1 (tgN 12) tT (sZ 4 (eT (aC (vr 12) (aC (vr 12) (aC (jv (aC (bin fix (vb 2) (vb 12)) aN)) aN))))) (rP ns k sz kn (plD kn 0) a5 (some (.own (kn.map λx=>am (kn.map λy=>mk kn x y)))) a7 a8 a9 a10 none)=.val ((aL sz kn).map nD):=by
  have:=oM (src:=bC (aC (una aJ (vb 2)) aN)) (m:=sz.length) (n:=1) (i:=12) (e:=sZ 4 (eT (aC (vr 12) (aC (vr 12) (aC (jv (aC (bin fix (vb 2) (vb 12)) aN)) aN))))) (g:=λb=>nD (kn.idxOf (idm sz b))) (U:=rP ns k sz kn (plD kn 0) a5 (some (.own (kn.map λx=>am (kn.map λy=>mk kn x y)))) a7 a8 a9 a10 none) (by unfold rP;simp;exact hU (by omega)) (by omega) λb hb=>by
   have f1:=jW (sz:=sz) hb;have hs:sz.getD b 0<=3:=by rw[ar hb];exact l3 _ (List.getElem_mem hb)
   have hrg:=wP (n:=sz.getD b 0) (by omega);have hg:=vQ 0 (g.rest b hb);rw[Nat.zero_add]at hg;refine xH (kvs:=plD kn 0) (kd:=au (idm sz b)) _ rfl ?_ (hZ _) hg;unfold rP;simp[-List.getD_eq_getElem?_getD,f1,hrg];rfl
  rw[this];unfold aL;rw[List.map_map];rfl
 rw[aK,eD,bD,hrest,ac,ac,ac];dsimp only;rw[xp];have hens:∀t a7 a8 a9 a10 a11,a_ (fIt (vr 3)) 1 (tgN 12) tT (eT (aC (bin fix (vb 12) (kd (.int 0))) (aC (bin fix (vb 12) (kd (.int 1))) aN))) (rP ns k sz kn (plD kn 0) a5 t a7 a8 a9 a10 a11)=.val ((aH kn).map bM):=λt a7 a8 a9 a10 a11=>by
  rw[bw (f:=au) (l:=kn) (g:=λx=>bM (x.1,x.2.1)) rfl (by omega) λx _=>by unfold rP;simp;rfl];unfold aH;rw[List.map_map];rfl
 have htab:D.lst (kn.map λx=>am (kn.map λy=>mk kn x y))=ai (bO kn):=by
  unfold ai bO;rw[List.map_map];rfl
 show fin (ret _ (rP ns k sz kn (plD kn 0) a5 (sh (.lst (kn.map λx=>am (kn.map λy=>mk kn x y)))) a7 a8 a9 a10 (sh (aF (aL sz kn)))))=_;rw[htab,bT,lv,cF,bD,hens,ac,ac];unfold rP;simp;rfl
theorem CD {sz kn:List _} (g:Good sz kn) (r:List D):dL [.tup (be (aH kn)::aF (aL sz kn)::ai (bO kn)::r)]=.val (.ob (be (aH kn)) (aF (aL sz kn)) (ai (bO kn))):=by
 have h:=sE g;have n1:=h.na40;have n2:=h.tl;simp only[dL,iQ];have hf:a_ (fIt (bin fix (vb 0) (kd (.int 2)))) 1 (tgN 1) tT (eLs (fIt (vb 1))) [sh (.tup (be (aH kn)::aF (aL sz kn)::ai (bO kn)::r))]=.val ((bO kn).map am):=bw (f:=am) (by simp;rfl) (by omega) λr _=>rfl;have eh:=CG h;show fin (ret _ [sh (.tup (be (aH kn)::aF (aL sz kn)::ai (bO kn)::r))])=_;have ha:aC (eLs (fIt (bin fix (vb 0) (kd (.int 0))))) (aC (eLs (fIt (bin fix (vb 0) (kd (.int 1))))) (aC (eLs (a_ (fIt (bin fix (vb 0) (kd (.int 2)))) 1 (tgN 1) tT (eLs (fIt (vb 1))))) aN)) [sh (.tup (be (aH kn)::aF (aL sz kn)::ai (bO kn)::r))]=.val [be (aH kn),aF (aL sz kn),ai (bO kn)]:=by
  simp only[cF,bD,hf];simp;rfl
 rw[bT,EC,ha,ac];dsimp only;rw[eh];rfl
end
section
variable (U:Rho)
@[simp] theorem C0 (a b:Rho->R D):yK a b U=(a U).bind λx=>(asB x).bind λc=>if c=true then b U else .val (.bl false):=Eq.trans rfl rfl
end
theorem qI {Y:Type} {T:D->Rho->Option Rho} {t:Rho->R Bool} {e:Rho->R D} {f g:Y->D} {p:Y->Bool} {U:Rho}:∀{l:List Y},(∀a∈l,∃U1,T (f a) U=some U1/\t U1=.val (p a)/\e U1=.val (g a))->jD T t e (l.map f) U=.val ((l.filter p).map g)
 | [],_=>rfl
 | a::r,h=>by
  obtain⟨U1,h1,h2,h3⟩:=h a (by simp);have ih:=qI (T:=T) (t:=t) (e:=e) (f:=f) (g:=g) (p:=p) (U:=U) (l:=r) λb hb=>h b (by simp[hb]);rw[List.map_cons];unfold jD;rw[h1];show(noE (t U1)).bind _=_;rw[h2,List.filter_cons];cases q:p a with
  | true=>simp[h3,ih]
  | false=>simp[ih]
variable {Y:Type} {T:D->Rho->Option Rho}
theorem fV {t:Rho->R Bool} {e:Rho->R D} {f g:Y->D} {p:Y->Bool} {l:List Y} (hs:src U=.val (l.map f)) (hl:l.length<=100000)
  (h:∀a∈l,∃U1,T (f a) (U++List.replicate n none)=some U1/\t U1=.val (p a)/\e U1=.val (g a)):a_ src n T t e U=.val ((l.filter p).map g):=by
 unfold a_;rw[hs,ac,if_pos (show(l.map f).length<=LIM by rw[List.length_map];exact hl),qI h];rfl
theorem gO (n:Nat):rng 0 n=(List.range n).map nD:=by
 unfold rng nD;apply List.map_congr_left;intro k _;rw[Int.zero_add]
theorem ln:∀(l:List D) (s:Nat),enu s l=(List.range l.length).map λi=>.tup [nD (s+i),l.getD i .non]
 | [],s=>rfl
 | x::r,s=>by
  unfold enu;rw[ln r (s+1),List.length_cons,List.range_succ_eq_map,List.map_cons,List.map_map];simp only[Nat.add_zero,List.getD_cons_zero]
  congr 1
  apply List.map_congr_left;intro i _;simp only[Function.comp,List.getD_cons_succ];rw[show s+1+i=s+(i+1) by omega]
theorem qu {Y:Type} {T:D->Rho->Option Rho} {F:Rho->R Out} {f g:Y->D} {p:Y->Bool} (I:Rho->Prop):∀{l:List Y} {U:Rho},(∀a∈l,∀U,I U->∃U1,T (f a) U=some U1/\(p a=true->F U1=.val (.rt (g a)))/\(p a=false->∃U2,F U1=.val (.nx U2)/\I U2))->I U ->
  (∃a,l.find? p=some a/\bK T F (l.map f) U=.val (.rt (g a)))\/(l.find? p=none/\∃U',bK T F (l.map f) U=.val (.nx U')/\I U')
 | [],U,_,h=>.inr ⟨rfl,U,rfl,h⟩
 | a::r,U,step,h=>by
  obtain⟨U1,h1,h2,h3⟩:=step a (by simp) U h;rw[List.find?_cons,List.map_cons];unfold bK;rw[h1];cases q:p a with
  | true=>exact .inl ⟨a,rfl,by dsimp only;rw[h2 q];rfl⟩
  | false =>
   obtain⟨U2,e2,i2⟩:=h3 q;dsimp only;rw[e2];exact qu (T:=T) (F:=F) (f:=f) (g:=g) (p:=p) I (λb hb=>step b (by simp[hb])) i2
theorem xt (p q:Nat×Nat):feq (bM p) (bM q)=.val (.bl (decide (p=q))):=by
 by_cases h:p=q
 ·subst h;rw[jr (kP _)];simp
 ·rw[lg (kP _) (kP _) (λz=>h (endD_inj.mp z))];simp[h]
def hlD (en:List (Nat×Nat)) (re:List Nat) (tb:List (List Int)):D:=.ob (be en) (aF re) (ai tb)
section
variable {en:List (Nat×Nat)} {re:List Nat} {tb:List (List Int)}
@[simp] theorem HC:du 0 (hlD en re tb)=.val (be en):=Eq.trans rfl rfl
@[simp] theorem HB:du 1 (hlD en re tb)=.val (aF re):=Eq.trans rfl rfl
@[simp] theorem HA:du 2 (hlD en re tb)=.val (ai tb):=Eq.trans rfl rfl
end
section
variable (U:Rho)
@[simp] theorem GO (F:Rho->R (List D)):mV F U=(F U).bind Ds:=Eq.trans rfl rfl
@[simp] theorem GK (xs ys:List D):Ds [.lst xs,.lst ys]=.val (zp xs ys):=Eq.trans rfl rfl
@[simp] theorem GP (F:Rho->R (List D)):AJ F U=(F U).bind Ab:=Eq.trans rfl rfl
end
theorem Aa (h:n<=100000):Ab [.int (n:Int)]=.val ((List.range n).map nD):=by
 unfold Ab;dsimp only;rw[if_pos (by constructor<;>omega),Int.toNat_natCast,gO]
theorem qN {Y:Type} (p:Y->Bool):∀l:List Y,jF (l.map λa=>D.bl (p a))=some (l.map p)
 | []=>rfl
 | a::r=>by
  rw[List.map_cons,List.map_cons];unfold jF;rw[qN p r];rfl
theorem lh (p:Y->Bool) (l:List Y):sK (.lst (l.map λa=>D.bl (p a)))=.val (.bl (l.all p)):=by
 unfold sK;dsimp only;rw[qN];dsimp only;rw[List.all_map];rfl
theorem yQ:∀{xs ys:List D},xs.length=ys.length->zp xs ys=(List.range xs.length).map λi=>.tup [xs.getD i .non,ys.getD i .non]
 | [],[],_=>rfl
 | [],_::_,h=>by simp at h
 | _::_,[],h=>by simp at h
 | x::xs,y::ys,h=>by
  unfold zp;rw[yQ (by simpa using h),List.length_cons,List.range_succ_eq_map,List.map_cons,List.map_map]
  congr 1
theorem qZ {β:Type} {f:Y->D} {g:β->D} {l:List Y} {m:List β} {a:Y} {b:β} (h:l.length=m.length):zp (l.map f) (m.map g)=(List.range l.length).map λi=>.tup [f (l.getD i a),g (m.getD i b)]:=by
 rw[yQ (by simpa using h),List.length_map];apply List.map_congr_left;intro i hi;have hi:=List.mem_range.mp hi;rw[ar (show i<(l.map f).length by simpa using hi),ar (show i<(m.map g).length by simpa[<- h]using hi),ar hi,ar (show i<m.length by omega),List.getElem_map,List.getElem_map]
theorem Ac {F:Rho->R Out} {f:Y->D} {ok:Y->Bool} (I:Rho->Prop) {l:List Y} (step:∀a∈l,∀U,I U->∃U1,T (f a) U=some U1/\(ok a=false->F U1=.val (.rt (.bl false)))/\(ok a=true->∃U2,F U1=.val (.nx U2)/\I U2)) (h:I U) :
  (l.all ok=false/\bK T F (l.map f) U=.val (.rt (.bl false)))\/(l.all ok=true/\∃U',bK T F (l.map f) U=.val (.nx U')/\I U'):=by
 rcases qu (T:=T) (F:=F) (f:=f) (g:=λ_=>.bl false) (p:=λa=>!ok a) I (l:=l) (U:=U) (λa ha U hI=>by
  obtain⟨U1,h1,h2,h3⟩:=step a ha U hI;exact⟨U1,h1,λq=>h2 (by simpa using q),λq=>h3 (by simpa using q)⟩) h with⟨a,e,z⟩|⟨e,z⟩
 ·refine .inl ⟨?_,z⟩;have:=List.find?_some e;rw[Bool.eq_false_iff];intro q;have q:=List.all_eq_true.mp q a (List.mem_of_find?_eq_some e);simp[q]at this
 ·refine .inr ⟨?_,z⟩;rw[List.all_eq_true];intro a ha;have:=List.find?_eq_none.mp e a ha;simpa using this
theorem k_ {F:Rho->R Out} {f:Y->D} {ok:Y->Bool} (I:Rho->Prop) {l:List Y} (hs:src U=.val (l.map f)) (step:∀a∈l,∀U,I U->∃U1,T (f a) U=some U1/\(ok a=false->F U1=.val (.rt (.bl false)))/\(ok a=true->∃U2,F U1=.val (.nx U2)/\I U2)) (h:I U) :
  (l.all ok=false/\br src T F U=.val (.rt (.bl false)))\/(l.all ok=true/\∃U',br src T F U=.val (.nx U')/\I U'):=by
 rw[ck,hs,ac];exact Ac I step h
theorem sF {F:Rho->R Out} {f:Y->D} {ok:Y->Bool} (I:Rho->Prop) {l:List Y} (hs:src U=.val (l.map f)) (step:∀a∈l,∀U,I U->∃U1,T (f a) U=some U1/\(ok a=false->F U1=.val (.rt (.bl false)))/\(ok a=true->∃U2,F U1=.val (.nx U2)/\I U2)) (h:I U) :
  fin (sq (br src T F) (ret (kd (.bl true))) U)=.val (.bl (l.all ok)):=by
 rw[aK];rcases k_ I hs step h with⟨e,z⟩|⟨e,U',z,_⟩
 ·rw[z,e];rfl
 ·rw[z,e];rfl
def fH (n:Int) (z:Int):Bool:=decide (0<=z)&&decide (z<n)
theorem iM (l:List Int) (n:Int) (hl:l.length<=100000):bJ [am l,.int n]=.val (.bl (l.all (fH n))):=by
 simp only[bJ,g9];show fin (ret _ [sh (am l),sh (.int n)])=_;have hc:a_ (fIt (vr 0)) 1 (tgN 2) tT (cal 2 bm (aC (vr 2) (aC (vr 1) aN))) [sh (am l),sh (.int n)]=.val (l.map λz=>.bl (fH n z)):=bw (f:=D.int) rfl hl λz _=>by
  have:=js z n;simp[this,fH]
 rw[bT,gS,bD,hc,ac,ac,lh];rfl
theorem DJ {A B:Rho->R Out} {c r:Bool} (I:Rho->Prop) (hA:(c=false/\A U=.val (.rt (.bl false)))\/(c=true/\∃U',A U=.val (.nx U')/\I U')) (hB:c=true->∀U',I U'->fin (B U')=.val (.bl r)):fin (sq A B U)=.val (.bl (c&&r)):=by
 rw[aK];rcases hA with⟨e,h⟩|⟨e,U',h,i⟩
 ·rw[h,e];rfl
 ·rw[h,ac,e,Bool.true_and];exact hB e U' i
theorem ifR {t:Rho->R Bool} {c:Bool} (ht:t U=.val (!c)):(c=false/\DL.iff t (ret (kd (.bl false))) nxt U=.val (.rt (.bl false)))\/(c=true/\∃U',DL.iff t (ret (kd (.bl false))) nxt U=.val (.nx U')/\U'=U):=by
 rw[bL,ht];cases c with
 | false=>exact .inl ⟨rfl,rfl⟩
 | true=>exact .inr ⟨rfl,_,rfl,rfl⟩
theorem Dk {t:Rho->R Bool} {c:Bool} (ht:t U=.val (!c)):(c=false->DL.iff t (ret (kd (.bl false))) nxt U=.val (.rt (.bl false)))/\(c=true->DL.iff t (ret (kd (.bl false))) nxt U=.val (.nx U)):=by
 rw[bL,ht];exact⟨λz=>by rw[z];rfl,λz=>by rw[z];rfl⟩
@[simp] theorem Hw (T:D->Rho->Option Rho) (e:Rho->R D) (U:Rho):asT T e U=(e U).bind λd=>match T d U with
 | some U'=>.val (.nx U')
 | none=>.bad:=Eq.trans rfl rfl
variable {F:Rho->R D}
theorem dS (h:F U=.val (.int (n:Int))) (hn:n<=100000):bC (aC F aN) U=.val ((List.range n).map nD):=by
 rw[li,cF,h,ac,qS,ac,ac,hU hn,gO]
theorem rowD_inj {a b:List Int}:am a=am b↔a=b:=by
 constructor
 ·intro h;unfold am at h;injection h with h;exact nh (λa b e=>by cases e;rfl) h
 ·rintro rfl;rfl
theorem Ct (a b:List Int):feq (am a) (am b)=.val (.bl (decide (a=b))):=by
 by_cases h:a=b
 ·subst h;rw[jr (gP _)];simp
 ·rw[lg (gP _) (gP _) (λz=>h (rowD_inj.mp z))];simp[h]
theorem sI (a b:List Int):fne (am a) (am b)=.val (.bl (!decide (a=b))):=by
 by_cases h:a=b
 ·subst h;rw[h_ (gP _)];simp
 ·rw[uT (gP _) (gP _) (λz=>h (rowD_inj.mp z))];simp[h]
def rg (n:Nat):List Int:=(List.range n).map λ(k:Nat)=>(k:Int)
theorem DR (n:Nat):D.lst ((List.range n).map nD)=am (rg n):=by
 unfold am rg;rw[List.map_map];rfl
theorem uV {r:List Int} {x:Int} (h:0<=x) (h2:x<r.length):fix (am r) (.int x)=.val (.int (r.getD x.toNat (-1))):=by
 have:=bz (r:=r) (i:=x.toNat) (by omega);rwa[Int.toNat_of_nonneg h]at this
def fol (a b:List Int):List Int:=a.map λx=>b.getD x.toNat (-1)
theorem ET {a b:List Int} {e:Rho->R D} (hl:a.length<=100000) (h:∀x∈a,0<=x/\x<b.length) (hs:src U=.val (a.map D.int)) (he:∀x:Int,e ((U++List.replicate 1 none).set i (sh (.int x)))=fix (am b) (.int x)):eLs (a_ src 1 (tgN i) tT e) U=.val (am (fol a b)):=by
 rw[bD,bw (f:=D.int) (g:=λx=>.int (b.getD x.toNat (-1))) hs hl λx hx=>(by rw[he,uV (h x hx).1 (h x hx).2])];unfold am fol;rw[List.map_map];rfl
theorem jt {a b:List Int} (hl:a.length<=100000) (h:∀x∈a,0<=x/\x<b.length):bR [am a,am b]=.val (am (fol a b)):=by
 simp only[bR,iW];show fin (ret _ [sh (am a),sh (am b)])=_;rw[bT,ET (a:=a) (b:=b) hl h rfl λx=>rfl];rfl
structure Bd (cs:List Int) (ms:List (List Int)):Prop where
 c:cs.length<=1000
 m:ms.length<=1000
 r:∀l∈ms,l.length<=1000
section
variable {en:List (Nat×Nat)} {re:List Nat} {tb:List (List Int)} {cs:List Int} {ms:List (List Int)}
theorem Bd.at (b:Bd cs ms) (i:Nat):(ms.getD i []).length<=1000:=by
 by_cases h:i<ms.length
 ·rw[ar h];exact b.r _ (List.getElem_mem h)
 ·rw[List.getD_eq_getElem?_getD,List.getElem?_eq_none (by omega)];exact Nat.zero_le _
def r1 (en:List (Nat×Nat)) (re:List Nat) (cs:List Int) (ms:List (List Int)):Bool:=decide (cs.length=re.length)&&decide (ms.length=en.length)
def fOk (en:List (Nat×Nat)) (cs:List Int) (ms:List (List Int)) (i:Nat):Bool:=decide (((ms.getD i []).length:Int)=cs.getD (en.getD i (0,0)).1 (-1))&&(ms.getD i []).all (fH (cs.getD (en.getD i (0,0)).2 (-1)))
def okR (re:List Nat) (cs:List Int) (ms:List (List Int)) (b:Nat):Bool:=decide (ms.getD (re.getD b 0) []=rg (cs.getD b (-1)).toNat)
def okT (tb:List (List Int)) (ms:List (List Int)) (i j:Nat):Bool:=decide ((tb.getD i []).getD j (-1)=-1)||decide (ms.getD ((tb.getD i []).getD j (-1)).toNat []=fol (ms.getD i []) (ms.getD j []))
def r3 (en:List (Nat×Nat)) (cs:List Int) (ms:List (List Int)):Bool:=(List.range en.length).all (fOk en cs ms)
def r4 (re:List Nat) (cs:List Int) (ms:List (List Int)):Bool:=(List.range re.length).all (okR re cs ms)
def r5 (en:List (Nat×Nat)) (tb ms:List (List Int)):Bool:=(List.range en.length).all λi=>(List.range en.length).all (okT tb ms i)
theorem oW (h:aS en re tb) (hi:i<en.length) (hj:j<en.length):(tb.getD i []).getD j (-1)=-1\/∃k,k<en.length/\(tb.getD i []).getD j (-1)=(k:Int)/\(en.getD i (0,0)).2=(en.getD j (0,0)).1:=by
 by_cases e:(en.getD i (0,0)).2=(en.getD j (0,0)).1
 ·obtain⟨k,h1,h2,_⟩:=h.tp i j hi hj e;exact .inr ⟨k,h1,h2,e⟩
 ·exact .inl (h.tn i j hi hj e)
theorem ES (h3:r3 en cs ms=true) (hi:i<en.length) (hj:j<en.length) (e:(en.getD i (0,0)).2=(en.getD j (0,0)).1):∀x∈ms.getD i [],0<=x/\x<(ms.getD j []).length:=by
 have q1:=List.all_eq_true.mp h3 i (List.mem_range.mpr hi);have q2:=List.all_eq_true.mp h3 j (List.mem_range.mpr hj);unfold fOk at q1 q2;rw[Bool.and_eq_true,decide_eq_true_iff]at q1 q2;intro x hx;have:=List.all_eq_true.mp q1.2 x hx;unfold fH at this;rw[Bool.and_eq_true,decide_eq_true_iff,decide_eq_true_iff]at this;refine⟨this.1,?_⟩;rw[q2.1,<- e];exact this.2
theorem u5 (h:aS en re tb) (b:Bd cs ms):fq [hlD en re tb,am cs,ai ms]=.val (.bl (r1 en re cs ms&&(cs.all (fH 41)&&(r3 en cs ms&&true)))):=by
 simp only[fq,iV];show fin (sq _ _ [sh (hlD en re tb),sh (am cs),sh (ai ms),none,none])=_;refine DJ (·=[sh (hlD en re tb),sh (am cs),sh (ai ms),none,none]) (ifR ?_) ?_
 ·unfold r1;by_cases p1:cs.length=re.length
  ·by_cases p2:ms.length=en.length
   ·simp[p1,p2]
   ·have q2:¬ (ms.length:Int)=en.length:=by omega
    simp[p1,p2,q2]
  ·have q1:¬ (cs.length:Int)=re.length:=by omega
   simp[p1,q1]
 ·rintro e1 _ rfl;unfold r1 at e1;rw[Bool.and_eq_true,decide_eq_true_iff,decide_eq_true_iff]at e1;obtain⟨l1,l2⟩:=e1;refine DJ (·=[sh (hlD en re tb),sh (am cs),sh (ai ms),none,none]) (ifR ?_) ?_
  ·have e:=iM cs 41 (by have:=b.c;omega);simp[-List.all_eq_true,e]
  ·rintro e2 _ rfl;refine DJ (λ_=>True) ?_ λ_ U' _=>rfl;have main:=k_ (src:=mV (aC (una (du 0) (vb 0)) (aC (vr 2) aN))) (T:=tg2 3 4) (F:=(DL.iff (orB (tst (bin fne (una aJ (vb 4)) (bin fix (vb 1) (bin fix (vb 3) (kd (.int 0)))))) (dP (tst (cal 2 bJ (aC (vr 4) (aC (bin fix (vb 1) (bin fix (vb 3) (kd (.int 1)))) aN)))))) (ret (kd (.bl false))) nxt)) (f:=λi=>.tup [bM (en.getD i (0,0)),am (ms.getD i [])]) (ok:=fOk en cs ms) (l:=List.range en.length) (U:=[sh (hlD en re tb),sh (am cs),sh (ai ms),none,none]) (λU=>∃x y,U=[sh (hlD en re tb),sh (am cs),sh (ai ms),x,y]) ?_ (λi hi U hI=>?_) ⟨_,_,rfl⟩
   ·rcases main with⟨q,e⟩|⟨q,U',e,_⟩
    ·exact .inl ⟨q,e⟩
    ·exact .inr ⟨q,U',e,trivial⟩
   ·have:=qZ (f:=bM) (g:=am) (l:=en) (m:=ms) (a:=(0,0)) (b:=[]) l2.symm;simp[be,ai,this]
   ·obtain⟨x,y,rfl⟩:=hI;have hi:=List.mem_range.mp hi;have eb:=h.eb i hi;have f2:=bz (r:=cs) (i:=(en.getD i (0,0)).1) (by omega);have f3:=bz (r:=cs) (i:=(en.getD i (0,0)).2) (by omega);have e:=iM (ms.getD i []) (cs.getD (en.getD i (0,0)).2 (-1)) (by have:=b.at i;omega);have ht:orB (tst (bin fne (una aJ (vb 4)) (bin fix (vb 1) (bin fix (vb 3) (kd (.int 0)))))) (dP (tst (cal 2 bJ (aC (vr 4) (aC (bin fix (vb 1) (bin fix (vb 3) (kd (.int 1)))) aN))))) [sh (hlD en re tb),sh (am cs),sh (ai ms),sh (bM (en.getD i (0,0))),sh (am (ms.getD i []))]=.val (!fOk en cs ms i):=by
     unfold fOk;by_cases p:((ms.getD i []).length:Int)=cs.getD (en.getD i (0,0)).1 (-1)
     ·simp[-List.getD_eq_getElem?_getD,-List.all_eq_true,f2,f3,e,p]
     ·simp[-List.getD_eq_getElem?_getD,-List.all_eq_true,f2,f3,e,p]
    obtain⟨k1,k2⟩:=Dk ht;exact⟨_,rfl,k1,λz=>⟨_,k2 z,_,_,rfl⟩⟩
theorem oQ (h:aS en re tb) (b:Bd cs ms) (l1:cs.length=re.length) (l2:ms.length=en.length) (h2:cs.all (fH 41)=true) :
  cY [hlD en re tb,am cs,ai ms]=.val (.bl (r4 re cs ms)):=by
 simp only[cY,fC];show fin (ret _ [sh (hlD en re tb),sh (am cs),sh (ai ms)])=_;have n6:=h.nb6;have hc:a_ (eE (aC (una (du 1) (vb 0)) aN)) 2 (tg2 3 4) tT (bin feq (bin fix (vb 2) (vb 4)) (eLs (AJ (aC (bin fix (vb 1) (vb 3)) aN)))) [sh (hlD en re tb),sh (am cs),sh (ai ms)]=.val ((List.range re.length).map λi=>.bl (okR re cs ms i)):=by
  have:=fV (src:=eE (aC (una (du 1) (vb 0)) aN)) (n:=2) (T:=tg2 3 4) (t:=tT) (e:=bin feq (bin fix (vb 2) (vb 4)) (eLs (AJ (aC (bin fix (vb 1) (vb 3)) aN)))) (f:=λi=>.tup [nD i,nD (re.getD i 0)]) (g:=λi=>.bl (okR re cs ms i)) (p:=λ_=>true) (l:=List.range re.length) (U:=[sh (hlD en re tb),sh (am cs),sh (ai ms)]) ?_ (by rw[List.length_range];omega) λi hi=>?_
  ·rw[this,List.filter_eq_self.mpr λ_ _=>rfl]
  ·have:enu 0 (re.map nD)=_:=ln _ _;simp only[sL,cF,gS,qS];show(wu [.lst (re.map nD)])=_;rw[sQ,this,List.length_map]
   congr 1
   apply List.map_congr_left;intro i hi;have hi:=List.mem_range.mp hi;rw[Nat.zero_add,ar (show i<(re.map nD).length by simpa using hi),ar hi,List.getElem_map]
  ·have hi:=List.mem_range.mp hi;have q1:=(h.rs i hi).1;have f1:=bx (tb:=ms) (i:=re.getD i 0) (by omega);have f2:=bz (r:=cs) (i:=i) (by omega);have cb:fH 41 (cs.getD i (-1))=true:=by
    rw[ar (show i<cs.length by omega)];exact List.all_eq_true.mp h2 _ (List.getElem_mem _)
   unfold fH at cb;rw[Bool.and_eq_true,decide_eq_true_iff,decide_eq_true_iff]at cb;have lr:=Aa (n:=(cs.getD i (-1)).toNat) (by omega);rw[Int.toNat_of_nonneg cb.1]at lr;refine⟨_,rfl,rfl,?_⟩;have q:=Ct (ms.getD (re.getD i 0) []) (rg (cs.getD i (-1)).toNat);rw[<- DR]at q;simp[-List.getD_eq_getElem?_getD,f1,f2,lr,q,okR]
 rw[bT,gS,bD,hc,ac,ac,lh];rfl
theorem oP (h:aS en re tb) (b:Bd cs ms) (l2:ms.length=en.length) (h3:r3 en cs ms=true) :
  cX [hlD en re tb,ai ms]=.val (.bl (r5 en tb ms)):=by
 simp only[cX,fB];show fin (sq _ _ [sh (hlD en re tb),sh (ai ms),none,none,none,none])=_;have hl:=h.tl;refine sF (f:=λi=>.tup [nD i,am (tb.getD i [])]) (λU=>∃x y z w,U=[sh (hlD en re tb),sh (ai ms),x,y,z,w]) ?_ (λi hi U hI=>?_) ⟨_,_,_,_,rfl⟩
 ·have:enu 0 (tb.map am)=_:=ln _ _;simp only[sL,cF,gS,qS];show(wu [.lst (tb.map am)])=_;rw[sQ,this,List.length_map,hl]
  congr 1
  apply List.map_congr_left;intro i hi;have hi:=List.mem_range.mp hi;rw[Nat.zero_add,ar (show i<(tb.map am).length by simpa[hl]using hi),ar (show i<tb.length by omega),List.getElem_map]
 ·obtain⟨x,y,z,w,rfl⟩:=hI;have hi:=List.mem_range.mp hi;have rl:=h.rl i hi;refine⟨_,rfl,?_⟩;have main:=k_ (src:=eE (aC (vr 3) aN)) (T:=tg2 4 5) (F:=DL.iff (yL (tst (bin fne (vb 5) (una mU (kd (.int 1))))) (tst (bin fne (bin fix (vb 1) (vb 5)) (cal 2 bR (aC (bin fix (vb 1) (vb 2)) (aC (bin fix (vb 1) (vb 4)) aN)))))) (ret (kd (.bl false))) nxt) (f:=λj=>.tup [nD j,.int ((tb.getD i []).getD j (-1))]) (ok:=okT tb ms i) (l:=List.range en.length) (U:=[sh (hlD en re tb),sh (ai ms),sh (nD i),sh (am (tb.getD i [])),z,w])
   (λU=>∃z w,U=[sh (hlD en re tb),sh (ai ms),sh (nD i),sh (am (tb.getD i [])),z,w]) ?_ (λj hj U hI=>?_) ⟨_,_,rfl⟩
  ·rcases main with⟨q,e⟩|⟨q,U',e,z',w',rfl⟩
   ·exact⟨λ_=>e,λt=>(by rw[t]at q;cases q)⟩
   ·exact⟨λt=>(by rw[t]at q;cases q),λ_=>⟨_,e,_,_,_,_,rfl⟩⟩
  ·have:enu 0 ((tb.getD i []).map D.int)=_:=ln _ _;simp only[sL,cF,Fw,qS];show(wu [.lst ((tb.getD i []).map D.int)])=_;rw[sQ,this,List.length_map,rl]
   congr 1
   apply List.map_congr_left;intro j hj;have hj:=List.mem_range.mp hj;rw[Nat.zero_add,ar (show j<((tb.getD i []).map D.int).length by rw[List.length_map,rl];exact hj),ar (show j<(tb.getD i []).length by omega),List.getElem_map]
  ·obtain⟨z,w,rfl⟩:=hI;have hj:=List.mem_range.mp hj;refine⟨_,rfl,?_⟩;have ht:yL (tst (bin fne (vb 5) (una mU (kd (.int 1))))) (tst (bin fne (bin fix (vb 1) (vb 5)) (cal 2 bR (aC (bin fix (vb 1) (vb 2)) (aC (bin fix (vb 1) (vb 4)) aN))))) [sh (hlD en re tb),sh (ai ms),sh (nD i),sh (am (tb.getD i [])),sh (nD j),sh (.int ((tb.getD i []).getD j (-1)))]=.val (!okT tb ms i j):=by
    unfold okT;rcases oW h hi hj with e|⟨k,hk,e,e2⟩
    ·rw[e];simp
    ·rw[e];have f1:=bx (tb:=ms) (i:=k) (by omega);have f2:=bx (tb:=ms) (i:=i) (by omega);have f3:=bx (tb:=ms) (i:=j) (by omega);have q:=jt (a:=ms.getD i []) (b:=ms.getD j []) (by have:=b.at i;omega) (ES h3 hi hj e2);have q2:=sI (ms.getD k []) (fol (ms.getD i []) (ms.getD j []));have nk:¬ (k:Int)=-1:=by omega
     simp[-List.getD_eq_getElem?_getD,f1,f2,f3,q,q2,nk]
   obtain⟨k1,k2⟩:=Dk ht;exact⟨k1,λz=>⟨_,k2 z,_,_,rfl⟩⟩
def isR (en:List (Nat×Nat)) (re:List Nat) (tb:List (List Int)) (cs:List Int) (ms:List (List Int)):Bool:=r1 en re cs ms&&(cs.all (fH 41)&&(r3 en cs ms&&(r4 re cs ms&&(r5 en tb ms&&true))))
theorem qb (h:aS en re tb) (b:Bd cs ms):cw [hlD en re tb,am cs,ai ms]=.val (.bl (isR en re tb cs ms)):=by
 simp only[cw,gv];show fin (ret _ [sh (hlD en re tb),sh (am cs),sh (ai ms)])=_;have e1:=u5 h b;unfold isR;cases c1:r1 en re cs ms with
 | false=>rw[c1]at e1;simp[e1]
 | true =>
  cases c2:cs.all (fH 41)with
  | false=>rw[c1,c2]at e1;simp[e1]
  | true =>
   cases c3:r3 en cs ms with
   | false=>rw[c1,c2,c3]at e1;simp[e1]
   | true =>
    rw[c1,c2,c3]at e1;have c1:=c1;unfold r1 at c1;rw[Bool.and_eq_true,decide_eq_true_iff,decide_eq_true_iff]at c1;have e2:=oQ h b c1.1 c1.2 c2;have e3:=oP h b c1.2 c3;cases c4:r4 re cs ms with
    | false=>rw[c4]at e2;simp[e1,e2]
    | true=>rw[c4]at e2;simp[e1,e2,e3]
end
structure IsR (L:Nat) (en:List (Nat×Nat)) (re:List Nat) (tb:List (List Int)) (cs:List Int) (ms:List (List Int)):Prop where
 lc:cs.length=re.length
 lm:ms.length=en.length
 cb:∀b,b<re.length->0<=cs.getD b (-1)/\cs.getD b (-1)<=(L:Int)
 ml:∀i,i<en.length->((ms.getD i []).length:Int)=cs.getD (en.getD i (0,0)).1 (-1)
 mb:∀i,i<en.length->∀x∈ms.getD i [],0<=x/\x<cs.getD (en.getD i (0,0)).2 (-1)
 idn:∀b,b<re.length->ms.getD (re.getD b 0) []=rg (cs.getD b (-1)).toNat
 cmp:∀i j k:Nat,i<en.length->j<en.length->(tb.getD i []).getD j (-1)=(k:Int)->ms.getD k []=fol (ms.getD i []) (ms.getD j [])
section
variable {en:List (Nat×Nat)} {re:List Nat} {tb:List (List Int)} {cs ds:List Int} {ms ns:List (List Int)} {L M:Nat}
theorem below_iff {n z:Int}:fH n z=true↔0<=z/\z<n:=by
 unfold fH;rw[Bool.and_eq_true,decide_eq_true_iff,decide_eq_true_iff]
theorem IsR.tru (h:aS en re tb) (r:IsR L en re tb cs ms) (hL:L<=40):isR en re tb cs ms=true:=by
 have e1:r1 en re cs ms=true:=by unfold r1;rw[decide_eq_true r.lc,decide_eq_true r.lm];rfl
 have e2:cs.all (fH 41)=true:=List.all_eq_true.mpr λx hx=>by
  obtain⟨i,hi,rfl⟩:=List.mem_iff_getElem.mp hx;have:=r.cb i (by rw[<- r.lc];exact hi);rw[ar hi]at this;rw[below_iff];omega
 have e3:r3 en cs ms=true:=List.all_eq_true.mpr λi hi=>by
  have hi:=List.mem_range.mp hi;unfold fOk;rw[decide_eq_true (r.ml i hi),Bool.true_and,List.all_eq_true];exact λx hx=>below_iff.mpr (r.mb i hi x hx)
 have e4:r4 re cs ms=true:=List.all_eq_true.mpr λb hb=>decide_eq_true (r.idn b (List.mem_range.mp hb));have e5:r5 en tb ms=true:=List.all_eq_true.mpr λi hi=>List.all_eq_true.mpr λj hj=>by
  have hi:=List.mem_range.mp hi;have hj:=List.mem_range.mp hj;unfold okT;rcases oW h hi hj with e|⟨k,hk,e,_⟩
  ·rw[e];rfl
  ·rw[e,Int.toNat_natCast,decide_eq_true (r.cmp i j k hi hj e),Bool.or_true]
 unfold isR;rw[e1,e2,e3,e4,e5];rfl
theorem DS (n:Nat):(rg n).length=n:=by unfold rg;simp
theorem t8 {d:Int} (h:i<n):(rg n).getD i d=(i:Int):=by
 unfold rg;rw[ar (by simpa using h)];simp
theorem cL {l:List Y} {f:Y->Int} {d:Y} {e:Int} (h:i<l.length):(l.map f).getD i e=f (l.getD i d):=by
 rw[ar (by simpa using h),ar h,List.getElem_map]
theorem uI {l:List Y} {f:Y->List Int} {d:Y} (h:i<l.length):(l.map f).getD i []=f (l.getD i d):=by
 rw[ar (by simpa using h),ar h,List.getElem_map]
theorem hV {f:Nat->List Int} (h:i<n):((List.range n).map f).getD i []=f i:=by
 rw[ar (by simpa using h)];simp
theorem kL {f:Nat->Int} {e:Int} (h:i<n):((List.range n).map f).getD i e=f i:=by
 rw[ar (by simpa using h)];simp
theorem B4 (h:aS en re tb):IsR 1 en re tb (re.map λ_=>1) (en.map λ_=>[0]):=by
 have gc:∀b,b<re.length->(re.map λ_=>(1:Int)).getD b (-1)=1:=λb hb=>cL (d:=0) hb;have gm:∀i,i<en.length->(en.map λ_=>[(0:Int)]).getD i []=[0]:=λi hi=>uI (d:=(0,0)) hi;refine⟨by simp,by simp,λb hb=>?_,λi hi=>?_,λi hi x hx=>?_,λb hb=>?_,λi j k hi hj e=>?_⟩
 ·rw[gc b hb];omega
 ·rw[gm i hi,gc _ (h.eb i hi).1];rfl
 ·rw[gm i hi]at hx;rw[gc _ (h.eb i hi).2,List.mem_singleton.mp hx];omega
 ·rw[gm _ (h.rs b hb).1,gc b hb];rfl
 ·obtain⟨_,hk,_⟩:=lq h hi hj e;rw[gm k hk,gm i hi,gm j hj];rfl
theorem B6 (h:aS en re tb):IsR 0 en re tb (re.map λ_=>0) (en.map λ_=>[]):=by
 have gc:∀b,b<re.length->(re.map λ_=>(0:Int)).getD b (-1)=0:=λb hb=>cL (d:=0) hb;have gm:∀i,i<en.length->(en.map λ_=>([]:List Int)).getD i []=[]:=λi hi=>uI (d:=(0,0)) hi;refine⟨by simp,by simp,λb hb=>?_,λi hi=>?_,λi hi x hx=>?_,λb hb=>?_,λi j k hi hj e=>?_⟩
 ·rw[gc b hb];omega
 ·rw[gm i hi,gc _ (h.eb i hi).1];rfl
 ·rw[gm i hi]at hx;cases hx
 ·rw[gm _ (h.rs b hb).1,gc b hb];rfl
 ·obtain⟨_,hk,_⟩:=lq h hi hj e;rw[gm k hk,gm i hi,gm j hj];rfl
def Bi (cs ds:List Int):List Int:=(List.range cs.length).map λi=>cs.getD i 0+ds.getD i 0
def qf (en:List (Nat×Nat)) (cs:List Int) (ms ns:List (List Int)) (k:Nat):List Int:=ms.getD k []++(ns.getD k []).map λx=>x+cs.getD (en.getD k (0,0)).2 (-1)
def yI (en:List (Nat×Nat)) (cs:List Int) (ms ns:List (List Int)):List (List Int):=(List.range en.length).map (qf en cs ms ns)
theorem DT (n m:Nat):rg (n+m)=rg n++(rg m).map λx=>x+(n:Int):=by
 unfold rg;rw[List.range_add,List.map_append,List.map_map,List.map_map]
 congr 1
 apply List.map_congr_left;intro k _;simp only[Function.comp];omega
theorem uS {l:List Int} {d e:Int} (h:i<l.length):l.getD i d=l.getD i e:=by rw[ar h,ar h]
theorem GG {l m:List Int} {d:Int} (h:i<l.length):(l++m).getD i d=l.getD i d:=by
 rw[List.getD_eq_getElem?_getD,List.getElem?_append_left h,<- List.getD_eq_getElem?_getD]
theorem GF {l m:List Int} {d:Int} (h:l.length<=i):(l++m).getD i d=m.getD (i-l.length) d:=by
 rw[List.getD_eq_getElem?_getD,List.getElem?_append_right h,<- List.getD_eq_getElem?_getD]
theorem xO (h:aS en re tb) (r:IsR L en re tb cs ms) (q:IsR M en re tb ds ns):IsR (L+M) en re tb (Bi cs ds) (yI en cs ms ns):=by
 have gc:∀b,b<re.length->(Bi cs ds).getD b (-1)=cs.getD b (-1)+ds.getD b (-1):=λb hb=>by
  unfold Bi;rw[kL (by rw[r.lc];exact hb),uS (e:=-1) (by rw[r.lc];exact hb),uS (l:=ds) (e:=-1) (by rw[q.lc];exact hb)]
 have gm:∀i,i<en.length->(yI en cs ms ns).getD i []=qf en cs ms ns i:=λi hi=>hV hi;refine⟨by simp[Bi,r.lc],by simp[yI],λb hb=>?_,λi hi=>?_,λi hi x hx=>?_,λb hb=>?_,λi j k hi hj e=>?_⟩
 ·rw[gc b hb];have:=r.cb b hb;have:=q.cb b hb;omega
 ·rw[gm i hi,gc _ (h.eb i hi).1];have:=r.ml i hi;have:=q.ml i hi;unfold qf;rw[List.length_append,List.length_map];omega
 ·rw[gm i hi]at hx;rw[gc _ (h.eb i hi).2];unfold qf at hx;have b1:=q.cb _ (h.eb i hi).2;have b2:=r.cb _ (h.eb i hi).2;rcases List.mem_append.mp hx with hx|hx
  ·have:=r.mb i hi x hx;omega
  ·obtain⟨y,hy,rfl⟩:=List.mem_map.mp hx;have:=q.mb i hi y hy;omega
 ·obtain⟨q1,q2⟩:=h.rs b hb;rw[gm _ q1,gc b hb];unfold qf;rw[r.idn b hb,q.idn b hb,q2];have c1:=r.cb b hb;have c2:=q.cb b hb;dsimp only;rw[Int.toNat_add c1.1 c2.1,DT]
  congr 1
  apply List.map_congr_left;intro x _;omega
 ·obtain⟨e1,hk,e2⟩:=lq h hi hj e;rw[gm k hk,gm i hi,gm j hj];unfold qf;rw[r.cmp i j k hi hj e,q.cmp i j k hi hj e,e2];have l1:=r.ml j hj;rw[<- e1]at l1;unfold fol;rw[List.map_append,List.map_map,List.map_map]
  congr 1
  ·apply List.map_congr_left;intro x hx;have:=r.mb i hi x hx;rw[GG (by omega)]
  ·apply List.map_congr_left;intro y hy;have b1:=q.mb i hi y hy;have l2:=q.ml j hj;rw[<- e1]at l2;have c0:=r.cb _ (h.eb i hi).2;simp only[Function.comp];rw[GF (by omega)];have:(y+cs.getD (en.getD i (0,0)).2 (-1)).toNat-(ms.getD j []).length=y.toNat:=by omega
   rw[this,cL (d:=-1) (by omega)]
end
def fG (l:List Nat):List Int:=l.map λ(k:Nat)=>(k:Int)
def plC (sz:List Nat):List Int:=fG sz
def plM (kn:List Arr):List (List Int):=kn.map λx=>fG x.2.2
theorem qL (l:List Nat):(fG l).length=l.length:=by unfold fG;simp
theorem vh {e:Int} (h:i<l.length):(fG l).getD i e=((l.getD i 0:Nat):Int):=cL (d:=0) h
theorem At {a b:List Nat} (h:∀i∈a,i<b.length):fol (fG a) (fG b)=fG (a.map λi=>b.getD i 0):=by
 unfold fol
 conv=>lhs;unfold fG
 conv=>rhs;unfold fG
 rw[List.map_map,List.map_map];apply List.map_congr_left;intro i hi;simp only[Function.comp,Int.toNat_natCast];exact vh (h i hi)
section
variable {sz:List Nat} {kn:List Arr}
theorem yf (g:Good sz kn) (h3:∀n∈sz,n<=3):IsR 3 (aH kn) (aL sz kn) (bO kn) (plC sz) (plM kn):=by
 have okat:∀{i} (h:i<kn.length),Ok sz kn[i]:=λh=>g.ok _ (List.getElem_mem h);have gc:∀b,b<sz.length->(plC sz).getD b (-1)=((sz.getD b 0:Nat):Int):=λb hb=>vh hb;have gm:∀{i} (h:i<kn.length),(plM kn).getD i []=fG kn[i].2.2:=λ{i} h=>by
  unfold plM;rw[ar (by simpa using h)];simp
 have gz:∀{b n:Nat},sz[b]?=some n->sz.getD b 0=n/\b<sz.length:=λ{b n} e=>by
  obtain⟨hb,e⟩:=List.getElem?_eq_some_iff.mp e;exact⟨by rw[ar hb];exact e,hb⟩
 refine⟨by rw[ji];exact qL _,by rw[cP];simp[plM],λb hb=>?_,λi hi=>?_,λi hi x hx=>?_,λb hb=>?_,λi j k hi hj e=>?_⟩
 ·rw[ji]at hb;rw[gc b hb];have:sz.getD b 0<=3:=by rw[ar hb];exact h3 _ (List.getElem_mem hb)
  omega
 ·rw[cP]at hi;obtain⟨n,m,h1,h2,h3,h4⟩:=okat hi;obtain⟨z1,z2⟩:=gz h1;rw[gm hi,ib hi,gc _ z2,qL,h3];rw[z1]
 ·rw[cP]at hi;obtain⟨n,m,h1,h2,h3,h4⟩:=okat hi;obtain⟨z1,z2⟩:=gz h2;rw[gm hi]at hx;rw[ib hi,gc _ z2];unfold fG at hx;obtain⟨y,hy,rfl⟩:=List.mem_map.mp hx;have:=h4 y hy;rw[z1];omega
 ·rw[ji]at hb;obtain⟨hl,e⟩:=jq (g.rest b hb);rw[wR hb,gm hl,e,gc b hb,Int.toNat_natCast];unfold idm rg fG;rfl
 ·rw[cP]at hi hj;rw[kD hi hj]at e;obtain⟨e1,rfl⟩:=vX e;obtain⟨hl,e2⟩:=jq (g.cl _ (List.getElem_mem hi) _ (List.getElem_mem hj) e1);rw[gm hl,gm hi,gm hj,e2,At (zV (okat hi) (okat hj) e1)];rfl
end
variable {L:Nat}
section
variable {en:List (Nat×Nat)} {re:List Nat} {tb:List (List Int)} {s:Nat}
def btw (en:List (Nat×Nat)) (a b:Nat):List Nat:=(List.range en.length).filter λn=>decide (en.getD n (0,0)=(a,b))
theorem eC (a b:Nat):(btw en a b).length<=en.length:=by
 unfold btw;exact Nat.le_trans (List.length_filter_le _ _) (by rw[List.length_range];exact Nat.le_refl _)
theorem mem_btw:n∈btw en a b↔n<en.length/\en.getD n (0,0)=(a,b):=by
 unfold btw;rw[List.mem_filter,List.mem_range,decide_eq_true_iff]
theorem Bc (a b:Nat):(btw en a b).Nodup:=List.nodup_range.filter _
def bo (en:List (Nat×Nat)) (re:List Nat) (s:Nat):List Int:=(List.range re.length).map λt=>((btw en s t).length:Int)
def ent (tb:List (List Int)) (i j:Nat):Nat:=((tb.getD i []).getD j (-1)).toNat
def i8 (en:List (Nat×Nat)) (tb:List (List Int)) (s k:Nat):List Int:=(btw en s (en.getD k (0,0)).1).map λx=>((btw en s (en.getD k (0,0)).2).idxOf (ent tb x k):Int)
def bH (en:List (Nat×Nat)) (tb:List (List Int)) (s:Nat):List (List Int):=(List.range en.length).map (i8 en tb s)
theorem oV (h:aS en re tb) {x:Nat} (hk:k<en.length) (hx:x∈btw en s (en.getD k (0,0)).1):(tb.getD x []).getD k (-1)=(ent tb x k:Int)/\ent tb x k∈btw en s (en.getD k (0,0)).2:=by
 obtain⟨x1,x2⟩:=mem_btw.mp hx;obtain⟨q,q1,q2,q3⟩:=h.tp x k x1 hk (by rw[x2]);have e:ent tb x k=q:=by unfold ent;rw[q2,Int.toNat_natCast]
 rw[e];rw[x2]at q3;exact⟨q2,mem_btw.mpr ⟨q1,q3⟩⟩
theorem rV (h:aS en re tb) (hL:∀t,t<re.length->(btw en s t).length<=L):IsR L en re tb (bo en re s) (bH en tb s):=by
 have gc:∀b,b<re.length->(bo en re s).getD b (-1)=((btw en s b).length:Int):=λb hb=>kL hb;have gm:∀i,i<en.length->(bH en tb s).getD i []=i8 en tb s i:=λi hi=>hV hi;refine⟨by simp[bo],by simp[bH],λb hb=>?_,λi hi=>?_,λi hi x hx=>?_,λb hb=>?_,λi j k hi hj e=>?_⟩
 ·rw[gc b hb];have:=hL b hb;omega
 ·rw[gm i hi,gc _ (h.eb i hi).1];unfold i8;rw[List.length_map]
 ·rw[gm i hi]at hx;rw[gc _ (h.eb i hi).2];unfold i8 at hx;obtain⟨y,hy,rfl⟩:=List.mem_map.mp hx;have:=List.idxOf_lt_length_of_mem (oV h hi hy).2;omega
 ·obtain⟨q1,q2⟩:=h.rs b hb;rw[gm _ q1,gc b hb,Int.toNat_natCast];unfold i8;rw[q2];dsimp only;apply List.ext_getElem
  ·rw[List.length_map,DS]
  ·intro n n1 n2;rw[List.length_map]at n1;rw[List.getElem_map];have hm:=List.getElem_mem n1;obtain⟨x1,x2⟩:=mem_btw.mp hm;have u:=h.ur _ x1;rw[x2]at u;have e:ent tb (btw en s b)[n] (re.getD b 0)=(btw en s b)[n]:=by
    unfold ent;rw[u,Int.toNat_natCast]
   rw[e,(Bc s b).idxOf_getElem n n1,<- ar (d:=(-1:Int)) n2,t8 n1]
 ·obtain⟨e1,hk,e2⟩:=lq h hi hj e;rw[gm k hk,gm i hi,gm j hj];unfold i8 fol;rw[e2,List.map_map];dsimp only;apply List.map_congr_left;intro x hx;simp only[Function.comp,Int.toNat_natCast];obtain⟨y1,y2⟩:=oV h hi hx;rw[e1]at y2;have yl:=List.idxOf_lt_length_of_mem y2;rw[e1];rw[cL (d:=0) yl,ar yl,List.getElem_idxOf];have x1:=(mem_btw.mp hx).1;have as:=h.as x i j _ k x1 hi hj y1 e;have:ent tb (ent tb x i) j=ent tb x k:=by
   unfold ent at as ⊢;rw[as]
  rw[this]
end
theorem qz:∀l:List Int,eI (l.map D.int)=some l
 | []=>rfl
 | a::r=>by
  rw[List.map_cons];unfold eI;rw[qz r];rfl
theorem xr {k:Nat}:∀{l:List Nat},k∈l->(l.map λ(n:Nat)=>(n:Int)).findIdx? (· == (k:Int))=some (l.idxOf k)
 | [],h=>by cases h
 | a::r,h=>by
  rw[List.map_cons,List.findIdx?_cons,List.idxOf_cons];by_cases e:a=k
  ·subst e;simp
  ·have e1:((a:Int)==(k:Int))=false:=by rw[beq_eq_false_iff_ne];omega
   have e2:(a==k)=false:=by rw[beq_eq_false_iff_ne];exact e
   have hr:k∈r:=by
    rcases List.mem_cons.mp h with rfl|h
    ·exact absurd rfl e
    ·exact h
   rw[e1,e2,xr hr];rfl
theorem sJ (h:k∈l) (hl:l.length<=100000):AF (aF l) (.int (k:Int))=.val (.int (l.idxOf k:Int)):=by
 unfold AF aF;dsimp only;rw[l_];dsimp only;rw[if_pos (by rw[List.length_map];exact hl),xr h]
theorem sy {Fo:Rho->R D} {t:Int} (h1:Fo U=.val (aF l)) (h2:F U=.val (.int t)):sA Fo F U=AF (aF l) (.int t):=by
 unfold sA;rw[h1,h2];rfl
variable {U':Rho}
theorem cK {A B:Rho->R Out} (h:A U=.val (.nx U')):sq A B U=B U':=by rw[aK,h];rfl
theorem kE (l:List Y) (f:Y->List Int):D.lst (l.map λa=>am (f a))=ai (l.map f):=by
 unfold ai;rw[List.map_map];rfl
theorem m9 (l:List Y) (f:Y->Int):D.lst (l.map λa=>.int (f a))=am (l.map f):=by
 unfold am;rw[List.map_map];rfl
theorem fm {e:Rho->R D} {f:Y->D} {g:Y->Int} {l:List Y} (hs:src U=.val (l.map f)) (hl:l.length<=100000) (h:∀a∈l,e ((U++List.replicate n none).set i (sh (f a)))=.val (.int (g a))) :
  eLs (a_ src n (tgN i) tT e) U=.val (am (l.map g)):=by
 rw[bD,bw (f:=f) (g:=λa=>.int (g a)) hs hl h,ac,m9]
variable {cs:List Int} {ms:List (List Int)}
section
variable {en:List (Nat×Nat)} {re:List Nat} {tb:List (List Int)} {r:List D}
theorem u3 (h:aS en re tb) (a b:Nat):bY [.tup (be en::r),nD a,nD b]=.val (aF (btw en a b)):=by
 simp only[bY,fA];show fin (ret _ [sh (.tup (be en::r)),sh (nD a),sh (nD b)])=_;have n40:=h.na40;have hc:=fV (src:=bC (aC (una aJ (bin fix (vb 0) (kd (.int 0)))) aN)) (n:=1) (T:=tgN 3) (t:=tst (bin feq (bin fix (bin fix (vb 0) (kd (.int 0))) (vb 3)) (eT (aC (vr 1) (aC (vr 2) aN))))) (e:=vr 3) (f:=nD) (g:=nD) (p:=λn=>decide (en.getD n (0,0)=(a,b))) (l:=List.range en.length) (U:=[sh (.tup (be en::r)),sh (nD a),sh (nD b)]) (dS (by simp) (by omega)) (by rw[List.length_range];omega) λn hn=>⟨_,rfl,by
  have hn:=List.mem_range.mp hn;have f1:=d7 (en:=en) hn;have q:=xt (en.getD n (0,0)) (a,b);simp[-List.getD_eq_getElem?_getD,f1];exact congrArg (λz=>R.bind z asB) q,rfl⟩
 rw[bT,bD,hc];rfl
theorem CC (h:aS en re tb) (s:Nat):cW [.tup (be en::aF re::ai tb::r),nD s]=.val (.tup [am (bo en re s),ai (bH en tb s)]):=by
 simp only[cW,jy];have n40:=h.na40;have n6:=h.nb6;have tl:=h.tl;show fin (sq _ _ [sh (.tup (be en::aF re::ai tb::r)),sh (nD s),none,none,none,none,none])=_;have s1:asg 2 (eLs (a_ (bC (aC (una aJ (bin fix (vb 0) (kd (.int 1)))) aN)) 1 (tgN 7) tT (cal 3 bY (aC (vr 0) (aC (vr 1) (aC (vr 7) aN)))))) [sh (.tup (be en::aF re::ai tb::r)),sh (nD s),none,none,none,none,none]=.val (.nx [sh (.tup (be en::aF re::ai tb::r)),sh (nD s),sh (.lst ((List.range re.length).map λt=>aF (btw en s t))),none,none,none,none]):=by
  have hc:=bw (src:=bC (aC (una aJ (bin fix (vb 0) (kd (.int 1)))) aN)) (n:=1) (i:=7) (e:=cal 3 bY (aC (vr 0) (aC (vr 1) (aC (vr 7) aN)))) (f:=nD) (g:=λt=>aF (btw en s t)) (l:=List.range re.length) (U:=[sh (.tup (be en::aF re::ai tb::r)),sh (nD s),none,none,none,none,none]) (dS (by simp) (by omega)) (by rw[List.length_range];omega) λt _=>by
   have:=u3 (r:=aF re::ai tb::r) h s t;simp[this]
  rw[eD,bD,hc];rfl
 rw[cK s1,aK];show fin (sq _ _ [sh (.tup (be en::aF re::ai tb::r)),sh (nD s),sh (.lst ((List.range re.length).map λt=>aF (btw en s t))),some (.own []),none,none,none])=_;have th:∀t,t<re.length->fix (.lst ((List.range re.length).map λt=>aF (btw en s t))) (.int (t:Int))=.val (aF (btw en s t)):=λt ht=>ia (by simp[ht]);obtain⟨U',e,a4,a5,a6,rfl⟩:=d5 (i:=4) (n:=en.length) (F:=(sq (asT (tg2 5 6) (bin fix (bin fix (vb 0) (kd (.int 0))) (vb 4)))
  (app 3 (eLs (a_ (fIt (bin fix (vb 2) (vb 5))) 1 (tgN 7) tT (sA (bin fix (vb 2) (vb 6)) (bin fix (bin fix (bin fix (vb 0) (kd (.int 2))) (vb 7)) (vb 4)))))))) (λk U=>∃(a4 a5 a6:Option Slt),U=[sh (.tup (be en::aF re::ai tb::r)),sh (nD s),sh (.lst ((List.range re.length).map λt=>aF (btw en s t))),some (.own (((List.range k).map (i8 en tb s)).map am)),a4,a5,a6]) (λk U hk hI=>by
  obtain⟨a4,a5,a6,rfl⟩:=hI;have eb:=h.eb k hk;have fe:=d7 (en:=en) (i:=k) hk;have s2:asT (tg2 5 6) (bin fix (bin fix (vb 0) (kd (.int 0))) (vb 4)) [sh (.tup (be en::aF re::ai tb::r)),sh (nD s),sh (.lst ((List.range re.length).map λt=>aF (btw en s t))),some (.own (((List.range k).map (i8 en tb s)).map am)),sh (nD k),a5,a6]=.val (.nx [sh (.tup (be en::aF re::ai tb::r)),sh (nD s),sh (.lst ((List.range re.length).map λt=>aF (btw en s t))),some (.own (((List.range k).map (i8 en tb s)).map am)),sh (nD k),sh (nD (en.getD k (0,0)).1),sh (nD (en.getD k (0,0)).2)]):=by
   simp[-List.getD_eq_getElem?_getD,fe,bM];rfl
  generalize hw:((List.range k).map (i8 en tb s)).map am=acc at s2 ⊢;have al:acc.length=k:=by rw[<- hw];simp
  have z2:=fm (src:=fIt (bin fix (vb 2) (vb 5))) (n:=1) (i:=7) (e:=sA (bin fix (vb 2) (vb 6)) (bin fix (bin fix (bin fix (vb 0) (kd (.int 2))) (vb 7)) (vb 4))) (f:=nD) (g:=λx=>((btw en s (en.getD k (0,0)).2).idxOf (ent tb x k):Int)) (l:=btw en s (en.getD k (0,0)).1) (U:=[sh (.tup (be en::aF re::ai tb::r)),sh (nD s),sh (.lst ((List.range re.length).map λt=>aF (btw en s t))),some (.own acc),sh (nD k),sh (nD (en.getD k (0,0)).1),sh (nD (en.getD k (0,0)).2)]) (by
    have:=th _ eb.1;exact(congrArg (λz=>R.bind z itD) this).trans rfl) (by have:=eC (en:=en) s (en.getD k (0,0)).1;omega) (λx hx=>by
    obtain⟨x1,x2⟩:=mem_btw.mp hx;obtain⟨q2,q3⟩:=oV h hk hx;have f1:=bx (tb:=tb) (i:=x) (by omega);have f2:=bz (r:=tb.getD x []) (i:=k) (by rw[h.rl x x1];exact hk);rw[q2]at f2;have hj:=sJ (l:=btw en s (en.getD k (0,0)).2) (k:=ent tb x k) q3 (by have:=eC (en:=en) s (en.getD k (0,0)).2;omega);have g1:bin fix (vb 2) (vb 6) ((([sh (.tup (be en::aF re::ai tb::r)),sh (nD s),sh (.lst ((List.range re.length).map λt=>aF (btw en s t))),some (.own acc),sh (nD k),sh (nD (en.getD k (0,0)).1),sh (nD (en.getD k (0,0)).2)]:Rho)++List.replicate 1 none).set 7 (sh (nD x)))=.val (aF (btw en s (en.getD k (0,0)).2)):=th _ eb.2;have g2:bin fix (bin fix (bin fix (vb 0) (kd (.int 2))) (vb 7)) (vb 4) ((([sh (.tup (be en::aF re::ai tb::r)),sh (nD s),sh (.lst ((List.range re.length).map λt=>aF (btw en s t))),some (.own acc),sh (nD k),sh (nD (en.getD k (0,0)).1),sh (nD (en.getD k (0,0)).2)]:Rho)++List.replicate 1 none).set 7 (sh (nD x)))=.val (.int (ent tb x k:Int)):=by
     simp[-List.getD_eq_getElem?_getD,f1,f2]
    rw[sy g1 g2,hj])
  have s3:=jG (i:=3) (U:=[sh (.tup (be en::aF re::ai tb::r)),sh (nD s),sh (.lst ((List.range re.length).map λt=>aF (btw en s t))),some (.own acc),sh (nD k),sh (nD (en.getD k (0,0)).1),sh (nD (en.getD k (0,0)).2)]) rfl z2 (by omega);exact⟨_,(cK s2).trans s3,sh (nD k),sh (nD (en.getD k (0,0)).1),sh (nD (en.getD k (0,0)).2),by rw[List.range_succ,List.map_append,List.map_append,hw];rfl⟩) (U:=[sh (.tup (be en::aF re::ai tb::r)),sh (nD s),sh (.lst ((List.range re.length).map λt=>aF (btw en s t))),some (.own []),none,none,none]) ⟨none,none,none,rfl⟩
 have sr:bC (aC (una aJ (bin fix (vb 0) (kd (.int 0)))) aN) [sh (.tup (be en::aF re::ai tb::r)),sh (nD s),sh (.lst ((List.range re.length).map λt=>aF (btw en s t))),some (.own []),none,none,none]=.val (rng 0 en.length):=by
  rw[gO];exact dS (by simp) (by omega)
 rw[aK,ck,sr,ac,e,ac];dsimp only;have hc:=fm (src:=fIt (vr 2)) (n:=1) (i:=7) (e:=una aJ (vb 7)) (f:=λt=>aF (btw en s t)) (g:=λt=>((btw en s t).length:Int)) (l:=List.range re.length) (U:=[sh (.tup (be en::aF re::ai tb::r)),sh (nD s),sh (.lst ((List.range re.length).map λt=>aF (btw en s t))),sh (ai (bH en tb s)),a4,a5,a6]) rfl (by rw[List.length_range];omega) λt _=>by simp
 rw[xp];show fin (ret _ [sh (.tup (be en::aF re::ai tb::r)),sh (nD s),sh (.lst ((List.range re.length).map λt=>aF (btw en s t))),sh (ai (bH en tb s)),a4,a5,a6])=_;rw[bT,lv,cF,hc,ac];rfl
theorem oO (h:aS en re tb) {ds:List Int} {ns:List (List Int)} (c1:cs.length=re.length) (c2:ms.length=en.length) (d1:ds.length=re.length) (d2:ns.length=en.length) (c3:∀l∈ms,l.length<=1000) (d3:∀l∈ns,l.length<=1000):cM [.tup (be en::aF re::ai tb::r),.tup [am cs,ai ms],.tup [am ds,ai ns]]=.val (.tup [am (Bi cs ds),ai (yI en cs ms ns)]):=by
 have n40:=h.na40;have n6:=h.nb6;simp only[cM,gt];show fin (sq _ _ [sh (.tup (be en::aF re::ai tb::r)),sh (.tup [am cs,ai ms]),sh (.tup [am ds,ai ns]),none,none,none])=_;rw[aK];show fin (sq _ _ [sh (.tup (be en::aF re::ai tb::r)),sh (.tup [am cs,ai ms]),sh (.tup [am ds,ai ns]),some (.own []),none,none])=_;obtain⟨U',e,a4,a5,rfl⟩:=d5 (i:=4) (n:=en.length) (F:=(sq (asg 5 (bin fix (bin fix (vb 1) (kd (.int 0))) (bin fix (bin fix (bin fix (vb 0) (kd (.int 0))) (vb 4)) (kd (.int 1)))))
  (app 3 (bin b_ (bin fix (bin fix (vb 1) (kd (.int 1))) (vb 4)) (eLs (a_ (fIt (bin fix (bin fix (vb 2) (kd (.int 1))) (vb 4))) 1 (tgN 6) tT (bin b_ (vb 6) (vb 5)))))))) (λk U=>∃(a4 a5:Option Slt),U=[sh (.tup (be en::aF re::ai tb::r)),sh (.tup [am cs,ai ms]),sh (.tup [am ds,ai ns]),some (.own (((List.range k).map (qf en cs ms ns)).map am)),a4,a5]) (λk U hk hI=>by
  obtain⟨a4,a5,rfl⟩:=hI;have eb:=h.eb k hk;have fe:=d7 (en:=en) (i:=k) hk;have f1:=bz (r:=cs) (i:=(en.getD k (0,0)).2) (by omega);have f2:=bx (tb:=ms) (i:=k) (by omega);have f3:=bx (tb:=ns) (i:=k) (by omega);have l1:(ms.getD k []).length<=1000:=by rw[ar (show k<ms.length by omega)];exact c3 _ (List.getElem_mem _)
  have l2:(ns.getD k []).length<=1000:=by rw[ar (show k<ns.length by omega)];exact d3 _ (List.getElem_mem _)
  generalize hw:((List.range k).map (qf en cs ms ns)).map am=acc;have al:acc.length=k:=by rw[<- hw];simp
  generalize hv:cs.getD (en.getD k (0,0)).2 (-1)=v at f1;have s2:asg 5 (bin fix (bin fix (vb 1) (kd (.int 0))) (bin fix (bin fix (bin fix (vb 0) (kd (.int 0))) (vb 4)) (kd (.int 1)))) [sh (.tup (be en::aF re::ai tb::r)),sh (.tup [am cs,ai ms]),sh (.tup [am ds,ai ns]),some (.own acc),sh (nD k),a5]=.val (.nx [sh (.tup (be en::aF re::ai tb::r)),sh (.tup [am cs,ai ms]),sh (.tup [am ds,ai ns]),some (.own acc),sh (nD k),sh (.int v)]):=by
   simp[-List.getD_eq_getElem?_getD,fe,f1]
  have z2:=fm (src:=fIt (bin fix (bin fix (vb 2) (kd (.int 1))) (vb 4))) (n:=1) (i:=6) (e:=bin b_ (vb 6) (vb 5)) (f:=D.int) (g:=λx=>x+v) (l:=ns.getD k []) (U:=[sh (.tup (be en::aF re::ai tb::r)),sh (.tup [am cs,ai ms]),sh (.tup [am ds,ai ns]),some (.own acc),sh (nD k),sh (.int v)]) (by
    simp[-List.getD_eq_getElem?_getD,f3];rfl) (by omega) (λx hx=>rfl)
  have s4:bin b_ (bin fix (bin fix (vb 1) (kd (.int 1))) (vb 4)) (eLs (a_ (fIt (bin fix (bin fix (vb 2) (kd (.int 1))) (vb 4))) 1 (tgN 6) tT (bin b_ (vb 6) (vb 5)))) [sh (.tup (be en::aF re::ai tb::r)),sh (.tup [am cs,ai ms]),sh (.tup [am ds,ai ns]),some (.own acc),sh (nD k),sh (.int v)]=.val (am (qf en cs ms ns k)):=by
   rw[bN,z2];have:bin fix (bin fix (vb 1) (kd (.int 1))) (vb 4) [sh (.tup (be en::aF re::ai tb::r)),sh (.tup [am cs,ai ms]),sh (.tup [am ds,ai ns]),some (.own acc),sh (nD k),sh (.int v)]=.val (am (ms.getD k [])):=by
    simp[-List.getD_eq_getElem?_getD,f2]
   rw[this,ac,ac];unfold qf;rw[hv];unfold am b_;dsimp only;rw[if_pos (by rw[List.length_map,List.length_map,List.length_map];show _<=100000;omega),List.map_append]
  have s3:=jG (i:=3) (xs:=acc) (U:=[sh (.tup (be en::aF re::ai tb::r)),sh (.tup [am cs,ai ms]),sh (.tup [am ds,ai ns]),some (.own acc),sh (nD k),sh (.int v)]) rfl s4 (by omega);exact⟨_,(cK s2).trans s3,sh (nD k),sh (.int v),by rw[List.range_succ,List.map_append,List.map_append,hw];rfl⟩) (U:=[sh (.tup (be en::aF re::ai tb::r)),sh (.tup [am cs,ai ms]),sh (.tup [am ds,ai ns]),some (.own []),none,none]) ⟨none,none,rfl⟩
 have sr:bC (aC (una aJ (bin fix (vb 0) (kd (.int 0)))) aN) [sh (.tup (be en::aF re::ai tb::r)),sh (.tup [am cs,ai ms]),sh (.tup [am ds,ai ns]),some (.own []),none,none]=.val (rng 0 en.length):=by
  rw[gO];exact dS (by simp) (by omega)
 rw[aK,ck,sr,ac,e,ac];dsimp only;have hc:=fV (src:=mV (aC (bin fix (vb 1) (kd (.int 0))) (aC (bin fix (vb 2) (kd (.int 0))) aN))) (n:=2) (T:=tg2 6 7) (t:=tT) (e:=bin b_ (vb 6) (vb 7)) (f:=λi=>.tup [.int (cs.getD i 0),.int (ds.getD i 0)]) (g:=λi=>.int (cs.getD i 0+ds.getD i 0)) (p:=λ_=>true) (l:=List.range cs.length) (U:=[sh (.tup (be en::aF re::ai tb::r)),sh (.tup [am cs,ai ms]),sh (.tup [am ds,ai ns]),sh (ai (yI en cs ms ns)),a4,a5]) (by
  have:=qZ (f:=D.int) (g:=D.int) (l:=cs) (m:=ds) (a:=0) (b:=0) (by omega);simp[am,this]) (by rw[List.length_range];omega) λt _=>⟨_,rfl,rfl,rfl⟩
 rw[List.filter_eq_self.mpr λ_ _=>rfl]at hc;rw[xp];show fin (ret _ [sh (.tup (be en::aF re::ai tb::r)),sh (.tup [am cs,ai ms]),sh (.tup [am ds,ai ns]),sh (ai (yI en cs ms ns)),a4,a5])=_;rw[bT,lv,cF,bD,hc,ac,ac,m9];rfl
end
variable {en:List (Nat×Nat)} {re:List Nat} {tb:List (List Int)}
theorem IsR.row (h:aS en re tb) (r:IsR L en re tb cs ms):∀l∈ms,l.length<=L:=by
 intro l hl;obtain⟨i,hi,rfl⟩:=List.mem_iff_getElem.mp hl;have hi':i<en.length:=by rw[<- r.lm];exact hi
 have:=r.ml i hi';rw[ar hi]at this;have:=r.cb _ (h.eb i hi').1;omega
theorem IsR.bd (h:aS en re tb) (r:IsR L en re tb cs ms) (hL:L<=1000):Bd cs ms:=by
 have:=h.nb6;have:=h.na40;exact⟨by rw[r.lc];omega,by rw[r.lm];omega,λl hl=>Nat.le_trans (r.row h l hl) hL⟩
theorem IsR.up {M:Nat} (r:IsR L en re tb cs ms) (hL:L<=M):IsR M en re tb cs ms:=⟨r.lc,r.lm,λb hb=>by have:=r.cb b hb;omega,r.ml,r.mb,r.idn,r.cmp⟩
theorem me (h:0<cs.length):i5 (am cs)=.val (.int (i_ cs)):=by
 unfold i5 am;dsimp only;rw[qz];dsimp only;rw[if_pos h]
variable {A B C:Rho->R D} {c:D} {den:List D->R D}
theorem tx {a b:D} (ha:A U=.val a) (hb:B U=.val b) (hc:C U=.val c) (h:den [a,b,c]=.val x):cal 3 den (aC A (aC B (aC C aN))) U=.val x:=by
 simp[ha,hb,hc,h]
def PK (sz:List Nat) (kn:List Arr):D:=.tup [be (aH kn),aF (aL sz kn),ai (bO kn),.lst (kn.map au),aF sz]
section
variable {sz:List Nat} {kn:List Arr} {ns:List Int}
theorem oN (g:Good sz kn):bS [PK sz kn]=.val (.tup [am (plC sz),ai (plM kn)]):=by
 obtain⟨s1,s4,_⟩:=gE sz g.szm;have few:=g.few;simp only[bS,dG];show fin (ret _ [sh (PK sz kn)])=_;have h1:=bw (src:=fIt (bin fix (vb 0) (kd (.int 4)))) (n:=1) (i:=1) (e:=vr 1) (f:=nD) (g:=nD) (l:=sz) (U:=[sh (PK sz kn)]) rfl (by omega) λa _=>rfl;have h2:=bw (src:=fIt (bin fix (vb 0) (kd (.int 3)))) (n:=1) (i:=1) (e:=eLs (fIt (bin fix (vb 1) (kd (.int 2))))) (f:=au) (g:=λx=>am (fG x.2.2)) (l:=kn) (U:=[sh (PK sz kn)]) rfl (by omega) λa _=>by
  unfold am fG;rw[List.map_map];rfl
 rw[bT,lv,cF,cF,bD,h1,ac,ac,bD,h2,ac,ac,kE];have:D.lst (sz.map nD)=am (plC sz):=by
  unfold am plC fG;rw[List.map_map];rfl
 rw[this];rfl
def rW (ns:List Int) (k:Nat) (P:D) (a3 a4 a5 a6 a7:Option Slt):Rho:=[sh (.scr ns),sh (nD k),sh P,a3,a4,a5,a6,a7]
def onD (re:List Nat) (en:List (Nat×Nat)):D:=.tup [am (re.map λ_=>1),ai (en.map λ_=>[0])]
def noD (re:List Nat) (en:List (Nat×Nat)):D:=.tup [am (re.map λ_=>0),ai (en.map λ_=>[])]
theorem yE (g:Good sz kn) (ns:List Int) (k:Nat):∃cs ms,IsR 40 (aH kn) (aL sz kn) (bO kn) cs ms/\bE [.scr ns,nD k,PK sz kn]=.val (.tup [am cs,ai ms]):=by
 have h:=sE g;have n40:=h.na40;have n6:=h.nb6;have n1:=h.nb1;have pe:=oN g;have pr:=yf g (gE sz g.szm).2.2;obtain⟨c,hc⟩:=jX ns k;obtain⟨c1,hc1⟩:=jX ns (k+1);have hc1:aA [.scr ns,.int ((k:Int)+1)]=.val (.int c1):=hc1;simp only[bE,cR];show ∃cs ms,_/\fin (sq _ _ (rW ns k (PK sz kn) none none none none none))=_;have s3:asg 3 (eT (aC (eLs (a_ (fIt (bin fix (vb 2) (kd (.int 1)))) 1 (tgN 8) tT (kd (.int 1)))) (aC (eLs (a_ (fIt (bin fix (vb 2) (kd (.int 0)))) 1 (tgN 8) tT (eL (aC (kd (.int 0)) aN)))) aN))) (rW ns k (PK sz kn) none none none none none)=.val (.nx (rW ns k (PK sz kn) (sh (onD (aL sz kn) (aH kn))) none none none none)):=by
  have h1:=bw (src:=fIt (bin fix (vb 2) (kd (.int 1)))) (n:=1) (i:=8) (e:=kd (.int 1)) (f:=nD) (g:=λ_=>.int 1) (l:=aL sz kn) (U:=rW ns k (PK sz kn) none none none none none) rfl (by omega) λa _=>rfl;have h2:=bw (src:=fIt (bin fix (vb 2) (kd (.int 0)))) (n:=1) (i:=8) (e:=eL (aC (kd (.int 0)) aN)) (f:=bM) (g:=λ_=>am [0]) (l:=aH kn) (U:=rW ns k (PK sz kn) none none none none none) rfl (by omega) λa _=>rfl;rw[eD,lv,cF,cF,bD,h1,ac,ac,bD,h2,ac,ac,kE,m9];rfl
 have s4:asg 4 (eT (aC (eLs (a_ (fIt (bin fix (vb 2) (kd (.int 1)))) 1 (tgN 8) tT (kd (.int 0)))) (aC (eLs (a_ (fIt (bin fix (vb 2) (kd (.int 0)))) 1 (tgN 8) tT (eL aN))) aN))) (rW ns k (PK sz kn) (sh (onD (aL sz kn) (aH kn))) none none none none)=.val (.nx (rW ns k (PK sz kn) (sh (onD (aL sz kn) (aH kn))) (sh (noD (aL sz kn) (aH kn))) none none none)):=by
  have h1:=bw (src:=fIt (bin fix (vb 2) (kd (.int 1)))) (n:=1) (i:=8) (e:=kd (.int 0)) (f:=nD) (g:=λ_=>.int 0) (l:=aL sz kn) (U:=rW ns k (PK sz kn) (sh (onD (aL sz kn) (aH kn))) none none none none) rfl (by omega) λa _=>rfl;have h2:=bw (src:=fIt (bin fix (vb 2) (kd (.int 0)))) (n:=1) (i:=8) (e:=eL aN) (f:=bM) (g:=λ_=>am []) (l:=aH kn) (U:=rW ns k (PK sz kn) (sh (onD (aL sz kn) (aH kn))) none none none none) rfl (by omega) λa _=>rfl;rw[eD,lv,cF,cF,bD,h1,ac,ac,bD,h2,ac,ac,kE,m9];rfl
 rw[cK s3,cK s4];have ron:=B4 h;have rno:=B6 h;generalize hon:onD (aL sz kn) (aH kn)=on;generalize hno:noD (aL sz kn) (aH kn)=no;unfold onD at hon;unfold noD at hno;generalize hpl:D.tup [am (plC sz),ai (plM kn)]=pl at pe;have s5:asg 5 (cal 1 bS (aC (vr 2) aN)) (rW ns k (PK sz kn) (sh on) (sh no) none none none)=.val (.nx (rW ns k (PK sz kn) (sh on) (sh no) (sh pl) none none)):=by
  unfold rW;simp[pe]
 obtain⟨i,hi,ei⟩:=fo c 5 (by decide);have ei:c%5=(i:Int):=ei;have s6:asg 6 (bin (iI bn) (cal 2 aA (aC (vr 0) (aC (vr 1) aN))) (kd (.int 5))) (rW ns k (PK sz kn) (sh on) (sh no) (sh pl) none none)=.val (.nx (rW ns k (PK sz kn) (sh on) (sh no) (sh pl) (sh (nD i)) none)):=by
  have m:bn c 5=.val (.int (i:Int)):=by rw[c_ (by decide),ei]
  unfold rW;simp[hc,m]
 rw[cK s5,cK s6];have ts:∀(w m:Int),tst (bin feq (vb 6) (kd (.int m))) (rW ns k (PK sz kn) (sh on) (sh no) (sh pl) (sh (.int w)) none)=.val (decide (w=m)):=λw m=>by
  rw[eN,bN];show R.bind (feq (.int w) (.int m)) asB=_;rw[wm];rfl
 have no_:∀(w m:Int) (F G:Rho->R Out),w≠m->sq (DL.iff (tst (bin feq (vb 6) (kd (.int m)))) F nxt) G (rW ns k (PK sz kn) (sh on) (sh no) (sh pl) (sh (.int w)) none)=G (rW ns k (PK sz kn) (sh on) (sh no) (sh pl) (sh (.int w)) none):=λw m F G hn=>by
  rw[aK,bL,ts,ac,if_neg (by rw[decide_eq_false hn];decide)];rfl
 have yes:∀(w m:Int) (F G:Rho->R Out),w=m->sq (DL.iff (tst (bin feq (vb 6) (kd (.int m)))) F nxt) G (rW ns k (PK sz kn) (sh on) (sh no) (sh pl) (sh (.int w)) none)=sq F G (rW ns k (PK sz kn) (sh on) (sh no) (sh pl) (sh (.int w)) none):=λw m F G hm=>by
  rw[aK,bL,ts,ac,if_pos (decide_eq_true hm),aK]
 have hret:∀(F:Rho->R D) (G:Rho->R Out) (U:Rho) (x:D),F U=.val x->fin (sq (ret F) G U)=.val x:=λF G U x e=>by rw[aK,bT,e];rfl
 match i,hi with
 | 0,_ =>
  refine⟨_,_,pr.up (by decide),?_⟩;rw[yes _ _ _ _ (by decide),hpl];exact hret _ _ _ _ rfl
 | 1,_ =>
  have z2:=oO (r:=[.lst (kn.map au),aF sz]) h pr.lc pr.lm ron.lc ron.lm (λl hl=>Nat.le_trans (pr.row h l hl) (by decide)) (λl hl=>Nat.le_trans (ron.row h l hl) (by decide));rw[hon,hpl]at z2;refine⟨_,_,(xO h pr ron).up (by decide),?_⟩;rw[no_ _ _ _ _ (by decide),yes _ _ _ _ (by decide)];refine hret _ _ _ _ ?_;exact tx rfl rfl rfl z2
 | 2,_ =>
  have key:∃ds ns',IsR 1 (aH kn) (aL sz kn) (bO kn) ds ns'/\bin fix (eL (aC (vr 4) (aC (vr 3) aN))) (bin (iI bn) (cal 2 aA (aC (vr 0) (aC (bin b_ (vb 1) (kd (.int 1))) aN))) (kd (.int 2))) (rW ns k (PK sz kn) (sh on) (sh no) (sh pl) (sh (.int 2)) none)=.val (.tup [am ds,ai ns']):=by
   obtain⟨j,hj,ej⟩:=fo c1 2 (by decide);have ej:c1%2=(j:Int):=ej;have m:bn c1 2=.val (.int (j:Int)):=by rw[c_ (by decide),ej]
   have:bin fix (eL (aC (vr 4) (aC (vr 3) aN))) (bin (iI bn) (cal 2 aA (aC (vr 0) (aC (bin b_ (vb 1) (kd (.int 1))) aN))) (kd (.int 2))) (rW ns k (PK sz kn) (sh on) (sh no) (sh pl) (sh (.int 2)) none)=fix (.lst [no,on]) (.int (j:Int)):=by
    unfold rW;simp[hc1,m]
   rw[this]
   match j,hj with
   | 0,_=>exact⟨_,_,rno.up (by decide),by rw[hno];rfl⟩
   | 1,_=>exact⟨_,_,ron,by rw[hon];rfl⟩
  obtain⟨ds,ns',q1,q2⟩:=key;have z2:=oO (r:=[.lst (kn.map au),aF sz]) h ron.lc ron.lm q1.lc q1.lm (λl hl=>Nat.le_trans (ron.row h l hl) (by decide)) (λl hl=>Nat.le_trans (q1.row h l hl) (by decide));rw[hon]at z2;refine⟨_,_,(xO h ron q1).up (by decide),?_⟩;rw[no_ _ _ _ _ (by decide),no_ _ _ _ _ (by decide),yes _ _ _ _ (by decide)];refine hret _ _ _ _ ?_;have q2:bin fix (eL (aC (vr 4) (aC (vr 3) aN))) (bin (iI bn) (cal 2 aA (aC (vr 0) (aC (bin b_ (vb 1) (kd (.int 1))) aN))) (kd (.int 2))) (rW ns k (PK sz kn) (sh on) (sh no) (sh pl) (sh (.int ((2:Nat):Int))) none)=.val (.tup [am ds,ai ns']):=q2;exact tx rfl rfl q2 z2
 | 3,_ =>
  obtain⟨j,hj,ej⟩:=fo c1 (aL sz kn).length (by omega);have m:bn c1 ((aL sz kn).length:Int)=.val (.int (j:Int)):=by rw[c_ (by omega),ej]
  have z2:=CC (r:=[.lst (kn.map au),aF sz]) h j;have zr:IsR 40 (aH kn) (aL sz kn) (bO kn) _ _:=rV (s:=j) h λt _=>Nat.le_trans (eC (en:=aH kn) j t) n40;generalize bo (aH kn) (aL sz kn) j=cs at z2 zr;generalize bH (aH kn) (bO kn) j=ms at z2 zr;have s7:asg 7 (cal 2 cW (aC (vr 2) (aC (bin (iI bn) (cal 2 aA (aC (vr 0) (aC (bin b_ (vb 1) (kd (.int 1))) aN))) (una aJ (bin fix (vb 2) (kd (.int 1))))) aN))) (rW ns k (PK sz kn) (sh on) (sh no) (sh pl) (sh (.int 3)) none)=.val (.nx (rW ns k (PK sz kn) (sh on) (sh no) (sh pl) (sh (.int 3)) (sh (.tup [am cs,ai ms])))) :=by
   unfold rW PK;simp[hc1,m,z2]
  have q1:=zr.lc;have t:tst (bin (iI fle) (una i5 (bin fix (vb 7) (kd (.int 0)))) (kd (.int 3))) (rW ns k (PK sz kn) (sh on) (sh no) (sh pl) (sh (.int 3)) (sh (.tup [am cs,ai ms])))=.val (decide (i_ cs<=3)):=by
   have:=me (cs:=cs) (by omega);unfold rW;simp[this]
  by_cases p:i_ cs<=3
  ·refine⟨cs,ms,zr,?_⟩;rw[no_ _ _ _ _ (by decide),no_ _ _ _ _ (by decide),no_ _ _ _ _ (by decide),yes _ _ _ _ (by decide),aK];rw[show ∀F G,sq (asg 7 (cal 2 cW (aC (vr 2) (aC (bin (iI bn) (cal 2 aA (aC (vr 0) (aC (bin b_ (vb 1) (kd (.int 1))) aN))) (una aJ (bin fix (vb 2) (kd (.int 1))))) aN)))) (sq F G) (rW ns k (PK sz kn) (sh on) (sh no) (sh pl) (sh (.int ((3:Nat):Int))) none)=sq F G (rW ns k (PK sz kn) (sh on) (sh no) (sh pl) (sh (.int 3)) (sh (.tup [am cs,ai ms])))from λF G=>cK s7];rw[aK,bL,t,ac,if_pos (decide_eq_true p)];rfl
  ·refine⟨_,_,pr.up (by decide),?_⟩;rw[hpl,no_ _ _ _ _ (by decide),no_ _ _ _ _ (by decide),no_ _ _ _ _ (by decide),yes _ _ _ _ (by decide),aK];rw[show ∀F G,sq (asg 7 (cal 2 cW (aC (vr 2) (aC (bin (iI bn) (cal 2 aA (aC (vr 0) (aC (bin b_ (vb 1) (kd (.int 1))) aN))) (una aJ (bin fix (vb 2) (kd (.int 1))))) aN)))) (sq F G) (rW ns k (PK sz kn) (sh on) (sh no) (sh pl) (sh (.int ((3:Nat):Int))) none)=sq F G (rW ns k (PK sz kn) (sh on) (sh no) (sh pl) (sh (.int 3)) (sh (.tup [am cs,ai ms])))from λF G=>cK s7];rw[aK,bL,t,ac,if_neg (by rw[decide_eq_false p];decide)];rfl
 | 4,_ =>
  refine⟨_,_,rno.up (by decide),?_⟩;rw[hno,no_ _ _ _ _ (by decide),no_ _ _ _ _ (by decide),no_ _ _ _ _ (by decide),no_ _ _ _ _ (by decide)];rfl
end
abbrev PF:=List (List (Option Int))
def fa (f:PF) (b t:Nat):Option Int:=(f.getD b []).getD t none
def yd (f:PF) (b t:Nat) (g:Int):PF:=f.set b ((f.getD b []).set t (some g))
def Shp (cs:List Int) (n:Nat) (f:PF):Prop:=f.length=n/\∀b,b<n->((f.getD b []).length:Int)=cs.getD b (-1)
variable {f:PF} {t:Nat}
theorem wn {b' t':Nat} {g:Int} (hb:b<f.length) (ht:t<(f.getD b []).length):fa (yd f b t g) b' t'=if b'=b/\t'=t then some g else fa f b' t':=by
 unfold fa yd;by_cases e:b'=b
 ·subst e;rw[List.getD_eq_getElem?_getD (l:=f.set _ _),List.getElem?_set_self hb,Option.getD_some];by_cases e2:t'=t
  ·subst e2;rw[List.getD_eq_getElem?_getD,List.getElem?_set_self ht,if_pos ⟨rfl,rfl⟩];rfl
  ·rw[List.getD_eq_getElem?_getD,List.getElem?_set_ne (by omega),if_neg (by omega),<- List.getD_eq_getElem?_getD]
 ·rw[List.getD_eq_getElem?_getD (l:=f.set _ _),List.getElem?_set_ne (by omega),if_neg (by omega),<- List.getD_eq_getElem?_getD]
theorem Shp.put (s:Shp cs n f) (b t:Nat) (g:Int):Shp cs n (yd f b t g):=by
 refine⟨by unfold yd;rw[List.length_set];exact s.1,λc hc=>?_⟩;unfold yd;by_cases e:c=b
 ·subst e;rw[List.getD_eq_getElem?_getD,List.getElem?_set_self (by rw[s.1];exact hc),Option.getD_some,List.length_set];exact s.2 c hc
 ·rw[List.getD_eq_getElem?_getD,List.getElem?_set_ne (by omega),<- List.getD_eq_getElem?_getD];exact s.2 c hc
def stl (f:PF) (b t:Nat) (g:Int):Option PF:=match fa f b t with
 | none=>some (yd f b t g)
 | some g'=>if g'=g then some f else none
section
variable (en:List (Nat×Nat)) (ms ns:List (List Int)) (box thing goal:Nat)
def aT (a:Nat):Nat:=((ms.getD a []).getD thing (-1)).toNat
def aG (a:Nat):Int:=(ns.getD a []).getD goal (-1)
def tal:List Nat->PF->Option PF
 | [],f=>some f
 | a::l,f=>if(en.getD a (0,0)).1=box then(match stl f (en.getD a (0,0)).2 (aT ms thing a) (aG ns goal a)with
  | some f'=>tal l f'
  | none=>none)else tal l f
end
variable {f':PF}
section
variable {en:List (Nat×Nat)} {ms ns:List (List Int)} {box thing goal:Nat} {cs:List Int} {n:Nat}
theorem vD {g:Int} (s:Shp cs n f) (hb:b<n) (ht:(t:Int)<cs.getD b (-1)) (h:stl f b t g=some f') :
  Shp cs n f'/\(∀c u x,fa f c u=some x->fa f' c u=some x)/\fa f' b t=some g/\∀c u x,fa f' c u=some x->fa f c u=some x\/(c=b/\u=t/\x=g):=by
 have hb':b<f.length:=by rw[s.1];exact hb
 have ht':t<(f.getD b []).length:=by have:=s.2 b hb;omega
 unfold stl at h;cases e:fa f b t with
 | none =>
  rw[e]at h;cases h;refine⟨s.put b t g,λc u x hx=>?_,?_,λc u x hx=>?_⟩
  ·rw[wn hb' ht',if_neg (λz=>by rw[z.1,z.2,e]at hx;cases hx)];exact hx
  ·rw[wn hb' ht',if_pos ⟨rfl,rfl⟩]
  ·rw[wn hb' ht']at hx;by_cases z:c=b/\u=t
   ·rw[if_pos z]at hx;exact .inr ⟨z.1,z.2,(Option.some.inj hx).symm⟩
   ·rw[if_neg z]at hx;exact .inl hx
 | some g' =>
  rw[e]at h;dsimp only at h;by_cases z:g'=g
  ·rw[if_pos z]at h;cases h;exact⟨s,λ_ _ _ hx=>hx,by rw[e,z],λ_ _ _ hx=>.inl hx⟩
  ·rw[if_neg z]at h;cases h
theorem vx:∀{l:List Nat} {f f':PF},Shp cs n f->(∀a∈l,(en.getD a (0,0)).1=box->(en.getD a (0,0)).2<n/\(aT ms thing a:Int)<cs.getD (en.getD a (0,0)).2 (-1))->tal en ms ns box thing goal l f=some f' ->
  Shp cs n f'/\(∀c u x,fa f c u=some x->fa f' c u=some x)/\(∀a∈l,(en.getD a (0,0)).1=box->fa f' (en.getD a (0,0)).2 (aT ms thing a)=some (aG ns goal a)) /\
  ∀c u x,fa f' c u=some x->fa f c u=some x\/∃a∈l,(en.getD a (0,0)).1=box/\c=(en.getD a (0,0)).2/\u=aT ms thing a/\x=aG ns goal a
 | [],f,f',s,_,h=>by
  cases h;exact⟨s,(λ_ _ _ h=>h),(λa ha=>nomatch ha),(λ_ _ _ h=>.inl h)⟩
 | a::l,f,f',s,hv,h=>by
  unfold tal at h;by_cases e:(en.getD a (0,0)).1=box
  ·rw[if_pos e]at h;cases z:stl f (en.getD a (0,0)).2 (aT ms thing a) (aG ns goal a)with
   | none=>rw[z]at h;cases h
   | some f1 =>
    rw[z]at h;obtain⟨v1,v2⟩:=hv a (by simp) e;obtain⟨s1,k1,g1,b1⟩:=vD s v1 v2 z;obtain⟨s2,k2,g2,b2⟩:=vx s1 (λc hc=>hv c (by simp[hc])) h;refine⟨s2,λc u x hx=>k2 c u x (k1 c u x hx),λc hc ec=>?_,λc u x hx=>?_⟩
    ·rcases List.mem_cons.mp hc with rfl|hc
     ·exact k2 _ _ _ g1
     ·exact g2 c hc ec
    ·rcases b2 c u x hx with q|⟨d,hd,q⟩
     ·rcases b1 c u x q with q|q
      ·exact .inl q
      ·exact .inr ⟨a,by simp,e,q⟩
     ·exact .inr ⟨d,by simp[hd],q⟩
  ·rw[if_neg e]at h;obtain⟨s2,k2,g2,b2⟩:=vx s (λc hc=>hv c (by simp[hc])) h;refine⟨s2,k2,λc hc ec=>?_,λc u x hx=>?_⟩
   ·rcases List.mem_cons.mp hc with rfl|hc
    ·exact absurd ec e
    ·exact g2 c hc ec
   ·rcases b2 c u x hx with q|⟨d,hd,q⟩
    ·exact .inl q
    ·exact .inr ⟨d,by simp[hd],q⟩
def Ext (F:Nat->Nat->Int) (f:PF):Prop:=∀b t g,fa f b t=some g->F b t=g
theorem rb {F:Nat->Nat->Int}:∀{l:List Nat} {f:PF},Shp cs n f->(∀a∈l,(en.getD a (0,0)).1=box->(en.getD a (0,0)).2<n/\(aT ms thing a:Int)<cs.getD (en.getD a (0,0)).2 (-1))->Ext F f->(∀a∈l,(en.getD a (0,0)).1=box->F (en.getD a (0,0)).2 (aT ms thing a)=aG ns goal a) ->
  ∃f',tal en ms ns box thing goal l f=some f'/\Ext F f'
 | [],f,_,_,x,_=>⟨f,rfl,x⟩
 | a::l,f,s,hv,x,hF=>by
  unfold tal;by_cases e:(en.getD a (0,0)).1=box
  ·rw[if_pos e];obtain⟨v1,v2⟩:=hv a (by simp) e;have hx:=hF a (by simp) e;have:∃f1,stl f (en.getD a (0,0)).2 (aT ms thing a) (aG ns goal a)=some f1/\Shp cs n f1/\Ext F f1:=by
    cases z:stl f (en.getD a (0,0)).2 (aT ms thing a) (aG ns goal a)with
    | none =>
     exfalso;unfold stl at z;cases y:fa f (en.getD a (0,0)).2 (aT ms thing a)with
     | none=>rw[y]at z;cases z
     | some g' =>
      rw[y]at z;dsimp only at z;by_cases q:g'=aG ns goal a
      ·rw[if_pos q]at z;cases z
      ·exact q (by rw[<- x _ _ _ y,hx])
    | some f1 =>
     obtain⟨s1,_,_,b1⟩:=vD s v1 v2 z;refine⟨f1,rfl,s1,λb t g hg=>?_⟩;rcases b1 b t g hg with q|⟨rfl,rfl,rfl⟩
     ·exact x _ _ _ q
     ·exact hx
   obtain⟨f1,e1,s1,x1⟩:=this;rw[e1];exact rb s1 (λc hc=>hv c (by simp[hc])) x1 λc hc=>hF c (by simp[hc])
  ·rw[if_neg e];exact rb s (λc hc=>hv c (by simp[hc])) x λc hc=>hF c (by simp[hc])
end
section
variable (en:List (Nat×Nat)) (re:List Nat) (cs ds:List Int) (ms ns:List (List Int))
def Ntl (F:Nat->Nat->Int):Prop:=(∀b t:Nat,b<re.length->(t:Int)<cs.getD b (-1)->0<=F b t/\F b t<ds.getD b (-1)) /\
 ∀a t:Nat,a<en.length->(t:Int)<cs.getD (en.getD a (0,0)).1 (-1)->F (en.getD a (0,0)).2 (aT ms t a)=aG ns (F (en.getD a (0,0)).1 t).toNat a
def ClF (f:PF):Prop:=Shp cs re.length f/\(∀b t g,fa f b t=some g->0<=g/\g<ds.getD b (-1))/\∀a t g,a<en.length->fa f (en.getD a (0,0)).1 t=some g->fa f (en.getD a (0,0)).2 (aT ms t a)=some (aG ns g.toNat a)
def Val (b t:Nat):Prop:=b<re.length/\(t:Int)<cs.getD b (-1)
def Bef (b' t' b t:Nat):Prop:=b'<b\/(b'=b/\t'<t)
def FLt (f f':PF):Prop:=∃b t g g',fa f b t=some g/\fa f' b t=some g'/\g<g'/\∀b' t',Bef b' t' b t->Val re cs b' t'->∃v,fa f b' t'=some v/\fa f' b' t'=some v
def ton (b t:Nat) (f:PF):List PF:=if(fa f b t).isSome=true then[f]else(List.range (ds.getD b (-1)).toNat).flatMap λg=>(tal en ms ns b t g (List.range en.length) f).toList
def tOn (b t:Nat) (fs:List PF):List PF:=fs.flatMap (ton en ds ms ns b t)
def FInv (b t:Nat) (fs:List PF):Prop:=(∀f∈fs,ClF en re cs ds ms ns f/\∀b' t',Bef b' t' b t->Val re cs b' t'->∃v,fa f b' t'=some v)/\fs.Pairwise (FLt re cs)/\∀F,Ntl en re cs ds ms ns F->∃f∈fs,Ext F f
end
variable {g:Nat}
section
variable {en:List (Nat×Nat)} {re:List Nat} {tb:List (List Int)} {cs ds:List Int} {ms ns:List (List Int)} {L M:Nat}
theorem Bm (r:IsR L en re tb cs ms) (ha:a<en.length) (ht:(t:Int)<cs.getD (en.getD a (0,0)).1 (-1)):0<=(ms.getD a []).getD t (-1)/\(aT ms t a:Int)<cs.getD (en.getD a (0,0)).2 (-1):=by
 have l:=r.ml a ha;have hl:t<(ms.getD a []).length:=by omega
 have:=r.mb a ha ((ms.getD a []).getD t (-1)) (by rw[ar hl];exact List.getElem_mem hl);unfold aT;omega
theorem GH (q:IsR M en re tb ds ns) (ha:a<en.length) (hg:(g:Int)<ds.getD (en.getD a (0,0)).1 (-1)):0<=aG ns g a/\aG ns g a<ds.getD (en.getD a (0,0)).2 (-1):=by
 have l:=q.ml a ha;have hl:g<(ns.getD a []).length:=by omega
 exact q.mb a ha ((ns.getD a []).getD g (-1)) (by rw[ar hl];exact List.getElem_mem hl)
theorem sH {a b:List Int} (h:t<a.length):(fol a b).getD t (-1)=b.getD (a.getD t (-1)).toNat (-1):=by
 unfold fol;rw[cL (d:=-1) h]
theorem Fl (h:aS en re tb) (r:IsR L en re tb cs ms) (hi:i<en.length) (hj:j<en.length) (e:(tb.getD i []).getD j (-1)=(k:Int)) (ht:(t:Int)<cs.getD (en.getD i (0,0)).1 (-1)):aT ms t k=aT ms (aT ms t i) j:=by
 have l:=r.ml i hi;unfold aT;rw[r.cmp i j k hi hj e,sH (by omega)]
theorem Fm (h:aS en re tb) (q:IsR M en re tb ds ns) (hi:i<en.length) (hj:j<en.length) (e:(tb.getD i []).getD j (-1)=(k:Int)) (hg:(g:Int)<ds.getD (en.getD i (0,0)).1 (-1)):aG ns g k=aG ns (aG ns g i).toNat j:=by
 have l:=q.ml i hi;unfold aG;rw[q.cmp i j k hi hj e,sH (by omega)]
theorem C3 (r:IsR L en re tb cs ms) (hb:b<re.length) (ht:(t:Int)<cs.getD b (-1)):aT ms t (re.getD b 0)=t:=by
 unfold aT;rw[r.idn b hb,t8 (by omega)];omega
theorem C4 (q:IsR M en re tb ds ns) (hb:b<re.length) (hg:(g:Int)<ds.getD b (-1)):aG ns g (re.getD b 0)=(g:Int):=by
 unfold aG;rw[q.idn b hb,t8 (by omega)]
theorem q_ (h:aS en re tb) (r:IsR L en re tb cs ms) (ht:(t:Int)<cs.getD b (-1)):∀a∈List.range en.length,(en.getD a (0,0)).1=b->(en.getD a (0,0)).2<re.length/\(aT ms t a:Int)<cs.getD (en.getD a (0,0)).2 (-1):=λa ha e=>by
 have ha:=List.mem_range.mp ha;exact⟨(h.eb a ha).2,(Bm r ha (by rw[e];exact ht)).2⟩
theorem vy (h:aS en re tb) (r:IsR L en re tb cs ms) (q:IsR M en re tb ds ns) (c:ClF en re cs ds ms ns f) (hb:b<re.length) (ht:(t:Int)<cs.getD b (-1)) (hg:(g:Int)<ds.getD b (-1)) (e:tal en ms ns b t g (List.range en.length) f=some f') :
  ClF en re cs ds ms ns f'/\fa f' b t=some (g:Int)/\∀c u x,fa f c u=some x->fa f' c u=some x:=by
 obtain⟨s,cv,cc⟩:=c;obtain⟨s2,k2,g2,b2⟩:=vx s (q_ h r ht) e;obtain⟨q1,q2⟩:=h.rs b hb;have at_:fa f' b t=some (g:Int):=by
  have:=g2 (re.getD b 0) (List.mem_range.mpr q1) (by rw[q2]);rw[q2,C3 r hb ht,C4 q hb hg]at this;exact this
 refine⟨⟨s2,λc u x hx=>?_,λa u x ha hx=>?_⟩,at_,k2⟩
 ·rcases b2 c u x hx with z|⟨a,ha,e1,rfl,rfl,rfl⟩
  ·exact cv c u x z
  ·exact GH q (List.mem_range.mp ha) (by rw[e1];exact hg)
 ·rcases b2 _ u x hx with z|⟨i,hi,e1,e2,rfl,rfl⟩
  ·exact k2 _ _ _ (cc a u x ha z)
  ·have hi:=List.mem_range.mp hi;obtain⟨k,hk,e3,e4⟩:=h.tp i a hi ha e2.symm;have:=g2 k (List.mem_range.mpr hk) (by rw[e4,<- e1]);rw[e4]at this;rw[<- Fl h r hi ha e3 (by rw[e1];exact ht),<- Fm h q hi ha e3 (by rw[e1];exact hg)];exact this
theorem q9 (h:aS en re tb) (r:IsR L en re tb cs ms) (q:IsR M en re tb ds ns) (c:ClF en re cs ds ms ns f) (hb:b<re.length) (ht:(t:Int)<cs.getD b (-1)) (hm:f'∈ton en ds ms ns b t f) :
  ClF en re cs ds ms ns f'/\(∃v,fa f' b t=some v)/\∀c u x,fa f c u=some x->fa f' c u=some x:=by
 unfold ton at hm;by_cases e:(fa f b t).isSome=true
 ·rw[if_pos e]at hm;obtain rfl:=List.mem_singleton.mp hm;exact⟨c,Option.isSome_iff_exists.mp e,λ_ _ _ x=>x⟩
 ·rw[if_neg e]at hm;obtain⟨g,hg,hm⟩:=List.mem_flatMap.mp hm;have hg:=List.mem_range.mp hg;obtain⟨a1,a2,a3⟩:=vy h r q c hb ht (by omega) (Option.mem_toList.mp hm);exact⟨a1,⟨_,a2⟩,a3⟩
theorem FLt.up {g g':PF} (l:FLt re cs f f') (h1:∀c u x,fa f c u=some x->fa g c u=some x) (h2:∀c u x,fa f' c u=some x->fa g' c u=some x):FLt re cs g g':=by
 obtain⟨b,t,x,x',e1,e2,e3,e4⟩:=l;refine⟨b,t,x,x',h1 _ _ _ e1,h2 _ _ _ e2,e3,λb' t' hb hv=>?_⟩;obtain⟨v,v1,v2⟩:=e4 b' t' hb hv;exact⟨v,h1 _ _ _ v1,h2 _ _ _ v2⟩
theorem Bx (h:aS en re tb) (r:IsR L en re tb cs ms) (q:IsR M en re tb ds ns) {fs:List PF} (hb:b<re.length) (ht:(t:Int)<cs.getD b (-1)) (I:FInv en re cs ds ms ns b t fs):FInv en re cs ds ms ns b (t+1) (tOn en ds ms ns b t fs):=by
 obtain⟨i1,i2,i3⟩:=I;refine⟨λf' hf=>?_,?_,λF hF=>?_⟩
 ·obtain⟨f,hf,hm⟩:=List.mem_flatMap.mp hf;obtain⟨c,hs⟩:=i1 f hf;obtain⟨a1,a2,a3⟩:=q9 h r q c hb ht hm;refine⟨a1,λb' t' hB hv=>?_⟩;by_cases e:b'=b/\t'=t
  ·rw[e.1,e.2];exact a2
  ·obtain⟨v,hv⟩:=hs b' t' (by unfold Bef at *;omega) hv;exact⟨v,a3 _ _ _ hv⟩
 ·unfold tOn;rw[List.pairwise_flatMap];refine⟨λf hf=>?_,?_⟩
  ·obtain⟨c,hs⟩:=i1 f hf;unfold ton;by_cases e:(fa f b t).isSome=true
   ·rw[if_pos e];exact List.pairwise_singleton _ _
   ·rw[if_neg e,List.pairwise_flatMap];refine⟨λg _=>?_,?_⟩
    ·cases tal en ms ns b t g (List.range en.length) f with
     | none=>exact List.Pairwise.nil
     | some x=>exact List.pairwise_singleton _ _
    ·refine List.Pairwise.imp_of_mem ?_ (List.pairwise_lt_range (n:=(ds.getD b (-1)).toNat));intro g g' hg hg' hlt x hx y hy;have hg:=List.mem_range.mp hg;have hg':=List.mem_range.mp hg';obtain⟨x1,x2,x3⟩:=vy h r q c hb ht (by omega) (Option.mem_toList.mp hx);obtain⟨y1,y2,y3⟩:=vy h r q c hb ht (by omega) (Option.mem_toList.mp hy);refine⟨b,t,_,_,x2,y2,by omega,λb' t' hB hv=>?_⟩;obtain⟨v,hv⟩:=hs b' t' hB hv;exact⟨v,x3 _ _ _ hv,y3 _ _ _ hv⟩
  ·refine List.Pairwise.imp_of_mem ?_ i2;intro f f' hf hf' hl x hx y hy;obtain⟨_,_,x3⟩:=q9 h r q (i1 f hf).1 hb ht hx;obtain⟨_,_,y3⟩:=q9 h r q (i1 f' hf').1 hb ht hy;exact hl.up x3 y3
 ·obtain⟨f,hf,x⟩:=i3 F hF;have c:=(i1 f hf).1;by_cases e:(fa f b t).isSome=true
  ·exact⟨f,List.mem_flatMap.mpr ⟨f,hf,by unfold ton;rw[if_pos e];exact List.mem_singleton.mpr rfl⟩,x⟩
  ·have bd:=hF.1 b t hb ht;obtain⟨f',e',x'⟩:=rb (goal:=(F b t).toNat) (ns:=ns) c.1 (q_ h r ht) x λa ha ea=>by
    have ha:=List.mem_range.mp ha;have:=hF.2 a t ha (by rw[ea];exact ht);rw[ea]at this;exact this
   refine⟨f',List.mem_flatMap.mpr ⟨f,hf,?_⟩,x'⟩;unfold ton;rw[if_neg e];exact List.mem_flatMap.mpr ⟨(F b t).toNat,List.mem_range.mpr (by omega),by rw[e'];exact Option.mem_toList.mpr rfl⟩
theorem FInv.next {fs:List PF} (I:FInv en re cs ds ms ns b (cs.getD b (-1)).toNat fs):FInv en re cs ds ms ns (b+1) 0 fs:=by
 refine⟨λf hf=>⟨(I.1 f hf).1,λb' t' hB hv=>(I.1 f hf).2 b' t' ?_ hv⟩,I.2⟩;have:=hv.2;unfold Bef at *;by_cases e:b'=b
 ·subst e;omega
 ·omega
def f0 (cs:List Int):PF:=cs.map λc=>List.replicate c.toNat none
theorem AI:fa (f0 cs) b t=none:=by
 unfold fa f0;by_cases hb:b<cs.length
 ·rw[List.getD_eq_getElem?_getD (l:=cs.map _),List.getElem?_map,List.getElem?_eq_getElem hb];show(List.replicate _ none).getD t none=none;rw[List.getD_eq_getElem?_getD];by_cases ht:t<cs[b].toNat
  ·rw[List.getElem?_eq_getElem (by simpa using ht),List.getElem_replicate];rfl
  ·rw[List.getElem?_eq_none (by simpa using ht)];rfl
 ·rw[List.getD_eq_getElem?_getD (l:=cs.map _),List.getElem?_eq_none (by simpa using hb)];rfl
theorem E1 (r:IsR L en re tb cs ms):FInv en re cs ds ms ns 0 0 [f0 cs]:=by
 refine⟨λf hf=>?_,List.pairwise_singleton _ _,λF _=>⟨_,List.mem_singleton.mpr rfl,λb t g e=>by rw[AI]at e;cases e⟩⟩;obtain rfl:=List.mem_singleton.mp hf;refine⟨⟨⟨by unfold f0;rw[List.length_map,r.lc],λb hb=>?_⟩,(λb t g e=>by rw[AI]at e;cases e),(λa t g _ e=>by rw[AI]at e;cases e)⟩,(λb' t' hB=>by unfold Bef at hB;omega)⟩;have:=r.cb b hb;unfold f0;have hb':b<cs.length:=by rw[r.lc];exact hb
 rw[List.getD_eq_getElem?_getD (l:=cs.map _),List.getElem?_map,List.getElem?_eq_getElem hb'];show((List.replicate cs[b].toNat none).length:Int)=_;rw[List.length_replicate,ar hb'];rw[ar hb']at this;omega
def ig (en:List (Nat×Nat)) (cs ds:List Int) (ms ns:List (List Int)):Nat->List PF
 | 0=>[f0 cs]
 | b+1=>(List.range (cs.getD b (-1)).toNat).foldl (λfs t=>tOn en ds ms ns b t fs) (ig en cs ds ms ns b)
theorem rH (h:aS en re tb) (r:IsR L en re tb cs ms) (q:IsR M en re tb ds ns) {b:Nat} (hb:b<re.length) {fs:List PF} (I:FInv en re cs ds ms ns b 0 fs):∀k:Nat,(k:Int)<=cs.getD b (-1)->FInv en re cs ds ms ns b k ((List.range k).foldl (λfs t=>tOn en ds ms ns b t fs) fs)
 | 0,_=>I
 | k+1,hk=>by
  rw[List.range_succ,List.foldl_append];exact Bx h r q hb (by omega) (rH h r q hb I k (by omega))
theorem jd (h:aS en re tb) (r:IsR L en re tb cs ms) (q:IsR M en re tb ds ns):∀b:Nat,b<=re.length->FInv en re cs ds ms ns b 0 (ig en cs ds ms ns b)
 | 0,_=>E1 r
 | b+1,hb=>by
  have:=r.cb b (by omega);exact(rH h r q (by omega) (jd h r q b (by omega)) (cs.getD b (-1)).toNat (by omega)).next
end
def gI (G:List (List Int)) (b t:Nat):Int:=(G.getD b []).getD t (-1)
def Shw (cs:List Int) (n:Nat) (G:List (List Int)):Prop:=G.length=n/\∀b,b<n->((G.getD b []).length:Int)=cs.getD b (-1)
def tot (f:PF):List (List Int):=f.map λl=>l.map λo=>o.getD (-1)
theorem y8:(tot f).getD b []=(f.getD b []).map λo=>o.getD (-1):=by
 unfold tot;rw[List.getD_eq_getElem?_getD,List.getElem?_map,List.getD_eq_getElem?_getD];cases f[b]?<;>rfl
theorem lL {v:Int} (h:fa f b t=some v):gI (tot f) b t=v:=by
 unfold gI;rw[y8,List.getD_eq_getElem?_getD,List.getElem?_map];unfold fa at h;rw[List.getD_eq_getElem?_getD]at h;cases e:(f.getD b [])[t]? with
 | none=>rw[e]at h;cases h
 | some o=>rw[e]at h;dsimp at h;rw[h];rfl
theorem Shp.tot {cs:List Int} {n:Nat} {f:PF} (s:Shp cs n f):Shw cs n (tot f):=by
 refine⟨by unfold DL.tot;rw[List.length_map];exact s.1,λb hb=>?_⟩;rw[y8,List.length_map];exact s.2 b hb
variable {G:List (List Int)}
theorem Shw.ext {H:List (List Int)} (s:Shw cs n G) (s':Shw cs n H) (h:∀b t:Nat,b<n->(t:Int)<cs.getD b (-1)->gI G b t=gI H b t):G=H:=by
 apply List.ext_getElem (by rw[s.1,s'.1]);intro b h1 h2;have hb:b<n:=by rw[<- s.1];exact h1
 have e1:=s.2 b hb;have e2:=s'.2 b hb;rw[ar h1]at e1;rw[ar h2]at e2;apply List.ext_getElem (by omega);intro t t1 t2;have:=h b t hb (by omega);unfold gI at this;rw[ar h1,ar h2,ar t1,ar t2]at this;exact this
section
variable (en:List (Nat×Nat)) (re:List Nat) (cs ds:List Int) (ms ns:List (List Int))
def IsC (G:List (List Int)):Prop:=Shw cs re.length G/\Ntl en re cs ds ms ns (gI G)
def m6:List (List (List Int)):=(ig en cs ds ms ns re.length).map tot
end
variable {s:Nat}
section
variable {en:List (Nat×Nat)} {re:List Nat} {tb:List (List Int)} {cs ds:List Int} {ms ns:List (List Int)} {L M:Nat}
theorem nn (I:FInv en re cs ds ms ns re.length 0 (ig en cs ds ms ns re.length)) (hf:f∈ig en cs ds ms ns re.length) (hb:b<re.length) (ht:(t:Int)<cs.getD b (-1)):∃v,fa f b t=some v:=(I.1 f hf).2 b t (.inl hb) ⟨hb,ht⟩
theorem uG (h:aS en re tb) (r:IsR L en re tb cs ms) (q:IsR M en re tb ds ns):G∈m6 en re cs ds ms ns↔IsC en re cs ds ms ns G:=by
 have I:=jd h r q re.length (Nat.le_refl _);unfold m6;rw[List.mem_map];constructor
 ·rintro⟨f,hf,rfl⟩;obtain⟨s,cv,cc⟩:=(I.1 f hf).1;refine⟨s.tot,λb t hb ht=>?_,λa t ha ht=>?_⟩
  ·obtain⟨v,hv⟩:=nn I hf hb ht;rw[lL hv];exact cv _ _ _ hv
  ·obtain⟨v,hv⟩:=nn I hf (h.eb a ha).1 ht;rw[lL hv,lL (cc a t v ha hv)]
 ·rintro⟨s,hn⟩;obtain⟨f,hf,x⟩:=I.2.2 _ hn;refine⟨f,hf,(I.1 f hf).1.1.tot.ext s λb t hb ht=>?_⟩;obtain⟨v,hv⟩:=nn I hf hb ht;rw[lL hv,x _ _ _ hv]
theorem C2 (h:aS en re tb) (r:IsR L en re tb cs ms) (q:IsR M en re tb ds ns):(m6 en re cs ds ms ns).Nodup:=by
 have I:=jd h r q re.length (Nat.le_refl _);unfold m6;rw[List.Nodup,List.pairwise_map];refine I.2.1.imp ?_;rintro f f' ⟨b,t,g,g',e1,e2,e3,_⟩ e;have:=lL e1;rw[e,lL e2]at this;omega
theorem yO (h:aS en re tb) (r:IsR L en re tb cs ms) (q:IsR M en re tb ds ns) {Gs:List (List (List Int))} (nd:Gs.Nodup) (hG:∀G,G∈Gs↔IsC en re cs ds ms ns G):(m6 en re cs ds ms ns).Perm Gs :=
 (List.perm_ext_iff_of_nodup (C2 h r q) nd).mpr λG=>(uG h r q).trans (hG G).symm
theorem IsC.pos (c:IsC en re cs ds ms ns G):∀l∈G,∀i∈l,(0:Int)<=i:=by
 intro l hl i hi;obtain⟨b,hb,rfl⟩:=List.mem_iff_getElem.mp hl;obtain⟨t,ht,rfl⟩:=List.mem_iff_getElem.mp hi;have hb':b<re.length:=by rw[<- c.1.1];exact hb
 have e:=c.1.2 b hb';rw[ar hb]at e;have:=(c.2.1 b t hb' (by omega)).1;unfold gI at this;rw[ar hb,ar ht]at this;exact this
theorem nU (hb:b<re.length):(bo en re s).getD b (-1)=((btw en s b).length:Int):=kL hb
end
theorem sP {f:Y->D} (l:List Y) (d:Y):enu 0 (l.map f)=(List.range l.length).map λi=>.tup [nD i,f (l.getD i d)]:=by
 rw[ln,List.length_map];apply List.map_congr_left;intro i hi;have hi:=List.mem_range.mp hi;rw[Nat.zero_add,ar (show i<(l.map f).length by simpa using hi),ar hi,List.getElem_map]
theorem vk {a:D} (ha:A U=.val a) (h:den [a]=.val x):cal 1 den (aC A aN) U=.val x:=by
 simp[ha,h]
theorem jc {a b:D} (ha:A U=.val a) (hb:B U=.val b) (h:den [a,b]=.val x):cal 2 den (aC A (aC B aN)) U=.val x:=by
 simp[ha,hb,h]
variable {E:Rho->R D}
theorem CV {a b e:D} (ha:A U=.val a) (hb:B U=.val b) (hc:C U=.val c) (he:E U=.val e) (h:den [a,b,c,e]=.val x):cal 4 den (aC A (aC B (aC C (aC E aN)))) U=.val x:=by
 simp[ha,hb,hc,he,h]
theorem Hv {a b e f:D} (ha:A U=.val a) (hb:B U=.val b) (hc:C U=.val c) (he:E U=.val e) (hf:F U=.val f) (h:den [a,b,c,e,f]=.val x):cal 5 den (aC A (aC B (aC C (aC E (aC F aN))))) U=.val x:=by
 simp[ha,hb,hc,he,hf,h]
theorem cS {e:Rho->R D} (h:e U=.val x):asg i e U=.val (.nx (U.set i (sh x))):=by rw[eD,h];rfl
theorem jw {e:Rho->R D} (h:e U=.val x):drp e U=.val (.nx U):=by rw[Ff,h];rfl
theorem eQ {t:Rho->R Bool} {a:Rho->R Out} (h:t U=.val false):DL.iff t a nxt U=.val (.nx U):=by rw[bL,h];rfl
variable {th:Nat}
section
variable {en:List (Nat×Nat)} {re:List Nat} {tb:List (List Int)} {cs:List Int} {ms:List (List Int)} {L:Nat}
theorem fT (hb:b<re.length):bA [hlD en re tb,nD b]=.val .non:=by
 simp only[bA,gZ];show fin (DL.iff _ _ _ [sh (hlD en re tb),sh (nD b)])=_;have:=ic hb;simp[this]
theorem kx (h:aS en re tb) (ha:a<re.length) (hb:b<re.length):bZ [hlD en re tb,nD a,nD b]=.val (aF (btw en a b)):=by
 simp only[bZ,jA];show fin (sq _ _ [sh (hlD en re tb),sh (nD a),sh (nD b)])=_;have n40:=h.na40;have e1:drp (cal 2 bA (aC (vr 0) (aC (vr 1) aN))) [sh (hlD en re tb),sh (nD a),sh (nD b)]=.val (.nx [sh (hlD en re tb),sh (nD a),sh (nD b)]):=jw (jc rfl rfl (fT ha));have e2:drp (cal 2 bA (aC (vr 0) (aC (vr 2) aN))) [sh (hlD en re tb),sh (nD a),sh (nD b)]=.val (.nx [sh (hlD en re tb),sh (nD a),sh (nD b)]):=jw (jc rfl rfl (fT hb));rw[cK e1,cK e2];have hc:=fV (src:=eE (aC (una (du 0) (vb 0)) aN)) (n:=2) (T:=tg2 3 4) (t:=tst (bin feq (vb 4) (eT (aC (vr 1) (aC (vr 2) aN))))) (e:=vr 3) (f:=λi=>.tup [nD i,bM (en.getD i (0,0))]) (g:=nD) (p:=λn=>decide (en.getD n (0,0)=(a,b))) (l:=List.range en.length) (U:=[sh (hlD en re tb),sh (nD a),sh (nD b)]) (by
  rw[<- sP (f:=bM) en (0,0)];rfl) (by rw[List.length_range];omega) λn hn=>⟨_,rfl,by
  have q:=xt (en.getD n (0,0)) (a,b);exact congrArg (λz=>R.bind z asB) q,rfl⟩
 rw[bT,bD,hc];rfl
theorem da (h:aS en re tb) (r:IsR 40 en re tb cs ms):bf [hlD en re tb,.tup [am cs,ai ms]]=.val .non:=by
 simp only[bf,d_];show fin (DL.iff _ _ _ [sh (hlD en re tb),sh (.tup [am cs,ai ms])])=_;have e:=qb h (r.bd h (by decide));rw[r.tru h (by decide)]at e;have e2:cal 3 cw (aC (vr 0) (aC (bin fix (vb 1) (kd (.int 0))) (aC (bin fix (vb 1) (kd (.int 1))) aN))) [sh (hlD en re tb),sh (.tup [am cs,ai ms])]=.val (.bl true):=tx (a:=hlD en re tb) (b:=am cs) (c:=ai ms) rfl rfl rfl e;have t:orB (tst (bin fne (una aJ (vb 1)) (kd (.int 2)))) (dP (tst (cal 3 cw (aC (vr 0) (aC (bin fix (vb 1) (kd (.int 0))) (aC (bin fix (vb 1) (kd (.int 1))) aN)))))) [sh (hlD en re tb),sh (.tup [am cs,ai ms])]=.val false:=by
  rw[vT,jT,eN _ (cal 3 _ _),e2];rfl
 rw[eQ t];rfl
def led (en:List (Nat×Nat)) (ms:List (List Int)) (b o th:Nat):List Int:=(btw en b o).map λa=>(ms.getD a []).getD th (-1)
def chg (en:List (Nat×Nat)) (re:List Nat) (ms:List (List Int)) (b th:Nat):List (List Int):=(List.range re.length).map λo=>led en ms b o th
theorem rG (r:IsR L en re tb cs ms) (ha:a∈btw en b o) (ht:(th:Int)<cs.getD b (-1)):a<en.length/\th<(ms.getD a []).length:=by
 obtain⟨a1,a2⟩:=mem_btw.mp ha;have:=r.ml a a1;rw[a2]at this;dsimp only at this;exact⟨a1,by omega⟩
theorem yD (h:aS en re tb) (r:IsR L en re tb cs ms) (hb:b<re.length) (ho:o<re.length) (ht:(th:Int)<cs.getD b (-1)):fW [hlD en re tb,nD b,nD o,ai ms,nD th]=.val (am (led en ms b o th)):=by
 simp only[fW,kB];show fin (ret (eLs _) [sh (hlD en re tb),sh (nD b),sh (nD o),sh (ai ms),sh (nD th)])=_;have n40:=h.na40;have e1:cal 3 bZ (aC (vr 0) (aC (vr 1) (aC (vr 2) aN))) [sh (hlD en re tb),sh (nD b),sh (nD o),sh (ai ms),sh (nD th)]=.val (aF (btw en b o)):=tx rfl rfl rfl (kx h hb ho);rw[bT,fm (f:=nD) (g:=λa=>(ms.getD a []).getD th (-1)) (l:=btw en b o) (by rw[AK,e1];rfl) (by have:=eC (en:=en) b o;omega) λa ha=>?_]
 ·rfl
 ·obtain⟨a1,a2⟩:=rG r ha ht;have f1:=bx (tb:=ms) (i:=a) (by rw[r.lm];exact a1);have f2:=bz (r:=ms.getD a []) a2;simp[-List.getD_eq_getElem?_getD,f1,f2]
theorem sO (h:aS en re tb) (r:IsR 40 en re tb cs ms) (hb:b<re.length) (ht:(th:Int)<cs.getD b (-1)):d8 [hlD en re tb,nD b,.tup [am cs,ai ms],nD th]=.val (ai (chg en re ms b th)):=by
 simp only[d8,g8];show fin (sq _ _ [sh (hlD en re tb),sh (nD b),sh (.tup [am cs,ai ms]),sh (nD th)])=_;have n6:=h.nb6;have e1:drp (cal 2 bA (aC (vr 0) (aC (vr 1) aN))) [sh (hlD en re tb),sh (nD b),sh (.tup [am cs,ai ms]),sh (nD th)]=.val (.nx [sh (hlD en re tb),sh (nD b),sh (.tup [am cs,ai ms]),sh (nD th)]):=jw (jc rfl rfl (fT hb));have e2:drp (cal 2 bf (aC (vr 0) (aC (vr 2) aN))) [sh (hlD en re tb),sh (nD b),sh (.tup [am cs,ai ms]),sh (nD th)]=.val (.nx [sh (hlD en re tb),sh (nD b),sh (.tup [am cs,ai ms]),sh (nD th)]):=jw (jc rfl rfl (da h r));have e3:DL.iff (dP (tst (cal 2 bm (aC (vr 3) (aC (bin fix (bin fix (vb 2) (kd (.int 0))) (vb 1)) aN))))) bad nxt [sh (hlD en re tb),sh (nD b),sh (.tup [am cs,ai ms]),sh (nD th)]=.val (.nx [sh (hlD en re tb),sh (nD b),sh (.tup [am cs,ai ms]),sh (nD th)]):=by
  have f:=bz (r:=cs) (i:=b) (by rw[r.lc];exact hb);have q:=js (th:Int) (cs.getD b (-1));rw[decide_eq_true (Int.natCast_nonneg th),decide_eq_true ht]at q;have c:cal 2 bm (aC (vr 3) (aC (bin fix (bin fix (vb 2) (kd (.int 0))) (vb 1)) aN)) [sh (hlD en re tb),sh (nD b),sh (.tup [am cs,ai ms]),sh (nD th)]=.val (.bl true):=jc (a:=nD th) rfl f q;refine eQ ?_;rw[jT,eN,c];rfl
 rw[cK e1,cK e2,cK e3];have hc:=bw (src:=bC (aC (una aJ (una (du 1) (vb 0))) aN)) (n:=1) (i:=4) (e:=cal 5 fW (aC (vr 0) (aC (vr 1) (aC (vr 4) (aC (bin fix (vb 2) (kd (.int 1))) (aC (vr 3) aN)))))) (f:=nD) (g:=λo=>am (led en ms b o th)) (l:=List.range re.length) (U:=[sh (hlD en re tb),sh (nD b),sh (.tup [am cs,ai ms]),sh (nD th)]) (dS (by simp) (by omega)) (by rw[List.length_range];omega) λo ho=>by
  have ho:=List.mem_range.mp ho;exact Hv (e:=ai ms) rfl rfl rfl rfl rfl (yD h r hb ho ht)
 rw[bT,bD,hc,ac,kE];rfl
end
section
variable {en:List (Nat×Nat)} {re:List Nat} {tb:List (List Int)} {cs:List Int} {ms:List (List Int)} {L:Nat}
def thD (en:List (Nat×Nat)) (re:List Nat) (s:Nat):D:=.lst ((List.range re.length).map λt=>aF (btw en s t))
theorem AA (ht:t<re.length):fix (thD en re s) (.int (t:Int))=.val (aF (btw en s t)):=ia (by simp[ht])
theorem qa (h:aS en re tb) (hk:k<en.length):cr [hlD en re tb,thD en re s,nD k]=.val (am (i8 en tb s k)):=by
 simp only[cr,gp];show fin (sq _ _ [sh (hlD en re tb),sh (thD en re s),sh (nD k),none])=_;have n40:=h.na40;have tl:=h.tl;have eb:=h.eb k hk;have s1:asg 3 (bin fix (una (du 0) (vb 0)) (vb 2)) [sh (hlD en re tb),sh (thD en re s),sh (nD k),none]=.val (.nx [sh (hlD en re tb),sh (thD en re s),sh (nD k),sh (bM (en.getD k (0,0)))]):=cS (d7 (en:=en) hk);rw[cK s1,bT];have g0:bin fix (vb 1) (bin fix (vb 3) (kd (.int 0))) [sh (hlD en re tb),sh (thD en re s),sh (nD k),sh (bM (en.getD k (0,0)))]=.val (aF (btw en s (en.getD k (0,0)).1)):=AA eb.1;rw[fm (f:=nD) (g:=λx=>((btw en s (en.getD k (0,0)).2).idxOf (ent tb x k):Int)) (l:=btw en s (en.getD k (0,0)).1) (by rw[AK,g0];rfl) (by have:=eC (en:=en) s (en.getD k (0,0)).1;omega) λx hx=>by
  obtain⟨x1,x2⟩:=mem_btw.mp hx;obtain⟨q2,q3⟩:=oV h hk hx;have f1:=bx (tb:=tb) (i:=x) (by omega);have f2:=bz (r:=tb.getD x []) (i:=k) (by rw[h.rl x x1];exact hk);rw[q2]at f2;have hj:=sJ (l:=btw en s (en.getD k (0,0)).2) (k:=ent tb x k) q3 (by have:=eC (en:=en) s (en.getD k (0,0)).2;omega);have g1:bin fix (vb 1) (bin fix (vb 3) (kd (.int 1))) [sh (hlD en re tb),sh (thD en re s),sh (nD k),sh (bM (en.getD k (0,0))),sh (nD x)]=.val (aF (btw en s (en.getD k (0,0)).2)):=AA eb.2;have g2:bin fix (bin fix (una (du 2) (vb 0)) (vb 4)) (vb 2) [sh (hlD en re tb),sh (thD en re s),sh (nD k),sh (bM (en.getD k (0,0))),sh (nD x)]=.val (.int (ent tb x k:Int)):=by
   simp[-List.getD_eq_getElem?_getD,f1,f2]
  exact(sy g1 g2).trans hj]
 rfl
theorem qE (h:aS en re tb) (hs:s<re.length):dI [hlD en re tb,nD s]=.val (.tup [am (bo en re s),ai (bH en tb s)]):=by
 simp only[dI,kz];show fin (sq _ _ [sh (hlD en re tb),sh (nD s),none,none,none])=_;have n40:=h.na40;have n6:=h.nb6;have s1:asg 2 (eLs (a_ (bC (aC (una aJ (una (du 1) (vb 0))) aN)) 1 (tgN 5) tT (cal 3 bZ (aC (vr 0) (aC (vr 1) (aC (vr 5) aN)))))) [sh (hlD en re tb),sh (nD s),none,none,none]=.val (.nx [sh (hlD en re tb),sh (nD s),sh (thD en re s),none,none]):=by
  have hc:=bw (src:=bC (aC (una aJ (una (du 1) (vb 0))) aN)) (n:=1) (i:=5) (e:=cal 3 bZ (aC (vr 0) (aC (vr 1) (aC (vr 5) aN)))) (f:=nD) (g:=λt=>aF (btw en s t)) (l:=List.range re.length) (U:=[sh (hlD en re tb),sh (nD s),none,none,none]) (dS (by simp) (by omega)) (by rw[List.length_range];omega) λt ht=>tx rfl rfl rfl (kx h hs (List.mem_range.mp ht));refine cS ?_;rw[bD,hc];rfl
 have s2:asg 3 (eLs (a_ (fIt (vr 2)) 1 (tgN 5) tT (una aJ (vb 5)))) [sh (hlD en re tb),sh (nD s),sh (thD en re s),none,none]=.val (.nx [sh (hlD en re tb),sh (nD s),sh (thD en re s),sh (am (bo en re s)),none]):=by
  refine cS (fm (f:=λt=>aF (btw en s t)) (g:=λt=>((btw en s t).length:Int)) (l:=List.range re.length) rfl (by rw[List.length_range];omega) λt _=>by simp)
 have s3:asg 4 (eLs (a_ (bC (aC (una aJ (una (du 0) (vb 0))) aN)) 1 (tgN 5) tT (cal 3 cr (aC (vr 0) (aC (vr 2) (aC (vr 5) aN)))))) [sh (hlD en re tb),sh (nD s),sh (thD en re s),sh (am (bo en re s)),none]=.val (.nx [sh (hlD en re tb),sh (nD s),sh (thD en re s),sh (am (bo en re s)),sh (ai (bH en tb s))]):=by
  have hc:=bw (src:=bC (aC (una aJ (una (du 0) (vb 0))) aN)) (n:=1) (i:=5) (e:=cal 3 cr (aC (vr 0) (aC (vr 2) (aC (vr 5) aN)))) (f:=nD) (g:=λk=>am (i8 en tb s k)) (l:=List.range en.length) (U:=[sh (hlD en re tb),sh (nD s),sh (thD en re s),sh (am (bo en re s)),none]) (dS (by simp) (by omega)) (by rw[List.length_range];omega) λk hk=>tx (b:=thD en re s) rfl rfl rfl (qa h (List.mem_range.mp hk));refine cS ?_;rw[bD,hc,ac,kE];rfl
 rw[cK s1,cK s2,cK s3];rfl
theorem eB (ho:o<re.length):(chg en re ms b th).getD o []=led en ms b o th:=hV ho
theorem dB:(chg en re ms b th).length=re.length:=by simp[chg]
theorem fj:(led en ms b o th).length=(btw en b o).length:=by simp[led]
theorem wb (r:IsR L en re tb cs ms) (ht:(th:Int)<cs.getD b (-1)):∀x∈led en ms b o th,0<=x/\x<cs.getD o (-1):=by
 intro x hx;unfold led at hx;obtain⟨a,ha,rfl⟩:=List.mem_map.mp hx;obtain⟨a1,a2⟩:=rG r ha ht;have:=r.mb a a1 ((ms.getD a []).getD th (-1)) (by rw[ar a2];exact List.getElem_mem a2);rw[(mem_btw.mp ha).2]at this;exact this
theorem A_ (h:aS en re tb) (r:IsR L en re tb cs ms) (ht:(th:Int)<cs.getD b (-1)) (hi:i<en.length):fol ((bH en tb b).getD i []) ((chg en re ms b th).getD (en.getD i (0,0)).2 [])=fol ((chg en re ms b th).getD (en.getD i (0,0)).1 []) (ms.getD i []):=by
 have eb:=h.eb i hi;rw[eB eb.1,eB eb.2,show(bH en tb b).getD i []=i8 en tb b i from hV hi];unfold i8 fol led;rw[List.map_map,List.map_map];apply List.map_congr_left;intro x hx;simp only[Function.comp,Int.toNat_natCast];obtain⟨y1,y2⟩:=oV h hi hx;have yl:=List.idxOf_lt_length_of_mem y2;rw[cL (d:=0) yl,ar yl,List.getElem_idxOf];obtain⟨x1,x2⟩:=rG r hx ht;rw[r.cmp x i _ x1 hi y1];unfold fol;rw[cL (d:=-1) x2]
theorem sN (h:aS en re tb) (r:IsR 40 en re tb cs ms) (hb:b<re.length) (ht:(th:Int)<cs.getD b (-1)):di [hlD en re tb,.tup [am (bo en re b),ai (bH en tb b)],.tup [am cs,ai ms],ai (chg en re ms b th)]=.val (.bl true):=by
 simp only[di,gY];show fin (sq _ _ [sh (hlD en re tb),sh (.tup [am (bo en re b),ai (bH en tb b)]),sh (.tup [am cs,ai ms]),sh (ai (chg en re ms b th)),none,none])=_;have n40:=h.na40;have n6:=h.nb6;have ro:IsR 40 en re tb (bo en re b) (bH en tb b):=rV h λt _=>Nat.le_trans (eC (en:=en) b t) n40;have s1:DL.iff (tst (bin fne (eLs (a_ (fIt (vr 3)) 1 (tgN 6) tT (una aJ (vb 6)))) (bin fix (vb 1) (kd (.int 0))))) (ret (kd (.bl false))) nxt [sh (hlD en re tb),sh (.tup [am (bo en re b),ai (bH en tb b)]),sh (.tup [am cs,ai ms]),sh (ai (chg en re ms b th)),none,none]=.val (.nx [sh (hlD en re tb),sh (.tup [am (bo en re b),ai (bH en tb b)]),sh (.tup [am cs,ai ms]),sh (ai (chg en re ms b th)),none,none]):=by
  have c:eLs (a_ (fIt (vr 3)) 1 (tgN 6) tT (una aJ (vb 6))) [sh (hlD en re tb),sh (.tup [am (bo en re b),ai (bH en tb b)]),sh (.tup [am cs,ai ms]),sh (ai (chg en re ms b th)),none,none]=.val (am (bo en re b)):=by
   rw[fm (f:=am) (g:=λl=>(l.length:Int)) (l:=chg en re ms b th) rfl (by rw[dB];omega) λt _=>by simp]
   congr 2
   unfold chg bo;rw[List.map_map];apply List.map_congr_left;intro o _;simp only[Function.comp,fj]
  refine eQ ?_;rw[eN,bN,c];show R.bind (fne (am (bo en re b)) (am (bo en re b))) asB=_;rw[sI];simp
 have s2:DL.iff (dP (tst (una sK (eLs (a_ (mV (aC (vr 3) (aC (bin fix (vb 2) (kd (.int 0))) aN))) 2 (tg2 6 7) tT (cal 2 bJ (aC (vr 6) (aC (vr 7) aN)))))))) (ret (kd (.bl false))) nxt [sh (hlD en re tb),sh (.tup [am (bo en re b),ai (bH en tb b)]),sh (.tup [am cs,ai ms]),sh (ai (chg en re ms b th)),none,none]=.val (.nx [sh (hlD en re tb),sh (.tup [am (bo en re b),ai (bH en tb b)]),sh (.tup [am cs,ai ms]),sh (ai (chg en re ms b th)),none,none]):=by
  have hc:=fV (src:=mV (aC (vr 3) (aC (bin fix (vb 2) (kd (.int 0))) aN))) (n:=2) (T:=tg2 6 7) (t:=tT) (e:=cal 2 bJ (aC (vr 6) (aC (vr 7) aN))) (f:=λi=>.tup [am ((chg en re ms b th).getD i []),.int (cs.getD i (-1))]) (g:=λi=>.bl (((chg en re ms b th).getD i []).all (fH (cs.getD i (-1))))) (p:=λ_=>true) (l:=List.range (chg en re ms b th).length) (U:=[sh (hlD en re tb),sh (.tup [am (bo en re b),ai (bH en tb b)]),sh (.tup [am cs,ai ms]),sh (ai (chg en re ms b th)),none,none]) (by
   have:=qZ (f:=am) (g:=D.int) (l:=chg en re ms b th) (m:=cs) (a:=[]) (b:=-1) (by rw[dB,r.lc]);rw[<- this];rfl) (by rw[List.length_range,dB];omega) λi hi=>by
   have hi:=List.mem_range.mp hi;rw[dB]at hi;refine⟨_,rfl,rfl,jc (a:=am ((chg en re ms b th).getD i [])) (b:=.int (cs.getD i (-1))) rfl rfl (iM _ _ ?_)⟩;rw[eB hi,fj];have:=eC (en:=en) b i;omega
  rw[List.filter_eq_self.mpr λ_ _=>rfl]at hc;have al:((List.range (chg en re ms b th).length).all λi=>((chg en re ms b th).getD i []).all (fH (cs.getD i (-1))))=true:=by
   rw[List.all_eq_true];intro i hi;have hi:=List.mem_range.mp hi;rw[dB]at hi;rw[eB hi,List.all_eq_true];exact λx hx=>below_iff.mpr (wb r ht x hx)
  refine eQ ?_;rw[jT,eN,gS,bD,hc,ac,ac,lh,al];rfl
 rw[cK s1,cK s2];have fe:=sF (src:=eE (aC (una (du 0) (vb 0)) aN)) (T:=tg2 4 5) (F:=DL.iff (tst (bin fne (cal 2 bR (aC (bin fix (bin fix (vb 1) (kd (.int 1))) (vb 4)) (aC (bin fix (vb 3) (bin fix (vb 5) (kd (.int 1)))) aN))) (cal 2 bR (aC (bin fix (vb 3) (bin fix (vb 5) (kd (.int 0)))) (aC (bin fix (bin fix (vb 2) (kd (.int 1))) (vb 4)) aN))))) (ret (kd (.bl false))) nxt) (f:=λi=>.tup [nD i,bM (en.getD i (0,0))]) (ok:=λ_=>true) (l:=List.range en.length) (U:=[sh (hlD en re tb),sh (.tup [am (bo en re b),ai (bH en tb b)]),sh (.tup [am cs,ai ms]),sh (ai (chg en re ms b th)),none,none]) (λU=>∃x y,U=[sh (hlD en re tb),sh (.tup [am (bo en re b),ai (bH en tb b)]),sh (.tup [am cs,ai ms]),sh (ai (chg en re ms b th)),x,y]) (by rw[<- sP (f:=bM) en (0,0)];rfl) (λi hi U hI=>by
  obtain⟨x,y,rfl⟩:=hI;have hi:=List.mem_range.mp hi;have eb:=h.eb i hi;refine⟨_,rfl,(λz=>by cases z),λ_=>⟨_,eQ (U:=[sh (hlD en re tb),sh (.tup [am (bo en re b),ai (bH en tb b)]),sh (.tup [am cs,ai ms]),sh (ai (chg en re ms b th)),sh (nD i),sh (bM (en.getD i (0,0)))]) ?_,_,_,rfl⟩⟩;have ol:(bH en tb b).length=en.length:=ro.lm;have v1:bin fix (bin fix (vb 1) (kd (.int 1))) (vb 4) [sh (hlD en re tb),sh (.tup [am (bo en re b),ai (bH en tb b)]),sh (.tup [am cs,ai ms]),sh (ai (chg en re ms b th)),sh (nD i),sh (bM (en.getD i (0,0)))]=.val (am ((bH en tb b).getD i [])):=bx (by rw[ol];exact hi);have v2:bin fix (vb 3) (bin fix (vb 5) (kd (.int 1))) [sh (hlD en re tb),sh (.tup [am (bo en re b),ai (bH en tb b)]),sh (.tup [am cs,ai ms]),sh (ai (chg en re ms b th)),sh (nD i),sh (bM (en.getD i (0,0)))]=.val (am ((chg en re ms b th).getD (en.getD i (0,0)).2 [])):=bx (by rw[dB];exact eb.2);have v3:bin fix (vb 3) (bin fix (vb 5) (kd (.int 0))) [sh (hlD en re tb),sh (.tup [am (bo en re b),ai (bH en tb b)]),sh (.tup [am cs,ai ms]),sh (ai (chg en re ms b th)),sh (nD i),sh (bM (en.getD i (0,0)))]=.val (am ((chg en re ms b th).getD (en.getD i (0,0)).1 [])):=bx (by rw[dB];exact eb.1);have v4:bin fix (bin fix (vb 2) (kd (.int 1))) (vb 4) [sh (hlD en re tb),sh (.tup [am (bo en re b),ai (bH en tb b)]),sh (.tup [am cs,ai ms]),sh (ai (chg en re ms b th)),sh (nD i),sh (bM (en.getD i (0,0)))]=.val (am (ms.getD i [])):=bx (by rw[r.lm];exact hi);have f1:=jt (a:=(bH en tb b).getD i []) (b:=(chg en re ms b th).getD (en.getD i (0,0)).2 []) (by have:=(ro.bd h (by decide)).at i;omega) (λx hx=>by
   have:=ro.mb i hi x hx;rw[eB eb.2,fj];have e:(bo en re b).getD (en.getD i (0,0)).2 (-1)=((btw en b (en.getD i (0,0)).2).length:Int):=kL eb.2;rw[e]at this;exact this)
  have f2:=jt (a:=(chg en re ms b th).getD (en.getD i (0,0)).1 []) (b:=ms.getD i []) (by rw[eB eb.1,fj];have:=eC (en:=en) b (en.getD i (0,0)).1;omega) (λx hx=>by
   rw[eB eb.1]at hx;have:=wb r ht x hx;rw[r.ml i hi];exact this)
  rw[A_ h r ht hi]at f1;rw[eN,bN,jc v1 v2 f1,jc v3 v4 f2,ac,ac,sI];simp) ⟨_,_,rfl⟩
 rw[fe,List.all_eq_true.mpr λ_ _=>rfl]
theorem u0 (h:aS en re tb) (r:IsR 40 en re tb cs ms) (hb:b<re.length) (ht:(th:Int)<cs.getD b (-1)):dH [hlD en re tb,nD b,.tup [am cs,ai ms],ai (chg en re ms b th)]=.val (nD th):=by
 simp only[dH,iN];show fin (sq _ _ [sh (hlD en re tb),sh (nD b),sh (.tup [am cs,ai ms]),sh (ai (chg en re ms b th))])=_;have n40:=h.na40;have e1:drp (cal 2 bA (aC (vr 0) (aC (vr 1) aN))) [sh (hlD en re tb),sh (nD b),sh (.tup [am cs,ai ms]),sh (ai (chg en re ms b th))]=.val (.nx [sh (hlD en re tb),sh (nD b),sh (.tup [am cs,ai ms]),sh (ai (chg en re ms b th))]):=jw (jc rfl rfl (fT hb));have e2:drp (cal 2 bf (aC (vr 0) (aC (vr 2) aN))) [sh (hlD en re tb),sh (nD b),sh (.tup [am cs,ai ms]),sh (ai (chg en re ms b th))]=.val (.nx [sh (hlD en re tb),sh (nD b),sh (.tup [am cs,ai ms]),sh (ai (chg en re ms b th))]):=jw (jc rfl rfl (da h r));have e3:DL.iff (dP (tst (cal 4 di (aC (vr 0) (aC (cal 2 dI (aC (vr 0) (aC (vr 1) aN))) (aC (vr 2) (aC (vr 3) aN))))))) bad nxt [sh (hlD en re tb),sh (nD b),sh (.tup [am cs,ai ms]),sh (ai (chg en re ms b th))]=.val (.nx [sh (hlD en re tb),sh (nD b),sh (.tup [am cs,ai ms]),sh (ai (chg en re ms b th))]):=by
  refine eQ ?_;have o:cal 2 dI (aC (vr 0) (aC (vr 1) aN)) [sh (hlD en re tb),sh (nD b),sh (.tup [am cs,ai ms]),sh (ai (chg en re ms b th))]=.val (.tup [am (bo en re b),ai (bH en tb b)]):=jc rfl rfl (qE h hb);rw[jT,eN,CV (a:=hlD en re tb) (c:=.tup [am cs,ai ms]) (e:=ai (chg en re ms b th)) rfl o rfl rfl (sN h r hb ht)];rfl
 rw[cK e1,cK e2,cK e3];obtain⟨q1,q2⟩:=h.rs b hb;have mem:re.getD b 0∈btw en b b:=mem_btw.mpr ⟨q1,q2⟩;have il:=List.idxOf_lt_length_of_mem mem;have i1:sA (cal 3 bZ (aC (vr 0) (aC (vr 1) (aC (vr 1) aN)))) (bin fix (una (du 1) (vb 0)) (vb 1)) [sh (hlD en re tb),sh (nD b),sh (.tup [am cs,ai ms]),sh (ai (chg en re ms b th))]=.val (nD ((btw en b b).idxOf (re.getD b 0))):=by
  rw[sy (l:=btw en b b) (t:=(re.getD b 0:Nat)) (tx rfl rfl rfl (kx h hb hb)) (nj (re:=re) hb)];exact sJ mem (by have:=eC (en:=en) b b;omega)
 have c1:bin fix (vb 3) (vb 1) [sh (hlD en re tb),sh (nD b),sh (.tup [am cs,ai ms]),sh (ai (chg en re ms b th))]=.val (am (led en ms b b th)):=by
  have:=bx (tb:=chg en re ms b th) (i:=b) (by rw[dB];exact hb);rw[eB hb]at this;exact this
 rw[bT,bN,c1,ac,i1,ac,bz (by rw[fj];exact il)];have v:(led en ms b b th).getD ((btw en b b).idxOf (re.getD b 0)) (-1)=(th:Int):=by
  unfold led;rw[cL (d:=0) il,ar il,List.getElem_idxOf,r.idn b hb,t8 (by omega)]
 rw[v];rfl
end
section
variable {en:List (Nat×Nat)} {re:List Nat} {tb:List (List Int)} {ds:List Int} {ns:List (List Int)} {M:Nat}
def i0 (en:List (Nat×Nat)) (re:List Nat) (b:Nat):Nat:=(btw en b b).idxOf (re.getD b 0)
theorem Dl (h:aS en re tb) (hb:b<re.length):i0 en re b<(btw en b b).length:=by
 obtain⟨q1,q2⟩:=h.rs b hb;exact List.idxOf_lt_length_of_mem (mem_btw.mpr ⟨q1,q2⟩)
theorem vf (h:aS en re tb) (q:IsR M en re tb ds ns) (hb:b<re.length) (ht:(th:Int)<ds.getD b (-1)):gI (chg en re ns b th) b (i0 en re b)=(th:Int):=by
 have il:=Dl h hb;unfold gI;rw[eB hb];unfold led i0 at *;rw[cL (d:=0) il,ar il,List.getElem_idxOf,q.idn b hb,t8 (by omega)]
theorem xN (h:aS en re tb) (q:IsR M en re tb ds ns) (hb:b<re.length) (ht:(th:Int)<ds.getD b (-1)):IsC en re (bo en re b) ds (bH en tb b) ns (chg en re ns b th):=by
 refine⟨⟨dB,λo ho=>by rw[eB ho,fj,nU ho]⟩,λo t ho h2=>?_,λa t ha h2=>?_⟩
 ·rw[nU ho]at h2;unfold gI;rw[eB ho];have hl:t<(led en ns b o th).length:=by rw[fj];omega
  exact wb q ht _ (by rw[ar hl];exact List.getElem_mem hl)
 ·have eb:=h.eb a ha;rw[nU eb.1]at h2;have e:=congrArg (λl=>List.getD l t (-1)) (A_ h q ht ha);change (fol ((bH en tb b).getD a []) _).getD t (-1)=(fol _ _).getD t (-1)at e;rw[sH (by rw[show(bH en tb b).getD a []=i8 en tb b a from hV ha];unfold i8;rw[List.length_map];omega),sH (by rw[eB eb.1,fj];omega)]at e;exact e
theorem Ck (h:aS en re tb) (q:IsR M en re tb ds ns) (hb:b<re.length) (c:IsC en re (bo en re b) ds (bH en tb b) ns G):∃th:Nat,(th:Int)<ds.getD b (-1)/\G=chg en re ns b th:=by
 have il:=Dl h hb;have g0:=c.2.1 b (i0 en re b) hb (by rw[nU hb];omega);refine⟨(gI G b (i0 en re b)).toNat,by omega,c.1.ext (H:=chg en re ns b (gI G b (i0 en re b)).toNat) ⟨dB,λo ho=>by rw[eB ho,fj,nU ho]⟩ λo t ho h2=>?_⟩;rw[nU ho]at h2;have hl:t<(btw en b o).length:=by omega
 obtain⟨x1,x2⟩:=mem_btw.mp (List.getElem_mem hl);obtain⟨q1,q2⟩:=h.rs b hb;have e:=c.2.2 (btw en b o)[t] (i0 en re b) x1 (by rw[x2,nU hb];omega);rw[x2]at e;dsimp only at e;have eT:aT (bH en tb b) (i0 en re b) (btw en b o)[t]=t:=by
  unfold aT;rw[show(bH en tb b).getD (btw en b o)[t] []=i8 en tb b (btw en b o)[t]from hV x1];unfold i8;rw[x2];dsimp only;have g1:(btw en b b).getD (i0 en re b) 0=re.getD b 0:=by
   unfold i0 at il ⊢;rw[ar il,List.getElem_idxOf]
  rw[cL (d:=0) il,g1];have u:=h.ul _ x1;rw[x2]at u;have e2:ent tb (re.getD b 0) (btw en b o)[t]=(btw en b o)[t]:=by
   unfold ent;rw[u,Int.toNat_natCast]
  rw[e2,(Bc b o).idxOf_getElem t hl,Int.toNat_natCast]
 rw[eT]at e;rw[e];unfold gI aG;rw[eB ho];unfold led;rw[cL (d:=0) hl,ar hl]
def mde (en:List (Nat×Nat)) (re:List Nat) (ds:List Int) (ns:List (List Int)) (b:Nat):List (List (List Int)):=(List.range (ds.getD b (-1)).toNat).map (chg en re ns b)
theorem Ca (h:aS en re tb) (q:IsR M en re tb ds ns) (hb:b<re.length):G∈mde en re ds ns b↔IsC en re (bo en re b) ds (bH en tb b) ns G:=by
 unfold mde;rw[List.mem_map];constructor
 ·rintro⟨th,ht,rfl⟩;have ht:=List.mem_range.mp ht;exact xN h q hb (by omega)
 ·intro c;obtain⟨th,h1,rfl⟩:=Ck h q hb c;exact⟨th,List.mem_range.mpr (by omega),rfl⟩
theorem EE (h:aS en re tb) (q:IsR M en re tb ds ns) (hb:b<re.length):(mde en re ds ns b).Nodup:=by
 unfold mde;rw[List.Nodup,List.pairwise_map];refine List.Pairwise.imp_of_mem ?_ (List.nodup_range (n:=(ds.getD b (-1)).toNat));intro t t' h1 h2 hn e;have h1:=List.mem_range.mp h1;have h2:=List.mem_range.mp h2;have:=vf h q hb (th:=t) (by omega);rw[e,vf h q hb (th:=t') (by omega)]at this;omega
end
def oD:Option Int->D
 | none=>.non
 | some g=>.int g
def prD (l:List (Option Int)):D:=.lst (l.map oD)
def pfD (f:PF):D:=.lst (f.map prD)
theorem wl {l:List (Option Int)} (h:t<l.length):fix (prD l) (.int (t:Int))=.val (oD (l.getD t none)):=ia (dn h)
theorem EV (h:b<f.length):fix (pfD f) (.int (b:Int))=.val (prD (f.getD b [])):=ia (dn h)
theorem Aj (h:i<n):ixN n (i:Int)=some i:=by
 unfold ixN;rw[if_pos (Int.natCast_nonneg i),if_pos (Int.ofNat_lt.mpr h),Int.toNat_natCast]
theorem nl (a b:Int):feq (.int a) (.int b)=.val (.bl (decide (a=b))):=by
 by_cases e:a=b
 ·subst e;rw[jr (w4 a),decide_eq_true rfl]
 ·rw[lg (w4 a) (w4 b) (λz=>e (by injection z)),decide_eq_false e]
def xX (l:List (Option Int)) (t:Nat) (g:Int):Bool×List (Option Int):=match l.getD t none with
 | none=>(true,l.set t (some g))
 | some g'=>(decide (g'=g),l)
theorem yC {l:List (Option Int)} {g:Int} (h:t<l.length):dN [prD l] [nD t,.int g]=.val (.bl (xX l t g).1,[prD (xX l t g).2]):=by
 have f:=wl h;unfold dN ky xX;show R.bind (R.bind (R.bind (R.bind (R.bind (fix (prD l) (nD t)) λd=>.val (p9 d)) asB) λc=>if c=true then R.bind (.val (.int g)) (λx=>R.bind (.val []) λpp=>R.bind (.val (nD t)) λn=>xS 0 .s pp (stF n x) [some (.tre (.l .s) (prD l)),sh (nD t),sh (.int g)])else .val [some (.tre (.l .s) (prD l)),sh (nD t),sh (.int g)]) (rtB (bin feq (bin fix (vb 0) (vb 1)) (vb 2)))) (ud [.l .s])=_;rw[show nD t=.int (t:Int)from rfl,f];cases e:l.getD t none with
 | none =>
  have u:xS 0 .s [] (stF (.int (t:Int)) (.int g)) [some (.tre (.l .s) (prD l)),sh (nD t),sh (.int g)]=.val [some (.tre (.l .s) (prD (l.set t (some g)))),sh (nD t),sh (.int g)]:=by
   have s:stF (.int (t:Int)) (.int g) (l.map oD)=.val ((l.map oD).set t (.int g)):=by
    unfold stF;dsimp only;rw[List.length_map,Aj h]
   show(if(some (.l .s):Option OK)=some (.l .s)then R.bind (stF (.int (t:Int)) (.int g) (l.map oD)) (λys=>R.val (Y:=Rho) [some (.tre (.l .s) (.lst ys)),sh (nD t),sh (.int g)])else .bad)=_;rw[if_pos rfl,s,ac];unfold prD;rw[List.map_set];rfl
  have q:=wl (l:=l.set t (some g)) (t:=t) (by rw[List.length_set];exact h);rw[List.getD_eq_getElem?_getD (l:=l.set _ _),List.getElem?_set_self h]at q;show R.bind (R.bind (xS 0 .s [] (stF (.int (t:Int)) (.int g)) [some (.tre (.l .s) (prD l)),sh (nD t),sh (.int g)]) (rtB (bin feq (bin fix (vb 0) (vb 1)) (vb 2)))) (ud [.l .s])=_;rw[u,ac];show R.bind (R.bind (R.bind (fix (prD (l.set t (some g))) (.int (t:Int))) λx=>R.bind (.val (.int g)) λy=>feq x y) λd=>.val (d,[some (.tre (.l .s) (prD (l.set t (some g)))),sh (nD t),sh (.int g)])) (ud [.l .s])=_;rw[q];show R.bind (R.bind (feq (.int g) (.int g)) λd=>.val (d,_)) (ud [.l .s])=_;rw[nl,decide_eq_true rfl];rfl
 | some g' =>
  show R.bind (R.bind (R.bind (fix (prD l) (.int (t:Int))) λx=>R.bind (.val (.int g)) λy=>feq x y) λd=>.val (d,[some (.tre (.l .s) (prD l)),sh (nD t),sh (.int g)])) (ud [.l .s])=_;rw[f,e];show R.bind (R.bind (feq (.int g') (.int g)) λd=>.val (d,_)) (ud [.l .s])=_;rw[nl];rfl
theorem Ez {P:Rho->R (List Nat)} {den:List D->List D->R (D×List D)} {Fa:Rho->R (List D)} {pp:List Nat} {k:OK} {b:D} {ds ys:List D} (h1:P U=.val pp) (h2:U[i]?=some (some (.tre k d))) (h3:Fa U=.val ds) (h4:kF d pp=some (.lst xs)) (h5:je k pp=some (.l .s)/\xs.all (gQ .s)=true/\ds.all (gQ .s)=true/\ds.length=n) (h6:den [.lst xs] ds=.val (b,[.lst ys])) (h7:ys.all (gQ .s)=true):mvP i P den n Fa U=.val (b,U.set i (some (.tre k (kM d pp (.lst ys))))):=by
 unfold mvP;rw[h1,h2,h3];dsimp only;rw[h4];dsimp only;rw[if_pos h5,h6];dsimp only;rw[if_pos h7]
theorem Bk (l:List (Option Int)):(l.map oD).all (gQ .s)=true:=by
 rw[List.all_map,List.all_eq_true];intro o _;cases o<;>rfl
theorem DE (h:b<f.length):kF (pfD f) [b]=some (prD (f.getD b [])):=by
 show(match(f.map prD)[b]? with|some d=>kF d [] | none=>none)=_;rw[dn (d:=[]) h];rfl
theorem DY (h:b<f.length) (l:List (Option Int)):kM (pfD f) [b] (prD l)=pfD (f.set b l):=by
 show(match(f.map prD)[b]? with|some d=>D.lst ((f.map prD).set b (kM d [] (prD l)))|none=>.lst (f.map prD))=_;rw[dn (d:=[]) h];show D.lst ((f.map prD).set b (prD l))=D.lst ((f.set b l).map prD);rw[List.map_set]
def rT (H one other ch:D) (b t g:Nat) (f:PF) (x y:Option Slt):Rho:=[sh H,sh one,sh other,sh ch,sh (nD b),sh (nD t),sh (nD g),some (.tre (.l (.l .s)) (pfD f)),x,y]
abbrev tlF:Rho->R Out:=(ifM (anM (tst (bin feq (bin fix (vb 9) (kd (.int 0))) (vb 4))) (noM (tsM (mvP 7 (pN 7 (pN0 7) (bin fix (vb 9) (kd (.int 1)))) dN 2 (aC (bin fix (bin fix (bin fix (vb 1) (kd (.int 1))) (vb 8)) (vb 5)) (aC (bin fix (bin fix (bin fix (vb 2) (kd (.int 1))) (vb 8)) (vb 6)) aN))))))
 (ret (eL aN))
 nxt)
section
variable {en:List (Nat×Nat)} {re:List Nat} {tb:List (List Int)} {cs ds:List Int} {ms ns:List (List Int)} {L M:Nat}
theorem tQ (h:b<f.length):f.set b (f.getD b [])=f:=by
 rw[ar h,List.set_getElem_self]
theorem Bv (h:aS en re tb) (r:IsR L en re tb cs ms) (q:IsR M en re tb ds ns) (s:Shp cs re.length f) {H ch:D} {x y:Option Slt} (ha:a<en.length) (ht:(t:Int)<cs.getD b (-1)) (hg:(g:Int)<ds.getD b (-1)) :
  tlF (rT H (.tup [am cs,ai ms]) (.tup [am ds,ai ns]) ch b t g f (sh (nD a)) (sh (bM (en.getD a (0,0))))) =
   if(en.getD a (0,0)).1=b then(match stl f (en.getD a (0,0)).2 (aT ms t a) (aG ns g a)with
    | some f'=>.val (.nx (rT H (.tup [am cs,ai ms]) (.tup [am ds,ai ns]) ch b t g f' (sh (nD a)) (sh (bM (en.getD a (0,0))))))
    | none=>.val (.rt (.lst [])))else .val (.nx (rT H (.tup [am cs,ai ms]) (.tup [am ds,ai ns]) ch b t g f (sh (nD a)) (sh (bM (en.getD a (0,0)))))):=by
 have t1:tst (bin feq (bin fix (vb 9) (kd (.int 0))) (vb 4)) (rT H (.tup [am cs,ai ms]) (.tup [am ds,ai ns]) ch b t g f (sh (nD a)) (sh (bM (en.getD a (0,0)))))=.val (decide (((en.getD a (0,0)).1:Int)=(b:Int))):=by
  show R.bind (feq (nD (en.getD a (0,0)).1) (nD b)) asB=_;rw[nl];rfl
 by_cases e:(en.getD a (0,0)).1=b
 ·have eb:=h.eb a ha;have hb:(en.getD a (0,0)).2<f.length:=by rw[s.1];exact eb.2
  obtain⟨p0,p1⟩:=Bm r ha (t:=t) (by rw[e];exact ht);have hl:aT ms t a<(f.getD (en.getD a (0,0)).2 []).length:=by have:=s.2 _ eb.2;omega
  have m:=yC (g:=aG ns g a) hl;have a1:bin fix (bin fix (bin fix (vb 1) (kd (.int 1))) (vb 8)) (vb 5) (rT H (.tup [am cs,ai ms]) (.tup [am ds,ai ns]) ch b t g f (sh (nD a)) (sh (bM (en.getD a (0,0)))))=.val (nD (aT ms t a)):=by
   show R.bind (fix (ai ms) (.int (a:Int))) (λx=>fix x (.int (t:Int)))=_;have l:=r.ml a ha;rw[bx (by rw[r.lm];exact ha),ac,bz (by rw[e]at l;omega)];unfold aT nD;rw[Int.toNat_of_nonneg p0]
  have a2:bin fix (bin fix (bin fix (vb 2) (kd (.int 1))) (vb 8)) (vb 6) (rT H (.tup [am cs,ai ms]) (.tup [am ds,ai ns]) ch b t g f (sh (nD a)) (sh (bM (en.getD a (0,0)))))=.val (.int (aG ns g a)):=by
   show R.bind (fix (ai ns) (.int (a:Int))) (λx=>fix x (.int (g:Int)))=_;have l:=q.ml a ha;rw[bx (by rw[q.lm];exact ha),ac,bz (by rw[e]at l;omega)];rfl
  have a3:pN 7 (pN0 7) (bin fix (vb 9) (kd (.int 1))) (rT H (.tup [am cs,ai ms]) (.tup [am ds,ai ns]) ch b t g f (sh (nD a)) (sh (bM (en.getD a (0,0)))))=.val [(en.getD a (0,0)).2]:=by
   show(match ixN (f.map prD).length ((en.getD a (0,0)).2:Int)with|some j=>R.val [j] | none=>.bad)=_;rw[List.length_map,Aj hb]
  have mv:=Ez (den:=dN) (n:=2) (Fa:=aC (bin fix (bin fix (bin fix (vb 1) (kd (.int 1))) (vb 8)) (vb 5)) (aC (bin fix (bin fix (bin fix (vb 2) (kd (.int 1))) (vb 8)) (vb 6)) aN)) (i:=7) (k:=.l (.l .s)) (d:=pfD f) a3 rfl (by rw[cF,a1,ac,cF,a2];rfl) (DE hb) ⟨rfl,Bk _,rfl,rfl⟩ m (Bk _);rw[show D.lst (List.map oD (xX (f.getD (en.getD a (0,0)).2 []) (aT ms t a) (aG ns g a)).2)=prD (xX (f.getD (en.getD a (0,0)).2 []) (aT ms t a) (aG ns g a)).2 from rfl,DY hb]at mv;rw[if_pos e,decide_eq_true (show((en.getD a (0,0)).1:Int)=(b:Int) by rw[e])]at *;unfold tlF ifM anM;rw[t1];dsimp only;unfold noM tsM;rw[mv,ac];unfold stl xX fa;cases z:(f.getD (en.getD a (0,0)).2 []).getD (aT ms t a) none with
  | none=>rfl
  | some g' =>
   dsimp only;by_cases w:g'=aG ns g a
   ·rw[if_pos w,tQ hb,decide_eq_true w];rfl
   ·rw[if_neg w,tQ hb,decide_eq_false w];rfl
 ·rw[if_neg e];have e':¬ (((en.getD a (0,0)).1:Int)=(b:Int)):=by omega
  rw[decide_eq_false e']at t1;show ifM (anM _ _) _ _ _=_;unfold ifM anM;rw[t1];rfl
end
theorem Hu {G:Rho->R D} {a b e f g:D} (ha:A U=.val a) (hb:B U=.val b) (hc:C U=.val c) (he:E U=.val e) (hf:F U=.val f) (hg:G U=.val g) (h:den [a,b,c,e,f,g]=.val x):cal 6 den (aC A (aC B (aC C (aC E (aC F (aC G aN)))))) U=.val x:=by
 simp[ha,hb,hc,he,hf,hg,h]
theorem Ht {G J:Rho->R D} {a b e f g j:D} (ha:A U=.val a) (hb:B U=.val b) (hc:C U=.val c) (he:E U=.val e) (hf:F U=.val f) (hg:G U=.val g) (hj:J U=.val j) (h:den [a,b,c,e,f,g,j]=.val x):cal 7 den (aC A (aC B (aC C (aC E (aC F (aC G (aC J aN))))))) U=.val x:=by
 simp[ha,hb,hc,he,hf,hg,hj,h]
theorem sgo {A B:Rho->R Out} {x:R Out} (h:A U=.val (.nx U')) (k:B U'=x):sq A B U=x:=by rw[cK h];exact k
theorem fgo {A B:Rho->R Out} {x:R D} (h:A U=.val (.nx U')) (k:fin (B U')=x):fin (sq A B U)=x:=by rw[cK h];exact k
section
variable {en:List (Nat×Nat)} {re:List Nat} {tb:List (List Int)} {cs ds:List Int} {ms ns:List (List Int)} {L M:Nat}
abbrev rdD (cs:List Int) (ms:List (List Int)):D:=.tup [am cs,ai ms]
theorem rh (h:aS en re tb) (r:IsR L en re tb cs ms) (q:IsR M en re tb ds ns) {H ch:D} {b t g:Nat} (ht:(t:Int)<cs.getD b (-1)) (hg:(g:Int)<ds.getD b (-1)):∀{l:List Nat} {f:PF} {x y:Option Slt},(∀a∈l,a<en.length)->Shp cs re.length f ->
  match tal en ms ns b t g l f with
  | some f'=>∃x' y',bK (tg2 8 9) tlF (l.map λi=>.tup [nD i,bM (en.getD i (0,0))]) (rT H (rdD cs ms) (rdD ds ns) ch b t g f x y)=.val (.nx (rT H (rdD cs ms) (rdD ds ns) ch b t g f' x' y'))
  | none=>bK (tg2 8 9) tlF (l.map λi=>.tup [nD i,bM (en.getD i (0,0))]) (rT H (rdD cs ms) (rdD ds ns) ch b t g f x y)=.val (.rt (.lst []))
 | [],f,x,y,_,_=>⟨x,y,rfl⟩
 | a::l,f,x,y,hl,s=>by
  have ha:=hl a (by simp);have st:=Bv h r q s (H:=H) (ch:=ch) (x:=x) (y:=y) ha ht hg;have un:bK (tg2 8 9) tlF ((a::l).map λi=>.tup [nD i,bM (en.getD i (0,0))]) (rT H (rdD cs ms) (rdD ds ns) ch b t g f x y)=R.bind (tlF (rT H (rdD cs ms) (rdD ds ns) ch b t g f (sh (nD a)) (sh (bM (en.getD a (0,0)))))) λo=>match o with
   | .nx U2=>bK (tg2 8 9) tlF (l.map λi=>.tup [nD i,bM (en.getD i (0,0))]) U2
   | .ct U2=>bK (tg2 8 9) tlF (l.map λi=>.tup [nD i,bM (en.getD i (0,0))]) U2
   | .bk U2=>.val (.nx U2)
   | .rt d=>.val (.rt d):=Eq.trans rfl rfl
  rw[un,st];unfold tal;by_cases e:(en.getD a (0,0)).1=b
  ·rw[if_pos e,if_pos e];cases z:stl f (en.getD a (0,0)).2 (aT ms t a) (aG ns g a)with
   | none=>rfl
   | some f1 =>
    have v:=q_ h r ht a (List.mem_range.mpr ha) e;exact rh h r q ht hg (λc hc=>hl c (by simp[hc])) (vD s v.1 v.2 z).1
  ·rw[if_neg e,if_neg e];exact rh h r q ht hg (λc hc=>hl c (by simp[hc])) s
theorem p_ (h:aS en re tb) (r:IsR L en re tb cs ms) (q:IsR M en re tb ds ns) (ht:(t:Int)<cs.getD b (-1)) (hg:(g:Int)<ds.getD b (-1)) (s:Shp cs re.length f) :
  bU [hlD en re tb,rdD cs ms,rdD ds ns,pfD f,nD b,nD t,nD g]=.val (.lst ((tal en ms ns b t g (List.range en.length) f).toList.map pfD)):=by
 simp only[bU,gn];show fin (sq _ _ [sh (hlD en re tb),sh (rdD cs ms),sh (rdD ds ns),sh (pfD f),sh (nD b),sh (nD t),sh (nD g),none,none,none])=_;have n6:=h.nb6;have sl:=s.1;have lp:=rh h r q (H:=hlD en re tb) (ch:=pfD f) ht hg (l:=List.range en.length) (x:=none) (y:=none) (λa ha=>List.mem_range.mp ha) s;have hs:∀f:PF,eE (aC (una (du 0) (vb 0)) aN) (rT (hlD en re tb) (rdD cs ms) (rdD ds ns) (pfD f) b t g f none none)=.val ((List.range en.length).map λi=>.tup [nD i,bM (en.getD i (0,0))]):=λf=>by rw[<- sP (f:=bM) en (0,0)];rfl
 refine fgo (U':=rT (hlD en re tb) (rdD cs ms) (rdD ds ns) (pfD f) b t g f none none) ?_ ?_
 ·unfold trS;rw[bD,bw (f:=prD) (g:=prD) (l:=f) rfl (by omega) λl _=>rfl];rfl
 ·rw[aK,ck,hs,ac];cases z:tal en ms ns b t g (List.range en.length) f with
  | none =>
   rw[z]at lp;rw[lp];rfl
  | some f' =>
   rw[z]at lp;obtain⟨x',y',e⟩:=lp;rw[e];rfl
abbrev lat (fs:List PF):Slt:=.own (fs.map pfD)
def rO (H one other bg:D) (b t:Nat) (fs:List PF) (x y:Option Slt):Rho:=[sh H,sh one,sh other,sh bg,sh (nD b),sh (nD t),some (lat fs),x,y]
theorem E3 {e:Rho->R D} {ys:List D} (h1:U[i]?=some (some (.own xs))) (h2:e U=.val (.lst ys)) (h3:xs.length+ys.length<100000):ext i e U=.val (.nx (U.set i (some (.own (xs++ys))))):=by
 unfold ext;rw[h1];dsimp only;rw[h2,ac];exact if_pos h3
theorem nB (o:Option Y):o.toList.length<=1:=by cases o<;>simp
theorem tL (b t:Nat) (f:PF) (k:Nat):((List.range k).flatMap λg=>(tal en ms ns b t g (List.range en.length) f).toList).length<=k:=by
 induction k with
 | zero=>simp
 | succ k ih =>
  rw[List.range_succ,List.flatMap_append,List.length_append];have:=nB (tal en ms ns b t k (List.range en.length) f);simp only[List.flatMap_cons,List.flatMap_nil,List.append_nil];omega
theorem wG (h1:1<=k) (hk:(ds.getD b (-1)).toNat=k):(ton en ds ms ns b t f).length<=k:=by
 unfold ton;by_cases e:(fa f b t).isSome=true
 ·rw[if_pos e];exact h1
 ·rw[if_neg e,hk];exact tL b t f k
theorem wH {b t:Nat} {k:Nat} (h1:1<=k) (hk:(ds.getD b (-1)).toNat=k):∀fs:List PF,(tOn en ds ms ns b t fs).length<=fs.length*k
 | []=>Nat.le_of_eq (by simp[tOn])
 | f::fs=>by
  have a:=wG (en:=en) (ms:=ms) (ns:=ns) (t:=t) (f:=f) h1 hk;have b:=wH (t:=t) h1 hk fs;unfold tOn at b ⊢;rw[List.flatMap_cons,List.length_append,List.length_cons,Nat.add_mul];omega
theorem wo (h:aS en re tb) (r:IsR L en re tb cs ms) (q:IsR M en re tb ds ns) (hb:b<re.length) (ht:(t:Int)<cs.getD b (-1)) (h1:1<=k) (hk:(ds.getD b (-1)).toNat=k) {fs:List PF} (hs:∀f∈fs,Shp cs re.length f) (hl:fs.length*k<=10000) (hf:fs.length<=10000) :
  cV [hlD en re tb,rdD cs ms,rdD ds ns,.lst (fs.map pfD),nD b,nD t]=.val (.lst ((tOn en ds ms ns b t fs).map pfD)):=by
 simp only[cV,jx];show fin (sq _ _ [sh (hlD en re tb),sh (rdD cs ms),sh (rdD ds ns),sh (.lst (fs.map pfD)),sh (nD b),sh (nD t),none,none,none])=_;have cb:=q.cb b hb;have e0:=hk;have dk:ds.getD b (-1)=(k:Int):=by omega
 refine fgo (U':=rO (hlD en re tb) (rdD cs ms) (rdD ds ns) (.lst (fs.map pfD)) b t [] none none) (Eq.trans rfl rfl) ?_;have lp:∀(gs:List PF) (m:Nat),(∀f∈gs,Shp cs re.length f)->∀(acc:List PF) (x y:Option Slt),acc.length+gs.length*k<=10000->∃x' y',bK (tgN 7) (DL.iff (tst (una (λd=>.val (eR d)) (bin fix (bin fix (vb 7) (vb 4)) (vb 5)))) (app 6 (vr 7)) (br (bC (aC (bin fix (bin fix (vb 2) (kd (.int 0))) (vb 4)) aN)) (tgN 8) (ext 6 (cal 7 bU (aC (vr 0) (aC (vr 1) (aC (vr 2) (aC (vr 7) (aC (vr 4) (aC (vr 5) (aC (vr 8) aN))))))))))) (gs.map pfD) (rO (hlD en re tb) (rdD cs ms) (rdD ds ns) (.lst (fs.map pfD)) b t acc x y)=.val (.nx (rO (hlD en re tb) (rdD cs ms) (rdD ds ns) (.lst (fs.map pfD)) b t (acc++tOn en ds ms ns b t gs) x' y')):=by
  intro gs m
  induction gs with
  | nil=>intro _ acc x y _;exact⟨x,y,by unfold tOn;rw[List.flatMap_nil,List.append_nil];rfl⟩
  | cons f gs ih =>
   intro hS acc x y ha;have s:=hS f (by simp);rw[List.length_cons,Nat.add_mul]at ha;have tn:=wG (en:=en) (ms:=ms) (ns:=ns) (t:=t) (f:=f) h1 hk;have st:∃y',DL.iff (tst (una (λd=>.val (eR d)) (bin fix (bin fix (vb 7) (vb 4)) (vb 5)))) (app 6 (vr 7)) (br (bC (aC (bin fix (bin fix (vb 2) (kd (.int 0))) (vb 4)) aN)) (tgN 8) (ext 6 (cal 7 bU (aC (vr 0) (aC (vr 1) (aC (vr 2) (aC (vr 7) (aC (vr 4) (aC (vr 5) (aC (vr 8) aN)))))))))) (rO (hlD en re tb) (rdD cs ms) (rdD ds ns) (.lst (fs.map pfD)) b t acc (sh (pfD f)) y)=.val (.nx (rO (hlD en re tb) (rdD cs ms) (rdD ds ns) (.lst (fs.map pfD)) b t (acc++ton en ds ms ns b t f) (sh (pfD f)) y')):=by
    have sl:=s.2 b hb;have tt:tst (una (λd=>.val (eR d)) (bin fix (bin fix (vb 7) (vb 4)) (vb 5))) (rO (hlD en re tb) (rdD cs ms) (rdD ds ns) (.lst (fs.map pfD)) b t acc (sh (pfD f)) y)=.val (fa f b t).isSome:=by
     show R.bind (R.bind (R.bind (fix (pfD f) (.int (b:Int))) λx=>fix x (.int (t:Int))) λd=>.val (eR d)) asB=_;rw[EV (by rw[s.1];exact hb),ac,wl (by omega)];show _=R.val ((f.getD b []).getD t none).isSome;cases(f.getD b []).getD t none<;>rfl
    rw[bL,tt,ac];unfold ton;by_cases e:(fa f b t).isSome=true
    ·rw[if_pos e,if_pos e];refine⟨y,?_⟩;have:=jG (i:=6) (e:=vr 7) (xs:=acc.map pfD) (d:=pfD f) (U:=rO (hlD en re tb) (rdD cs ms) (rdD ds ns) (.lst (fs.map pfD)) b t acc (sh (pfD f)) y) rfl rfl (by rw[List.length_map];omega);rw[this];unfold rO lat;rw[List.map_append];rfl
    ·rw[if_neg e,if_neg e,hk];obtain⟨U',e1,y',rfl⟩:=d5 (i:=8) (n:=k) (F:=ext 6 (cal 7 bU (aC (vr 0) (aC (vr 1) (aC (vr 2) (aC (vr 7) (aC (vr 4) (aC (vr 5) (aC (vr 8) aN))))))))) (λj U=>∃y',U=rO (hlD en re tb) (rdD cs ms) (rdD ds ns) (.lst (fs.map pfD)) b t (acc++(List.range j).flatMap λg=>(tal en ms ns b t g (List.range en.length) f).toList) (sh (pfD f)) y') (λj U hj hI=>by
      obtain⟨y',rfl⟩:=hI;have tl:=tL (en:=en) (ms:=ms) (ns:=ns) b t f j;have t1:=nB (tal en ms ns b t j (List.range en.length) f);refine⟨_,E3 (i:=6) rfl (Ht rfl rfl rfl rfl rfl rfl rfl (p_ h r q ht (by rw[dk];omega) s)) (by rw[List.length_map,List.length_map,List.length_append];omega),sh (nD j),?_⟩;rw[List.range_succ,List.flatMap_append];simp only[List.flatMap_cons,List.flatMap_nil,List.append_nil];rw[<- List.append_assoc];unfold rO lat;rw[List.map_append (l₁:=acc++_)];rfl) (U:=rO (hlD en re tb) (rdD cs ms) (rdD ds ns) (.lst (fs.map pfD)) b t acc (sh (pfD f)) y) ⟨y,by simp⟩
     refine⟨y',?_⟩;have sr:bC (aC (bin fix (bin fix (vb 2) (kd (.int 0))) (vb 4)) aN) (rO (hlD en re tb) (rdD cs ms) (rdD ds ns) (.lst (fs.map pfD)) b t acc (sh (pfD f)) y)=.val (rng 0 k):=by
      rw[gO];refine dS ?_ (by omega);show fix (am ds) (.int (b:Int))=_;rw[bz (by rw[q.lc];exact hb),dk]
     rw[ck,sr,ac,e1]
   obtain⟨y',st⟩:=st;obtain⟨x2,y2,e2⟩:=ih (λc hc=>hS c (by simp[hc])) (acc++ton en ds ms ns b t f) (sh (pfD f)) y' (by rw[List.length_append];omega);refine⟨x2,y2,?_⟩;rw[show tOn en ds ms ns b t (f::gs)=ton en ds ms ns b t f++tOn en ds ms ns b t gs from List.flatMap_cons,<- List.append_assoc,<- e2];show R.bind (DL.iff _ _ _ (rO (hlD en re tb) (rdD cs ms) (rdD ds ns) (.lst (fs.map pfD)) b t acc (sh (pfD f)) y)) _=_;rw[st];rfl
 obtain⟨x',y',e⟩:=lp fs 0 hs [] none none (by simpa using hl);have sr:fIt (vr 3) (rO (hlD en re tb) (rdD cs ms) (rdD ds ns) (.lst (fs.map pfD)) b t [] none none)=.val (fs.map pfD):=Eq.trans rfl rfl;rw[aK,ck,sr,ac,e,ac];rfl
end
section
variable {en:List (Nat×Nat)} {re:List Nat} {tb:List (List Int)} {cs ds:List Int} {ms ns:List (List Int)} {L M:Nat}
def rmB (cs ds:List Int) (i:Nat):Bool:=decide (0<ds.getD i (-1))||decide (cs.getD i (-1)=0)
theorem u4 (hl:cs.length=ds.length) (h6:cs.length<=1000):dM [am cs,am ds]=.val (.bl ((List.range cs.length).all (rmB cs ds))):=by
 simp only[dM,iU];show fin (ret _ [sh (am cs),sh (am ds)])=_;have hc:=fV (src:=mV (aC (vr 0) (aC (vr 1) aN))) (n:=2) (T:=tg2 2 3) (t:=tT) (e:=orV (bin (iI fgt) (vb 3) (kd (.int 0))) (bin feq (vb 2) (kd (.int 0)))) (f:=λi=>.tup [.int (cs.getD i (-1)),.int (ds.getD i (-1))]) (g:=λi=>.bl (rmB cs ds i)) (p:=λ_=>true) (l:=List.range cs.length) (U:=[sh (am cs),sh (am ds)]) (by
   have:=qZ (f:=D.int) (g:=D.int) (l:=cs) (m:=ds) (a:=-1) (b:=-1) hl;rw[<- this];rfl) (by rw[List.length_range];omega) λi hi=>by
   refine⟨_,rfl,rfl,?_⟩;show R.bind (.val (.bl (decide (0<ds.getD i (-1))))) (λx=>R.bind (asB x) λc=>if c=true then .val (.bl true)else feq (.int (cs.getD i (-1))) (.int 0))=_;unfold rmB;by_cases e:0<ds.getD i (-1)
   ·rw[decide_eq_true e];rfl
   ·rw[decide_eq_false e,nl];rfl
 rw[List.filter_eq_self.mpr λ_ _=>rfl]at hc;rw[bT,gS,bD,hc,ac,ac,lh];rfl
def pws (cs ds:List Int):Nat->Nat
 | 0=>1
 | b+1=>pws cs ds b*(ds.getD b (-1)).toNat ^ (cs.getD b (-1)).toNat
def Bo (cs ds:List Int) (n:Nat):Prop:=∀b,b<n->0<ds.getD b (-1)\/cs.getD b (-1)=0
theorem BL {c:Nat} (h:1<=k\/c=0):1<=k ^ c:=by
 rcases h with h|rfl
 ·exact Nat.one_le_pow _ _ h
 ·exact Nat.le_refl _
theorem vP {n:Nat} (hr:Bo cs ds n) {b:Nat}:∀{m:Nat},b<=m->m<=n->pws cs ds b<=pws cs ds m
 | 0,h,_=>by rw[Nat.le_zero.mp h];exact Nat.le_refl _
 | m+1,h,hm=>by
  by_cases e:b=m+1
  ·rw[e];exact Nat.le_refl _
  ·have ih:=vP hr (b:=b) (m:=m) (by omega) (by omega);have one:=BL (k:=(ds.getD m (-1)).toNat) (c:=(cs.getD m (-1)).toNat) (by
    rcases hr m (by omega)with z|z
    ·left;omega
    ·right;rw[z];rfl)
   show _<=pws cs ds m*_;exact Nat.le_trans ih (Nat.le_mul_of_pos_right _ one)
def t7 (en:List (Nat×Nat)) (ds:List Int) (ms ns:List (List Int)) (b:Nat) (fs:List PF) (j:Nat):List PF:=(List.range j).foldl (λfs t=>tOn en ds ms ns b t fs) fs
theorem qo (b:Nat) (fs:List PF) (j:Nat):t7 en ds ms ns b fs (j+1)=tOn en ds ms ns b j (t7 en ds ms ns b fs j):=by
 unfold t7;rw[List.range_succ,List.foldl_append];rfl
theorem nO {b k:Nat} (h1:1<=k) (hk:(ds.getD b (-1)).toNat=k) {fs:List PF} {m:Nat} (hm:fs.length<=m):∀j:Nat,(t7 en ds ms ns b fs j).length<=m*k ^ j
 | 0=>by rw[Nat.pow_zero,Nat.mul_one];exact hm
 | j+1=>by
  rw[qo,Nat.pow_succ,<- Nat.mul_assoc];exact Nat.le_trans (wH h1 hk _) (Nat.mul_le_mul_right k (nO h1 hk hm j))
theorem nA {n:Nat} (hr:Bo cs ds n):∀{b:Nat},b<=n->(ig en cs ds ms ns b).length<=pws cs ds b
 | 0,_=>Nat.le_refl _
 | b+1,hb=>by
  have ih:=nA hr (b:=b) (by omega);show(t7 en ds ms ns b (ig en cs ds ms ns b) (cs.getD b (-1)).toNat).length<=pws cs ds b*(ds.getD b (-1)).toNat ^ (cs.getD b (-1)).toNat;rcases hr b (by omega)with z|z
  ·exact nO (by omega) rfl ih _
  ·rw[z];show(ig en cs ds ms ns b).length<=_;rw[show(0:Int).toNat=0 from rfl,Nat.pow_zero,Nat.mul_one];exact ih
theorem D_ (s:Shp cs n f) (hv:∀b t:Nat,b<n->(t:Int)<cs.getD b (-1)->∃v,fa f b t=some v):pfD f=ai (tot f):=by
 unfold pfD ai tot;rw[List.map_map]
 congr 1
 apply List.map_congr_left;intro l hl;obtain⟨b,hb,rfl⟩:=List.mem_iff_getElem.mp hl;unfold prD am;simp only[Function.comp,List.map_map]
 congr 1
 apply List.map_congr_left;intro o ho;obtain⟨t,ht,rfl⟩:=List.mem_iff_getElem.mp ho;have hn:b<n:=by rw[<- s.1];exact hb
 have sl:=s.2 b hn;rw[ar hb]at sl;obtain⟨v,hv⟩:=hv b t hn (by omega);unfold fa at hv;rw[ar hb,ar ht]at hv;rw[hv];rfl
theorem C1 (h:aS en re tb) (r:IsR L en re tb cs ms) (q:IsR M en re tb ds ns):(ig en cs ds ms ns re.length).map pfD=(m6 en re cs ds ms ns).map ai:=by
 have I:=jd h r q re.length (Nat.le_refl _);unfold m6;rw[List.map_map];apply List.map_congr_left;intro f hf;exact D_ (I.1 f hf).1.1 λb t hb ht=>nn I hf hb ht
theorem yP (h:aS en re tb) (r:IsR L en re tb cs ms) (q:IsR M en re tb ds ns) (hb:b<re.length) (h1:¬ 0<ds.getD b (-1)) (h2:cs.getD b (-1)≠0):m6 en re cs ds ms ns=[]:=by
 cases e:m6 en re cs ds ms ns with
 | nil=>rfl
 | cons G l =>
  have c:=(uG h r q (G:=G)).mp (by rw[e];simp);have cb:=r.cb b hb;have:=c.2.1 b 0 hb (by omega);omega
def rCh (H one other:D) (fs:List PF) (x y z:Option Slt):Rho:=[sh H,sh one,sh other,sh (.lst (fs.map pfD)),x,y,z]
theorem wq (h:aS en re tb) (r:IsR 40 en re tb cs ms) (q:IsR 40 en re tb ds ns) (hm:pws cs ds re.length<=2000):gj [hlD en re tb,rdD cs ms,rdD ds ns]=.val (.lst ((m6 en re cs ds ms ns).map ai)):=by
 simp only[gj,jz];show fin (sq _ _ [sh (hlD en re tb),sh (rdD cs ms),sh (rdD ds ns),none,none,none,none])=_;have n6:=h.nb6;have lc:=r.lc;have ld:=q.lc;refine fgo (jw (jc rfl rfl (da h r))) (fgo (jw (jc rfl rfl (da h q))) ?_);have hr:=u4 (cs:=cs) (ds:=ds) (by omega) (by omega);have tt:dP (tst (cal 2 dM (aC (bin fix (vb 1) (kd (.int 0))) (aC (bin fix (vb 2) (kd (.int 0))) aN)))) [sh (hlD en re tb),sh (rdD cs ms),sh (rdD ds ns),none,none,none,none]=.val (!(List.range cs.length).all (rmB cs ds)):=by
  rw[jT,eN,jc (a:=am cs) (b:=am ds) rfl rfl hr];rfl
 cases e:(List.range cs.length).all (rmB cs ds)with
 | false =>
  rw[e]at tt;rw[aK,bL,tt,ac,if_pos (by decide)];obtain⟨b,hb,z⟩:=List.all_eq_false.mp e;have hb:=List.mem_range.mp hb;unfold rmB at z;simp only[Bool.or_eq_true,decide_eq_true_eq,not_or]at z;rw[yP h r q (by omega) z.1 z.2];rfl
 | true =>
  rw[e]at tt;have rm:Bo cs ds re.length:=λb hb=>by
   have:=List.all_eq_true.mp e b (List.mem_range.mpr (by omega));unfold rmB at this;simpa using this
  have ul:∀b,b<=re.length->(ig en cs ds ms ns b).length<=2000:=λb hb=>Nat.le_trans (nA rm hb) (Nat.le_trans (vP rm hb (Nat.le_refl _)) hm);refine fgo (eQ tt) (fgo (U':=rCh (hlD en re tb) (rdD cs ms) (rdD ds ns) [f0 cs] none none none) (cS (x:=.lst [pfD (f0 cs)]) ?_) ?_)
  ·rw[GE,cF,bD,bw (f:=D.int) (g:=λc=>prD (List.replicate c.toNat none)) (l:=cs) rfl (by omega) λc hc=>?_]
   ·show R.val (D.lst [D.lst (cs.map λc=>prD (List.replicate c.toNat none))])=_;unfold pfD f0;rw[List.map_map];rfl
   ·obtain⟨i,hi,rfl⟩:=List.mem_iff_getElem.mp hc;have cb:=r.cb i (by omega);rw[ar hi]at cb;show yA (.lst [.non]) (.int cs[i])=_;unfold yA;dsimp only;rw[if_pos (by simp;omega),List.flatten_replicate_singleton];unfold prD;rw[List.map_replicate];rfl
  ·have hs:eE (aC (bin fix (vb 1) (kd (.int 0))) aN) (rCh (hlD en re tb) (rdD cs ms) (rdD ds ns) [f0 cs] none none none)=.val ((List.range re.length).map λi=>.tup [nD i,.int (cs.getD i (-1))]):=by
    rw[<- lc,<- sP (f:=D.int) cs (-1)];rfl
   have lp:∀n:Nat,n<=re.length->∃x y z,bK (tg2 4 5) (br (bC (aC (vr 5) aN)) (tgN 6) (asg 3 (cal 6 cV (aC (vr 0) (aC (vr 1) (aC (vr 2) (aC (vr 3) (aC (vr 4) (aC (vr 6) aN))))))))) ((List.range n).map λi=>.tup [nD i,.int (cs.getD i (-1))]) (rCh (hlD en re tb) (rdD cs ms) (rdD ds ns) [f0 cs] none none none)=.val (.nx (rCh (hlD en re tb) (rdD cs ms) (rdD ds ns) (ig en cs ds ms ns n) x y z)):=by
    intro n hn;obtain⟨U',e1,x,y,z,rfl⟩:=fU (T:=tg2 4 5) (F:=br (bC (aC (vr 5) aN)) (tgN 6) (asg 3 (cal 6 cV (aC (vr 0) (aC (vr 1) (aC (vr 2) (aC (vr 3) (aC (vr 4) (aC (vr 6) aN))))))))) (xs:=(List.range n).map λi=>D.tup [nD i,.int (cs.getD i (-1))]) (λi U=>∃x y z,U=rCh (hlD en re tb) (rdD cs ms) (rdD ds ns) (ig en cs ds ms ns i) x y z) (λi d U hi hI=>by
     obtain⟨x,y,z,rfl⟩:=hI;have hb:i<n:=by
      have:=(List.getElem?_eq_some_iff.mp hi).1;simpa using this
     obtain rfl:d=.tup [nD i,.int (cs.getD i (-1))]:=by
      rw[List.getElem?_map,List.getElem?_range hb]at hi;exact(Option.some.inj hi).symm
     have hb:i<re.length:=by omega
     have cb:=r.cb i hb;have I:=jd h r q i (by omega);have len:=nA (en:=en) (ms:=ms) (ns:=ns) rm (b:=i) (by omega);obtain⟨U',e1,z',rfl⟩:=d5 (i:=6) (n:=(cs.getD i (-1)).toNat) (F:=asg 3 (cal 6 cV (aC (vr 0) (aC (vr 1) (aC (vr 2) (aC (vr 3) (aC (vr 4) (aC (vr 6) aN)))))))) (λj U=>∃z,U=rCh (hlD en re tb) (rdD cs ms) (rdD ds ns) (t7 en ds ms ns i (ig en cs ds ms ns i) j) (sh (nD i)) (sh (.int (cs.getD i (-1)))) z) (λj U hj hI=>by
      obtain⟨z,rfl⟩:=hI;have k1:1<=(ds.getD i (-1)).toNat:=by
       rcases rm i hb with w|w
       ·omega
       ·rw[w]at hj;simp at hj
      have J:=rH h r q hb I j (by omega);have l1:=nO (en:=en) (ms:=ms) (ns:=ns) k1 rfl len j;have up:pws cs ds i*(ds.getD i (-1)).toNat ^ (j+1)<=2000:=by
       refine Nat.le_trans (Nat.mul_le_mul_left _ (Nat.pow_le_pow_right k1 (show j+1<=(cs.getD i (-1)).toNat by omega))) ?_;exact Nat.le_trans (vP rm (b:=i+1) (by omega) (Nat.le_refl _)) hm
      rw[Nat.pow_succ,<- Nat.mul_assoc]at up;have l2:=Nat.le_trans (Nat.mul_le_mul_right (ds.getD i (-1)).toNat l1) up;have l3:(t7 en ds ms ns i (ig en cs ds ms ns i) j).length<=(t7 en ds ms ns i (ig en cs ds ms ns i) j).length*(ds.getD i (-1)).toNat:=Nat.le_mul_of_pos_right _ k1;refine⟨_,cS (Hu rfl rfl rfl rfl rfl rfl (wo h r q hb (by omega) k1 rfl (λf hf=>(J.1 f hf).1.1) (by omega) (by omega))),sh (nD j),?_⟩;rw[qo];rfl) (U:=rCh (hlD en re tb) (rdD cs ms) (rdD ds ns) (ig en cs ds ms ns i) (sh (nD i)) (sh (.int (cs.getD i (-1)))) z) ⟨z,rfl⟩
     refine⟨_,rCh (hlD en re tb) (rdD cs ms) (rdD ds ns) (ig en cs ds ms ns (i+1)) (sh (nD i)) (sh (.int (cs.getD i (-1)))) z',rfl,?_,_,_,_,rfl⟩
     ·have sr:bC (aC (vr 5) aN) (rCh (hlD en re tb) (rdD cs ms) (rdD ds ns) (ig en cs ds ms ns i) (sh (nD i)) (sh (.int (cs.getD i (-1)))) z)=.val (rng 0 (cs.getD i (-1)).toNat):=jh cb.1 (by omega);show R.bind (bC (aC (vr 5) aN) (rCh (hlD en re tb) (rdD cs ms) (rdD ds ns) (ig en cs ds ms ns i) (sh (nD i)) (sh (.int (cs.getD i (-1)))) z)) _=_;rw[sr,ac];exact e1) ⟨none,none,none,rfl⟩
    rw[List.length_map,List.length_range]at *;exact⟨x,y,z,e1⟩
   obtain⟨x,y,z,e1⟩:=lp re.length (Nat.le_refl _);rw[aK,ck,hs,ac,e1,ac,<- C1 h r q];rfl
end
theorem xx (h:ms.length<=100000):cE [ai ms]=.val (ai ms):=by
 simp only[cE,iR];show fin (ret (eLs _) [sh (ai ms)])=_;rw[bT,bD,bw (f:=am) (g:=am) (l:=ms) rfl h λa _=>rfl];rfl
theorem AL (i:Int):df [.int i]=.val (.bl true):=by
 simp only[df,gU];rfl
theorem qF (h:ms.length<=100000):bQ [rdD cs ms]=.val (rdD cs ms):=by
 simp only[bQ,gq];show fin (ret (eT _) [sh (rdD cs ms)])=_;have e1:cal 1 cE (aC (bin fix (vb 0) (kd (.int 1))) aN) [sh (rdD cs ms)]=.val (ai ms):=vk (a:=ai ms) rfl (xx h);rw[bT,lv,cF,cF,e1];rfl
section
variable {en:List (Nat×Nat)} {re:List Nat} {tb:List (List Int)} {cs ds:List Int} {ms ns:List (List Int)} {L M:Nat}
theorem CB (h:aS en re tb) (r:IsR 40 en re tb cs ms) (q:IsR 40 en re tb ds ns):dJ [rdD cs ms,rdD ds ns]=.val (.int (pws cs ds re.length:Int)):=by
 simp only[dJ,iP];show fin (sq _ _ [sh (rdD cs ms),sh (rdD ds ns),none,none,none])=_;have n6:=h.nb6;have lc:=r.lc;refine fgo (cS (x:=.int 1) rfl) ?_;obtain⟨U',e,x,y,rfl⟩:=d5 (i:=3) (n:=re.length) (F:=br (bC (aC (bin fix (bin fix (vb 0) (kd (.int 0))) (vb 3)) aN)) (tgN 4) (asg 2 (bin (iI gi) (vb 2) (bin fix (bin fix (vb 1) (kd (.int 0))) (vb 3))))) (λb U=>∃x y,U=[sh (rdD cs ms),sh (rdD ds ns),sh (.int (pws cs ds b:Int)),x,y]) (λb U hb hI=>by
  obtain⟨x,y,rfl⟩:=hI;have cb:=r.cb b hb;have db:=q.cb b hb;obtain⟨U',e,y',rfl⟩:=d5 (i:=4) (n:=(cs.getD b (-1)).toNat) (F:=asg 2 (bin (iI gi) (vb 2) (bin fix (bin fix (vb 1) (kd (.int 0))) (vb 3)))) (λj U=>∃y,U=[sh (rdD cs ms),sh (rdD ds ns),sh (.int ((pws cs ds b*(ds.getD b (-1)).toNat ^ j:Nat):Int)),sh (nD b),y]) (λj U hj hI=>by
   obtain⟨y,rfl⟩:=hI;refine⟨_,cS (x:=.int ((pws cs ds b*(ds.getD b (-1)).toNat ^ (j+1):Nat):Int)) ?_,_,rfl⟩;show R.bind (fix (am ds) (.int (b:Int))) (λy=>iI gi (.int ((pws cs ds b*(ds.getD b (-1)).toNat ^ j:Nat):Int)) y)=_;rw[bz (by rw[q.lc];exact hb),ac,oB,lf (by omega),Nat.pow_succ,<- Nat.mul_assoc,Int.natCast_mul (pws cs ds b*_),Int.toNat_of_nonneg db.1]) (U:=[sh (rdD cs ms),sh (rdD ds ns),sh (.int (pws cs ds b:Int)),sh (nD b),y]) ⟨y,by rw[Nat.pow_zero,Nat.mul_one]⟩
  have sr:bC (aC (bin fix (bin fix (vb 0) (kd (.int 0))) (vb 3)) aN) [sh (rdD cs ms),sh (rdD ds ns),sh (.int (pws cs ds b:Int)),sh (nD b),y]=.val (rng 0 (cs.getD b (-1)).toNat):=by
   have v:bin fix (bin fix (vb 0) (kd (.int 0))) (vb 3) [sh (rdD cs ms),sh (rdD ds ns),sh (.int (pws cs ds b:Int)),sh (nD b),y]=.val (.int (cs.getD b (-1))):=bz (by rw[r.lc];exact hb);rw[li,cF,v];exact jh cb.1 (by omega)
  refine⟨_,?_,sh (nD b),y',rfl⟩;show br _ _ _ [sh (rdD cs ms),sh (rdD ds ns),sh (.int (pws cs ds b:Int)),sh (nD b),y]=_;rw[ck,sr,ac,e];rfl) (U:=[sh (rdD cs ms),sh (rdD ds ns),sh (.int 1),none,none]) ⟨none,none,rfl⟩
 have sr:bC (aC (una aJ (bin fix (vb 0) (kd (.int 0)))) aN) [sh (rdD cs ms),sh (rdD ds ns),sh (.int 1),none,none]=.val (rng 0 re.length):=by
  rw[gO,<- lc];exact dS (uU cs) (by omega)
 show fin (sq _ _ [sh (rdD cs ms),sh (rdD ds ns),sh (.int 1),none,none])=_;rw[aK,ck,sr,ac,e];rfl
theorem wp (h:aS en re tb) (r:IsR 40 en re tb cs ms) (q:IsR 40 en re tb ds ns) (c:IsC en re cs ds ms ns G) {p1 p2 p3 p4:D}:bV [.tup [be en,p1,p2,p3,p4],rdD cs ms,rdD ds ns,ai G]=.val (.bl true):=by
 simp only[bV,d9];show fin (sq _ _ [sh (.tup [be en,p1,p2,p3,p4]),sh (rdD cs ms),sh (rdD ds ns),sh (ai G),none,none,none,none,none])=_;have n40:=h.na40;have fe:=sF (src:=bC (aC (una aJ (bin fix (vb 0) (kd (.int 0)))) aN)) (T:=tgN 4) (F:=sq (asT (tg2 5 6) (bin fix (bin fix (vb 0) (kd (.int 0))) (vb 4))) (br (bC (aC (bin fix (bin fix (vb 1) (kd (.int 0))) (vb 5)) aN)) (tgN 7) (sq (asg 8 (bin fix (bin fix (bin fix (vb 1) (kd (.int 1))) (vb 4)) (vb 7))) (DL.iff (tst (bin fne (bin fix (bin fix (vb 3) (vb 6)) (vb 8)) (bin fix (bin fix (bin fix (vb 2) (kd (.int 1))) (vb 4)) (bin fix (bin fix (vb 3) (vb 5)) (vb 7))))) (ret (kd (.bl false))) nxt)))) (f:=nD) (ok:=λ_=>true) (l:=List.range en.length) (U:=[sh (.tup [be en,p1,p2,p3,p4]),sh (rdD cs ms),sh (rdD ds ns),sh (ai G),none,none,none,none,none]) (λU=>∃a b c d e,U=[sh (.tup [be en,p1,p2,p3,p4]),sh (rdD cs ms),sh (rdD ds ns),sh (ai G),a,b,c,d,e]) (dS (Ay en) (by omega)) (λi hi U hI=>by
  obtain⟨a0,a1,a2,a3,a4,rfl⟩:=hI;have hi:=List.mem_range.mp hi;have eb:=h.eb i hi;have cb:=r.cb _ eb.1;have g1:=c.1.2 _ eb.1;have g2:=c.1.2 _ eb.2;have gl:=c.1.1;have l1:=r.ml i hi;have l2:=q.ml i hi;refine⟨_,rfl,(λz=>by cases z),λ_=>?_⟩;have lp:=k_ (src:=bC (aC (bin fix (bin fix (vb 1) (kd (.int 0))) (vb 5)) aN)) (T:=tgN 7) (F:=sq (asg 8 (bin fix (bin fix (bin fix (vb 1) (kd (.int 1))) (vb 4)) (vb 7))) (DL.iff (tst (bin fne (bin fix (bin fix (vb 3) (vb 6)) (vb 8)) (bin fix (bin fix (bin fix (vb 2) (kd (.int 1))) (vb 4)) (bin fix (bin fix (vb 3) (vb 5)) (vb 7))))) (ret (kd (.bl false))) nxt)) (f:=nD) (ok:=λ_=>true) (l:=List.range (cs.getD (en.getD i (0,0)).1 (-1)).toNat) (U:=[sh (.tup [be en,p1,p2,p3,p4]),sh (rdD cs ms),sh (rdD ds ns),sh (ai G),sh (nD i),sh (nD (en.getD i (0,0)).1),sh (nD (en.getD i (0,0)).2),a3,a4]) (λU=>∃d e,U=[sh (.tup [be en,p1,p2,p3,p4]),sh (rdD cs ms),sh (rdD ds ns),sh (ai G),sh (nD i),sh (nD (en.getD i (0,0)).1),sh (nD (en.getD i (0,0)).2),d,e]) (by
   rw[<- gO];have v:bin fix (bin fix (vb 1) (kd (.int 0))) (vb 5) [sh (.tup [be en,p1,p2,p3,p4]),sh (rdD cs ms),sh (rdD ds ns),sh (ai G),sh (nD i),sh (nD (en.getD i (0,0)).1),sh (nD (en.getD i (0,0)).2),a3,a4]=.val (.int (cs.getD (en.getD i (0,0)).1 (-1))):=bz (by rw[r.lc];exact eb.1);rw[li,cF,v];exact jh cb.1 (by omega)) (λt ht U hI=>by
   obtain⟨d,e,rfl⟩:=hI;have ht:=List.mem_range.mp ht;have ht':(t:Int)<cs.getD (en.getD i (0,0)).1 (-1):=by omega
   obtain⟨p0,p1⟩:=Bm r hi ht';have nt:=c.2.2 i t hi ht';have bd:=c.2.1 _ t eb.1 ht';refine⟨_,rfl,(λz=>by cases z),λ_=>⟨_,sgo (cS (x:=nD (aT ms t i)) ?_) (eQ ?_),_,_,rfl⟩⟩
   ·show R.bind (fix (ai ms) (.int (i:Int))) (λx=>fix x (.int (t:Int)))=_;rw[bx (by rw[r.lm];exact hi),ac,bz (by omega)];unfold aT nD;rw[Int.toNat_of_nonneg p0]
   ·show R.bind (R.bind (R.bind (fix (ai G) (.int ((en.getD i (0,0)).2:Int))) λx=>fix x (.int (aT ms t i:Int))) λx=>R.bind (R.bind (fix (ai ns) (.int (i:Int))) λx=>R.bind (R.bind (fix (ai G) (.int ((en.getD i (0,0)).1:Int))) λx=>fix x (.int (t:Int))) λy=>fix x y) λy=>fne x y) asB=_;have v1:=bx (tb:=G) (i:=(en.getD i (0,0)).2) (by omega);have v2:=bz (r:=G.getD (en.getD i (0,0)).2 []) (i:=aT ms t i) (by omega);have v3:=bx (tb:=ns) (i:=i) (by rw[q.lm];exact hi);have v4:=bx (tb:=G) (i:=(en.getD i (0,0)).1) (by omega);have v5:=bz (r:=G.getD (en.getD i (0,0)).1 []) (i:=t) (by omega);have v6:=uV (r:=ns.getD i []) (x:=(G.getD (en.getD i (0,0)).1 []).getD t (-1)) bd.1 (by rw[l2];exact bd.2);have nt:(G.getD (en.getD i (0,0)).2 []).getD (aT ms t i) (-1)=(ns.getD i []).getD ((G.getD (en.getD i (0,0)).1 []).getD t (-1)).toNat (-1):=nt;rw[v1,ac,v2,ac,v3,ac,v4,ac,v5,ac,v6,ac,nt,Av];simp) ⟨_,_,rfl⟩
  rcases lp with⟨z,_⟩|⟨_,U',e',d,e,rfl⟩
  ·rw[List.all_eq_true.mpr λ_ _=>rfl]at z;cases z
  ·refine⟨_,sgo (U':=[sh (.tup [be en,p1,p2,p3,p4]),sh (rdD cs ms),sh (rdD ds ns),sh (ai G),sh (nD i),sh (nD (en.getD i (0,0)).1),sh (nD (en.getD i (0,0)).2),a3,a4]) ?_ e',_,_,_,_,_,rfl⟩;show R.bind (fix (be en) (.int (i:Int))) _=_;rw[d7 hi];rfl) ⟨_,_,_,_,_,rfl⟩
 rw[fe,List.all_eq_true.mpr λ_ _=>rfl]
end
theorem xJ {G:List (List Int)}:∀{l:List (List (List Int))},l.Nodup->G∈l->l.countP (λx=>decide (x=G))=1
 | [],_,h=>by cases h
 | x::l,nd,h=>by
  obtain⟨n1,n2⟩:=List.nodup_cons.mp nd;rw[List.countP_cons];by_cases e:x=G
  ·subst e;rw[decide_eq_true rfl,if_pos rfl,List.countP_eq_zero.mpr λy hy z=>n1 (by rw[<- of_decide_eq_true z];exact hy)]
  ·rw[decide_eq_false e,if_neg (by decide),xJ n2 ((List.mem_cons.mp h).resolve_left λz=>e z.symm)]
theorem y_ {a b:List (List Int)} (h:ai a=ai b):a=b:=nh (λx y e=>rowD_inj.mp e) (by injection h)
theorem CS {l:List (List (List Int))} (nd:l.Nodup) (hm:G∈l) (hl:l.length<=100000):AG (.lst (l.map ai)) (ai G)=.val (.int 1):=by
 unfold AG;dsimp only;have e8:∀x:List (List Int),eqb 8 (ai x)=true:=λx=>dZ (nc x);rw[if_pos ⟨by rw[List.all_map,List.all_eq_true];exact λx _=>e8 x,e8 G,by rw[List.length_map];exact hl⟩,List.countP_map];have:(λx=>pyq 8 x (ai G))∘ai=λx=>decide (x=G):=by
  funext x
  rw[Function.comp,Bool.eq_iff_iff,decide_eq_true_iff,iC 8 (nc x) (nc G)];exact⟨y_,λz=>by rw[z]⟩
 rw[this,xJ nd hm];rfl
theorem uO:∀l:List Int,eI (l.map D.int)=some l
 | []=>rfl
 | i::l=>by
  show(eI (l.map D.int)).map (i :: ·)=_;rw[uO l];rfl
theorem tZ:∀G:List (List Int),kK (G.map am)=some G
 | []=>rfl
 | l::G=>by
  show(match eI (l.map D.int)with|some x=>(kK (G.map am)).map (x :: ·)|none=>none)=_;rw[uO l,tZ G];rfl
theorem uX:∀Gs:List (List (List Int)),mB (Gs.map ai)=some Gs
 | []=>rfl
 | G::Gs=>by
  show(match kK (G.map am)with|some x=>(mB (Gs.map ai)).map (x :: ·)|none=>none)=_;rw[tZ G,uX Gs];rfl
theorem wI {Gs:List (List (List Int))} (hl:Gs.length<64) (hp:∀G∈Gs,j5 G):qB (.lst (Gs.map ai))=.val ((pC Gs).map ai):=by
 unfold qB;dsimp only;rw[uX];exact if_pos ⟨hl,List.all_eq_true.mpr λG hG=>posF_iff.mpr (hp G hG)⟩
theorem Df {A B:Rho->R Bool} (h:A U=.val false) (k:B U=.val false):orB A B U=.val false:=by
 rw[vT,h,ac,if_neg (by decide),k]
theorem Dg {A B:Rho->R Bool} {a b:Bool} (h:A U=.val a) (k:B U=.val b):orB A B U=.val (a||b):=by
 rw[vT,h,ac,k];cases a<;>rfl
theorem vV (h:F U=.val (.bl true)):dP (tst F) U=.val false:=by rw[jT,eN,h];rfl
def rLw (ns:List Int) (P H:D) (b:Nat) (rd fr:D) (md:List (List (List Int))) (x y z u:Option Slt):Rho:=[sh (.scr ns),sh P,sh H,sh (nD b),sh rd,sh fr,sh (.lst (md.map ai)),x,y,z,u]
theorem law_val (ns:List Int) (hl:ns.length<=63):o4 [.scr ns]=.val (.bl true):=by
 simp only[o4,s_];show fin (sq _ _ [sh (.scr ns),none,none,none,none,none,none,none,none,none,none])=_;obtain⟨sz,kn,g,hp⟩:=AO ns 0;have hp:dh [.scr ns,.int 0]=.val (PK sz kn):=hp;have h:=sE g;have hh:dL [PK sz kn]=.val (hlD (aH kn) (aL sz kn) (bO kn)):=CD g _;obtain⟨ds,ms,q,hd⟩:=yE g ns 5;have hd:bE [.scr ns,.int 5,PK sz kn]=.val (rdD ds ms):=hd;have n40:=h.na40;have n6:=h.nb6;have n1:=h.nb1;have lm:=q.lm;have lc:=q.lc;obtain⟨c4,h4⟩:=jX ns 4;have h4:aA [.scr ns,.int 4]=.val (.int c4):=h4;obtain⟨b,hb,eb⟩:=fo c4 (aL sz kn).length (by omega);have mb:bn c4 ((aL sz kn).length:Int)=.val (nD b):=by rw[c_ (by omega),eb]
 have ro:IsR 40 (aH kn) (aL sz kn) (bO kn) (bo (aH kn) (aL sz kn) b) (bH (aH kn) (bO kn) b):=rV h λt _=>Nat.le_trans (eC (en:=aH kn) b t) n40;have db:=q.cb b hb;have nd:=EE h q hb;have mm:=λG=>Ca h q hb (G:=G);have ml:(mde (aH kn) (aL sz kn) ds ms b).length=(ds.getD b (-1)).toNat:=by unfold mde;rw[List.length_map,List.length_range]
 have mat:∀th,th<(ds.getD b (-1)).toNat->(mde (aH kn) (aL sz kn) ds ms b).getD th []=chg (aH kn) (aL sz kn) ms b th:=λth ht=>by
  unfold mde;rw[ar (by simpa using ht)];simp
 have hnd:=qF (cs:=ds) (ms:=ms) (by omega);have hnf:=qF (cs:=bo (aH kn) (aL sz kn) b) (ms:=bH (aH kn) (bO kn) b) (by rw[ro.lm];omega);refine fgo (cS (jc rfl rfl hp)) (fgo (cS (vk rfl hh)) (fgo (cS (x:=nD b) ?_) (fgo (cS (tx rfl rfl rfl hd)) (fgo (cS (jc rfl rfl (qE h hb))) (fgo (U':=rLw ns (PK sz kn) (hlD (aH kn) (aL sz kn) (bO kn)) b (rdD ds ms) (rdD (bo (aH kn) (aL sz kn) b) (bH (aH kn) (bO kn) b)) (mde (aH kn) (aL sz kn) ds ms b) none none none none) (cS (x:=.lst ((mde (aH kn) (aL sz kn) ds ms b).map ai)) ?_) ?_)))))
 ·have v:una aJ (bin fix (vb 1) (kd (.int 1))) [sh (.scr ns),sh (PK sz kn),sh (hlD (aH kn) (aL sz kn) (bO kn)),none,none,none,none,none,none,none,none]=.val (.int ((aL sz kn).length:Int)):=Ax (aL sz kn);show bin _ _ _ [sh (.scr ns),sh (PK sz kn),sh (hlD (aH kn) (aL sz kn) (bO kn)),none,none,none,none,none,none,none,none]=_;rw[bN,jc rfl rfl h4,ac,v,ac,oB,mb]
 ·have sr:bC (aC (bin fix (bin fix (vb 4) (kd (.int 0))) (vb 3)) aN) [sh (.scr ns),sh (PK sz kn),sh (hlD (aH kn) (aL sz kn) (bO kn)),sh (nD b),sh (rdD ds ms),sh (rdD (bo (aH kn) (aL sz kn) b) (bH (aH kn) (bO kn) b)),none,none,none,none,none]=.val ((List.range (ds.getD b (-1)).toNat).map nD):=by
   have v:bin fix (bin fix (vb 4) (kd (.int 0))) (vb 3) [sh (.scr ns),sh (PK sz kn),sh (hlD (aH kn) (aL sz kn) (bO kn)),sh (nD b),sh (rdD ds ms),sh (rdD (bo (aH kn) (aL sz kn) b) (bH (aH kn) (bO kn) b)),none,none,none,none,none]=.val (.int (ds.getD b (-1))):=bz (by omega);rw[li,cF,v,<- gO];exact jh db.1 (by omega)
  show eLs _ [sh (.scr ns),sh (PK sz kn),sh (hlD (aH kn) (aL sz kn) (bO kn)),sh (nD b),sh (rdD ds ms),sh (rdD (bo (aH kn) (aL sz kn) b) (bH (aH kn) (bO kn) b)),none,none,none,none,none]=_;rw[bD,bw (f:=nD) (g:=λth=>ai (chg (aH kn) (aL sz kn) ms b th)) (l:=List.range (ds.getD b (-1)).toNat) sr (by rw[List.length_range];omega) λth ht=>by
   have ht:=List.mem_range.mp ht;exact CV rfl rfl (vk (a:=rdD ds ms) rfl hnd) rfl (sO h q hb (by omega))]
  unfold mde;rw[List.map_map];rfl
 generalize hmd:mde (aH kn) (aL sz kn) ds ms b=md at *;generalize hH:hlD (aH kn) (aL sz kn) (bO kn)=H at *;have lp:=k_ (src:=bC (aC (una aJ (vb 6)) aN)) (T:=tgN 7) (F:=sq (asg 8 (bin fix (vb 6) (vb 7)))
 (sq (DL.iff (orB (dP (tst (una (AE "list") (vb 8)))) (tst (bin fne (Fg (vb 6) (vr 8)) (kd (.int 1)))))
 (ret (kd (.bl false)))
 nxt)
 (sq (DL.iff (tst (bin fne (eLs (a_ (fIt (vr 8)) 1 (tgN 11) tT (una aJ (vb 11)))) (bin fix (vb 5) (kd (.int 0)))))
 (ret (kd (.bl false)))
 nxt)
 (sq (DL.iff (dP (tst (cal 4 bV (aC (vr 1) (aC (vr 5) (aC (vr 4) (aC (vr 8) aN)))))))
 (ret (kd (.bl false)))
 nxt)
 (sq (asg 9 (cal 4 dH (aC (vr 2) (aC (vr 3) (aC (cal 1 bQ (aC (vr 4) aN)) (aC (cal 1 cE (aC (vr 8) aN)) aN))))))
 (DL.iff (orB (dP (tst (cal 1 df (aC (vr 9) aN)))) (tst (bin fne (vb 9) (vb 7))))
 (ret (kd (.bl false)))
 nxt)))))) (f:=nD) (ok:=λ_=>true) (l:=List.range md.length) (λU=>∃x y z,U=rLw ns (PK sz kn) H b (rdD ds ms) (rdD (bo (aH kn) (aL sz kn) b) (bH (aH kn) (bO kn) b)) md x y z none) (U:=rLw ns (PK sz kn) H b (rdD ds ms) (rdD (bo (aH kn) (aL sz kn) b) (bH (aH kn) (bO kn) b)) md none none none none) (dS (by
   show aJ (.lst (md.map ai))=_;rw[show aJ (.lst (md.map ai))=.val (.int ((md.map ai).length:Int))from Eq.trans rfl rfl,List.length_map]) (by omega)) (λth ht U hI=>by
  obtain⟨x,y,z,rfl⟩:=hI;have ht:=List.mem_range.mp ht;have ht':(th:Int)<ds.getD b (-1):=by omega
  have hm:chg (aH kn) (aL sz kn) ms b th∈md:=(mm _).mpr (xN h q hb ht');have c:=(mm _).mp hm;have fx:fix (.lst (md.map ai)) (.int (th:Int))=.val (ai (chg (aH kn) (aL sz kn) ms b th)):=by
   rw[<- mat th (by omega)];exact ia (dn ht)
  have ct:=CS nd hm (by omega);have lch:=wp h ro q c (p1:=aF (aL sz kn)) (p2:=ai (bO kn)) (p3:=.lst (kn.map au)) (p4:=aF sz);have cp:=xx (ms:=chg (aH kn) (aL sz kn) ms b th) (by rw[dB];omega);have tho:=u0 h q hb ht';rw[hH]at tho;refine⟨_,rfl,(λz=>by cases z),λ_=>⟨rLw ns (PK sz kn) H b (rdD ds ms) (rdD (bo (aH kn) (aL sz kn) b) (bH (aH kn) (bO kn) b)) md (sh (nD th)) (sh (ai (chg (aH kn) (aL sz kn) ms b th))) (sh (nD th)) none,sgo (U':=rLw ns (PK sz kn) H b (rdD ds ms) (rdD (bo (aH kn) (aL sz kn) b) (bH (aH kn) (bO kn) b)) md (sh (nD th)) (sh (ai (chg (aH kn) (aL sz kn) ms b th))) z none) (cS fx) (sgo (eQ (Df (vV rfl) ?_)) (sgo (eQ ?_) (sgo (eQ (vV (CV rfl rfl rfl rfl lch))) (sgo (cS (CV rfl rfl (vk rfl hnd) (vk rfl cp) tho)) (eQ (Df (vV (vk rfl (AL _))) ?_)))))),_,_,_,rfl⟩⟩
  ·show R.bind (R.bind (AG (.lst (md.map ai)) (ai (chg (aH kn) (aL sz kn) ms b th))) λx=>fne x (.int 1)) asB=_;rw[ct,ac,Av];rfl
  ·have cl:eLs (a_ (fIt (vr 8)) 1 (tgN 11) tT (una aJ (vb 11))) (rLw ns (PK sz kn) H b (rdD ds ms) (rdD (bo (aH kn) (aL sz kn) b) (bH (aH kn) (bO kn) b)) md (sh (nD th)) (sh (ai (chg (aH kn) (aL sz kn) ms b th))) z none)=.val (am (bo (aH kn) (aL sz kn) b)):=by
    rw[fm (f:=am) (g:=λl=>(l.length:Int)) (l:=chg (aH kn) (aL sz kn) ms b th) rfl (by rw[dB];omega) λt _=>uU t];refine congrArg (λl=>R.val (am l)) ?_;unfold chg bo;rw[List.map_map];apply List.map_congr_left;intro o _;simp only[Function.comp,fj]
   rw[eN,bN,cl];show R.bind (fne (am (bo (aH kn) (aL sz kn) b)) (am (bo (aH kn) (aL sz kn) b))) asB=_;rw[h_ (gP _)];rfl
  ·show R.bind (fne (nD th) (nD th)) asB=_;rw[h_ (wZ _)];rfl) ⟨_,_,_,rfl⟩
 rcases lp with⟨z,_⟩|⟨_,U',e',x,y,z,rfl⟩
 ·rw[List.all_eq_true.mpr λ_ _=>rfl]at z;cases z
 refine fgo e' ?_;have many:=CB h ro q;have m1:=me (cs:=bo (aH kn) (aL sz kn) b) (by rw[ro.lc];omega);have m2:=me (cs:=ds) (by omega);have t1:tst (bin (iI fgt) (una i5 (bin fix (vb 5) (kd (.int 0)))) (kd (.int 3))) (rLw ns (PK sz kn) H b (rdD ds ms) (rdD (bo (aH kn) (aL sz kn) b) (bH (aH kn) (bO kn) b)) md x y z none)=.val (decide (3<i_ (bo (aH kn) (aL sz kn) b))):=by
  show R.bind (R.bind (i5 (am (bo (aH kn) (aL sz kn) b))) λx=>iI fgt x (.int 3)) asB=_;rw[m1];rfl
 have t2:tst (bin (iI fgt) (una i5 (bin fix (vb 4) (kd (.int 0)))) (kd (.int 3))) (rLw ns (PK sz kn) H b (rdD ds ms) (rdD (bo (aH kn) (aL sz kn) b) (bH (aH kn) (bO kn) b)) md x y z none)=.val (decide (3<i_ ds)):=by
  show R.bind (R.bind (i5 (am ds)) λx=>iI fgt x (.int 3)) asB=_;rw[m2];rfl
 have t3:tst (bin (iI fgt) (cal 2 dJ (aC (vr 5) (aC (vr 4) aN))) (kd (.int 2000))) (rLw ns (PK sz kn) H b (rdD ds ms) (rdD (bo (aH kn) (aL sz kn) b) (bH (aH kn) (bO kn) b)) md x y z none)=.val (decide ((2000:Int)<(pws (bo (aH kn) (aL sz kn) b) ds (aL sz kn).length:Int))):=by
  rw[eN,bN,jc rfl rfl many];rfl
 have tt:=Dg t1 (Dg t2 t3);by_cases e3:(decide (3<i_ (bo (aH kn) (aL sz kn) b))||(decide (3<i_ ds)||decide ((2000:Int)<(pws (bo (aH kn) (aL sz kn) b) ds (aL sz kn).length:Int))))=true
 ·rw[e3]at tt;rw[aK,bL,tt,ac,if_pos rfl];rfl
 rw[Bool.not_eq_true]at e3;have pw:pws (bo (aH kn) (aL sz kn) b) ds (aL sz kn).length<=2000:=by
  have:=(Bool.or_eq_false_iff.mp (Bool.or_eq_false_iff.mp e3).2).2;have:=of_decide_eq_false this;omega
 rw[e3]at tt;have ch:=wq h ro q pw;rw[hH]at ch;have pm:(m6 (aH kn) (aL sz kn) (bo (aH kn) (aL sz kn) b) ds (bH (aH kn) (bO kn) b) ms).Perm md:=yO h ro q nd mm;generalize m6 (aH kn) (aL sz kn) (bo (aH kn) (aL sz kn) b) ds (bH (aH kn) (bO kn) b) ms=al at *;have pp:∀G∈md,j5 G:=λG hG=>((mm G).mp hG).pos;have pa:∀G∈al,j5 G:=λG hG=>pp G (pm.mem_iff.mp hG);have ll:=pm.length_eq;refine fgo (eQ tt) (fgo (U':=rLw ns (PK sz kn) H b (rdD ds ms) (rdD (bo (aH kn) (aL sz kn) b) (bH (aH kn) (bO kn) b)) md x y z (sh (.lst (al.map ai)))) (cS (tx rfl (vk rfl hnf) (vk rfl hnd) ch)) ?_);have v1:bin feq (una aJ (vb 10)) (bin fix (bin fix (vb 4) (kd (.int 0))) (vb 3)) (rLw ns (PK sz kn) H b (rdD ds ms) (rdD (bo (aH kn) (aL sz kn) b) (bH (aH kn) (bO kn) b)) md x y z (sh (.lst (al.map ai))))=.val (.bl true):=by
  show R.bind (.val (.int ((al.map ai).length:Int))) (λx=>R.bind (fix (am ds) (.int (b:Int))) λy=>feq x y)=_;rw[bz (by omega),ac,ac,List.length_map,wm,decide_eq_true (by omega)]
 have v2:bin feq (eLs (oK (vb 10))) (eLs (oK (vb 6))) (rLw ns (PK sz kn) H b (rdD ds ms) (rdD (bo (aH kn) (aL sz kn) b) (bH (aH kn) (bO kn) b)) md x y z (sh (.lst (al.map ai))))=.val (.bl true):=by
  have w1:eLs (oK (vb 10)) (rLw ns (PK sz kn) H b (rdD ds ms) (rdD (bo (aH kn) (aL sz kn) b) (bH (aH kn) (bO kn) b)) md x y z (sh (.lst (al.map ai))))=.val (.lst ((pC al).map ai)):=by
   rw[bD];show R.bind (qB (.lst (al.map ai))) _=_;rw[wI (by omega) pa];rfl
  have w2:eLs (oK (vb 6)) (rLw ns (PK sz kn) H b (rdD ds ms) (rdD (bo (aH kn) (aL sz kn) b) (bH (aH kn) (bO kn) b)) md x y z (sh (.lst (al.map ai))))=.val (.lst ((pC md).map ai)):=by
   rw[bD];show R.bind (qB (.lst (md.map ai))) _=_;rw[wI (by omega) pp];rfl
  rw[bN,w1,ac,w2,ac,xW pa pm];exact jr (rR (all_map (λG=>nc G) _))
 show fin (ret _ (rLw ns (PK sz kn) H b (rdD ds ms) (rdD (bo (aH kn) (aL sz kn) b) (bH (aH kn) (bO kn) b)) md x y z (sh (.lst (al.map ai)))))=_;rw[bT,C0,v1,ac,Fj,ac,if_pos rfl,v2];rfl
end DL
namespace DL
open PySem PySem.Spec PyProof.Rows L2
variable {us:List Value}
theorem wa {n:Nat} (h:us.length=n+1):∃y l,us=y::l/\l.length=n:=by
 cases us with
 | nil=>cases h
 | cons y l=>exact⟨y,l,rfl,Nat.succ.inj h⟩
theorem p7 (h:us.length=1):∃y0,us=[y0]:=by
 obtain⟨y,l,e,h⟩:=wa h;exact⟨y,by rw[e,List.eq_nil_of_length_eq_zero h]⟩
theorem iK (h:us.length=2):∃y0 y1,us=[y0,y1]:=by
 obtain⟨y,l,rfl,g⟩:=wa h;obtain⟨y1,rfl⟩:=p7 g;exact⟨y,y1,rfl⟩
theorem lX (h:us.length=3):∃y0 y1 y2,us=[y0,y1,y2]:=by
 obtain⟨y,l,rfl,g⟩:=wa h;obtain⟨y1,y2,rfl⟩:=iK g;exact⟨y,y1,y2,rfl⟩
theorem uK (h:us.length=4):∃y0 y1 y2 y3,us=[y0,y1,y2,y3]:=by
 obtain⟨y,l,rfl,g⟩:=wa h;obtain⟨y1,y2,y3,rfl⟩:=lX g;exact⟨y,y1,y2,y3,rfl⟩
theorem Gi (h:us.length=5):∃y0 y1 y2 y3 y4,us=[y0,y1,y2,y3,y4]:=by
 obtain⟨y,l,rfl,g⟩:=wa h;obtain⟨y1,y2,y3,y4,rfl⟩:=uK g;exact⟨y,y1,y2,y3,y4,rfl⟩
theorem Gh (h:us.length=6):∃y0 y1 y2 y3 y4 y5,us=[y0,y1,y2,y3,y4,y5]:=by
 obtain⟨y,l,rfl,g⟩:=wa h;obtain⟨y1,y2,y3,y4,y5,rfl⟩:=Gi g;exact⟨y,y1,y2,y3,y4,y5,rfl⟩
theorem G7 (h:us.length=7):∃y0 y1 y2 y3 y4 y5 y6,us=[y0,y1,y2,y3,y4,y5,y6]:=by
 obtain⟨y,l,rfl,g⟩:=wa h;obtain⟨y1,y2,y3,y4,y5,y6,rfl⟩:=Gh g;exact⟨y,y1,y2,y3,y4,y5,y6,rfl⟩
def wK (K:Frag):Sp:=λvs H Q _=>∃(a:Addr) (ns:List Int),vs=[.ref a]/\SqL K H a (ns.map V.int)/\ns.length<=63/\∀H',Q (.bl true) H'
theorem Cg {P:Program} {w:World} {K:Frag} {mg:Str->Option Value} {base:Heap} {C:Addr} {k:Nat} {f:Addr} {fd:FuncData} (hval:∀ns:List Int,ns.length<=63->o4 [.scr ns]=.val (.bl true)) (F:FnOk P w K mg base CX0 k f fd ["script"] (spD K C 1 o4)):FnOk P w K mg base CX0 k f fd ["script"] (wK K) :=
 F.imp λvs H Q E ⟨a,ns,e,hS,hl,q⟩=>by
  subst e;refine⟨rfl,[.scr ns],.cons (.scr hS) .nil,?_⟩;rw[hval ns hl];intro v H' _ hv;cases hv;exact q H'
abbrev NI (K:Frag) (x:Str) (f:Addr):Prop:=nsIn K mainGlobals x=some (some (.ref f))
abbrev NN (K:Frag) (x:Str):Prop:=nsIn K mainGlobals x=some none
abbrev LK (K:Frag) (f:Addr) (n q:Str) (s:Stmt) (oc:Value) (od:Option Addr) (kV dc pm:Value) (an:Option Addr) (cd ct:Value) (sl:Array (Option Value)):Prop:=K.lookup f=some ⟨oc,od,.func (fnOf n q (jY s) (cJ s) (ao s) .none kV dc pm an cd ct),sl⟩
abbrev CI (K:Frag) (c:Value) (n:Str):Prop:=codeIn K c n=true
abbrev KP (K:Frag) (f:Addr):Prop:=keepIn K (.ref f)=true
abbrev KO (K:Frag) (a b:Value) (c:Bool):Prop:=kitOne K a b=some c
set_option autoImplicit true in
theorem all_mk {l:PySem.W.OpenLaw} {w:World} {K:Frag} {h:Heap} {mg:Str->Option Value} {fa C f1 f2 f3 f4 f5 f6 f7 f8 f9 f10 f11 f12 f13 f14 f15 f16 f17 f18 f19 f20 f21 f22 f23 f24 f25 f26 f27 f28 f29 f30 f31 f32 f33 f34 f35 f36 f37 f38 f39 f40 f41 f42 f43 f44 f45 f46 f47 f48 f49:Addr} {tb ta tMOST_THINGS:Tok} (hval:∀ns:List Int,ns.length<=63->o4 [.scr ns]=.val (.bl true)) (X:K.In h) (G:h.Ns mainGlobals mg) (hfa:mg "law"=some (.ref fa))
    (aC:NI K "Hall" C)
    (a1:NI K "_law_cell" f1) (l1:LK K f1 "_law_cell" "_law_cell" iq oc1 od1 kV1 dc1 pm1 an1 cd1 ct1 sl1) (c1:CI K cd1 "_law_cell") (k1:KP K f1)
    (a2:NI K "_law_sizes" f2) (l2:LK K f2 "_law_sizes" "_law_sizes" gG oc2 od2 kV2 dc2 pm2 an2 cd2 ct2 sl2) (c2:CI K cd2 "_law_sizes") (k2:KP K f2)
    (a3:NI K "_law_next" f3) (l3:LK K f3 "_law_next" "_law_next" ik oc3 od3 kV3 dc3 pm3 an3 cd3 ct3 sl3) (c3:CI K cd3 "_law_next") (k3:KP K f3)
    (a4:NI K "_law_closed" f4) (l4:LK K f4 "_law_closed" "_law_closed" cG oc4 od4 kV4 dc4 pm4 an4 cd4 ct4 sl4) (c4:CI K cd4 "_law_closed") (k4:KP K f4)
    (a5:NI K "_law_arrows" f5) (l5:LK K f5 "_law_arrows" "_law_arrows" fO oc5 od5 kV5 dc5 pm5 an5 cd5 ct5 sl5) (c5:CI K cd5 "_law_arrows") (k5:KP K f5)
    (a6:NI K "_law_parts" f6) (l6:LK K f6 "_law_parts" "_law_parts" gH oc6 od6 kV6 dc6 pm6 an6 cd6 ct6 sl6) (c6:CI K cd6 "_law_parts") (k6:KP K f6)
    (a7:NI K "check_counts" f7) (l7:LK K f7 "check_counts" "check_counts" dY oc7 od7 kV7 dc7 pm7 an7 cd7 ct7 sl7) (c7:CI K cd7 "check_counts") (k7:KP K f7)
    (a8:NI K "is_below" f8) (l8:LK K f8 "is_below" "is_below" ir oc8 od8 kV8 dc8 pm8 an8 cd8 ct8 sl8) (c8:CI K cd8 "is_below") (k8:KP K f8)
    (a9:NI K "check_ends" f9) (l9:LK K f9 "check_ends" "check_ends" fR oc9 od9 kV9 dc9 pm9 an9 cd9 ct9 sl9) (c9:CI K cd9 "check_ends") (k9:KP K f9)
    (a10:NI K "check_rests" f10) (l10:LK K f10 "check_rests" "check_rests" fg oc10 od10 kV10 dc10 pm10 an10 cd10 ct10 sl10) (c10:CI K cd10 "check_rests") (k10:KP K f10)
    (a11:NI K "check_form" f11) (l11:LK K f11 "check_form" "check_form" fQ oc11 od11 kV11 dc11 pm11 an11 cd11 ct11 sl11) (c11:CI K cd11 "check_form") (k11:KP K f11)
    (a12:NI K "check_entry" f12) (l12:LK K f12 "check_entry" "check_entry" fh oc12 od12 kV12 dc12 pm12 an12 cd12 ct12 sl12) (c12:CI K cd12 "check_entry") (k12:KP K f12)
    (a13:NI K "check_table" f13) (l13:LK K f13 "check_table" "check_table" ff oc13 od13 kV13 dc13 pm13 an13 cd13 ct13 sl13) (c13:CI K cd13 "check_table") (k13:KP K f13)
    (a14:NI K "check_beside_rests" f14) (l14:LK K f14 "check_beside_rests" "check_beside_rests" cg oc14 od14 kV14 dc14 pm14 an14 cd14 ct14 sl14) (c14:CI K cd14 "check_beside_rests") (k14:KP K f14)
    (a15:NI K "check_thirds" f15) (l15:LK K f15 "check_thirds" "check_thirds" dX oc15 od15 kV15 dc15 pm15 an15 cd15 ct15 sl15) (c15:CI K cd15 "check_thirds") (k15:KP K f15)
    (a16:NI K "check_threes" f16) (l16:LK K f16 "check_threes" "check_threes" dW oc16 od16 kV16 dc16 pm16 an16 cd16 ct16 sl16) (c16:CI K cd16 "check_threes") (k16:KP K f16)
    (a17:findIn K (.ref C) "__init__"=some (some (.ref f17))) (i17:PySem.W.isFn K (.ref f17)=true) (l17:LK K f17 "__init__" "Hall.__init__" bP oc17 od17 kV17 dc17 pm17 an17 cd17 ct17 sl17) (c17:CI K cd17 "Hall.__init__") (k17:KP K f17)
    (a18:NI K "_law_hall" f18) (l18:LK K f18 "_law_hall" "_law_hall" io oc18 od18 kV18 dc18 pm18 an18 cd18 ct18 sl18) (c18:CI K cd18 "_law_hall") (k18:KP K f18)
    (a19:NI K "_law_reading_of" f19) (l19:LK K f19 "_law_reading_of" "_law_reading_of" cZ oc19 od19 kV19 dc19 pm19 an19 cd19 ct19 sl19) (c19:CI K cd19 "_law_reading_of") (k19:KP K f19)
    (a20:NI K "_law_beside" f20) (l20:LK K f20 "_law_beside" "_law_beside" fN oc20 od20 kV20 dc20 pm20 an20 cd20 ct20 sl20) (c20:CI K cd20 "_law_beside") (k20:KP K f20)
    (a21:NI K "_law_between" f21) (l21:LK K f21 "_law_between" "_law_between" eX oc21 od21 kV21 dc21 pm21 an21 cd21 ct21 sl21) (c21:CI K cd21 "_law_between") (k21:KP K f21)
    (a22:NI K "_law_out" f22) (l22:LK K f22 "_law_out" "_law_out" jN oc22 od22 kV22 dc22 pm22 an22 cd22 ct22 sl22) (c22:CI K cd22 "_law_out") (k22:KP K f22)
    (a23:NI K "_law_drawn_reading" f23) (l23:LK K f23 "_law_drawn_reading" "_law_drawn_reading" cy oc23 od23 kV23 dc23 pm23 an23 cd23 ct23 sl23) (c23:CI K cd23 "_law_drawn_reading") (k23:KP K f23)
    (a24:NI K "check_box" f24) (l24:LK K f24 "check_box" "check_box" gK oc24 od24 kV24 dc24 pm24 an24 cd24 ct24 sl24) (c24:CI K cd24 "check_box") (k24:KP K f24)
    (a25:NI K "between" f25) (l25:LK K f25 "between" "between" jP oc25 od25 kV25 dc25 pm25 an25 cd25 ct25 sl25) (c25:CI K cd25 "between") (k25:KP K f25)
    (a26:NI K "led_behind" f26) (l26:LK K f26 "led_behind" "led_behind" fL oc26 od26 kV26 dc26 pm26 an26 cd26 ct26 sl26) (c26:CI K cd26 "led_behind") (k26:KP K f26)
    (a27:NI K "out_of" f27) (l27:LK K f27 "out_of" "out_of" kH oc27 od27 kV27 dc27 pm27 an27 cd27 ct27 sl27) (c27:CI K cd27 "out_of") (k27:KP K f27)
    (a28:NI K "are_below" f28) (l28:LK K f28 "are_below" "are_below" gM oc28 od28 kV28 dc28 pm28 an28 cd28 ct28 sl28) (c28:CI K cd28 "are_below") (k28:KP K f28)
    (a29:NI K "has_form" f29) (l29:LK K f29 "has_form" "has_form" iw oc29 od29 kV29 dc29 pm29 an29 cd29 ct29 sl29) (c29:CI K cd29 "has_form") (k29:KP K f29)
    (a30:NI K "keeps_rests" f30) (l30:LK K f30 "keeps_rests" "keeps_rests" e_ oc30 od30 kV30 dc30 pm30 an30 cd30 ct30 sl30) (c30:CI K cd30 "keeps_rests") (k30:KP K f30)
    (a31:NI K "followed" f31) (l31:LK K f31 "followed" "followed" iA oc31 od31 kV31 dc31 pm31 an31 cd31 ct31 sl31) (c31:CI K cd31 "followed") (k31:KP K f31)
    (a32:NI K "keeps_table" f32) (l32:LK K f32 "keeps_table" "keeps_table" eZ oc32 od32 kV32 dc32 pm32 an32 cd32 ct32 sl32) (c32:CI K cd32 "keeps_table") (k32:KP K f32)
    (a33:NI K "is_reading" f33) (l33:LK K f33 "is_reading" "is_reading" fP oc33 od33 kV33 dc33 pm33 an33 cd33 ct33 sl33) (c33:CI K cd33 "is_reading") (k33:KP K f33)
    (a34:NI K "check_reading" f34) (l34:LK K f34 "check_reading" "check_reading" dA oc34 od34 kV34 dc34 pm34 an34 cd34 ct34 sl34) (c34:CI K cd34 "check_reading") (k34:KP K f34)
    (a35:NI K "has_room" f35) (l35:LK K f35 "has_room" "has_room" iu oc35 od35 kV35 dc35 pm35 an35 cd35 ct35 sl35) (c35:CI K cd35 "has_room") (k35:KP K f35)
    (a36:NI K "settle" f36) (l36:LK K f36 "settle" "settle" fY oc36 od36 kV36 dc36 pm36 an36 cd36 ct36 sl36) (c36:CI K cd36 "settle") (k36:KP K f36)
    (a37:NI K "told_along" f37) (l37:LK K f37 "told_along" "told_along" fJ oc37 od37 kV37 dc37 pm37 an37 cd37 ct37 sl37) (c37:CI K cd37 "told_along") (k37:KP K f37)
    (a38:NI K "told_on" f38) (l38:LK K f38 "told_on" "told_on" jM oc38 od38 kV38 dc38 pm38 an38 cd38 ct38 sl38) (c38:CI K cd38 "told_on") (k38:KP K f38)
    (a39:NI K "changes" f39) (l39:LK K f39 "changes" "changes" jO oc39 od39 kV39 dc39 pm39 an39 cd39 ct39 sl39) (c39:CI K cd39 "changes") (k39:KP K f39)
    (a40:NI K "led_to" f40) (l40:LK K f40 "led_to" "led_to" kI oc40 od40 kV40 dc40 pm40 an40 cd40 ct40 sl40) (c40:CI K cd40 "led_to") (k40:KP K f40)
    (a41:NI K "change_of" f41) (l41:LK K f41 "change_of" "change_of" gL oc41 od41 kV41 dc41 pm41 an41 cd41 ct41 sl41) (c41:CI K cd41 "change_of") (k41:KP K f41)
    (a42:NI K "is_change" f42) (l42:LK K f42 "is_change" "is_change" gJ oc42 od42 kV42 dc42 pm42 an42 cd42 ct42 sl42) (c42:CI K cd42 "is_change") (k42:KP K f42)
    (a43:NI K "thing_of" f43) (l43:LK K f43 "thing_of" "thing_of" ij oc43 od43 kV43 dc43 pm43 an43 cd43 ct43 sl43) (c43:CI K cd43 "thing_of") (k43:KP K f43)
    (a44:NI K "_law_copy" f44) (l44:LK K f44 "_law_copy" "_law_copy" ip oc44 od44 kV44 dc44 pm44 an44 cd44 ct44 sl44) (c44:CI K cd44 "_law_copy") (k44:KP K f44)
    (a45:NI K "_law_handed" f45) (l45:LK K f45 "_law_handed" "_law_handed" fM oc45 od45 kV45 dc45 pm45 an45 cd45 ct45 sl45) (c45:CI K cd45 "_law_handed") (k45:KP K f45)
    (a46:NI K "_law_is_change" f46) (l46:LK K f46 "_law_is_change" "_law_is_change" dz oc46 od46 kV46 dc46 pm46 an46 cd46 ct46 sl46) (c46:CI K cd46 "_law_is_change") (k46:KP K f46)
    (a47:NI K "_law_many" f47) (l47:LK K f47 "_law_many" "_law_many" im oc47 od47 kV47 dc47 pm47 an47 cd47 ct47 sl47) (c47:CI K cd47 "_law_many") (k47:KP K f47)
    (a48:NI K "_law_whole" f48) (l48:LK K f48 "_law_whole" "_law_whole" gF oc48 od48 kV48 dc48 pm48 an48 cd48 ct48 sl48) (c48:CI K cd48 "_law_whole") (k48:KP K f48)
    (a49:NI K "law" f49) (l49:LK K f49 "law" "law" kJ oc49 od49 kV49 dc49 pm49 an49 cd49 ct49 sl49) (c49:CI K cd49 "law") (k49:KP K f49)
    (pg:plainGet K C Str.empty=true) (hd:hasDictIn K C=true) (po:PySem.W.plainOver K C=true) (sa:findIn K (.ref C) "__setattr__"=some (some (.builtin "object.__setattr__"))) (mk:PySem.W.makesIn K C=true) (kc:keepIn K (.ref C)=true)
    (nE:findIn K (.ref C) "ends"=some none) (nR:findIn K (.ref C) "rests"=some none) (nT:findIn K (.ref C) "table"=some none)
    (z_len:NN K "len")
    (z_list:NN K "list")
    (z_tuple:NN K "tuple")
    (z_range:NN K "range")
    (z_enumerate:NN K "enumerate")
    (z_max:NN K "max")
    (z_isinstance:NN K "isinstance")
    (z_all:NN K "all")
    (z_zip:NN K "zip")
    (z_sorted:NN K "sorted")
    (z_int:NN K "int")
    (z_bool:NN K "bool")
    (mb:nsIn K mainGlobals "MOST_BOXES"=some (some (.int 6 tb))) (ma:nsIn K mainGlobals "MOST_ARROWS"=some (some (.int 40 ta))) (mMOST_THINGS:nsIn K mainGlobals "MOST_THINGS"=some (some (.int 40 tMOST_THINGS)))
    (ih1:findIn K (.ref C) "__class__"=some (some (.builtin "object.__class__"))) (ih2:PySem.W.specialIn K (.builtin "object.__class__") "__get__"=some (some (.builtin "getset_descriptor.__get__"))) (ih3:PySem.W.takesIn K (.builtin "object.__class__")=some true)
    (ih4:PySem.W.mroIn K C (.type "object")=some true)
    (kii:KO K (.type "int") (.type "int") true)
    (kbi:KO K (.type "bool") (.type "int") true)
    (kNi:KO K (.type "NoneType") (.type "int") false)
    (kli:KO K (.type "list") (.type "int") false)
    (kti:KO K (.type "tuple") (.type "int") false)
    (kib:KO K (.type "int") (.type "bool") false)
    (kbb:KO K (.type "bool") (.type "bool") true)
    (kNb:KO K (.type "NoneType") (.type "bool") false)
    (klb:KO K (.type "list") (.type "bool") false)
    (ktb:KO K (.type "tuple") (.type "bool") false)
    (kil:KO K (.type "int") (.type "list") false)
    (kbl:KO K (.type "bool") (.type "list") false)
    (kNl:KO K (.type "NoneType") (.type "list") false)
    (kll:KO K (.type "list") (.type "list") true)
    (ktl:KO K (.type "tuple") (.type "list") false)
 :
    ∃fd:FuncData,(∀(s:Shared) (v:Value),BindsTo s fd ⟨[v],[]⟩ [("script",v)])/\∀base:Heap,K.In base->base.Ns mainGlobals mg->FnOk l.prog w K mg base CX0 7 fa fd ["script"] (wK K):=by
  have e:=hfa.symm.trans (mg_of X G a49);cases e;have cl:Cls K C:=⟨pg,hd,po,sa⟩;have T:Txt K mg C:=⟨cl,nE,nR,nT,mg_none_of X G z_len,mg_none_of X G z_list,mg_none_of X G z_tuple,mg_none_of X G z_range,mg_none_of X G z_enumerate,mg_none_of X G z_max,mg_none_of X G z_isinstance,mg_none_of X G z_all,mg_none_of X G z_zip,mg_none_of X G z_sorted,mg_none_of X G z_int,mg_none_of X G z_bool,⟨cl,ih1,ih2,ih3,ih4⟩,mg_of X G aC,⟨tb,mg_of X G mb⟩,⟨ta,mg_of X G ma⟩,⟨tMOST_THINGS,mg_of X G mMOST_THINGS⟩,⟨kii,kbi,kNi,kli,kti⟩,⟨kib,kbb,kNb,klb,ktb⟩,⟨kil,kbl,kNl,kll,ktl⟩⟩;have F1:=aM (st:=iq) l1 c1 k1;have b1:=F1.binds (ps:=["script","k"]) λ_ _ _ _ _ _ us hl=>by obtain⟨y0,y1,rfl⟩:=iK hl;rfl
  have F2:=aM (st:=gG) l2 c2 k2;have b2:=F2.binds (ps:=["script","k"]) λ_ _ _ _ _ _ us hl=>by obtain⟨y0,y1,rfl⟩:=iK hl;rfl
  have F3:=aM (st:=ik) l3 c3 k3;have b3:=F3.binds (ps:=["step"]) λ_ _ _ _ _ _ us hl=>by obtain⟨y0,rfl⟩:=p7 hl;rfl
  have F4:=aM (st:=cG) l4 c4 k4;have b4:=F4.binds (ps:=["known"]) λ_ _ _ _ _ _ us hl=>by obtain⟨y0,rfl⟩:=p7 hl;rfl
  have F5:=aM (st:=fO) l5 c5 k5;have b5:=F5.binds (ps:=["script","k","sizes"]) λ_ _ _ _ _ _ us hl=>by obtain⟨y0,y1,y2,rfl⟩:=lX hl;rfl
  have F6:=aM (st:=gH) l6 c6 k6;have b6:=F6.binds (ps:=["script","k"]) λ_ _ _ _ _ _ us hl=>by obtain⟨y0,y1,rfl⟩:=iK hl;rfl
  have F7:=aM (st:=dY) l7 c7 k7;have b7:=F7.binds (ps:=["ends","rests"]) λ_ _ _ _ _ _ us hl=>by obtain⟨y0,y1,rfl⟩:=iK hl;rfl
  have F8:=aM (st:=ir) l8 c8 k8;have b8:=F8.binds (ps:=["number","count"]) λ_ _ _ _ _ _ us hl=>by obtain⟨y0,y1,rfl⟩:=iK hl;rfl
  have F9:=aM (st:=fR) l9 c9 k9;have b9:=F9.binds (ps:=["ends","boxes"]) λ_ _ _ _ _ _ us hl=>by obtain⟨y0,y1,rfl⟩:=iK hl;rfl
  have F10:=aM (st:=fg) l10 c10 k10;have b10:=F10.binds (ps:=["ends","rests"]) λ_ _ _ _ _ _ us hl=>by obtain⟨y0,y1,rfl⟩:=iK hl;rfl
  have F11:=aM (st:=fQ) l11 c11 k11;have b11:=F11.binds (ps:=["table","arrows"]) λ_ _ _ _ _ _ us hl=>by obtain⟨y0,y1,rfl⟩:=iK hl;rfl
  have F12:=aM (st:=fh) l12 c12 k12;have b12:=F12.binds (ps:=["ends","one","other","made"]) λ_ _ _ _ _ _ us hl=>by obtain⟨y0,y1,y2,y3,rfl⟩:=uK hl;rfl
  have F13:=aM (st:=ff) l13 c13 k13;have b13:=F13.binds (ps:=["ends","table"]) λ_ _ _ _ _ _ us hl=>by obtain⟨y0,y1,rfl⟩:=iK hl;rfl
  have F14:=aM (st:=cg) l14 c14 k14;have b14:=F14.binds (ps:=["ends","rests","table"]) λ_ _ _ _ _ _ us hl=>by obtain⟨y0,y1,y2,rfl⟩:=lX hl;rfl
  have F15:=aM (st:=dX) l15 c15 k15;have b15:=F15.binds (ps:=["table","one","other","made"]) λ_ _ _ _ _ _ us hl=>by obtain⟨y0,y1,y2,y3,rfl⟩:=uK hl;rfl
  have F16:=aM (st:=dW) l16 c16 k16;have b16:=F16.binds (ps:=["table"]) λ_ _ _ _ _ _ us hl=>by obtain⟨y0,rfl⟩:=p7 hl;rfl
  have F17:=aM (st:=bP) l17 c17 k17;have b17:=F17.binds (ps:=["self","ends","rests","table"]) λ_ _ _ _ _ _ us hl=>by obtain⟨y0,y1,y2,y3,rfl⟩:=uK hl;rfl
  have F18:=aM (st:=io) l18 c18 k18;have b18:=F18.binds (ps:=["parts"]) λ_ _ _ _ _ _ us hl=>by obtain⟨y0,rfl⟩:=p7 hl;rfl
  have F19:=aM (st:=cZ) l19 c19 k19;have b19:=F19.binds (ps:=["parts"]) λ_ _ _ _ _ _ us hl=>by obtain⟨y0,rfl⟩:=p7 hl;rfl
  have F20:=aM (st:=fN) l20 c20 k20;have b20:=F20.binds (ps:=["parts","one","other"]) λ_ _ _ _ _ _ us hl=>by obtain⟨y0,y1,y2,rfl⟩:=lX hl;rfl
  have F21:=aM (st:=eX) l21 c21 k21;have b21:=F21.binds (ps:=["parts","box","other"]) λ_ _ _ _ _ _ us hl=>by obtain⟨y0,y1,y2,rfl⟩:=lX hl;rfl
  have F22:=aM (st:=jN) l22 c22 k22;have b22:=F22.binds (ps:=["parts","box"]) λ_ _ _ _ _ _ us hl=>by obtain⟨y0,y1,rfl⟩:=iK hl;rfl
  have F23:=aM (st:=cy) l23 c23 k23;have b23:=F23.binds (ps:=["script","k","parts"]) λ_ _ _ _ _ _ us hl=>by obtain⟨y0,y1,y2,rfl⟩:=lX hl;rfl
  have F24:=aM (st:=gK) l24 c24 k24;have b24:=F24.binds (ps:=["hall","box"]) λ_ _ _ _ _ _ us hl=>by obtain⟨y0,y1,rfl⟩:=iK hl;rfl
  have F25:=aM (st:=jP) l25 c25 k25;have b25:=F25.binds (ps:=["hall","box","other"]) λ_ _ _ _ _ _ us hl=>by obtain⟨y0,y1,y2,rfl⟩:=lX hl;rfl
  have F26:=aM (st:=fL) l26 c26 k26;have b26:=F26.binds (ps:=["hall","things","arrow"]) λ_ _ _ _ _ _ us hl=>by obtain⟨y0,y1,y2,rfl⟩:=lX hl;rfl
  have F27:=aM (st:=kH) l27 c27 k27;have b27:=F27.binds (ps:=["hall","box"]) λ_ _ _ _ _ _ us hl=>by obtain⟨y0,y1,rfl⟩:=iK hl;rfl
  have F28:=aM (st:=gM) l28 c28 k28;have b28:=F28.binds (ps:=["numbers","count"]) λ_ _ _ _ _ _ us hl=>by obtain⟨y0,y1,rfl⟩:=iK hl;rfl
  have F29:=aM (st:=iw) l29 c29 k29;have b29:=F29.binds (ps:=["hall","counts","maps"]) λ_ _ _ _ _ _ us hl=>by obtain⟨y0,y1,y2,rfl⟩:=lX hl;rfl
  have F30:=aM (st:=e_) l30 c30 k30;have b30:=F30.binds (ps:=["hall","counts","maps"]) λ_ _ _ _ _ _ us hl=>by obtain⟨y0,y1,y2,rfl⟩:=lX hl;rfl
  have F31:=aM (st:=iA) l31 c31 k31;have b31:=F31.binds (ps:=["first","second"]) λ_ _ _ _ _ _ us hl=>by obtain⟨y0,y1,rfl⟩:=iK hl;rfl
  have F32:=aM (st:=eZ) l32 c32 k32;have b32:=F32.binds (ps:=["hall","maps"]) λ_ _ _ _ _ _ us hl=>by obtain⟨y0,y1,rfl⟩:=iK hl;rfl
  have F33:=aM (st:=fP) l33 c33 k33;have b33:=F33.binds (ps:=["hall","counts","maps"]) λ_ _ _ _ _ _ us hl=>by obtain⟨y0,y1,y2,rfl⟩:=lX hl;rfl
  have F34:=aM (st:=dA) l34 c34 k34;have b34:=F34.binds (ps:=["hall","reading"]) λ_ _ _ _ _ _ us hl=>by obtain⟨y0,y1,rfl⟩:=iK hl;rfl
  have F35:=aM (st:=iu) l35 c35 k35;have b35:=F35.binds (ps:=["counts","others"]) λ_ _ _ _ _ _ us hl=>by obtain⟨y0,y1,rfl⟩:=iK hl;rfl
  have F36:=aM (st:=fY) l36 c36 k36;have b36:=F36.binds (ps:=["things","thing","goal"]) λ_ _ _ _ _ _ us hl=>by obtain⟨y0,y1,y2,rfl⟩:=lX hl;rfl
  have F37:=aM (st:=fJ) l37 c37 k37;have b37:=F37.binds (ps:=["hall","one","other","change","box","thing","goal"]) λ_ _ _ _ _ _ us hl=>by obtain⟨y0,y1,y2,y3,y4,y5,y6,rfl⟩:=G7 hl;rfl
  have F38:=aM (st:=jM) l38 c38 k38;have b38:=F38.binds (ps:=["hall","one","other","begun","box","thing"]) λ_ _ _ _ _ _ us hl=>by obtain⟨y0,y1,y2,y3,y4,y5,rfl⟩:=Gh hl;rfl
  have F39:=aM (st:=jO) l39 c39 k39;have b39:=F39.binds (ps:=["hall","one","other"]) λ_ _ _ _ _ _ us hl=>by obtain⟨y0,y1,y2,rfl⟩:=lX hl;rfl
  have F40:=aM (st:=kI) l40 c40 k40;have b40:=F40.binds (ps:=["hall","box","other","maps","thing"]) λ_ _ _ _ _ _ us hl=>by obtain⟨y0,y1,y2,y3,y4,rfl⟩:=Gi hl;rfl
  have F41:=aM (st:=gL) l41 c41 k41;have b41:=F41.binds (ps:=["hall","box","reading","thing"]) λ_ _ _ _ _ _ us hl=>by obtain⟨y0,y1,y2,y3,rfl⟩:=uK hl;rfl
  have F42:=aM (st:=gJ) l42 c42 k42;have b42:=F42.binds (ps:=["hall","one","other","change"]) λ_ _ _ _ _ _ us hl=>by obtain⟨y0,y1,y2,y3,rfl⟩:=uK hl;rfl
  have F43:=aM (st:=ij) l43 c43 k43;have b43:=F43.binds (ps:=["hall","box","reading","change"]) λ_ _ _ _ _ _ us hl=>by obtain⟨y0,y1,y2,y3,rfl⟩:=uK hl;rfl
  have F44:=aM (st:=ip) l44 c44 k44;have b44:=F44.binds (ps:=["rows"]) λ_ _ _ _ _ _ us hl=>by obtain⟨y0,rfl⟩:=p7 hl;rfl
  have F45:=aM (st:=fM) l45 c45 k45;have b45:=F45.binds (ps:=["reading"]) λ_ _ _ _ _ _ us hl=>by obtain⟨y0,rfl⟩:=p7 hl;rfl
  have F46:=aM (st:=dz) l46 c46 k46;have b46:=F46.binds (ps:=["parts","one","other","change"]) λ_ _ _ _ _ _ us hl=>by obtain⟨y0,y1,y2,y3,rfl⟩:=uK hl;rfl
  have F47:=aM (st:=im) l47 c47 k47;have b47:=F47.binds (ps:=["one","other"]) λ_ _ _ _ _ _ us hl=>by obtain⟨y0,y1,rfl⟩:=iK hl;rfl
  have F48:=aM (st:=gF) l48 c48 k48;have b48:=F48.binds (ps:=["found"]) λ_ _ _ _ _ _ us hl=>by obtain⟨y0,rfl⟩:=p7 hl;rfl
  have F49:=aM (st:=kJ) l49 c49 k49;have b49:=F49.binds (ps:=["script"]) λ_ _ _ _ _ _ us hl=>by obtain⟨y0,rfl⟩:=p7 hl;rfl
  refine⟨fnOf "law" "law" (jY kJ) (cJ kJ) (ao kJ) .none kV49 dc49 pm49 an49 cd49 ct49,λs v=>.of_eq rfl,λbase _ _=>?_⟩;have r1:=ux (P:=l.prog) (w:=w) (base:=base) T F1 (mg_of X G a1) b1;have r2:=sg T r1 F2 (mg_of X G a2) b2;have r3:=ut (P:=l.prog) (w:=w) (base:=base) T F3 (mg_of X G a3) b3;have r4:=pU (P:=l.prog) (w:=w) (base:=base) T F4 (mg_of X G a4) b4;have r5:=pX T r1 r4 r3 F5 (mg_of X G a5) b5;have r6:=si T r5 r2 F6 (mg_of X G a6) b6;have r7:=mR (P:=l.prog) (w:=w) (base:=base) T F7 (mg_of X G a7) b7;have r8:=uz (P:=l.prog) (w:=w) (base:=base) T F8 (mg_of X G a8) b8;have r9:=p5 T r8 F9 (mg_of X G a9) b9;have r10:=oj T r8 F10 (mg_of X G a10) b10;have r11:=pZ (P:=l.prog) (w:=w) (base:=base) T F11 (mg_of X G a11) b11;have r12:=om T r8 F12 (mg_of X G a12) b12;have r13:=oi T r12 F13 (mg_of X G a13) b13;have r14:=i9 (P:=l.prog) (w:=w) (base:=base) T F14 (mg_of X G a14) b14;have r15:=mQ (P:=l.prog) (w:=w) (base:=base) T F15 (mg_of X G a15) b15;have r16:=mP T r15 F16 (mg_of X G a16) b16;have r17:=oo T r14 r7 r9 r11 r10 r13 r16 F17 ⟨mk,a17,i17,kc⟩ b17;have r18:=uv T r17 F18 (mg_of X G a18) b18;have r19:=kU (P:=l.prog) (w:=w) (base:=base) T F19 (mg_of X G a19) b19;have r20:=pW (P:=l.prog) (w:=w) (base:=base) T F20 (mg_of X G a20) b20;have r21:=n_ (P:=l.prog) (w:=w) (base:=base) T F21 (mg_of X G a21) b21;have r22:=vY T r21 F22 (mg_of X G a22) b22;have r23:=jo T r1 r20 r22 r19 F23 (mg_of X G a23) b23;have r24:=sn T r8 F24 (mg_of X G a24) b24;have r25:=v7 T r24 F25 (mg_of X G a25) b25;have r26:=pR (P:=l.prog) (w:=w) (base:=base) T F26 (mg_of X G a26) b26;have r27:=yo T r25 r26 F27 (mg_of X G a27) b27;have r28:=ss T r8 F28 (mg_of X G a28) b28;have r29:=uB T r28 F29 (mg_of X G a29) b29;have r30:=oh (P:=l.prog) (w:=w) (base:=base) T F30 (mg_of X G a30) b30;have r31:=uC (P:=l.prog) (w:=w) (base:=base) T F31 (mg_of X G a31) b31;have r32:=og T r31 F32 (mg_of X G a32) b32;have r33:=pY T r29 r30 r32 F33 (mg_of X G a33) b33;have r34:=lW T r33 F34 (mg_of X G a34) b34;have r35:=uA (P:=l.prog) (w:=w) (base:=base) T F35 (mg_of X G a35) b35;have r36:MvB l.prog w K mg base C 1 "settle" [(.l .s)] 2 dN:=yn (P:=l.prog) (w:=w) (base:=base) T F36 (mg_of X G a36) b36;have r37:=pQ T r36 F37 (mg_of X G a37) b37;have r38:=vW T r37 F38 (mg_of X G a38) b38;have r39:=vZ T r34 r35 r38 F39 (mg_of X G a39) b39;have r40:=yp T r25 F40 (mg_of X G a40) b40;have r41:=so T r8 r24 r34 r40 F41 (mg_of X G a41) b41;have r42:=sk T r28 r31 F42 (mg_of X G a42) b42;have r43:=uq T r24 r25 r34 r42 r27 F43 (mg_of X G a43) b43;have r44:=uw (P:=l.prog) (w:=w) (base:=base) T F44 (mg_of X G a44) b44;have r45:=pT T r44 F45 (mg_of X G a45) b45;have r46:=lV (P:=l.prog) (w:=w) (base:=base) T F46 (mg_of X G a46) b46;have r47:=uu (P:=l.prog) (w:=w) (base:=base) T F47 (mg_of X G a47) b47;have r48:=se (P:=l.prog) (w:=w) (base:=base) T F48 (mg_of X G a48) b48;exact Cg hval (aV (C:=C) F49 HU (λcdv A outer s H E hr=>Bg cdv A outer s H E T r1 r27 r44 r23 r18 r45 r46 r47 r6 r48 r41 r39 r43 hr))
theorem walk {l:PySem.W.OpenLaw} {q:Program} {loose:List Str} {XP:(Str->Option Value)->Heap->Prop} {YP:World->Heap->Prop} {d:DefRec} {K:Params->Frag} (hn:l.most=some 63) (hdf:d.params.defaults=[])
  (hY:∀(w:World) (h:Heap),YP w h->(K w.params).In h)
  (F:∀(w:World) (mg:Str->Option Value) (fa:Addr) (h:Heap),(K w.params).In h->h.Ns mainGlobals mg->mg d.name=some (.ref fa) ->
   ∃fd:FuncData,(∀(s:Shared) (u:Value),BindsTo s fd ⟨[u],[]⟩ [("script",u)])/\∀base:Heap,(K w.params).In base->base.Ns mainGlobals mg->FnOk l.prog w (K w.params) mg base CX0 7 fa fd ["script"] (wK (K w.params))) :
  PySem.W.WalkO q loose XP YP l.row.toRowW d [] (λf vs=>PySem.call f vs) :=
 L2.walk_of (n:=63) (k:=7) (x:="script") (CX:=λ_=>CX0) (sp:=λw=>wK (K w.params)) hn (by decide) hdf ⟨rfl,by decide,by decide⟩ hY F (λ_ _ a ns hl _ hS=>⟨a,ns,rfl,hS,hl,λ_=>rfl⟩) λ_ _ _ _ _ z=>z
end DL
namespace PySem.W.Fast
def tw10229145978861280320:=0
def tw18179657617633268864:=0
def tw1976904149528902848:=0
def tw17285585293785575744:=0
def tw15114239130089127232:=0
def tw9141210808533686656:=0
def tw6278195260621352416:=0
def tw4905296180464381440:=0
def tw18329361154273976864:=0
def tw11118704079821270592:=0
def tw4929938642582008416:=0
def tw7537599228808693408:=0
def tw14781074740565233312:=0
def tw6694591381973894080:=0
def tw7650818850575578080:=0
def tw12635152184618286209:=0
def tw1077618372651063457:=0
def tw740745713298439425:=0
def tw9876462088938051937:=0
def tw7968127902987139457:=0
def tw11085750848260977153:=0
def tw10481826519178615329:=0
def tw9834507375985305121:=0
def tw6310920784928363073:=0
def tw8328334161032719073:=0
def tw3441787555352877793:=0
def tw2400206621240899393:=0
def tw8903122646778441569:=0
def tw14491598809641850978:=0
def tw6624885043147902082:=0
def tw14647445398486552034:=0
def tw3085804741539665442:=0
def tw2328147391293810338:=0
def tw5845550878982444706:=0
def tw4790066899143868098:=0
def tw3347915744231611138:=0
def tw3068472475821557506:=0
def tw7150318198198047554:=0
def tw37811635574149026:=0
def tw2098249776478521314:=0
def tw7105522150934595715:=0
def tw12474104346993022083:=0
def tw14425110956010611875:=0
def tw12545480193372041443:=0
def tw2632894286614874435:=0
def tw13429418369491769891:=0
def tw4713816914683945571:=0
def tw9038150768757474308:=0
def tw481335766636555332:=0
def tw1865306253684863204:=0
def tw11431689240502736228:=0
def tw5016618326592222596:=0
def tw6731410464764618148:=0
def tw15002668623614256612:=0
def tw1729247178468644388:=0
def tw6416537682843678372:=0
def tw17921873860683374276:=0
def tw2867506457750190788:=0
def tw17034688180843755236:=0
def tw2633405874282531588:=0
def tw18286236962641982244:=0
def tw13480404059826229060:=0
def tw4811955089984786276:=0
def tw13643705499744222180:=0
def tw13736586412203297829:=0
def tw17525711206933746757:=0
def tw1217864908893337701:=0
def tw13998397297682364549:=0
def tw9465335266690162021:=0
def tw17303155549178088837:=0
def tw16681748704378630565:=0
def tw11958870740046608805:=0
def tw16729832773028954629:=0
def tw17374117547215054405:=0
def tw3740116930720975429:=0
def tw10381073396139229797:=0
def tw14806842554030152293:=0
def tw13004226661604095589:=0
def tw17020005353959391877:=0
def tw290261458708894565:=0
def tw15739641790951282661:=0
def tw5822059327056430053:=0
def tw7507949449068598245:=0
def tw12597876890652202086:=0
def tw1332773108978927750:=0
def tw13863194343196227750:=0
def tw7305041068162418886:=0
def tw1467399775744339142:=0
def tw4593163291432508678:=0
def tw6835228893465633062:=0
def tw1392635006543078790:=0
def tw14225830713700655494:=0
def tw6980700999894320838:=0
def tw14127959659194234630:=0
def tw12391317200115338118:=0
def tw12163746873618246566:=0
def tw10172146802718243911:=0
def tw12036603314700289191:=0
def tw7614773771079599399:=0
def tw16287360017982128455:=0
def tw9402054489366921703:=0
def tw8786431993846244839:=0
def tw13803464001900598919:=0
def tw17150027687948493479:=0
def tw15088199667834136263:=0
def tw11786924652139045671:=0
def tw6195400857132684071:=0
def tw4950478266690138951:=0
def tw17260800244565417959:=0
def tw6101923048944610312:=0
def tw14938761928022164520:=0
def tw7208489896463175720:=0
def tw8283426263957379144:=0
def tw6058566654866905192:=0
def tw4335285302131912840:=0
def tw16836017102324476040:=0
def tw1095818854922898664:=0
def tw11847895361993247112:=0
def tw12040890572498803176:=0
def tw1793404298341973512:=0
def tw1360709666196423304:=0
def tw8477028836739145352:=0
def tw3018596829206405896:=0
def tw5905975855891220392:=0
def tw15564664481973448841:=0
def tw17050827055834369193:=0
def tw17460151590695518537:=0
def tw15722312059345564041:=0
def tw14644249946919089577:=0
def tw12459815831222342121:=0
def tw17443261201509835337:=0
def tw4204503720360114985:=0
def tw15242301948451934025:=0
def tw6936390803374764873:=0
def tw10951555270642064361:=0
def tw17843685902381899786:=0
def tw16184372018225396778:=0
def tw6802232997189945706:=0
def tw8991491519265165770:=0
def tw618375238749791786:=0
def tw10520980595632539306:=0
def tw14591615226353034954:=0
def tw17784094661939413802:=0
def tw3590488054133952619:=0
def tw15205231776932850987:=0
def tw10906754995608848715:=0
def tw10973690063223758507:=0
def tw17141279376682100427:=0
def tw15527643504472399659:=0
def tw18180005752960518027:=0
def tw7197068739054867371:=0
def tw11024034676052901803:=0
def tw3781632182946211787:=0
def tw8062724735852989387:=0
def tw3525083505179301835:=0
def tw595949935828360236:=0
def tw10460277985273374796:=0
def tw5868993617731664044:=0
def tw6274003276391880876:=0
def tw12611224566517517548:=0
def tw3856947064919805196:=0
def tw662812276458297644:=0
def tw10427530697453373900:=0
def tw11100827517693137388:=0
def tw8389029645798145644:=0
def tw3181874009373842092:=0
def tw11503774397936876204:=0
def tw16054338776800252748:=0
def tw17539416401137925964:=0
def tw13663289482940864460:=0
def tw5814195352598534221:=0
def tw1774165641962420653:=0
def tw2835600614343025229:=0
def tw16298849201186913997:=0
def tw11532968626425834253:=0
def tw16264502326754674541:=0
def tw16991211335480110989:=0
def tw18094527792356286542:=0
def tw12811290924720411822:=0
def tw15244766298793184590:=0
def tw5884692528179199406:=0
def tw1953067749400964558:=0
def tw7191924376230679246:=0
def tw11855172488177698670:=0
def tw9543158286597601327:=0
def tw553989796338861135:=0
def tw9370577490166475855:=0
def tw17800782748284840047:=0
def tw5910538548849928399:=0
def tw3089030058784695631:=0
def tw15118371441905553775:=0
def tw9290671261755526511:=0
def tw17271551637352111503:=0
def tw8333456933739580207:=0
def tw9848177911136817039:=0
def tw4689780669090244559:=0
def tw8124737235026069487:=0
def tw1357666468395682960:=0
def tw12393076299989680272:=0
def tw15138190769118742768:=0
def tw2484634867992578320:=0
def tw11173406242454218032:=0
def tw8722643039173466448:=0
def tw17093086942180389360:=0
def tw12633778747980320304:=0
def tw12468997144671627888:=0
def tw16649089201326339824:=0
def tw15017499703699310320:=0
def tw18275969172532079376:=0
def tw6403286599304531760:=0
def tw8655722398446543728:=0
def tw7357987245188367248:=0
def tw1402771770174484464:=0
def tw17355991088823825457:=0
def tw2546817409861763153:=0
def tw9686005478495521969:=0
def tw12543906475196161265:=0
def tw11644595022974919953:=0
def tw7307344661553312081:=0
def tw6518642248954624337:=0
def tw14022841536222805361:=0
def tw1342488175222898225:=0
def tw11194042281042640433:=0
def tw1637141035669685841:=0
def tw13169859873088268945:=0
def tw17621608081554799313:=0
def tw2218735428170577649:=0
def tw7941544345565408017:=0
def tw3382581535462347537:=0
def tw6288528347094112209:=0
def tw17767426339364583442:=0
def tw1444456966286914866:=0
def tw8135256799327666514:=0
def tw8838810544473554322:=0
def tw14500227744717128178:=0
def tw10255180257716314674:=0
def tw12374203439578900082:=0
def tw17200037985947307698:=0
def tw11791237510018042706:=0
def tw17997010029452955506:=0
def tw1078284354025978899:=0
def tw12143684522261371123:=0
def tw4829779556711434611:=0
def tw11179942313162036723:=0
def tw7218985406826226195:=0
def tw17385270056730276371:=0
def tw14419802769071663667:=0
def tw9425372412357415571:=0
def tw12674999604203718323:=0
def tw7947592067048911795:=0
def tw12286068344727298003:=0
def tw9178403265752088628:=0
def tw12021648233414552628:=0
def tw6884160808766664756:=0
def tw3328385855658610900:=0
def tw3696807374842723732:=0
def tw11209859141432349236:=0
def tw7748212869694789236:=0
def tw4944962064389837460:=0
def tw11330932008864091924:=0
def tw12790808145410339764:=0
def tw16373239741010217940:=0
def tw11493831519603374068:=0
def tw14724170652097925108:=0
def tw6208992626639579349:=0
def tw11110549794578791701:=0
def tw403544769401100629:=0
def tw3495813604764266837:=0
def tw10208752180607286837:=0
def tw18055036215644931669:=0
def tw13841700900699115349:=0
def tw2106883869720357877:=0
def tw14600515953297765526:=0
def tw14845657258689207542:=0
def tw14546968748406776054:=0
def tw16907073699756271894:=0
def tw2547401877909036310:=0
def tw4342668454078203382:=0
def tw7599481752026792598:=0
def tw11165817317152653974:=0
def tw5638945850478925558:=0
def tw1267292208730804054:=0
def tw6722062422262129558:=0
def tw2019873065834465174:=0
def tw15326339437178493111:=0
def tw5745159202016113975:=0
def tw12736006859178196535:=0
def tw5334254945418290775:=0
def tw13748483669477430903:=0
def tw6443601784610176631:=0
def tw4221050759311425239:=0
def tw17038820158450219927:=0
def tw8884385619702918071:=0
def tw16905120724382890935:=0
def tw4311293190596036664:=0
def tw17029449137991198808:=0
def tw2227678185144042712:=0
def tw7689302086684345592:=0
def tw3970802221989183928:=0
def tw8896432445789222328:=0
def tw11227248693454125560:=0
def tw238649214851522200:=0
def tw15874868093359130296:=0
def tw10785271645456938712:=0
def tw17268257427465877240:=0
def tw8491608859140746008:=0
def tw13670223153554854712:=0
def tw12937438305314561912:=0
def tw2432366082399217560:=0
def tw1334711781388346328:=0
def tw2458129756917159928:=0
def tw14819184873738941497:=0
def tw2338000372396671033:=0
def tw5050307933735572537:=0
def tw11263031814655333465:=0
def tw11515683516453759097:=0
def tw15593054217296329849:=0
def tw3035815721103604857:=0
def tw14590407021163476121:=0
def tw11636562901661750457:=0
def tw16069043053450969337:=0
def tw654596232601922809:=0
def tw10278552808396650745:=0
def tw14697557788011699481:=0
def tw13859791064840442137:=0
def tw3740130062918575577:=0
def tw14067839095846000121:=0
def tw792355806471077465:=0
def tw305482188029355609:=0
def tw15818259221519661657:=0
def tw10605173303755125369:=0
def tw5671128247783295737:=0
def tw5230136710389899033:=0
def tw17075264221848330073:=0
def tw8081442324741015449:=0
def tw1121854614138627993:=0
def tw1935898113293647865:=0
def tw2173771733790787577:=0
def tw13141888587888103450:=0
def tw16547260805963894842:=0
def tw11671416045510772826:=0
def tw16681390405821332602:=0
def tw10642462767784641658:=0
def tw11931299401713927322:=0
def tw12559719648160208058:=0
def tw10778196265113809082:=0
def tw10945111539328913658:=0
def tw1324165381948843514:=0
def tw11359962687152706074:=0
def tw13634131332739313210:=0
def tw9891957886647859834:=0
def tw2945676376713041562:=0
def tw5685221970781938426:=0
def tw2329209370542210906:=0
def tw15622355200223648698:=0
def tw18248731770802819034:=0
def tw7591825897189026843:=0
def tw6174709297800150139:=0
def tw7129580860881958075:=0
def tw14996343964839301339:=0
def tw15490752567465123067:=0
def tw5557589997695721787:=0
def tw15868569871972061499:=0
def tw10776137078826830171:=0
def tw11906911374034027867:=0
def tw9803140224387101083:=0
def tw6869473370140519835:=0
def tw15914889466415600059:=0
def tw4908646391640174139:=0
def tw15354011417721254619:=0
def tw8965405731295309595:=0
def tw3290266746233427803:=0
def tw11283956704230138940:=0
def tw4870380366419035388:=0
def tw3351765890883812732:=0
def tw10125735226191332828:=0
def tw11576463755248025052:=0
def tw9867055847380827644:=0
def tw5124595012947282460:=0
def tw5903204148451651132:=0
def tw5280660217428457180:=0
def tw1954336459276780348:=0
def tw3490511076635657180:=0
def tw8602523884429438972:=0
def tw2871622549930881085:=0
def tw7166008221632157757:=0
def tw15678153893439490333:=0
def tw9549823680657212797:=0
def tw9013382252923834813:=0
def tw14862503329582370589:=0
def tw1358250484255126333:=0
def tw5870496876534342557:=0
def tw9705246678013034493:=0
def tw10640774118889058301:=0
def tw9440546026915660094:=0
def tw11494775287569953150:=0
def tw7125948373091962302:=0
def tw13115712146750038558:=0
def tw13251454075564014110:=0
def tw18230873017371315806:=0
def tw16257313251740319326:=0
def tw2211177880594635454:=0
def tw9195477397379322654:=0
def tw9186905034091668286:=0
def tw1212024158353091550:=0
def tw18042264815615314942:=0
def tw7448190958419785823:=0
def tw655410576995468479:=0
def tw4553345903928557887:=0
def tw16460994695319432575:=0
def tw4321156973339408831:=0
def tw12495986954962798047:=0
def tw2237916521714384383:=0
def tw10279323533492862527:=0
def tw633726713383494271:=0
def tw11071091323929484927:=0
def tw6843829890256756351:=0
def tw13154812649441926815:=0
def tw17792291450436153023:=0
def tw7315815755462725343:=0
def tw2654836534616016639:=0
def tw6508868051076062015:=0
def tw18233373379565701951:=0
def tw8763552845057453919:=0
def tw4493462596624662399:=0
def tw3898792868759554943:=0
def tw7012116882971156415:=0
def tw12149897041501635583:=0
end PySem.W.Fast
open PySem PySem.W PyProof.Rows
set_option maxRecDepth 100000 in
set_option maxHeartbeats 0 in
theorem PySem.Challenge.cw_arrowhall_k12_whole_as_many_as_things_holds : PySem.Challenge.rw_arrowhall_k12_whole_as_many_as_things.Holds := by
 w_on;o_law;k_head;(case hw=>w_witness2)
 k_fill
 refine DL.walk (l:=PySem.Challenge.rw_arrowhall_k12_whole_as_many_as_things) rfl rfl (fun w h Im=>PySem.W.kIn_of Im) ?F
 case F =>
  intro w mg fa h KX G hmg
  refine' DL.all_mk DL.law_val KX G hmg ?aC ?a1 ?l1 ?c1 ?k1 ?a2 ?l2 ?c2 ?k2 ?a3 ?l3 ?c3 ?k3 ?a4 ?l4 ?c4 ?k4 ?a5 ?l5 ?c5 ?k5 ?a6 ?l6 ?c6 ?k6 ?a7 ?l7 ?c7 ?k7 ?a8 ?l8 ?c8 ?k8 ?a9 ?l9 ?c9 ?k9 ?a10 ?l10 ?c10 ?k10 ?a11 ?l11 ?c11 ?k11 ?a12 ?l12 ?c12 ?k12 ?a13 ?l13 ?c13 ?k13 ?a14 ?l14 ?c14 ?k14 ?a15 ?l15 ?c15 ?k15 ?a16 ?l16 ?c16 ?k16 ?a17 ?i17 ?l17 ?c17 ?k17 ?a18 ?l18 ?c18 ?k18 ?a19 ?l19 ?c19 ?k19 ?a20 ?l20 ?c20 ?k20 ?a21 ?l21 ?c21 ?k21 ?a22 ?l22 ?c22 ?k22 ?a23 ?l23 ?c23 ?k23 ?a24 ?l24 ?c24 ?k24 ?a25 ?l25 ?c25 ?k25 ?a26 ?l26 ?c26 ?k26 ?a27 ?l27 ?c27 ?k27 ?a28 ?l28 ?c28 ?k28 ?a29 ?l29 ?c29 ?k29 ?a30 ?l30 ?c30 ?k30 ?a31 ?l31 ?c31 ?k31 ?a32 ?l32 ?c32 ?k32 ?a33 ?l33 ?c33 ?k33 ?a34 ?l34 ?c34 ?k34 ?a35 ?l35 ?c35 ?k35 ?a36 ?l36 ?c36 ?k36 ?a37 ?l37 ?c37 ?k37 ?a38 ?l38 ?c38 ?k38 ?a39 ?l39 ?c39 ?k39 ?a40 ?l40 ?c40 ?k40 ?a41 ?l41 ?c41 ?k41 ?a42 ?l42 ?c42 ?k42 ?a43 ?l43 ?c43 ?k43 ?a44 ?l44 ?c44 ?k44 ?a45 ?l45 ?c45 ?k45 ?a46 ?l46 ?c46 ?k46 ?a47 ?l47 ?c47 ?k47 ?a48 ?l48 ?c48 ?k48 ?a49 ?l49 ?c49 ?k49 ?pg ?hd ?po ?sa ?mk ?kc ?nE ?nR ?nT ?z_len ?z_list ?z_tuple ?z_range ?z_enumerate ?z_max ?z_isinstance ?z_all ?z_zip ?z_sorted ?z_int ?z_bool ?mb ?ma ?mMOST_THINGS ?ih1 ?ih2 ?ih3 ?ih4 ?kii ?kbi ?kNi ?kli ?kti ?kib ?kbb ?kNb ?klb ?ktb ?kil ?kbl ?kNl ?kll ?ktl
  all_goals try unfold DL.NI
  all_goals try unfold DL.NN
  all_goals try unfold DL.LK
  all_goals try unfold DL.CI
  all_goals try unfold DL.KP
  all_goals try unfold DL.KO
  all_goals try first | k_is | kit_is
