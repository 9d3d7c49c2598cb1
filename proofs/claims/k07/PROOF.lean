import PyProof.Rows.All
import Wide.All
import OpenK.AllK
import Wide.FinOn
import Lean
import PyProof.EqAt
import PyProof.EqKinds
import PyProof.TupleCall
import PyProof.NeKinds
import PyProof.ListRange
import PyProof.TupleOfGen
import PyProof.DictRoadsH
import PyProof.Rows.FStr
import PyProof.ExcBaseAll.ValueError
import PyProof.ExcClass2
import PyProof.ExcArgsOwn
import PyProof.ExcAttrAll.ValueError
import KE.KIsAll
import PyProof.RulesAs
import PyProof.NsDelKeeps
import PyProof.ConsumeWalk
import PyProof.ZipIter
import PyProof.Rows.ZipGen
import PyProof.Rows.SeqGen
import PyProof.Rows.FactsT2
import PyProof.WalkInts
import PyProof.Rows.MinMaxN
import KE.KSortAsk
import PyProof.Rows.FactsT3
import PySem.Challenge.RW_arrowhall_k07_whole_best_views
set_option Elab.async false
set_option linter.all false
set_option maxRecDepth 100000
set_option maxHeartbeats 4000000
open PySem.W (instObj Frag plainGet hasDictIn findIn emptyDict kitOne kia_one keepIn fnOf codeIn nsIn callWith_K mg_of mg_none_of)
noncomputable section
namespace L2
open PySem PySem.Spec PyProof.Rows
abbrev Key:=Sum Int Str
def AI:Key->Value->Bool
 | .inl k,v=>Value.isInt k v
 | .inr x,v=>Value.isStrOf x v
def D3 (w:World):Key->Int
 | .inl k=>hashInt k
 | .inr x=>hashStr w x
theorem bY:∀{k:Key} {v:Value},AI k v=true->(∃i t,k=Sum.inl i/\v=Value.int i t)\/(∃x t,k=Sum.inr x/\v=Value.str x t)
 | .inl i,v,h=>by
  obtain⟨t,e⟩:=Value.isInt_shape (k:=i) (v:=v) h;exact .inl ⟨i,t,rfl,e⟩
 | .inr x,v,h=>by
  obtain⟨t,e⟩:=Value.isStrOf_shape (x:=x) (v:=v) h;exact .inr ⟨x,t,rfl,e⟩
theorem B2 (a b:Int):decide ((Sum.inl a:Key)=Sum.inl b)=(a==b):=by
 by_cases e:a=b
 ·subst e;simp
 ·have h:¬ (Sum.inl a:Key)=Sum.inl b:=λq=>e (Sum.inl.inj q);rw[decide_eq_false h];exact(beq_eq_false_iff_ne.mpr e).symm
theorem BZ (a b:Str):decide ((Sum.inr a:Key)=Sum.inr b)=decide (a=b):=by
 by_cases e:a=b
 ·subst e;simp
 ·have h:¬ (Sum.inr a:Key)=Sum.inr b:=λq=>e (Sum.inr.inj q);rw[decide_eq_false h,decide_eq_false e]
theorem B1 (a:Int) (b:Str):decide ((Sum.inl a:Key)=Sum.inr b)=false:=decide_eq_false (λq=>nomatch q)
theorem B0 (a:Str) (b:Int):decide ((Sum.inr a:Key)=Sum.inl b)=false:=decide_eq_false (λq=>nomatch q)
def uN (prog:Program) (w:World):PySem.KeyKind prog w Key where
 is:=AI
 hash:=D3 w
 inj:=λv a b ha hb=>by
  rcases bY ha with⟨i,t,rfl,rfl⟩|⟨x,t,rfl,rfl⟩
  ·rcases bY hb with⟨j,u,rfl,e⟩|⟨y,u,rfl,e⟩
   ·injection e with e1 _;rw[e1]
   ·exact nomatch e
  ·rcases bY hb with⟨j,u,rfl,e⟩|⟨y,u,rfl,e⟩
   ·exact nomatch e
   ·injection e with e1 _;rw[e1]
 byValue:=λk v h=>by
  rcases bY h with⟨i,t,rfl,rfl⟩|⟨x,t,rfl,rfl⟩<;>rfl
 pyHash:=λhv h=>by
  rcases bY hv with⟨i,t,rfl,rfl⟩|⟨x,t,rfl,rfl⟩
  ·exact wpAny_pyHash_int h
  ·exact wpAny_pyHash_str h
 eqBool:=λhu hv h=>by
  rcases bY hu with⟨i,t,rfl,rfl⟩|⟨x,t,rfl,rfl⟩
  ·rcases bY hv with⟨j,u,rfl,rfl⟩|⟨y,u,rfl,rfl⟩
   ·rw[B2]at h;exact wpAny_eqBool_int h
   ·rw[B1]at h;exact SeqAt.EqAt.int_str i t y u _ _ _ _ h
  ·rcases bY hv with⟨j,u,rfl,rfl⟩|⟨y,u,rfl,rfl⟩
   ·rw[B0]at h;exact SeqAt.EqAt.str_int x t j u _ _ _ _ h
   ·rw[BZ]at h;exact wpAny_eqBool_str h
 «strs»:=λk x t v h=>by
  rcases bY h with⟨i,u,rfl,e⟩|⟨y,u,rfl,e⟩
  ·exact nomatch e
  ·injection e with e1 _;subst e1;cases v<;>rfl
end L2
namespace L2
open PySem PySem.Spec PyProof.Rows
inductive V where
 | non|bl (b:Bool)|int (i:Int)|str (x:Str)|byt (b:Array UInt8)|flt (b:UInt64)|ref (a:Addr)|ty (n:String)
 deriving DecidableEq
def RelV:V->Value->Prop
 | .non,u=>u=Value.none
 | .bl b,u=>u=Value.bool b
 | .int i,u=>∃t,u=Value.int i t
 | .str x,u=>∃t,u=Value.str x t
 | .byt b,u=>∃t,u=Value.bytes b t
 | .flt b,u=>∃t,u=Value.float b t
 | .ref a,u=>u=Value.ref a
 | .ty n,u=>u=Value.type n
abbrev Vals:List V->List Value->Prop:=Paired RelV
theorem Vals.length {xs:List V} {us:List Value} (r:Vals xs us):xs.length=us.length:=Paired.length r
theorem Vals.get:∀{xs:List V} {us:List Value} {i:Nat} {x:V},Vals xs us->xs[i]?=some x->∃u,us[i]?=some u/\RelV x u
 | _,_,_,_,.nil,e=>by simp at e
 | _,_,0,_,.cons r _,e=>by simp at e;subst e;exact⟨_,rfl,r⟩
 | _,_,i+1,x,.cons _ t,e=>by
  obtain⟨u,h1,h2⟩:=Vals.get (i:=i) (x:=x) t (by simpa using e);exact⟨u,by simpa using h1,h2⟩
theorem Vals.append:∀{xs ys:List V} {us ws:List Value},Vals xs us->Vals ys ws->Vals (xs++ys) (us++ws)
 | _,_,_,_,.nil,s=>s
 | _,_,_,_,.cons r t,s=>.cons r (Vals.append t s)
theorem Vals.take:∀{xs:List V} {us:List Value} (n:Nat),Vals xs us->Vals (xs.take n) (us.take n)
 | _,_,0,_=>.nil
 | _,_,_+1,.nil=>.nil
 | _,_,n+1,.cons r t=>.cons r (Vals.take n t)
theorem Vals.drop:∀{xs:List V} {us:List Value} (n:Nat),Vals xs us->Vals (xs.drop n) (us.drop n)
 | _,_,0,r=>r
 | _,_,_+1,.nil=>.nil
 | _,_,n+1,.cons _ t=>Vals.drop n t
def RelO:Option V->Option Value->Prop
 | some v,some u=>RelV v u
 | none,none=>True
 | _,_=>False
def KV {κ:Type}:List (κ×V)->List (κ×Value)->Prop:=Paired λ(p:κ×V) (q:κ×Value)=>p.1=q.1/\RelV p.2 q.2
def kV:Key->V
 | .inl i=>.int i
 | .inr x=>.str x
inductive HO where
  | lst (xs:List V)
  | tup (xs:List V)
  | dK (kvs:List (Key×V))|dT (kvs:List (List Key×V))
  | set (S:Int->Bool) (n:Nat)
  | ins (C dx:Addr) (fs:List (Str×V))
  | own (x:Addr)
  | xd (fs:List (Str×V))
  | met (f x:Addr)
  | rng (lo hi:Int)
  | frz (o:Obj) (u:HO)
  | tbl (ps:Array Value)
  | ext (φ:Heap->Prop)
abbrev Hp:=Addr->Option HO
def upd (H:Hp) (a:Addr) (o:HO):Hp:=λb=>if b=a then some o else H b
variable {H:Hp} {a:Addr}
theorem aO {o:HO}:upd H a o a=some o:=by unfold upd;rw[if_pos rfl]
variable {b:Addr}
theorem aE {o:HO} (h:b≠a):upd H a o b=H b:=by unfold upd;rw[if_neg h]
theorem bx {o:HO} (h:H a=some o) (h':H b=none):a≠b:=by
 intro e;subst e;rw[h]at h';cases h'
section
variable (P:Program) (w:World)
def ObjOk (H:Hp) (h:Heap) (a:Addr):HO->Prop
 | .lst xs=>xs.length<=sizeLine/\∃(its:List Value) (n:Nat),Vals xs its/\h.get? a=some { cls:=.type "list",data:=.seq its.toArray n }
 | .tup xs=>xs.length<=sizeLine/\∃its:List Value,Vals xs its/\IsTup h a its.toArray
 | .dK kvs=>kvs.length<=sizeLine/\(a==sysModules)=false/\∃vs,KV kvs vs/\h.DictOf (uN P w) a vs
 | .dT kvs=>kvs.length<=sizeLine/\(a==sysModules)=false/\∃xs:List (List Key×Addr×Value),
   Paired (λ(p:List Key×V) (q:List Key×Addr×Value)=>p.1=q.1/\H q.2.1=some (.tup (p.1.map kV))/\RelV p.2 q.2.2) kvs xs /\
   ∃o es ep,h.get? a=some o/\o.ExactDict/\o.data=.dict es ep/\es.toList=xs.map (entryOfKey (tupleKind (uN P w)))/\(xs.map (·.1)).Nodup
 | .set S n=>h.SetOf (intKind P w) a S n
 | .ins C dx fs=>H dx=some (.own a)/\fs.length<=1000/\dx≠a/\h.get? a=some (instObj C dx) /\
   ∃mA,h.Ns1 dx mA/\(∀f,RelO (fs.lookup f) (mA f))/\PySem.Within mA (fs.map (·.1))
 | .own _=>∃o,h.get? a=some o
 | .xd fs=>∃mA,h.Ns1 a mA/\∀f,RelO (fs.lookup f) (mA f)
 | .rng lo hi=>∃t u v,h.get? a=some { cls:=.type "range",data:=.fields #[.int lo t,.int hi u,.int 1 v] }
 | .frz o u=>h.get? a=some o/\ObjOk H h a u
 | .tbl ps=>h.get? a=some { cls:=.none,data:=.fields ps }
 | .met f x=>h.get? a=some (PySem.W.methodObj (.ref f) (.ref x))
 | .ext φ=>φ h/\(∃o,h.get? a=some o)/\∀h1 h2:Heap,φ h1->(∀o,h1.get? a=some o->h2.get? a=some o)->φ h2
def HOk (H:Hp) (h:Heap):Prop:=∀a o,H a=some o->ObjOk P w H h a o
end
section
variable {P:Program} {w:World} {H H':Hp} {h h':Heap} {a:Addr} {o:HO}
theorem ObjOk.lt (x:ObjOk P w H h a o):a<h.objs.size:=by
 cases o with
 | lst xs=>obtain⟨_,_,_,_,e⟩:=x;exact Heap.lt_size e
 | tup xs=>obtain⟨_,_,_,p⟩:=x;exact p.lt
 | dK kvs=>obtain⟨_,_,_,_,o,_,_,e,_⟩:=x;exact Heap.lt_size e
 | dT kvs=>obtain⟨_,_,_,_,o,_,_,e,_⟩:=x;exact Heap.lt_size e
 | set S n=>obtain⟨o,_,_,_,e,_⟩:=x;exact Heap.lt_size e
 | ins C dx fs=>obtain⟨_,_,_,e,_⟩:=x;exact Heap.lt_size e
 | own y=>obtain⟨_,e⟩:=x;exact Heap.lt_size e
 | xd fs=>obtain⟨_,⟨_,_,_,e,_⟩,_⟩:=x;exact Heap.lt_size e
 | rng lo hi=>obtain⟨_,_,_,e⟩:=x;exact Heap.lt_size e
 | frz ob u=>obtain⟨e,_⟩:=x;exact Heap.lt_size e
 | tbl ps=>exact Heap.lt_size (show h.get? a=some _ from x)
 | met f y=>exact Heap.lt_size (show h.get? a=some _ from x)
 | ext φ=>obtain⟨_,⟨_,e⟩,_⟩:=x;exact Heap.lt_size e
theorem Paired.mapP {Y β:Type} {F G:Y->β->Prop}:∀{l₁:List Y} {l₂:List β},Paired F l₁ l₂->(∀a b,F a b->G a b)->Paired G l₁ l₂
 | _,_,.nil,_=>.nil
 | _,_,.cons r t,f=>.cons (f _ _ r) (Paired.mapP t f)
theorem ObjOk.stay (x:ObjOk P w H h a o) (k:∀b u,(b=a\/H b=some (.own a))->h.get? b=some u->h'.get? b=some u)
  (ho:∀b,H b=some (.own a)->H' b=some (.own a)) (ht:∀b xs,H b=some (.tup xs)->H' b=some (.tup xs)):ObjOk P w H' h' a o:=by
 induction o with
 | lst xs=>obtain⟨z,its,n,r,e⟩:=x;exact⟨z,its,n,r,k _ _ (.inl rfl) e⟩
 | tup xs=>obtain⟨z,its,r,ob,e,c⟩:=x;exact⟨z,its,r,ob,k _ _ (.inl rfl) e,c⟩
 | dK kvs=>obtain⟨z,y,vs,r,ob,es,ep,e,c⟩:=x;exact⟨z,y,vs,r,ob,es,ep,k _ _ (.inl rfl) e,c⟩
 | dT kvs =>
  obtain⟨z,y,xs,r,ob,es,ep,e,c⟩:=x;exact⟨z,y,xs,Paired.mapP r λp q z=>⟨z.1,ht _ _ z.2.1,z.2.2⟩,ob,es,ep,k _ _ (.inl rfl) e,c⟩
 | set S n=>obtain⟨ob,es,ep,t,e,c⟩:=x;exact⟨ob,es,ep,t,k _ _ (.inl rfl) e,c⟩
 | ins C dx fs =>
  obtain⟨d,z,ne,e,mA,⟨od,es,ep,e2,c⟩,r⟩:=x;exact⟨ho _ d,z,ne,k _ _ (.inl rfl) e,mA,⟨od,es,ep,k _ _ (.inr d) e2,c⟩,r⟩
 | own y=>obtain⟨ob,e⟩:=x;exact⟨ob,k _ _ (.inl rfl) e⟩
 | xd fs=>obtain⟨mA,⟨od,es,ep,e,c⟩,r⟩:=x;exact⟨mA,⟨od,es,ep,k _ _ (.inl rfl) e,c⟩,r⟩
 | rng lo hi=>obtain⟨t,u,v,e⟩:=x;exact⟨t,u,v,k _ _ (.inl rfl) e⟩
 | frz ob u ih=>obtain⟨e,q⟩:=x;exact⟨k _ _ (.inl rfl) e,ih q⟩
 | tbl ps =>
  have e:h.get? a=some { cls:=.none,data:=.fields ps }:=x;show h'.get? a=some { cls:=.none,data:=.fields ps };exact k a _ (.inl rfl) e
 | met f y =>
  have e:h.get? a=some (PySem.W.methodObj (.ref f) (.ref y)):=x;show h'.get? a=some (PySem.W.methodObj (.ref f) (.ref y));exact k a _ (.inl rfl) e
 | ext φ=>obtain⟨p,⟨o,e⟩,st⟩:=x;exact⟨st _ _ p λo q=>k _ _ (.inl rfl) q,⟨o,k _ _ (.inl rfl) e⟩,st⟩
theorem HOk.lt (x:HOk P w H h) (e:H a=some o):a<h.objs.size:=(x a o e).lt
theorem HOk.fresh (x:HOk P w H h) (e:h.objs.size<=a):H a=none:=by
 cases q:H a with
 | none=>rfl
 | some u=>exact absurd (Nat.lt_of_lt_of_le (x.lt q) e) (Nat.lt_irrefl _)
theorem HOk.kept (x:HOk P w H h) (k:∀b u,h.get? b=some u->h'.get? b=some u):HOk P w H h':=λa o e =>
 (x a o e).stay (λb u _ q=>k b u q) (λ_ q=>q) λ_ _ q=>q
theorem HOk.laid (x:HOk P w H h) (k:∀b u,h.get? b=some u->h'.get? b=some u) (hp:h.objs.size<=a) (new:ObjOk P w (upd H a o) h' a o):HOk P w (upd H a o) h':=λb u e=>by
 have hn:=x.fresh hp;by_cases hb:b=a
 ·subst hb;rw[aO]at e;cases e;exact new
 ·rw[aE hb]at e;exact(x b u e).stay (λc v _ q=>k c v q) (λc q=>by rw[aE (bx q hn)];exact q) λc xs q=>by rw[aE (bx q hn)];exact q
end
def Rd (H:Hp) (a:Addr) (u:HO):Prop:=H a=some u\/∃o,H a=some (.frz o u)
variable {h:Heap}
theorem Rd.ok {P:Program} {w:World} {u:HO} (r:Rd H a u) (x:HOk P w H h):ObjOk P w H h a u:=by
 rcases r with r|⟨o,r⟩
 ·exact x a u r
 ·obtain⟨_,q⟩:=x a _ r;exact q
def Mut:Option HO->Prop
 | some (.lst _)=>True
 | some (.dK _)=>True
 | some (.dT _)=>True
 | some (.set _ _)=>True
 | some (.ins _ _ _)=>True
 | some (.ext _)=>True
 | _=>False
section
variable {P:Program} {w:World} {H:Hp} {h h':Heap} {x e:Addr} {o':HO}
theorem HOk.write (ok:HOk P w H h) (mu:Mut (H x)) (he:e=x\/H e=some (.own x)) (k:∀b u,b≠e->h.get? b=some u->h'.get? b=some u) (heo:∃u,h'.get? e=some u)
  (new:ObjOk P w (upd H x o') h' x o'):HOk P w (upd H x o') h':=λb u q=>by
 have nown:∀c y,H c=some (.own y)->c≠x:=λc y r z=>by subst z;rw[r]at mu;exact mu
 have ntup:∀c xs,H c=some (.tup xs)->c≠x:=λc xs r z=>by subst z;rw[r]at mu;exact mu
 by_cases hb:b=x
 ·subst hb;rw[aO]at q;cases q;exact new
 ·rw[aE hb]at q;by_cases hbe:b=e
  ·have q':H b=some (.own x):=by
    rcases he with z|z
    ·exact absurd (hbe.trans z) hb
    ·rw[hbe];exact z
   rw[q]at q';cases q';obtain⟨v,hv⟩:=heo;exact⟨v,by rw[hbe];exact hv⟩
  ·refine(ok b u q).stay (λc v hc r=>k c v ?_ r) (λc r=>by rw[aE (nown c b r)];exact r) λc xs r=>by rw[aE (ntup c xs r)];exact r
   rcases hc with rfl|hc
   ·exact hbe
   ·rintro rfl;rcases he with z|z
    ·exact nown c b hc z
    ·rw[hc]at z;cases z;exact hb rfl
end
structure Un (fs ex:List Addr) (H H':Hp) (h h':Heap):Prop where
 keep:∀b o,h.get? b=some o->H b=none->b∉fs->b∉ex->h'.get? b=some o
 slot:∀b o,h.get? b=some o->H b=none->b∈fs->b∉ex->∃sl,h'.get? b=some { o with slots:=sl }
 free:∀b o,h.get? b=some o->H b=none->b∉ex->H' b=none
 there:∀b o,h.get? b=some o->b∉ex->∃o',h'.get? b=some o'
 tups:∀b xs,H b=some (.tup xs)->H' b=some (.tup xs)
 frzs:∀b o u,H b=some (.frz o u)->H' b=some (.frz o u)
 tbls:∀b ps,H b=some (.tbl ps)->∃more,H' b=some (.tbl (ps++more))
section
variable {fs fs' ex ex':List Addr} {H H1 H2:Hp} {h h1 h2 h':Heap} {a x e:Addr} {o:HO}
theorem Un.any (u:Un fs ex H H1 h h1) {ob:Obj} (q:h.get? b=some ob) (n:H b=none) (hx:b∉ex):∃sl,h1.get? b=some { ob with slots:=sl }:=by
 by_cases hb:b∈fs
 ·exact u.slot b ob q n hb hx
 ·exact⟨ob.slots,u.keep b ob q n hb hx⟩
theorem Un.kept (k:∀b u,h.get? b=some u->h'.get? b=some u):Un fs ex H H h h' :=
 ⟨λb ob q _ _ _=>k b ob q,λb ob q _ _ _=>⟨ob.slots,k b ob q⟩,λ_ _ _ n _=>n,λb ob q _=>⟨ob,k b ob q⟩,λ_ _ q=>q,λ_ _ _ q=>q,λ_ ps q=>⟨#[],by rw[q];simp⟩⟩
theorem Un.refl:Un fs ex H H h h:=Un.kept λ_ _ q=>q
theorem Un.laid (k:∀b u,h.get? b=some u->h'.get? b=some u) (hp:h.objs.size<=a) (hn:H a=none):Un fs ex H (upd H a o) h h' where
 keep:=λb u q _ _ _=>k b u q
 slot:=λb u q _ _ _=>⟨u.slots,k b u q⟩
 free:=λb u q n _=>by rw[aE (Nat.ne_of_lt (Nat.lt_of_lt_of_le (Heap.lt_size q) hp))];exact n
 there:=λb u q _=>⟨u,k b u q⟩
 tups:=λb xs q=>by rw[aE (bx q hn)];exact q
 frzs:=λb u xs q=>by rw[aE (bx q hn)];exact q
 tbls:=λb ps q=>⟨#[],by rw[aE (bx q hn),q];simp⟩
theorem Un.write (mu:Mut (H x)) (he:e=x\/H e=some (.own x)) (k:∀b u,b≠e->h.get? b=some u->h'.get? b=some u) (heo:∃u,h'.get? e=some u):Un fs ex H (upd H x o) h h':=by
 have hx:∀b,H b=none->b≠x:=λb n z=>by subst z;rw[n]at mu;exact mu
 have hb:∀b,H b=none->b≠e:=λb n z=>by
  subst z;rcases he with r|r
  ·exact hx b n r
  ·rw[n]at r;cases r
 have hm:∀b u,H b=some u->¬ Mut (some u)->b≠x:=λb u q nm z=>by subst z;rw[q]at mu;exact nm mu
 refine⟨λb u q n _ _=>k b u (hb b n) q,λb u q n _ _=>⟨u.slots,k b u (hb b n) q⟩,λb u q n _=>by rw[aE (hx b n)];exact n,λb u q _=>?_,
  λb xs q=>by rw[aE (hm b _ q λz=>z)];exact q,λb u xs q=>by rw[aE (hm b _ q λz=>z)];exact q,λb ps q=>⟨#[],by rw[aE (hm b _ q λz=>z),q];simp⟩⟩
 by_cases hbe:b=e
 ·subst hbe;exact heo
 ·exact⟨u,k b u hbe q⟩
end
def trk (h:Heap) (H:Hp):List Addr:=(List.range h.objs.size).filter λa=>(H a).isSome
def qh (h:Heap) (H:Hp):Heap:=PySem.W.hideAll h (trk h H)
theorem v5 (h:Heap) (H:Hp):(qh h H).objs.size=h.objs.size:=PySem.W.hideAll_size _ _
theorem xO {o:Obj} (e:h.get? b=some o) (n:H b=none):(qh h H).get? b=some o :=
 PySem.W.hideAll_get _ e λhm=>by
  have q:(H b).isSome=true:=(List.mem_filter.mp hm).2;rw[n]at q;simp at q
theorem zt {o:Obj} (e:(qh h H).get? b=some o):h.get? b=some o/\H b=none:=by
 have e':h.get? b=some o:=PySem.W.of_hideAll (trk h H) e;refine⟨e',?_⟩;cases q:H b with
 | none=>rfl
 | some x =>
  have hm:b∈trk h H:=List.mem_filter.mpr ⟨List.mem_range.mpr (Heap.lt_size e'),by simp[q]⟩;have z:(qh h H).get? b=none:=PySem.W.hideAll_none (trk h H) hm;rw[z]at e;cases e
end L2
namespace L2
open PySem PySem.Spec PyProof.Rows
structure Mod (K:Frag) (mg:Str->Option Value) (base:Heap):Prop where
 kin:K.In base
 glob:base.Ns mainGlobals mg
 blt:∃mb,base.Ns builtinsNs mb/\∀x:Str,x ≠ "__name__"->mb x=bootBuiltins x
 nolimit:base.NoLimit
structure Cx where
 prog:Program
 w:World
 K:Frag
 mg:Str->Option Value
 base:Heap
 A:Around
 N:List Str
 s₀:Shared
 H₀:Hp
 env:Env
 outer:List Env
 stack:List Env
 ex:List Addr
 fn:Str->Bool
 calm:Bool
 pn:List (Addr×Obj)
 xe:Value->Shared->Prop
def frs (l:List Env):List Addr:=l.filterMap (·.frame)
abbrev Cx.fs (X:Cx):List Addr:=frs X.outer
def Vis (sc:Scope) (x:Str):Prop:=sc.names.lookup x=some .local\/sc.names.lookup x=some .cell\/sc.names.lookup x=some .free
def Loc (sc:Scope) (x:Str):Prop:=sc.names.lookup x=some .local\/sc.names.lookup x=some .cell
def El (env:Env) (h:Heap) (m:Str->Option Value) (x:Str) (u:Value):Prop :=
 (env.kindOf x=some .local/\m x=some u)\/((env.kindOf x=some .cell\/env.kindOf x=some .free)/\∃c,env.cells.lookup x=some c/\h.IsCell c (some u))
structure Cx.Ok (X:Cx):Prop where
 mod:Mod X.K X.mg X.base
 kind:X.env.scope.kind=.function
 glob:X.env.globals=mainGlobals
 blt:X.env.builtins=builtinsNs
 above:X.s₀.heap.objs.size<=X.env.locals
 inj:∀x y c,X.env.cells.lookup x=some c->X.env.cells.lookup y=some c->x=y
 has:∀x,(X.env.kindOf x=some .cell\/X.env.kindOf x=some .free)->∃c,X.env.cells.lookup x=some c
 cab:∀x c,X.fn x=true->X.env.cells.lookup x=some c->X.s₀.heap.objs.size<=c
 hd:X.calm=true->X.A.handled=none
 frames:X.A.frames=some X.stack
 stk:X.stack=X.outer\/(X.stack=X.env::X.outer/\X.env.frame=some X.env.locals)
 exf:∀b∈X.ex,b≠X.env.locals/\∀x c,X.env.cells.lookup x=some c->c≠b
 bs:∀b o,X.base.get? b=some o->X.s₀.heap.get? b=some o/\X.H₀ b=none
 bsz:X.base.objs.size<=X.s₀.heap.objs.size
 noex:∀b o,X.base.get? b=some o->b∉X.ex
 exfs:∀b∈X.ex,b∉X.fs
 funs:X.s₀.heap.FunFrames X.base X.outer
 frf:∀b∈X.fs,X.H₀ b=none
structure Inv (X:Cx) (pins:List (Addr×Obj)) (O:List (Option V)) (H:Hp) (s:Shared):Prop where
 ok:X.Ok
 os:s.os=X.s₀.os
 bare:AllBare s.gens
 base:Un X.fs X.ex X.H₀ H X.s₀.heap s.heap
 loc:∃m,s.heap.Ns X.env.locals m/\∀(i:Nat) (x:Str) (v:V),X.N[i]?=some x->O[i]?=some (some v)->Vis X.env.scope x->∃u,RelV v u/\El X.env s.heap m x u
 cell:∀x c,X.env.cells.lookup x=some c->∃v,s.heap.IsCell c v
 free:H X.env.locals=none
 freeC:∀x c,X.env.cells.lookup x=some c->H c=none
 pin:∀p∈X.pn++pins,s.heap.get? p.1=some p.2/\H p.1=none/\p.1≠X.env.locals/\p.1∉X.fs/\∀v,p.2.data ≠ .cell v
 hok:HOk X.prog X.w H s.heap
 len:O.length=X.N.length
variable {t' i:Nat} {ch:List Addr} {x:Str} {M:Model} {A:Around} {E:Value->Shared->Prop}
section
variable {X:Cx} {pins:List (Addr×Obj)} {O:List (Option V)} {H H':Hp} {s:Shared} {h':Heap}
theorem Cx.Ok.nofr (ok:X.Ok) {b:Addr} {o:Obj} (e:X.base.get? b=some o):b∉X.fs:=λhb=>by
 have:=(ok.funs.mem hb).1;rw[e]at this;cases this
theorem Inv.bs (I:Inv X pins O H s):∀b o,X.base.get? b=some o->s.heap.get? b=some o/\H b=none:=λb o e =>
 ⟨I.base.keep b o (I.ok.bs b o e).1 (I.ok.bs b o e).2 (I.ok.nofr e) (I.ok.noex b o e),I.base.free b o (I.ok.bs b o e).1 (I.ok.bs b o e).2 (I.ok.noex b o e)⟩
theorem Inv.bk (I:Inv X pins O H s):∀b o,X.base.get? b=some o->s.heap.get? b=some o:=λb o e=>(I.bs b o e).1
theorem Inv.mod (I:Inv X pins O H s):Mod X.K X.mg X.base:=I.ok.mod
theorem Inv.kIn (I:Inv X pins O H s):X.K.In s.heap:=I.ok.mod.kin.keeps I.bk
theorem Inv.lt (I:Inv X pins O H s):X.env.locals<s.heap.objs.size:=let ⟨_,hn,_⟩:=I.loc;hn.lt
theorem Inv.sz (I:Inv X pins O H s):X.s₀.heap.objs.size<=s.heap.objs.size:=Nat.le_trans I.ok.above (Nat.le_of_lt I.lt)
theorem Inv.nofs (I:Inv X pins O H s) {a:Addr} (h:s.heap.objs.size<=a):a∉X.fs:=λhb=>by
 obtain⟨_,o,ho,_⟩:=I.ok.funs.mem hb;exact absurd (Nat.lt_of_lt_of_le (Heap.lt_size ho) (Nat.le_trans I.sz h)) (Nat.lt_irrefl _)
theorem Inv.cne (I:Inv X pins O H s):∀x c,X.env.cells.lookup x=some c->c≠X.env.locals:=λx c e z=>by
 obtain⟨v,o,ho,hd⟩:=I.cell x c e;obtain⟨m,⟨o',es,ep,ho',hd',_⟩,_⟩:=I.loc;rw[z,ho']at ho;cases ho;rw[hd']at hd;cases hd
theorem Inv.funs (I:Inv X pins O H s):s.heap.FunFrames X.base X.outer:=by
 have all:∀(l:List Env),(∀b∈frs l,b∈X.fs)->X.s₀.heap.FunFrames X.base l->s.heap.FunFrames X.base l:=by
  intro l
  induction l with
  | nil=>intro _ _;trivial
  | cons env r ih =>
   intro hs hl;obtain⟨hk,⟨L,o,hf,hn,ho,hd⟩,hr⟩:=hl;have hL:L∈X.fs:=hs L (by unfold frs;rw[List.filterMap_cons,hf];exact List.mem_cons_self);obtain⟨sl,e⟩:=I.base.slot L o ho (I.ok.frf L hL) hL λz=>I.ok.exfs L z hL;exact⟨hk,⟨L,_,hf,hn,e,hd⟩,ih (λb hb=>hs b (by unfold frs;rw[List.filterMap_cons,hf];exact List.mem_cons_of_mem _ hb)) hr⟩
 exact all X.outer (λ_ hb=>hb) I.ok.funs
theorem Inv.stack (I:Inv X pins O H s):s.heap.FunFrames X.base X.stack:=by
 rcases I.ok.stk with e|⟨e,hf⟩
 ·rw[e];exact I.funs
 ·rw[e];obtain⟨m,hn,_⟩:=I.loc;refine .cons (by rw[I.ok.kind];decide) hf hn ?_ I.funs;exact Heap.get?_none_of_le (Nat.le_trans I.ok.bsz I.ok.above)
theorem Inv.stkSub (I:Inv X pins O H s):∀b∈frs X.stack,b∈X.env.locals::X.fs:=λb hb=>by
 rcases I.ok.stk with e|⟨e,hf⟩
 ·rw[e]at hb;exact List.mem_cons_of_mem _ hb
 ·rw[e]at hb;unfold frs at hb;rw[List.filterMap_cons,hf]at hb;exact hb
theorem Inv.stkFree (I:Inv X pins O H s):∀b∈frs X.stack,H b=none:=λb hb=>by
 rcases List.mem_cons.mp (I.stkSub b hb)with e|hb
 ·rw[e];exact I.free
 ·obtain⟨_,o,ho,_⟩:=I.ok.funs.mem hb;exact I.base.free b o ho (I.ok.frf b hb) λz=>I.ok.exfs b z hb
theorem Inv.step {g':Array GenState} {d':Drawn} (I:Inv X pins O H s)
  (hch:∀b∈ch,(b∈X.ex\/X.s₀.heap.objs.size<=b)/\b≠X.env.locals/\(∀x c,X.env.cells.lookup x=some c->c≠b)/\∀p∈X.pn++pins,p.1≠b)
  (keep:∀b o,b≠X.env.locals->b∉X.fs->b∉ch->s.heap.get? b=some o->H b=none->h'.get? b=some o)
  (slot:∀b o,b≠X.env.locals->b∈X.fs->b∉ch->s.heap.get? b=some o->H b=none->∃sl,h'.get? b=some { o with slots:=sl }) (free:∀b o,b∉ch->s.heap.get? b=some o->H b=none->H' b=none)
  (there:∀b o,b∉ch->s.heap.get? b=some o->∃o',h'.get? b=some o')
  (tups:∀b xs,H b=some (.tup xs)->H' b=some (.tup xs)) (frzs:∀b o u,H b=some (.frz o u)->H' b=some (.frz o u)) (tbls:∀b ps,H b=some (.tbl ps)->∃more,H' b=some (.tbl (ps++more)))
  (ns:∀m,s.heap.Ns X.env.locals m->h'.Ns X.env.locals m) (hok:HOk X.prog X.w H' h') (hg:AllBare g') :
  Inv X pins O H' { s with heap:=h',gens:=g',drawn:=d',toks:=t' }:=by
 have neL:∀b o,X.s₀.heap.get? b=some o->b≠X.env.locals:=λb o e=>Nat.ne_of_lt (Nat.lt_of_lt_of_le (Heap.lt_size e) I.ok.above);have neC:∀b o,X.s₀.heap.get? b=some o->b∉X.ex->b∉ch:=λb o e hx hb=>by
  rcases(hch b hb).1 with z|z
  ·exact hx z
  ·exact absurd (Nat.lt_of_lt_of_le (Heap.lt_size e) z) (Nat.lt_irrefl _)
 have cellK:∀x c,X.env.cells.lookup x=some c->∀v,s.heap.IsCell c v->h'.IsCell c v:=λx c e v ⟨o,ho,hd⟩=>by
  have nch:c∉ch:=λz=>(hch c z).2.2.1 x c e rfl;by_cases hc:c∈X.fs
  ·obtain⟨sl,q⟩:=slot c o (I.cne x c e) hc nch ho (I.freeC x c e);exact⟨_,q,hd⟩
  ·exact⟨o,keep c o (I.cne x c e) hc nch ho (I.freeC x c e),hd⟩
 refine⟨I.ok,I.os,hg,⟨λb o e n hb hx=>?_,λb o e n hb hx=>?_,λb o e n hx=>?_,λb o e hx=>?_,λb xs e=>tups b xs (I.base.tups b xs e),λb o xs e=>frzs b o xs (I.base.frzs b o xs e),λb ps e=>?_⟩,?_,λx c e=>?_,?_,λx c e=>?_,λp hp=>?_,hok,I.len⟩
 ·exact keep b o (neL b o e) hb (neC b o e hx) (I.base.keep b o e n hb hx) (I.base.free b o e n hx)
 ·obtain⟨sl,e1⟩:=I.base.slot b o e n hb hx;obtain⟨sl',e2⟩:=slot b _ (neL b o e) hb (neC b o e hx) e1 (I.base.free b o e n hx);exact⟨sl',e2⟩
 ·obtain⟨o',e1⟩:=I.base.there b o e hx;exact free b o' (neC b o e hx) e1 (I.base.free b o e n hx)
 ·obtain⟨o',e1⟩:=I.base.there b o e hx;exact there b o' (neC b o e hx) e1
 ·obtain⟨m1,e1⟩:=I.base.tbls b ps e;obtain⟨m2,e2⟩:=tbls b _ e1;exact⟨m1++m2,by rw[e2,Array.append_assoc]⟩
 ·obtain⟨m,hn,hl⟩:=I.loc;refine⟨m,ns m hn,λi x v e1 e2 e3=>?_⟩;obtain⟨u,r,l⟩:=hl i x v e1 e2 e3;refine⟨u,r,?_⟩;rcases l with l|⟨k,c,e,z⟩
  ·exact .inl l
  ·exact .inr ⟨k,c,e,cellK x c e _ z⟩
 ·obtain⟨v,z⟩:=I.cell x c e;exact⟨v,cellK x c e v z⟩
 ·obtain⟨m,⟨o,_,_,ho,_⟩,_⟩:=I.loc;exact free _ o (λz=>(hch _ z).2.1 rfl) ho I.free
 ·obtain⟨v,o,ho,hd⟩:=I.cell x c e;exact free c o (λz=>(hch c z).2.2.1 x c e rfl) ho (I.freeC x c e)
 ·obtain⟨e,n,ne,nf,d⟩:=I.pin p hp;have nch:p.1∉ch:=λz=>(hch p.1 z).2.2.2 p hp rfl;exact⟨keep p.1 p.2 ne nf nch e n,free p.1 p.2 nch e n,ne,nf,d⟩
theorem Inv.un (I:Inv X pins O H s) (u:Un X.fs [] H H' s.heap h') (hok:HOk X.prog X.w H' h'):Inv X pins O H' { s with heap:=h',toks:=t' }:=by
 obtain⟨m,⟨o,es,ep,ho,r⟩,_⟩:=id I.loc;obtain⟨sl,hL⟩:=u.any ho I.free (by simp);exact I.step (g':=s.gens) (d':=s.drawn) (ch:=[]) (λ_ z=>nomatch z) (λb o _ hb _ e n=>u.keep b o e n hb (by simp)) (λb o _ hb _ e n=>u.slot b o e n hb (by simp)) (λb o _ e n=>u.free b o e n (by simp)) (λb o _ e=>u.there b o e (by simp)) u.tups u.frzs u.tbls (λm' hm=>by
  obtain⟨o',es',ep',ho',r'⟩:=hm;rw[ho]at ho';cases ho';exact⟨_,es',ep',hL,r'⟩) hok I.bare
theorem Inv.call {g':Array GenState} {d':Drawn} (I:Inv X pins O H s) (u:Un (frs X.stack) ch H H' s.heap h') (hok:HOk X.prog X.w H' h') (hg:AllBare g')
  (hch:∀b∈ch,(b∈X.ex\/X.s₀.heap.objs.size<=b)/\b≠X.env.locals/\(∀x c,X.env.cells.lookup x=some c->c≠b)/\∀p∈X.pn++pins,p.1≠b) :
  Inv X pins O H' { s with heap:=h',gens:=g',drawn:=d',toks:=t' }:=by
 obtain⟨m,⟨o,es,ep,ho,r⟩,_⟩:=id I.loc;obtain⟨sl,hL⟩:=u.any ho I.free λz=>(hch _ z).2.1 rfl;exact I.step (ch:=ch) hch (λb o hL hb hc e n=>u.keep b o e n (λz=>(List.mem_cons.mp (I.stkSub b z)).elim hL hb) hc) (λb o _ _ hc e n=>u.any e n hc) (λb o hc e n=>u.free b o e n hc) (λb o hc e=>u.there b o e hc) u.tups u.frzs u.tbls (λm' hm=>by
  obtain⟨o',es',ep',ho',r'⟩:=hm;rw[ho]at ho';cases ho';exact⟨_,es',ep',hL,r'⟩) hok hg
theorem Inv.turned {it:Addr} (I:Inv X pins O H s) (k:∀b o,b≠it->s.heap.get? b=some o->h'.get? b=some o) (hn:H it=none) (hL:it≠X.env.locals)
  (h1:it∈X.ex\/X.s₀.heap.objs.size<=it) (h2:∀x c,X.env.cells.lookup x=some c->c≠it) (h3:∀p∈X.pn++pins,p.1≠it):Inv X pins O H { s with heap:=h',toks:=t' }:=by
 have nit:∀b u,H b=some u->b≠it:=λb u e z=>by rw[z,hn]at e;cases e
 refine I.step (g':=s.gens) (d':=s.drawn) (ch:=[it]) (λb hb=>?_) (λb o _ _ hc e _=>k b o (λz=>hc (by simp[z])) e) (λb o _ _ hc e _=>⟨o.slots,k b o (λz=>hc (by simp[z])) e⟩) (λ_ _ _ _ n=>n)
  (λb o hc e=>⟨o,k b o (λz=>hc (by simp[z])) e⟩) (λ_ _ e=>e) (λ_ _ _ e=>e) (λb ps e=>⟨#[],by rw[e];simp⟩) (λm hm=>?_) (λb u e=>?_) I.bare
 ·have e:b=it:=by simpa using hb
  subst e;exact⟨h1,hL,h2,h3⟩
 ·obtain⟨o,es,ep,ho,r⟩:=hm;exact⟨o,es,ep,k _ o (Ne.symm hL) ho,r⟩
 ·refine(I.hok b u e).stay (λc v hc q=>k c v ?_ q) (λ_ q=>q) λ_ _ q=>q;rcases hc with z|z
  ·rw[z];exact nit b u e
  ·exact nit c _ z
theorem Inv.tok (I:Inv X pins O H s) (t:Nat):Inv X pins O H { s with toks:=t }:=I.un (h':=s.heap) (t':=t) Un.refl I.hok
theorem Inv.kept (I:Inv X pins O H s) (k:∀b u,s.heap.get? b=some u->h'.get? b=some u):Inv X pins O H { s with heap:=h',toks:=t' }:=I.un (Un.kept k) (I.hok.kept k)
theorem Inv.laid {a:Addr} {o:HO} (I:Inv X pins O H s) (k:∀b u,s.heap.get? b=some u->h'.get? b=some u) (hp:s.heap.objs.size<=a) (new:ObjOk X.prog X.w (upd H a o) h' a o) :
  Inv X pins O (upd H a o) { s with heap:=h',toks:=t' }:=I.un (Un.laid k hp (I.hok.fresh hp)) (I.hok.laid k hp new)
theorem Inv.write {x e:Addr} {o:HO} (I:Inv X pins O H s) (mu:Mut (H x)) (he:e=x\/H e=some (.own x)) (k:∀b u,b≠e->s.heap.get? b=some u->h'.get? b=some u) (heo:∃u,h'.get? e=some u)
  (new:ObjOk X.prog X.w (upd H x o) h' x o):Inv X pins O (upd H x o) { s with heap:=h',toks:=t' }:=I.un (Un.write mu he k heo) (I.hok.write mu he k heo new)
theorem Inv.pins_of {pins':List (Addr×Obj)} (I:Inv X pins O H s) (h:∀p∈pins',s.heap.get? p.1=some p.2/\H p.1=none/\p.1≠X.env.locals/\p.1∉X.fs/\∀v,p.2.data ≠ .cell v):Inv X pins' O H s :=
 ⟨I.ok,I.os,I.bare,I.base,I.loc,I.cell,I.free,I.freeC,λp hp=>(List.mem_append.mp hp).elim (λz=>I.pin p (List.mem_append_left _ z)) (h p),I.hok,I.len⟩
theorem rh {N:List Str} (hN:N.Nodup) {j:Nat} (a:N[i]?=some x) (b:N[j]?=some x):i=j:=by
 obtain⟨h1,e1⟩:=List.getElem?_eq_some_iff.mp a;obtain⟨h2,e2⟩:=List.getElem?_eq_some_iff.mp b;exact(List.getElem_inj hN).mp (e1.trans e2.symm)
theorem vC {v:V} {u:Value} {Q:Unit->Shared->Prop} (I:Inv X pins O H s) (hN:X.N.Nodup) (hi:X.N[i]?=some x) (hx:Loc X.env.scope x) (r:RelV v u)
  (h:∀s',Inv X pins (O.set i (some v)) H s'->(∃a,Heap.SameBut a s.heap s'.heap/\(a=X.env.locals\/X.env.cells.lookup x=some a))->Q () s') (hf:X.fn x=true\/X.env.scope.names.lookup x=some .local:=by first|exact .inl rfl|exact .inr rfl|assumption):wpAny M A (storeName X.env x u) Q E s:=by
 obtain⟨m,hn,hl⟩:=id I.loc;have hcls:(X.env.scope.kind == .class||(X.env.scope.kind == .module&&X.env.locals != X.env.globals))=false:=by rw[I.ok.kind];rfl
 have hiO:i<O.length:=by rw[I.len];exact(List.getElem?_eq_some_iff.mp hi).1
 have cne:=I.cne;have tracked:∀{a:Addr} {h':Heap},(∃o,s.heap.get? a=some o/\H a=none)->Heap.SameBut a s.heap h'->HOk X.prog X.w H h':=λ{a h'} ha hs b ob e=>by
  obtain⟨_,_,hfree⟩:=ha;refine(I.hok b ob e).stay (λc w' hc q=>(hs.2 c ?_).trans q) (λ_ q=>q) λ_ _ q=>q;rintro rfl;rcases hc with rfl|hc
  ·rw[hfree]at e;cases e
  ·rw[hfree]at hc;cases hc
 rcases hx with hk|hk
 ·refine wpAny_storeName_local hk hn (λh' hn' hs=>?_) hcls;obtain⟨oL,_,_,hoL,_⟩:=id hn;refine h _ ⟨I.ok,I.os,I.bare,⟨λb o e n hb hx=>?_,λb o e n hb hx=>?_,I.base.free,λb o e hx=>?_,I.base.tups,I.base.frzs,I.base.tbls⟩,⟨_,hn',λj y v' e1 e2 e3=>?_⟩,λy c e=>?_,I.free,I.freeC,λp hp=>?_,tracked ⟨oL,hoL,I.free⟩ hs,by simpa using I.len⟩ ⟨_,hs,.inl rfl⟩
  ·exact(hs.2 b (Nat.ne_of_lt (Nat.lt_of_lt_of_le (Heap.lt_size e) I.ok.above))).trans (I.base.keep b o e n hb hx)
  ·obtain⟨sl,e1⟩:=I.base.slot b o e n hb hx;exact⟨sl,(hs.2 b (Nat.ne_of_lt (Nat.lt_of_lt_of_le (Heap.lt_size e) I.ok.above))).trans e1⟩
  ·obtain⟨o',e1⟩:=I.base.there b o e hx;exact⟨o',(hs.2 b (Nat.ne_of_lt (Nat.lt_of_lt_of_le (Heap.lt_size e) I.ok.above))).trans e1⟩
  ·by_cases hj:j=i
   ·subst hj;rw[hi]at e1;cases e1;rw[List.getElem?_set_self hiO]at e2;cases e2;exact⟨u,r,.inl ⟨hk,by simp⟩⟩
   ·rw[List.getElem?_set_ne (Ne.symm hj)]at e2;obtain⟨u',r',q⟩:=hl j y v' e1 e2 e3;refine⟨u',r',?_⟩;rcases q with⟨k,e⟩|⟨k,c,e,z⟩
    ·refine .inl ⟨k,?_⟩;have:y≠x:=λe=>hj (rh hN e1 (e▸hi));simp[this,e]
    ·exact .inr ⟨k,c,e,z.sameBut hs (cne y c e)⟩
  ·obtain⟨w',z⟩:=I.cell y c e;exact⟨w',z.sameBut hs (cne y c e)⟩
  ·obtain⟨e,n,ne,nf,d⟩:=I.pin p hp;exact⟨(hs.2 p.1 ne).trans e,n,ne,nf,d⟩
 ·have hfn:X.fn x=true:=by
   rcases hf with z|z
   ·exact z
   ·rw[z]at hk;cases hk
  obtain⟨c,hc⟩:=I.ok.has x (.inl hk);obtain⟨w',z⟩:=I.cell x c hc;refine wpAny_storeName_cell I.ok.kind hk hc z (λh' hc' hs=>?_);obtain⟨oc,hoc,hocd⟩:=id z;refine h { s with heap:=h' } ⟨I.ok,I.os,I.bare,⟨λb o e n hb hx=>?_,λb o e n hb hx=>?_,I.base.free,λb o e hx=>?_,I.base.tups,I.base.frzs,I.base.tbls⟩,⟨m,hn.sameBut hs (Ne.symm (cne x c hc)),λj y v' e1 e2 e3=>?_⟩,λy c' e=>?_,I.free,I.freeC,λp hp=>?_,tracked ⟨oc,hoc,I.freeC x c hc⟩ hs,by simpa using I.len⟩ ⟨c,hs,.inr hc⟩
  ·exact(hs.2 b (Nat.ne_of_lt (Nat.lt_of_lt_of_le (Heap.lt_size e) (I.ok.cab x c hfn hc)))).trans (I.base.keep b o e n hb hx)
  ·obtain⟨sl,e1⟩:=I.base.slot b o e n hb hx;exact⟨sl,(hs.2 b (Nat.ne_of_lt (Nat.lt_of_lt_of_le (Heap.lt_size e) (I.ok.cab x c hfn hc)))).trans e1⟩
  ·obtain⟨o',e1⟩:=I.base.there b o e hx;exact⟨o',(hs.2 b (Nat.ne_of_lt (Nat.lt_of_lt_of_le (Heap.lt_size e) (I.ok.cab x c hfn hc)))).trans e1⟩
  ·by_cases hj:j=i
   ·subst hj;rw[hi]at e1;cases e1;rw[List.getElem?_set_self hiO]at e2;cases e2;exact⟨u,r,.inr ⟨.inl hk,c,hc,hc'⟩⟩
   ·rw[List.getElem?_set_ne (Ne.symm hj)]at e2;obtain⟨u',r',q⟩:=hl j y v' e1 e2 e3;refine⟨u',r',?_⟩;rcases q with q|⟨k,c',e,z'⟩
    ·exact .inl q
    ·refine .inr ⟨k,c',e,z'.sameBut hs ?_⟩;rintro rfl;exact hj (rh hN e1 (I.ok.inj _ _ _ e hc▸hi))
  ·by_cases hcc:c'=c
   ·subst hcc;exact⟨_,hc'⟩
   ·obtain⟨w2,z2⟩:=I.cell y c' e;exact⟨w2,z2.sameBut hs hcc⟩
  ·obtain⟨e,n,ne,nf,d⟩:=I.pin p hp;refine⟨(hs.2 p.1 ?_).trans e,n,ne,nf,d⟩;intro q;rw[q,hoc]at e;have q':oc=p.2:=Option.some.inj e;exact d w' (by rw[<- q'];exact hocd)
theorem qQ {v:V} {u:Value} {Q:Unit->Shared->Prop} (I:Inv X pins O H s) (hN:X.N.Nodup) (hi:X.N[i]?=some x) (hx:Loc X.env.scope x) (r:RelV v u)
  (h:∀s',Inv X pins (O.set i (some v)) H s'->Q () s') (hf:X.fn x=true\/X.env.scope.names.lookup x=some .local:=by first|exact .inl rfl|exact .inr rfl|assumption):wpAny M A (storeName X.env x u) Q E s :=
 vC I hN hi hx r (λs' I' _=>h s' I') hf
theorem Inv.call' {s':Shared} (I:Inv X pins O H s) (ho:s'.os=s.os) (u:Un (frs X.stack) ch H H' s.heap s'.heap) (hok:HOk X.prog X.w H' s'.heap) (hg:AllBare s'.gens)
  (hch:∀b∈ch,(b∈X.ex\/X.s₀.heap.objs.size<=b)/\b≠X.env.locals/\(∀x c,X.env.cells.lookup x=some c->c≠b)/\∀p∈X.pn++pins,p.1≠b):Inv X pins O H' s':=by
 obtain⟨h',g',d',t',o'⟩:=s';have e:o'=s.os:=ho;subst e;exact I.call (g':=g') (t':=t') (d':=d') u hok hg hch
end
abbrev XK:=Value->Option Addr->Hp->Prop
abbrev St:=List (Option V)
abbrev VK:=V->Hp->Prop
abbrev TE:=St->Hp->VK->Prop
abbrev TT:=St->Hp->(Bool->Hp->Prop)->Prop
abbrev TA:=St->Hp->(List V->Hp->Prop)->Prop
structure jC where
 nx:St->Hp->Prop
 rt:VK
 bk:St->Hp->Prop:=λ_ _=>False
 ct:St->Hp->Prop:=λ_ _=>False
abbrev TS:=jC->St->Hp->Prop
def EP (X:Cx) (pins:List (Addr×Obj)) (O:St) (Q:VK) (u:Value) (s':Shared):Prop:=∃v H',Inv X pins O H' s'/\RelV v u/\Q v H'
def TP (X:Cx) (pins:List (Addr×Obj)) (O:St) (Q:Bool->Hp->Prop) (b:Bool) (s':Shared):Prop:=∃H',Inv X pins O H' s'/\Q b H'
def AP (X:Cx) (pins:List (Addr×Obj)) (O:St) (Q:List V->Hp->Prop) (us:List Value) (s':Shared):Prop:=∃vs H',Inv X pins O H' s'/\Vals vs us/\Q vs H'
def SP (X:Cx) (pins:List (Addr×Obj)) (D:jC) (f:Flow) (s':Shared):Prop :=
 match f with
 | .next=>∃σ' H',Inv X pins σ' H' s'/\D.nx σ' H'
 | .brk=>∃σ' H',Inv X pins σ' H' s'/\D.bk σ' H'
 | .cont=>∃σ' H',Inv X pins σ' H' s'/\D.ct σ' H'
 | .ret u=>∃v σ' H',Inv X pins σ' H' s'/\RelV v u/\D.rt v H'
def PE (X:Cx) (e:Expr) (t:TE):Prop :=
 ∀(pins:List (Addr×Obj)) (s:Shared) (O:St) (H:Hp) (Q:VK),Inv X pins O H s->t O H Q->wpAny (model X.prog X.w) X.A (eval e X.env) (EP X pins O Q) X.xe s
def PT (X:Cx) (e:Expr) (t:TT):Prop :=
 ∀(pins:List (Addr×Obj)) (s:Shared) (O:St) (H:Hp) (Q:Bool->Hp->Prop),Inv X pins O H s->t O H Q->wpAny (model X.prog X.w) X.A (isTrue e X.env (eval e X.env)) (TP X pins O Q) X.xe s
def PW (X:Cx) (e:Expr) (t:TT):Prop :=
 ∀(whole:Sem Value) (pins:List (Addr×Obj)) (s:Shared) (O:St) (H:Hp) (Q:Bool->Hp->Prop),Inv X pins O H s->t O H Q->wpAny (model X.prog X.w) X.A (isTrue e X.env whole) (TP X pins O Q) X.xe s
theorem PW.pt {X:Cx} {e:Expr} {t:TT} (h:PW X e t):PT X e t:=h _
def PA (X:Cx) (es:List Expr) (t:TA):Prop :=
 ∀(pos:Pos) (pins:List (Addr×Obj)) (s:Shared) (O:St) (H:Hp) (Q:List V->Hp->Prop),Inv X pins O H s->t O H Q->wpAny (model X.prog X.w) X.A (spliced (backTo pos (starEach es X.env))) (AP X pins O Q) X.xe s
def PS (X:Cx) (st:Stmt) (t:TS):Prop :=
 ∀(pins:List (Addr×Obj)) (s:Shared) (O:St) (H:Hp) (D:jC),Inv X pins O H s->t D O H->wpAny (model X.prog X.w) X.A (exec st X.env) (SP X pins D) X.xe s
def PSs (X:Cx) (st:List Stmt) (t:TS):Prop :=
 ∀(pins:List (Addr×Obj)) (s:Shared) (O:St) (H:Hp) (D:jC),Inv X pins O H s->t D O H->wpAny (model X.prog X.w) X.A (execs st X.env) (SP X pins D) X.xe s
theorem thn {Y:Type} {t:Sem Y} {Q Q':Y->Shared->Prop} {s:Shared} (h:wpAny M A t Q E s) (hQ:∀a s,Q a s->Q' a s):wpAny M A t Q' E s:=wpAny_mono h hQ λ_ _ x=>x
end L2
namespace L2
open PySem PySem.Spec PyProof.Rows
variable {x:Str} {pos:Pos} {u:Value} {op:CmpOp} {t:TE}
section
variable {X:Cx}
def dD (i:Nat):TE:=λO H Q=>∃v,O[i]?=some (some v)/\Q v H
def tC (v:V):TE:=λ_ H Q=>Q v H
theorem Bw {i:Nat} (hN:X.N[i]?=some x) (hv:Vis X.env.scope x) (hd:(x==("__debug__":Str))=false:=by decide) (hcd:(x==("__classdict__":Str))=false:=by decide):PE X (.Name x pos) (dD i):=by
 intro pins s O H Q I h;obtain⟨v,e,h⟩:=h;obtain⟨m,hn,hl⟩:=I.loc;obtain⟨u,r,l⟩:=hl i x v hN e hv;have fin:EP X pins O Q u s:=⟨v,H,I,r,h⟩;rcases l with⟨hk,hm⟩|⟨hk,c,hc,hcell⟩
 ·exact wpAny_Name (wpAny_loadName_local I.ok.kind hk hn hm fin) hd
 ·rcases hk with hk|hk
  ·exact wpAny_Name (wpAny_loadName_cell I.ok.kind hk hc hcell fin) hd
  ·exact wpAny_Name (wpAny_loadName_free I.ok.kind hk hc hcell fin hcd) hd
theorem BC {i j pos}:PE X (.Constant (.int i) j pos) (tC (.int i)):=λ_ _ _ H _ I h=>wpAny_Constant_int ⟨.int i,H,I.tok _,⟨_,rfl⟩,h⟩
theorem AG {b j pos}:PE X (.Constant (.bool b) j pos) (tC (.bl b)):=λ_ _ _ H _ I h=>Constant_bool ⟨.bl b,H,I,rfl,h⟩
theorem BA {j pos}:PE X (.Constant .none j pos) (tC .non):=λ_ _ _ H _ I h=>Constant_none ⟨.non,H,I,rfl,h⟩
def Gl (X:Cx) (x:Str):Prop:=X.env.kindOf x=some .globalImplicit
theorem gl {E:Value->Shared->Prop} {pins:List (Addr×Obj)} {s:Shared} {O:St} {H:Hp} {Q:Value->Shared->Prop} (I:Inv X pins O H s) (hg:Gl X x) (hm:X.mg x=some u) (h:Q u s)
  (hd:(x==("__debug__":Str))=false:=by decide):wpAny (model X.prog X.w) X.A (eval (.Name x pos) X.env) Q E s :=
 Calls.Name_function_global I.ok.kind hg (Calls.loadGlobal_global (by rw[I.ok.glob];exact I.mod.glob.keeps I.bk) hm h) hd
theorem jr {E:Value->Shared->Prop} {pins:List (Addr×Obj)} {s:Shared} {O:St} {H:Hp} {Q:Value->Shared->Prop} (I:Inv X pins O H s) (hg:Gl X x) (hm:X.mg x=none) (hv:bootBuiltins x=some u) (h:Q u s)
  (hn:x ≠ "__name__":=by decide) (hd:(x==("__debug__":Str))=false:=by decide):wpAny (model X.prog X.w) X.A (eval (.Name x pos) X.env) Q E s:=by
 obtain⟨mb,h1,h2⟩:=I.mod.blt;exact Calls.Name_function_global I.ok.kind hg (Calls.loadGlobal_builtin (by rw[I.ok.glob];exact I.mod.glob.keeps I.bk) hm (by rw[I.ok.blt];exact h1.keeps I.bk) ((h2 x hn).trans hv) h) hd
theorem zi {v:V} (hg:Gl X x) (hm:X.mg x=some u) (r:RelV v u) (hd:(x==("__debug__":Str))=false:=by decide):PE X (.Name x pos) (tC v) :=
 λ_ _ _ H _ I h=>gl I hg hm ⟨v,H,I,r,h⟩ hd
variable {a b:Expr} {ta tb:TE} {pos:Pos}
def PC (X:Cx) (op:CmpOp) (a b:Expr) (t:TE):Prop :=
 ∀(pins:List (Addr×Obj)) (s:Shared) (O:St) (H:Hp) (Q:VK),Inv X pins O H s->t O H Q ->
  wpAny (model X.prog X.w) X.A (eval a X.env) (λv s₁=>wpAny (model X.prog X.w) X.A (eval b X.env) (λu s₂=>wpAny (model X.prog X.w) X.A (compareOp op v u) (EP X pins O Q) X.xe s₂) X.xe s₁) X.xe s
theorem rj (b:Expr) (h:op ≠ .In) (h2:op ≠ .NotIn):behindInMarks op b=false:=by
 have e1:(op==CmpOp.In)=false:=by cases op<;>first|rfl|exact absurd rfl h
 have e2:(op==CmpOp.NotIn)=false:=by cases op<;>first|rfl|exact absurd rfl h2
 cases b<;>simp[behindInMarks,e1,e2]
def DT (ta:TE):TE:=λO H Q=>ta O H λx H1=>Q (.bl (decide (x=.non))) H1
theorem RelV.none_iff {x:V} {v:Value} (r:RelV x v):(v==Value.none)=decide (x=.non):=by
 cases x with
 | non=>cases r;rfl
 | bl _=>cases r;rfl
 | int _=>obtain⟨t,rfl⟩:=r;rfl
 | str _=>obtain⟨t,rfl⟩:=r;rfl
 | byt _=>obtain⟨t,rfl⟩:=r;rfl
 | flt _=>obtain⟨t,rfl⟩:=r;rfl
 | ref _=>cases r;rfl
 | ty _=>cases r;rfl
theorem xk {j pos'} (ha:PE X a ta):PC X .Is a (.Constant .none j pos') (DT ta):=by
 intro pins s O H Q I h;refine thn (ha pins s O H _ I h) λv s1 ⟨x,H1,I1,r1,q1⟩=>?_;exact Constant_none (is_none_gen ⟨.bl _,H1,I1,by rw[r1.none_iff];rfl,q1⟩)
def tB (t:TE):TT:=λO H Q=>t O H λx H1=>∃c,x=.bl c/\Q c H1
theorem BE (h:PC X op a b t) (h1:behindInMarks op b=false:=by first|exact rj _ (by decide) (by decide)|rfl):PE X (.Compare a [op] [b] pos) t:=λpins s O H Q I hw=>wpAny_Compare1 (h pins s O H Q I hw) h1
theorem Br (h:PC X op a b t) (h1:behindInMarks op b=false:=by first|exact rj _ (by decide) (by decide)|rfl):PT X (.Compare a [op] [b] pos) (tB t):=by
 intro pins s O H Q I hw;refine wpAny_isTrue_Compare1 (thn (h pins s O H _ I hw) λv s1 h1=>thn h1 λu s2 h2=>thn h2 λc s3 ⟨x,H1,I1,r1,q1⟩=>?_) h1;obtain⟨d,rfl,q⟩:=q1;cases r1;exact wpAny_truthy_bool ⟨H1,I1,q⟩
theorem Bp {e:Expr} (h:PE X e t) (he:∀whole,isTrue e X.env whole=(do let v <- whole;standAt e.pos;holding [v] (truthy v)):=by intro _;rfl):PT X e (tB t):=by
 intro pins s O H Q I hw;refine isTrue_plain (thn (h pins s O H _ I hw) λv s1 ⟨x,H1,I1,r1,q1⟩=>?_) (he _);obtain⟨d,rfl,q⟩:=q1;cases r1;exact wpAny_truthy_bool ⟨H1,I1,q⟩
variable {tA tB':TT} {rest:List Expr}
def DW (t u:TT):TT:=λO H Q=>t O H λc H1=>if c=true then u O H1 Q else Q false H1
def tOr (t u:TT):TT:=λO H Q=>t O H λc H1=>if c=true then Q true H1 else u O H1 Q
def DQ (t:TT):TT:=λO H Q=>t O H λc H1=>Q (!c) H1
theorem zb (ha:PT X a tA):PW X (.BoolOp .And [a] pos) tA:=by
 intro wh pins s O H Q I h;refine isTrue_and (thn (ha pins s O H Q I h) λc s1 e=>?_);cases c with
 | true=>exact isTrue_and_nil e
 | false=>exact e
theorem Bh (ha:PT X a tA):PW X (.BoolOp .Or [a] pos) tA:=by
 intro wh pins s O H Q I h;refine isTrue_or (thn (ha pins s O H Q I h) λc s1 e=>?_);cases c with
 | false=>exact isTrue_or_nil e
 | true=>exact e
theorem Bi (ha:PT X a tA) (hb:PW X (.BoolOp .And (b::rest) pos) tB'):PW X (.BoolOp .And (a::b::rest) pos) (DW tA tB'):=by
 intro wh pins s O H Q I h;refine isTrue_and (thn (ha pins s O H _ I h) λc s1 ⟨H1,I1,q1⟩=>?_);cases c with
 | true=>exact hb wh pins s1 O H1 Q I1 q1
 | false=>exact⟨H1,I1,q1⟩
theorem C4 (ha:PT X a tA) (hb:PW X (.BoolOp .Or (b::rest) pos) tB'):PW X (.BoolOp .Or (a::b::rest) pos) (tOr tA tB'):=by
 intro wh pins s O H Q I h;refine isTrue_or (thn (ha pins s O H _ I h) λc s1 ⟨H1,I1,q1⟩=>?_);cases c with
 | true=>exact⟨H1,I1,q1⟩
 | false=>exact hb wh pins s1 O H1 Q I1 q1
theorem Bq (ha:PT X a tA):PT X (.UnaryOp .Not a pos) (DQ tA):=by
 intro pins s O H Q I h;exact isTrue_not (ha pins s O H (λc H1=>Q (!c) H1) I h)
def CS (ta tb:TE):TE:=λO H Q=>ta O H λx H1=>∃c,x=.bl c/\if c=true then tb O H1 Q else Q (.bl false) H1
def CM (ta:TE):TE:=λO H Q=>ta O H λx H1=>∃c,x=.bl c/\Q (.bl (!c)) H1
theorem By {op} (h:PE X a t):PE X (.BoolOp op [a] pos) t:=λpins s O H Q I hw=>BoolOp_one (h pins s O H Q I hw)
theorem BF (ha:PE X a ta) (hb:PE X (.BoolOp .And (b::rest) pos) tb):PE X (.BoolOp .And (a::b::rest) pos) (CS ta tb):=by
 intro pins s O H Q I h;refine BoolOp_and (thn (ha pins s O H _ I h) λv s1 ⟨x,H1,I1,r1,q1⟩=>?_);obtain⟨c,rfl,q1⟩:=q1;cases r1;refine wpAny_truthy_bool ?_;cases c with
 | true=>exact hb pins s1 O H1 Q I1 q1
 | false=>exact⟨.bl false,H1,I1,rfl,q1⟩
theorem Bz (ha:PE X a ta):PE X (.UnaryOp .Not a pos) (CM ta):=by
 intro pins s O H Q I h;refine UnaryOp_ (thn (ha pins s O H _ I h) λv s1 ⟨x,H1,I1,r1,q1⟩=>?_);obtain⟨c,rfl,q1⟩:=q1;cases r1;exact not_of (wpAny_truthy_bool ⟨.bl (!c),H1,I1,rfl,q1⟩)
end
end L2
namespace L2
open PySem PySem.Spec PyProof.Rows
def SqL (K:Frag) (H:Hp) (a:Addr) (xs:List V):Prop :=
 Rd H a (.lst xs) \/
  ∃(o:Obj) (its:Array Value) (n:Nat),K.lookup a=some o/\o.cls=.type "list"/\o.dict=none/\o.data=.seq its n/\its.size<=sizeLine/\Vals xs its.toList
def SqT (K:Frag) (H:Hp) (a:Addr) (xs:List V):Prop :=
 Rd H a (.tup xs) \/
  ∃(o:Obj) (its:Array Value) (n:Nat),K.lookup a=some o/\o.cls=.type "tuple"/\o.data=.seq its n/\its.size<=sizeLine/\Vals xs its.toList
def Ek:Value->Option V
 | .none=>some .non
 | .bool b=>some (.bl b)
 | .int i _=>some (.int i)
 | .str x _=>some (.str x)
 | .bytes b _=>some (.byt b)
 | .float b _=>some (.flt b)
 | .ref a=>some (.ref a)
 | .type n=>some (.ty n)
 | _=>none
variable {u:Value}
theorem RelV.abs {x:V} (r:RelV x u):Ek u=some x:=by
 cases x with
 | non=>cases r;rfl
 | bl _=>cases r;rfl
 | int _=>obtain⟨t,rfl⟩:=r;rfl
 | str _=>obtain⟨t,rfl⟩:=r;rfl
 | byt _=>obtain⟨t,rfl⟩:=r;rfl
 | flt _=>obtain⟨t,rfl⟩:=r;rfl
 | ref _=>cases r;rfl
 | ty _=>cases r;rfl
theorem RelV.inj {x y:V} (r:RelV x u) (q:RelV y u):x=y:=Option.some.inj (r.abs.symm.trans q.abs)
theorem Vals.inj:∀{xs ys:List V} {us:List Value},Vals xs us->Vals ys us->xs=ys
 | _,_,_,.nil,.nil=>rfl
 | _,_,_,.cons r t,.cons r' t'=>by rw[r.inj r',Vals.inj t t']
variable {K:Frag}
section
variable {X:Cx} {pins:List (Addr×Obj)} {O:St} {H:Hp} {s:Shared} {a:Addr} {xs ys:List V}
theorem SqL.of (h:H a=some (.lst xs)):SqL K H a xs:=.inl (.inl h)
theorem SqT.of (h:H a=some (.tup xs)):SqT K H a xs:=.inl (.inl h)
theorem Inv.list (I:Inv X pins O H s) (h:SqL X.K H a xs):∃its:List Value,Vals xs its/\PlainL s.heap a its.toArray/\xs.length<=sizeLine:=by
 rcases h with h|⟨o,its,n,hk,hc,hd,hs,hz,r⟩
 ·obtain⟨z,its,n,r,e⟩:=h.ok I.hok;exact⟨its,r,⟨_,n,e,rfl,rfl,rfl⟩,z⟩
 ·refine⟨its.toList,r,⟨o,n,I.kIn a o hk,hc,hd,by simpa using hs⟩,?_⟩;have e:=r.length;simp only[Array.length_toList]at e;omega
theorem Inv.tuple (I:Inv X pins O H s) (h:SqT X.K H a xs):∃its:List Value,Vals xs its/\IsTup s.heap a its.toArray/\xs.length<=sizeLine:=by
 rcases h with h|⟨o,its,n,hk,hc,hs,hz,r⟩
 ·obtain⟨z,its,r,p⟩:=h.ok I.hok;exact⟨its,r,p,z⟩
 ·refine⟨its.toList,r,⟨o,I.kIn a o hk,hc,n,by simpa using hs⟩,?_⟩;have e:=r.length;simp only[Array.length_toList]at e;omega
theorem Inv.list_inj (I:Inv X pins O H s) (h:SqL X.K H a xs) (h':SqL X.K H a ys):xs=ys:=by
 obtain⟨its,r,⟨o,n,e,_,_,d⟩,_⟩:=I.list h;obtain⟨its',r',⟨o',n',e',_,_,d'⟩,_⟩:=I.list h';rw[e]at e';cases e';rw[d]at d';injection d' with d1 _;have:its=its':=by simpa using congrArg Array.toList d1
 subst this;exact r.inj r'
theorem Inv.tuple_inj (I:Inv X pins O H s) (h:SqT X.K H a xs) (h':SqT X.K H a ys):xs=ys:=by
 obtain⟨its,r,⟨o,e,_,n,d⟩,_⟩:=I.tuple h;obtain⟨its',r',⟨o',e',_,n',d'⟩,_⟩:=I.tuple h';rw[e]at e';cases e';rw[d]at d';injection d' with d1 _;have:its=its':=by simpa using congrArg Array.toList d1
 subst this;exact r.inj r'
end
abbrev Cx.wish (X:Cx) (E:Value->Shared->Prop):Cx:={ X with xe:=E }
abbrev Cx.nox (X:Cx):Cx:=X.wish λ_ _=>False
theorem Cx.Ok.wish {X:Cx} (ok:X.Ok) (E:Value->Shared->Prop):(X.wish E).Ok :=
 ⟨ok.mod,ok.kind,ok.glob,ok.blt,ok.above,ok.inj,ok.has,ok.cab,ok.hd,ok.frames,ok.stk,ok.exf,ok.bs,ok.bsz,ok.noex,ok.exfs,ok.funs,ok.frf⟩
theorem Cx.Ok.unwish {X:Cx} {E:Value->Shared->Prop} (ok:(X.wish E).Ok):X.Ok :=
 ⟨ok.mod,ok.kind,ok.glob,ok.blt,ok.above,ok.inj,ok.has,ok.cab,ok.hd,ok.frames,ok.stk,ok.exf,ok.bs,ok.bsz,ok.noex,ok.exfs,ok.funs,ok.frf⟩
section
variable {X:Cx} {pins:List (Addr×Obj)} {O:St} {H:Hp} {s:Shared} {E:Value->Shared->Prop}
theorem Inv.wish (I:Inv X pins O H s) (E:Value->Shared->Prop):Inv (X.wish E) pins O H s:=⟨I.ok.wish E,I.os,I.bare,I.base,I.loc,I.cell,I.free,I.freeC,I.pin,I.hok,I.len⟩
theorem Inv.unwish (I:Inv (X.wish E) pins O H s):Inv X pins O H s:=⟨I.ok.unwish,I.os,I.bare,I.base,I.loc,I.cell,I.free,I.freeC,I.pin,I.hok,I.len⟩
theorem SP.unwish {D:jC} {f:Flow} {s':Shared} (h:SP (X.wish E) pins D f s'):SP X pins D f s':=by
 cases f with
 | next=>obtain⟨σ',H',I,q⟩:=h;exact⟨σ',H',I.unwish,q⟩
 | brk=>obtain⟨σ',H',I,q⟩:=h;exact⟨σ',H',I.unwish,q⟩
 | cont=>obtain⟨σ',H',I,q⟩:=h;exact⟨σ',H',I.unwish,q⟩
 | ret u=>obtain⟨v,σ',H',I,r,q⟩:=h;exact⟨v,σ',H',I.unwish,r,q⟩
theorem PSs.nox {st:List Stmt} {t:TS} (h:PSs X.nox st t):PSs X st t:=λpins s O H D I hw =>
 wpAny_mono (h pins s O H D (I.wish _) hw) (λ_ _ q=>q.unwish) λ_ _ z=>False.elim z
end
variable {s:Shared}
section
variable {X:Cx} {st:Stmt} {rest:List Stmt} {t u:TS} {e:Expr} {te:TE} {pos:Pos}
def CN:TS:=λD O H=>D.nx O H
def yP (t u:TS):TS:=λD O H=>t { D with nx:=u D } O H
theorem uE:PSs X [] CN:=λ_ _ O H _ I h=>wpAny_execs_nil ⟨O,H,I,h⟩
theorem fL (h1:PS X st t) (h2:PSs X rest u):PSs X (st::rest) (yP t u):=by
 intro pins s O H D I h;refine wpAny_execs_cons (thn (h1 pins s O H { D with nx:=u D } I h) λf s1 q=>?_);cases f with
 | next =>
  obtain⟨σ',H',I',q⟩:=q;exact h2 pins s1 σ' H' D I' q
 | ret v=>exact q
 | brk=>exact q
 | cont=>exact q
theorem gj (h1:PS X st t):PSs X [st] t:=by
 intro pins s O H D I h;refine wpAny_execs_cons (thn (h1 pins s O H D I h) λf s1 q=>?_);cases f with
 | next=>exact wpAny_execs_nil q
 | ret v=>exact q
 | brk=>exact q
 | cont=>exact q
theorem Inv.quiet {pins:List (Addr×Obj)} {O:St} {H:Hp} (I:Inv X pins O H s):interactive X.env=false:=by simp[interactive,I.ok.kind]
def lg (te:TE):TS:=λD O H=>te O H λ_ H1=>D.nx O H1
theorem i4 (he:PE X e te) (hs:swapsWith e none pos.line X.env=pure false:=by rfl):PS X (.Expr e pos) (lg te):=by
 intro pins s O H D I h;exact wpAny_Expr_any (thn (he pins s O H _ I h) λv s1 ⟨x,H1,I1,r1,q1⟩=>⟨O,H1,I1,q1⟩) I.quiet hs
def DP (te:TE):TS:=λD O H=>te O H D.rt
theorem pM (he:PE X e te):PS X (.Return (some e) pos) (DP te):=by
 intro pins s O H D I h;exact wpAny_Return_some (thn (he pins s O H _ I h) λv s1 ⟨x,H1,I1,r1,q1⟩=>⟨x,O,H1,I1,r1,q1⟩)
def DU (c:TT) (t u:TS):TS:=λD O H=>c O H λb H1=>if b=true then t D O H1 else u D O H1
theorem AE {c:Expr} {a b:List Stmt} {tc:TT} (hc:PT X c tc) (ha:PSs X a t) (hb:PSs X b u):PS X (.If c a b pos) (DU tc t u):=by
 intro pins s O H D I h;refine wpAny_If (thn (hc pins s O H _ I h) λd s1 ⟨H1,I1,q1⟩=>?_);cases d with
 | true=>exact ha pins s1 O H1 D I1 q1
 | false=>exact hb pins s1 O H1 D I1 q1
def A9:TS:=λ_ _ _=>False
theorem wY:PS X st A9:=λ_ _ _ _ _ _ h=>h.elim
end
abbrev TG:=V->St->Hp->(St->Hp->Prop)->Prop
abbrev TGs:=List V->St->Hp->(St->Hp->Prop)->Prop
def PG (X:Cx) (target:Expr) (t:TG):Prop :=
 ∀(pins:List (Addr×Obj)) (s:Shared) (O:St) (H:Hp) (v:V) (u:Value) (Q:St->Hp->Prop),Inv X pins O H s->RelV v u->t v O H Q ->
  wpAny (model X.prog X.w) X.A (assign target X.env u) (λ_ s'=>∃σ' H',Inv X pins σ' H' s'/\Q σ' H') X.xe s
def PGs (X:Cx) (ts:List Expr) (t:TGs):Prop :=
 ∀(pins:List (Addr×Obj)) (s:Shared) (O:St) (H:Hp) (vs:List V) (us:List Value) (Q:St->Hp->Prop),Inv X pins O H s->Vals vs us->t vs O H Q ->
  wpAny (model X.prog X.w) X.A (assignInOrder ((assignEach ts X.env).map (·.2)) us) (λ_ s'=>∃σ' H',Inv X pins σ' H' s'/\Q σ' H') X.xe s
abbrev Au:=V->V->V->Hp->(Hp->Prop)->Prop
def DD (X:Cx) (t:Au):Prop :=
 ∀(pins:List (Addr×Obj)) (s:Shared) (O:St) (H:Hp) (o i v:V) (ov iv u:Value) (Q:Hp->Prop),Inv X pins O H s->RelV o ov->RelV i iv->RelV v u->t o i v H Q ->
  wpAny (model X.prog X.w) X.A (setItem ov iv u) (λ_ s'=>∃H',Inv X pins O H' s'/\Q H') X.xe s
variable {tg:Expr}
section
variable {X:Cx} {pos:Pos}
def fR (i:Nat):TG:=λv O H Q=>Q (O.set i (some v)) H
theorem aD {i:Nat} {x:Str} (hN:X.N.Nodup) (hi:X.N[i]?=some x) (hx:Loc X.env.scope x) (hf:X.fn x=true\/X.env.scope.names.lookup x=some .local:=by first|exact .inl rfl|exact .inr rfl|assumption):PG X (.Name x pos) (fR i):=by
 intro pins s O H v u Q I r h;exact wpAny_assign_Name (qQ I hN hi hx r (λs' I'=>⟨_,H,I',h⟩) hf)
def D6:TGs:=λvs O H Q=>vs=[]/\Q O H
def Dr (t:TG) (u:TGs):TGs:=λvs O H Q=>∃v r,vs=v::r/\t v O H λσ' H'=>u r σ' H' Q
theorem uH:PGs X [] D6:=by
 intro pins s O H vs us Q I r h;obtain⟨e,h⟩:=h;subst e;cases r;exact assignInOrder_nil ⟨O,H,I,h⟩
theorem jN {e:Expr} {es:List Expr} {t:TG} {u:TGs} (h1:PG X e t) (h2:PGs X es u)
  (hs:(assignEach (e::es) X.env).map (·.2)=assign e X.env::(assignEach es X.env).map (·.2):=by rfl):PGs X (e::es) (Dr t u):=by
 intro pins s O H vs us Q I r h;obtain⟨v,vr,e1,h⟩:=h;subst e1;cases r with
 | cons r rr =>
  rw[hs];refine assignInOrder_cons (thn (h1 pins s O H _ _ _ I r h) λ_ s1 ⟨O1,H1,I1,q1⟩=>?_);exact h2 pins s1 O1 H1 _ _ Q I1 rr q1
def D4 (K:Frag) (n:Nat) (t:TGs):TG:=λv O H Q=>∃a xs,v=.ref a/\SqT K H a xs/\xs.length=n/\t xs O H Q
theorem w9 {es:List Expr} {k:Nat} {t:TGs} {n:Nat} (hc:X.calm=true) (h:PGs X es t)
  (hn:(assignEach es X.env).length=n:=by rfl) (hst:(assignEach es X.env).findIdx? (·.1)=none:=by rfl):PG X (.Tuple es k pos) (D4 X.K n t):=by
 intro pins s O H v u Q I r hw;obtain⟨a,xs,e1,hq,hl,hw⟩:=hw;subst e1;cases r;obtain⟨its,rv,ht,hz⟩:=I.tuple hq;refine assign_Tuple_tuple (I.ok.hd hc) ht (by simp[hn,<- hl,rv.length]) hst λh' hx=>?_;have I1:Inv X pins O H { s with heap:=h' }:=I.kept (t':=s.toks) λb o e=>hx b o (Nat.ne_of_lt (Heap.lt_size e)) e;exact h pins _ O H xs _ Q I1 (by simpa using rv) hw
def D5 (to ti:TE) (t:Au):TG:=λv O H Q=>to O H λo H1=>ti O H1 λi H2=>t o i v H2 λH3=>Q O H3
theorem w_ {o i:Expr} {to ti:TE} {t:Au} (ho:PE X o to) (hi:PE X i ti) (hs:DD X t)
  (ha:∀v,assign (.Subscript o i pos) X.env v=(do
   let ov <- holding [v] (eval o X.env)
   let iv <- holding [v,ov] (eval i X.env)
   standAt pos
   holding [v,ov,iv] (setItem ov iv v)
   release [v,ov,iv] []):=by intro _;rfl):PG X (.Subscript o i pos) (D5 to ti t):=by
 intro pins s O H v u Q I r h;rw[ha];refine wpAny_bind (wpAny_holding (thn (ho pins s O H _ I h) λov s1 ⟨x,H1,I1,r1,q1⟩=>?_));refine wpAny_bind (wpAny_holding (thn (hi pins s1 O H1 _ I1 q1) λiv s2 ⟨y,H2,I2,r2,q2⟩=>?_));refine wpAny_bind (wpAny_standAt (wpAny_bind (wpAny_holding (thn (hs pins s2 O H2 x y v ov iv u _ I2 r1 r2 r q2) λ_ s3 ⟨H3,I3,q3⟩=>?_))));exact wpAny_release ⟨O,H3,I3,q3⟩
def tm (te:TE) (g:TG):TS:=λD O H=>te O H λx H1=>g x O H1 D.nx
theorem tJ {e:Expr} {te:TE} {g:TG} (he:PE X e te) (hg:PG X tg g) (hs:swapsWithSole [tg] e pos.line X.env=pure false:=by rfl) (hw:swappedStores [tg] e X.env=pure none:=by rfl)
  (h1:(assignEach [tg] X.env).map (·.2)=[assign tg X.env]:=by rfl):PS X (.Assign [tg] e pos) (tm te g):=by
 intro pins s O H D I h;refine wpAny_Assign_stores (thn (he pins s O H _ I h) λv s1 ⟨x,H1,I1,r1,q1⟩=>?_) hs hw;rw[h1];exact thn (hg pins s1 O H1 x v _ I1 r1 q1) λ_ s2 q=>q
theorem ky {i:Nat} {x:Str} {e:Expr} {te:TE} {pos':Pos} (hN:X.N.Nodup) (hi:X.N[i]?=some x) (hx:Loc X.env.scope x) (he:PE X e te) (hs:swapsWith e (some (.Name x pos')) pos.line X.env=pure false:=by rfl) (hf:X.fn x=true\/X.env.scope.names.lookup x=some .local:=by first|exact .inl rfl|exact .inr rfl|assumption) :
  PS X (.Assign [.Name x pos'] e pos) (tm te (fR i)):=by
 intro pins s O H D I h;refine wpAny_Assign_Name (thn (he pins s O H _ I h) λv s1 ⟨y,H1,I1,r1,q1⟩=>?_) hs;exact qQ I1 hN hi hx r1 (λs2 I2=>⟨_,H1,I2,q1⟩) hf
end
section
variable {X:Cx} {pos:Pos}
def A8 (c:TT) (tb:TS):TS:=λD O H=>∃W:Nat->St->Hp->Prop,(∃m,W m O H)/\∀m O H,W m O H ->
 c O H λb H1=>if b=true then ∃N:St->Hp->Prop,(∀σ' H',N σ' H'->∃m',m'<m/\W m' σ' H')/\tb { D with nx:=N,ct:=N,bk:=D.nx } O H1 else D.nx O H1
theorem wW {c:Expr} {body:List Stmt} {tc:TT} {tb:TS} (hp:PassesOwn (model X.prog X.w) X.A X.env X.xe) (hc:PT X c tc) (hb:PSs X body tb):PS X (.While c body [] pos) (A8 tc tb):=by
 intro pins s O H D I h;obtain⟨W,⟨m0,w0⟩,kl⟩:=h;refine wpAny_While (codeAny_whileLoop (λn s'=>∃σ' H',Inv X pins σ' H' s'/\W n σ' H') ?_ m0 ⟨O,H,I,w0⟩);rintro n s1 ⟨O1,H1,I1,w1⟩;refine wpAny_passesOwn hp (thn (hc pins s1 O1 H1 _ I1 (kl n O1 H1 w1)) λb s2 ⟨H2,I2,q2⟩=>?_);cases b with
 | true =>
  obtain⟨N,hN,q2⟩:=q2;rw[if_pos rfl];refine wpAny_passesOwn hp (thn (hb pins s2 O1 H2 _ I2 q2) λf s3 q3=>?_);cases f with
  | next =>
   obtain⟨O3,H3,I3,n3⟩:=q3;obtain⟨m',hm,w3⟩:=hN O3 H3 n3;exact⟨m',hm,O3,H3,I3,w3⟩
  | cont =>
   obtain⟨O3,H3,I3,n3⟩:=q3;obtain⟨m',hm,w3⟩:=hN O3 H3 n3;exact⟨m',hm,O3,H3,I3,w3⟩
  | brk=>exact q3
  | ret v=>exact q3
 | false =>
  rw[if_neg Bool.false_ne_true];exact wpAny_execs_nil ⟨O1,H2,I2,q2⟩
end
structure It where
 go:Nat->Hp->Prop
 yld:Nat->Hp->V->Hp->Prop
 stop:Nat->Hp->Prop
def oF (X:Cx) (pins:List (Addr×Obj)) (H:Hp) (b:Addr):Prop :=
 H b=none/\b≠X.env.locals/\b∉X.fs/\(b∈X.ex\/X.s₀.heap.objs.size<=b)/\(∀x c,X.env.cells.lookup x=some c->c≠b)/\∀p∈X.pn++pins,p.1≠b
theorem Inv.fpOk {X:Cx} {pins:List (Addr×Obj)} {O:St} {H H':Hp} {b:Addr} (I:Inv X pins O H s) (hb:s.heap.objs.size<=b) (hn:H' b=none):oF X pins H' b:=by
 refine⟨hn,Nat.ne_of_gt (Nat.lt_of_lt_of_le I.lt hb),I.nofs hb,.inr (Nat.le_trans I.sz hb),λx c e z=>?_,λp hp z=>?_⟩
 ·obtain⟨v,q⟩:=I.cell x c e;exact absurd (Nat.lt_of_lt_of_le q.lt (by rw[z];exact hb)) (Nat.lt_irrefl _)
 ·exact absurd (Nat.lt_of_lt_of_le (Heap.lt_size (I.pin p hp).1) (by rw[z];exact hb)) (Nat.lt_irrefl _)
structure wr (P:Program) (w:World) (K:Frag) (tg:Expr) (J:It) (fp:List Addr) (it:Addr) (tn:Nat->Heap->Prop):Prop where
 mem:it∈fp
 obj:∀i h,tn i h->∀b∈fp,∃o,h.get? b=some o/\∀v,o.data ≠ .cell v
 keep:∀i h h',tn i h->(∀b∈fp,∀o,h.get? b=some o->h'.get? b=some o)->tn i h'
 item:∀(X:Cx),X.prog=P->X.w=w->X.K=K->X.calm=true->∀(i:Nat) (pins:List (Addr×Obj)) (s:Shared) (O:St) (H:Hp) (E:Value->Shared->Prop),Inv X pins O H s->(∀b∈fp,oF X pins H b)->tn i s.heap->J.go i H ->
  wpAny (model P w) X.A (pyNext (.ref it)) (λr s1=>∃u,r=some u /\
   wpAny (model P w) X.A (letOwnedTupleGo tg (.ref it) u) (λ_ s2=>∃x H',Inv X pins O H' s2/\RelV x u/\J.yld i H x H'/\tn (i+1) s2.heap/\∀b∈fp,H' b=none) E s1) E s
 done:∀(X:Cx),X.prog=P->X.w=w->X.K=K->X.calm=true->∀(i:Nat) (pins:List (Addr×Obj)) (s:Shared) (O:St) (H:Hp) (E:Value->Shared->Prop),Inv X pins O H s->(∀b∈fp,oF X pins H b)->tn i s.heap->J.stop i H ->
  wpAny (model P w) X.A (pyNext (.ref it)) (λr s1=>r=none/\Inv X pins O H s1) E s
 self:∀(A:Around) (i:Nat) (s:Shared) (Q:Value->Shared->Prop) (E:Value->Shared->Prop),tn i s.heap->Q (.ref it) s->wpAny (model P w) A (pyIter (.ref it)) Q E s
abbrev TI:=St->Hp->(It->Hp->Prop)->Prop
def PIE (X:Cx) (pins:List (Addr×Obj)) (O:St) (tg:Expr) (R:It->Hp->Prop) (itv:Value) (s2:Shared):Prop :=
 ∃(it:Addr) (fp:List Addr) (tn:Nat->Heap->Prop) (J:It) (H':Hp),itv=.ref it/\Inv X pins O H' s2/\wr X.prog X.w X.K tg J fp it tn/\tn 0 s2.heap/\(∀b∈fp,oF X pins H' b)/\R J H'
def PI (X:Cx) (tg iter:Expr) (wi:TI):Prop :=
 ∀(pins:List (Addr×Obj)) (s:Shared) (O:St) (H:Hp) (R:It->Hp->Prop),Inv X pins O H s->wi O H R ->
  wpAny (model X.prog X.w) X.A (eval iter X.env) (λv s1=>wpAny (model X.prog X.w) X.A (pyIter v) (PIE X pins O tg R) X.xe s1) X.xe s
theorem xQ {M:Model} {A:Around} {E:Value->Shared->Prop} {it:Addr} {o:Obj} {n:String} {vs:Array Value} {Q:Unit->Shared->Prop} (ho:s.heap.get? it=some o) (hc:o.cls=.type n) (hd:o.data=.fields vs)
    (hn:["enumerate","zip","dict_itemiterator","dict_reverseitemiterator","odict_iterator","itertools.zip_longest","itertools.pairwise"].contains n=false) (hQ:Q () s):wpAny M A (letOwnedTupleGo tg (.ref it) u) Q E s:=by
  unfold letOwnedTupleGo;cases tg<;>first
    | exact wpAny_pure hQ
    | (cases u<;>first
        | exact wpAny_pure hQ
        | (refine wpAny_bind (wpAny_load ho ?_)
           rw[hc,hd];show wpAny M A (if(["enumerate","zip","dict_itemiterator","dict_reverseitemiterator","odict_iterator","itertools.zip_longest","itertools.pairwise"].contains n&&vs[0]?==some (rawInt _))=true then _ else _) Q E s;rw[if_neg (by intro h;rw[hn,Bool.false_and]at h;cases h)];exact wpAny_pure hQ))
def Itl (K:Frag) (a:Addr):It :=
 ⟨λi H=>∃xs x,SqL K H a xs/\xs[i]?=some x,λi H x H'=>H'=H/\∀xs,SqL K H a xs->xs[i]?=some x,λi H=>∃xs,SqL K H a xs/\xs.length<=i⟩
def Itt (K:Frag) (a:Addr):It :=
 ⟨λi H=>∃xs x,SqT K H a xs/\xs[i]?=some x,λi H x H'=>H'=H/\∀xs,SqT K H a xs->xs[i]?=some x,λi H=>∃xs,SqT K H a xs/\xs.length<=i⟩
def Itr (lo:Int) (n:Nat):It:=⟨λi _=>i<n,λi H x H'=>H'=H/\x=.int (lo+i),λi _=>n<=i⟩
variable {P:Program} {w:World}
theorem oI (a it:Addr):wr P w K tg (Itl K a) [it] it (λi h=>h.IsListIter it a i) where
 mem:=by simp
 obj:=λi h st b hb=>by
  have e:b=it:=by simpa using hb
  subst e;obtain⟨o,e,c,d⟩:=st;exact⟨o,e,λv z=>by rw[d]at z;cases z⟩
 keep:=λi h h' st k=>st.at λo e=>k it (by simp) o e
 item:=by
  intro X hP hw hK hc i pins s O H E I hf st hg;subst hP hw hK;obtain⟨xs,x,hq,hx⟩:=hg;obtain⟨its,rv,p,hz⟩:=I.list hq;obtain⟨u,hu,ru⟩:=rv.get hx;obtain⟨f0,f1,f2,f3,f4,f5⟩:=hf it (by simp);refine wpAny_pyNext_list_item st p.isList (x:=u) (by simpa using hu) λh' st' sb=>?_;have I1:Inv X pins O H { s with heap:=h' }:=I.turned (t':=s.toks) (λb o hb e=>(sb.2 b hb).trans e) f0 f1 f3 f4 f5;obtain⟨o,e,c,d⟩:=id st';exact⟨u,rfl,xQ (s:={ s with heap:=h' }) e c d (by decide) ⟨x,H,I1,ru,⟨rfl,λys hy=>by rw[I.list_inj hy hq];exact hx⟩,st',λb hb=>(hf b hb).1⟩⟩
 done:=by
  intro X hP hw hK hc i pins s O H E I hf st hg;subst hP hw hK;obtain⟨xs,hq,hx⟩:=hg;obtain⟨its,rv,p,hz⟩:=I.list hq;obtain⟨f0,f1,f2,f3,f4,f5⟩:=hf it (by simp);have hl:=rv.length;exact wpAny_pyNext_list_end (I.ok.hd hc) st p.isList (by simp;omega) λh' eb=>⟨rfl,I.turned (t':=s.toks) (λb o hb e=>eb b o hb e) f0 f1 f3 f4 f5⟩
 self:=λ_ _ _ _ _ st h=>wpAny_pyIter_listiter st h
theorem sY (a it:Addr):wr P w K tg (Itt K a) [it] it (λi h=>h.IsTupleIter it a i) where
 mem:=by simp
 obj:=λi h st b hb=>by
  have e:b=it:=by simpa using hb
  subst e;obtain⟨o,e,c,d⟩:=st;exact⟨o,e,λv z=>by rw[d]at z;cases z⟩
 keep:=λi h h' st k=>st.at λo e=>k it (by simp) o e
 item:=by
  intro X hP hw hK hc i pins s O H E I hf st hg;subst hP hw hK;obtain⟨xs,x,hq,hx⟩:=hg;obtain⟨its,rv,p,hz⟩:=I.tuple hq;obtain⟨u,hu,ru⟩:=rv.get hx;obtain⟨f0,f1,f2,f3,f4,f5⟩:=hf it (by simp);refine wpAny_pyNext_tuple_item st (show s.heap.IsTuple a its.toArray from p) (x:=u) (by simpa using hu) λh' st' sb=>?_;have I1:Inv X pins O H { s with heap:=h' }:=I.turned (t':=s.toks) (λb o hb e=>(sb.2 b hb).trans e) f0 f1 f3 f4 f5;obtain⟨o,e,c,d⟩:=id st';exact⟨u,rfl,xQ (s:={ s with heap:=h' }) e c d (by decide) ⟨x,H,I1,ru,⟨rfl,λys hy=>by rw[I.tuple_inj hy hq];exact hx⟩,st',λb hb=>(hf b hb).1⟩⟩
 done:=by
  intro X hP hw hK hc i pins s O H E I hf st hg;subst hP hw hK;obtain⟨xs,hq,hx⟩:=hg;obtain⟨its,rv,p,hz⟩:=I.tuple hq;obtain⟨f0,f1,f2,f3,f4,f5⟩:=hf it (by simp);have hl:=rv.length;exact wpAny_pyNext_tuple_end (I.ok.hd hc) st (show s.heap.IsTuple a its.toArray from p) (by simp;omega) λh' eb=>⟨rfl,I.turned (t':=s.toks) (λb o hb e=>eb b o hb e) f0 f1 f3 f4 f5⟩
 self:=λ_ _ _ _ _ st h=>wpAny_pyIter_tupleiter st h
theorem sZ (it:Addr) (lo:Int) (n:Nat):wr P w K tg (Itr lo n) [it] it (λi h=>IsRangeIter h it (lo+(i:Nat)*1) ((n:Int)-(i:Nat)) 1) where
 mem:=by simp
 obj:=λi h st b hb=>by
  have e:b=it:=by simpa using hb
  subst e;exact⟨_,st,λv z=>by
   have z':Data.fields _=Data.cell v:=z;cases z'⟩
 keep:=λi h h' st k=>k it (by simp) _ st
 item:=by
  intro X hP hw hK hc i pins s O H E I hf st hg;subst hP hw hK;obtain⟨f0,f1,f2,f3,f4,f5⟩:=hf it (by simp);have W:=Walks.range (prog:=X.prog) (w:=X.w) (I.ok.hd hc) it lo 1 n;refine W.item i s _ _ hg st λv h' tk hv st' kk=>?_;obtain⟨t,rfl⟩:=hv;have I1:Inv X pins O H { s with heap:=h',toks:=tk }:=I.turned (λb o hb e=>kk b o (by simpa using hb) e) f0 f1 f3 f4 f5;refine⟨_,rfl,xQ (s:={ s with heap:=h',toks:=tk }) (n:="range_iterator") st' rfl rfl (by decide) ⟨.int (lo+i),H,I1,⟨t,?_⟩,⟨rfl,rfl⟩,st',λb hb=>(hf b hb).1⟩⟩;rw[Int.mul_one]
 done:=by
  intro X hP hw hK hc i pins s O H E I hf st hg;subst hP hw hK;obtain⟨f0,f1,f2,f3,f4,f5⟩:=hf it (by simp);exact wpAny_pyNext_range_end (I.ok.hd hc) st (by have:n<=i:=hg;omega) λh' eb=>⟨rfl,I.turned (t':=s.toks) (λb o hb e=>eb b o hb e) f0 f1 f3 f4 f5⟩
 self:=λ_ _ _ _ _ st h=>wpAny_pyIter_rangeiter st h
end L2
namespace L2
open PySem PySem.Spec PyProof.Rows
variable {pins:List (Addr×Obj)} {O:St} {H:Hp} {s:Shared} {fp:List Addr}
section
variable {X:Cx} {tg:Expr}
def Dp (K:Frag) (tl:TE):TI:=λO H R=>tl O H λx H1=>∃a,x=.ref a/\(∃xs,SqL K H1 a xs)/\R (Itl K a) H1
theorem zg {l:Expr} {tl:TE} (hl:PE X l tl):PI X tg l (Dp X.K tl):=by
 intro pins s O H R I h;refine thn (hl pins s O H _ I h) λv s1 ⟨x,H1,I1,r1,q1⟩=>?_;obtain⟨a,e,⟨xs,hq⟩,q⟩:=q1;subst e;cases r1;obtain⟨its,rv,p,hz⟩:=I1.list hq;refine wpAny_pyIter_list p.isList ?_;refine⟨s1.heap.objs.size,[s1.heap.objs.size],_,_,H1,rfl,I1.kept (t':=s1.toks) λb o e=>Heap.get?_push_of_some _ e,oI a _,⟨_,Heap.get?_push_size _ rfl,rfl,rfl⟩,λb hb=>?_,q⟩;have e:b=s1.heap.objs.size:=by simpa using hb
 subst e;exact I1.fpOk (Nat.le_refl _) (I1.hok.fresh (Nat.le_refl _))
theorem wS {R:It->Hp->Prop} {E:Value->Shared->Prop} {lo hi:Int} {t u v:Tok} {tk:Nat} (I:Inv X pins O H s) (h1:-(2 ^ 62)<=lo) (h2:lo<2 ^ 62) (h3:-(2 ^ 62)<=hi) (h4:hi<2 ^ 62)
  (q:R (Itr lo (hi-lo).toNat) H):wpAny (model X.prog X.w) X.A (pyIter (.ref s.heap.objs.size)) (PIE X pins O tg R) E { s with heap:=s.heap.push { cls:=.type "range",data:=.fields #[.int lo t,.int hi u,.int 1 v] },toks:=tk }:=by
 refine wpAny_pyIter_range (IsRange.new ..) (small_one h1 h2 h3 h4) ?_;have I1:Inv X pins O H { s with heap:=s.heap.push { cls:=.type "range",data:=.fields #[.int lo t,.int hi u,.int 1 v] },toks:=tk }:=I.kept λb o e=>Heap.get?_push_of_some _ e;refine⟨(s.heap.push { cls:=.type "range",data:=.fields #[.int lo t,.int hi u,.int 1 v] }).objs.size,[(s.heap.push { cls:=.type "range",data:=.fields #[.int lo t,.int hi u,.int 1 v] }).objs.size],_,_,H,rfl,
  I1.kept (t':=tk) λb o e=>Heap.get?_push_of_some _ e,sZ _ lo (hi-lo).toNat,?_,λb hb=>?_,q⟩
 ·have e1:lo+((0:Nat):Int)*1=lo:=by simp
  have e2:(((hi-lo).toNat:Nat):Int)-((0:Nat):Int)=Builtin.Range.rangeSize lo hi 1:=by rw[rangeSize_one];split<;>omega
  show IsRangeIter _ _ (lo+((0:Nat):Int)*1) ((((hi-lo).toNat:Nat):Int)-((0:Nat):Int)) 1;rw[e1,e2];exact Heap.get?_push_size _ rfl
 ·have e:b=(s.heap.push { cls:=.type "range",data:=.fields #[.int lo t,.int hi u,.int 1 v] }).objs.size:=by simpa using hb
  subst e;exact I1.fpOk (Nat.le_refl _) (I1.hok.fresh (Nat.le_refl _))
def Do (ta:TA):TI:=λO H R=>ta O H λvs H1=>∃j:Int,vs=[.int j]/\-(2 ^ 62)<=j/\j<2 ^ 62/\R (Itr 0 j.toNat) H1
theorem vM {a:Expr} {ta:TA} {p pos:Pos} (hg:Gl X "range") (hm:X.mg "range"=none) (ha:PA X [a] ta) (hs:starEach [a] X.env=[(false,eval a X.env)]:=by rfl):PI X tg (.Call (.Name "range" p) [a] [] pos) (Do ta):=by
 intro pins s O H R I h;refine Call_ (jr I hg hm boot_range (PyProof.Rows.callWith_type1 (thn (ha pos pins s O H _ I h) λus s1 ⟨vs,H1,I1,r1,q1⟩=>?_) hs rfl));obtain⟨j,e,q1,q2,q⟩:=q1;subst e;cases r1 with
 | cons r rr =>
  cases rr;obtain⟨t,rfl⟩:=r;exact call_range_1 (wS I1 (by omega) (by omega) q1 q2 (by simpa using q))
def CO (wi:TI) (g:TG) (tb:TS):TS:=λD O H=>wi O H λJ H1=>∃W:Nat->Nat->St->Hp->Prop,(∃m,W 0 m O H1)/\∀i m O H,W i m O H ->
 (J.stop i H/\D.nx O H)\/(J.go i H/\∃N:St->Hp->Prop,(∀σ' H',N σ' H'->∃m',m'<m/\W (i+1) m' σ' H')/\∀x H',J.yld i H x H'->g x O H' λO2 H2=>tb { D with nx:=N,ct:=N,bk:=D.nx } O2 H2)
def dm (fp:List Addr) (h:Heap):List (Addr×Obj):=fp.filterMap λb=>(h.get? b).map λo=>(b,o)
theorem fN {h:Heap} {b:Addr} {o:Obj} (hb:b∈fp) (e:h.get? b=some o):(b,o)∈dm fp h:=List.mem_filterMap.mpr ⟨b,hb,by rw[e];rfl⟩
theorem i6 {h:Heap} {p:Addr×Obj} (hp:p∈dm fp h):p.1∈fp/\h.get? p.1=some p.2:=by
 obtain⟨b,hb,e⟩:=List.mem_filterMap.mp hp;cases q:h.get? b with
 | none=>rw[q]at e;cases e
 | some o =>
  rw[q]at e;have e':(b,o)=p:=Option.some.inj e;subst e';exact⟨hb,q⟩
theorem Inv.pinned (I:Inv X pins O H s) (hf:∀b∈fp,oF X pins H b) (ho:∀b∈fp,∃o,s.heap.get? b=some o/\∀v,o.data ≠ .cell v):Inv X (pins++dm fp s.heap) O H s :=
 I.pins_of λp hp=>(List.mem_append.mp hp).elim (λz=>I.pin p (List.mem_append_right _ z)) λz=>by
  obtain⟨hb,e⟩:=i6 z;obtain⟨f0,f1,f2,_⟩:=hf p.1 hb;obtain⟨o,e',d⟩:=ho p.1 hb;rw[e]at e';cases e';exact⟨e,f0,f1,f2,d⟩
theorem Inv.unpinned {pl:List (Addr×Obj)} (I:Inv X (pins++pl) O H s):Inv X pins O H s:=I.pins_of λp hp=>I.pin p (List.mem_append_right _ (List.mem_append_left _ hp))
theorem pO {iter:Expr} {body:List Stmt} {wi:TI} {g:TG} {tb:TS} {pos:Pos} (hp:PassesOwn (model X.prog X.w) X.A X.env X.xe) (hc:X.calm=true) (hi:PI X tg iter wi) (hg:PG X tg g) (hb:PSs X body tb)
  (hs:∀x,foldedSetIterable iter X.env x=pure x:=by intro _;rfl):PS X (.For tg iter body [] pos) (CO wi g tb):=by
 intro pins s O H D I h;refine wpAny_For (thn (hi pins s O H _ I h) λv s1 h1=>thn h1 λitv s2 h2=>?_) hs;obtain⟨it,fp,tn,J,H2,e,I2,T,st2,f2,W,⟨m0,w0⟩,kl⟩:=h2;subst e;have stat:∀{H':Hp},(∀b∈fp,H' b=none)->∀b∈fp,oF X pins H' b:=λhn b hb=>⟨hn b hb,(f2 b hb).2⟩;refine codeAny_forLoop_any (λn s'=>∃i σ' H',Inv X pins σ' H' s'/\tn i s'.heap/\(∀b∈fp,H' b=none)/\W i n σ' H') ?_ m0 ⟨0,O,H2,I2,st2,λb hb=>(f2 b hb).1,w0⟩;rintro n s3 ⟨i,O3,H3,I3,st3,fr3,w3⟩;rcases kl i n O3 H3 w3 with⟨stop,qn⟩|⟨go,N,hN,step⟩
 ·refine wpAny_passesOwn hp (thn (T.done X rfl rfl rfl hc i pins s3 O3 H3 X.xe I3 (stat fr3) st3 stop) λr s4 ⟨hr,I4⟩=>?_);subst hr;exact wpAny_execs_nil ⟨O3,H3,I4,qn⟩
 ·refine wpAny_passesOwn hp (thn (T.item X rfl rfl rfl hc i pins s3 O3 H3 X.xe I3 (stat fr3) st3 go) λr s4 ⟨u,hr,h4⟩=>?_);subst hr;refine wpAny_passesOwn hp (thn h4 λ_ s5 ⟨x,H5,I5,r5,y5,st5,fr5⟩=>?_);have I5':=I5.pinned (stat fr5) (T.obj _ _ st5);refine wpAny_passesOwn hp (thn (hg _ s5 O3 H5 x u _ I5' r5 (step x H5 y5)) λ_ s6 ⟨O6,H6,I6,q6⟩=>?_);refine wpAny_passesOwn hp (thn (hb _ s6 O6 H6 _ I6 q6) λf s7 q7=>?_);have again:∀{O7:St} {H7:Hp},Inv X (pins++dm fp s5.heap) O7 H7 s7->N O7 H7->∃m,m<n/\∃i σ' H',Inv X pins σ' H' s7/\tn i s7.heap/\(∀b∈fp,H' b=none)/\W i m σ' H':=λ{O7 H7} I7 n7=>by
   obtain⟨m',hm,w7⟩:=hN O7 H7 n7;refine⟨m',hm,i+1,O7,H7,I7.unpinned,T.keep _ _ _ st5 λb hb o e=>(I7.pin (b,o) (List.mem_append_right _ (List.mem_append_right _ (fN hb e)))).1,λb hb=>?_,w7⟩;obtain⟨o,e,d⟩:=T.obj _ _ st5 b hb;exact(I7.pin (b,o) (List.mem_append_right _ (List.mem_append_right _ (fN hb e)))).2.1
  cases f with
  | next=>obtain⟨O7,H7,I7,n7⟩:=q7;exact again I7 n7
  | cont=>obtain⟨O7,H7,I7,n7⟩:=q7;exact again I7 n7
  | brk=>obtain⟨O7,H7,I7,q7⟩:=q7;exact⟨O7,H7,I7.unpinned,q7⟩
  | ret v=>obtain⟨x7,O7,H7,I7,r7,q7⟩:=q7;exact⟨x7,O7,H7,I7.unpinned,r7,q7⟩
end
theorem rW {K:Frag} {a:Addr} {xs:List V} {g:TG} {tb:TS} {D:jC} (Pv:Nat->St->Hp->Prop) (h0:Pv 0 O H) (hl:∀i O H,i<=xs.length->Pv i O H->SqL K H a xs)
  (hs:∀i x O H,xs[i]?=some x->Pv i O H->g x O H λO2 H2=>tb { D with nx:=Pv (i+1),ct:=Pv (i+1),bk:=D.nx } O2 H2) (hd:∀O H,Pv xs.length O H->D.nx O H) :
  ∃W:Nat->Nat->St->Hp->Prop,(∃m,W 0 m O H)/\∀i m O H,W i m O H ->
   ((Itl K a).stop i H/\D.nx O H)\/((Itl K a).go i H/\∃N:St->Hp->Prop,(∀σ' H',N σ' H'->∃m',m'<m/\W (i+1) m' σ' H')/\∀x H',(Itl K a).yld i H x H'->g x O H' λO2 H2=>tb { D with nx:=N,ct:=N,bk:=D.nx } O2 H2):=by
 refine⟨λi m O H=>m=xs.length-i/\i<=xs.length/\Pv i O H,⟨xs.length,by simp,Nat.zero_le _,h0⟩,?_⟩;rintro i m O H ⟨rfl,hi,p⟩;have q:=hl i O H hi p;by_cases hlt:i<xs.length
 ·refine .inr ⟨⟨xs,xs[i],q,by simp[hlt]⟩,Pv (i+1),λσ' H' p'=>⟨xs.length-(i+1),by omega,rfl,hlt,p'⟩,λx H' y=>?_⟩;obtain⟨e,y⟩:=y;subst e;exact hs i x O _ (y xs q) p
 ·have e:i=xs.length:=by omega
  subst e;exact .inl ⟨⟨xs,q,Nat.le_refl _⟩,hd O H p⟩
end L2
namespace L2
open PySem PySem.Spec PyProof.Rows
abbrev R2:=V->V->Hp->VK->Prop
def OpR (X:Cx) (f:Value->Value->Sem Value) (r:R2):Prop :=
 ∀(pins:List (Addr×Obj)) (s:Shared) (O:St) (H:Hp) (x y:V) (v u:Value) (Q:VK),Inv X pins O H s->RelV x v->RelV y u->r x y H Q ->
  wpAny (model X.prog X.w) X.A (f v u) (EP X pins O Q) X.xe s
def UnR (X:Cx) (f:Value->Sem Value) (r:V->Hp->VK->Prop):Prop :=
 ∀(pins:List (Addr×Obj)) (s:Shared) (O:St) (H:Hp) (x:V) (v:Value) (Q:VK),Inv X pins O H s->RelV x v->r x H Q ->
  wpAny (model X.prog X.w) X.A (f v) (EP X pins O Q) X.xe s
def kh (X:Cx) (f:Value) (r:List V->Hp->VK->Prop):Prop :=
 ∀(pins:List (Addr×Obj)) (s:Shared) (O:St) (H:Hp) (xs:List V) (us:List Value) (Q:VK),Inv X pins O H s->Vals xs us->r xs H Q ->
  wpAny (model X.prog X.w) X.A (call f us) (EP X pins O Q) X.xe s
def tOp (r:R2) (ta tb:TE):TE:=λO H Q=>ta O H λx H1=>tb O H1 λy H2=>r x y H2 Q
def tUn (r:V->Hp->VK->Prop) (ta:TE):TE:=λO H Q=>ta O H λx H1=>r x H1 Q
def rI (C:Int->Int->Prop) (g:Int->Int->V):R2:=λx y H Q=>∃i j,x=.int i/\y=.int j/\C i j/\Q (g i j) H
def rI0 (g:Int->Int->V):R2:=λx y H Q=>∃i j,x=.int i/\y=.int j/\Q (g i j) H
def rU (g:Int->V):V->Hp->VK->Prop:=λx H Q=>∃i,x=.int i/\Q (g i) H
variable {f:Value->Value->Sem Value} {r:R2}
section
variable {X:Cx} {a b c:Expr} {ta tb tc:TE} {pos:Pos}
theorem CA (ha:PE X a ta) (hb:PE X b tb) {pins:List (Addr×Obj)} {s:Shared} {O:St} {H:Hp} {R:V->V->Hp->Prop} (I:Inv X pins O H s)
  (h:ta O H λx H1=>tb O H1 λy H2=>R x y H2) {Q:Value->Shared->Prop}
  (hf:∀v u s2 x y H2,Inv X pins O H2 s2->RelV x v->RelV y u->R x y H2->wpAny (model X.prog X.w) X.A (f v u) Q X.xe s2) :
  wpAny (model X.prog X.w) X.A (eval a X.env) (λv s₁=>wpAny (model X.prog X.w) X.A (eval b X.env) (λu s₂=>wpAny (model X.prog X.w) X.A (f v u) Q X.xe s₂) X.xe s₁) X.xe s:=by
 refine thn (ha pins s O H _ I h) λv s1 ⟨x,H1,I1,r1,q1⟩=>?_;refine thn (hb pins s1 O H1 _ I1 q1) λu s2 ⟨y,H2,I2,r2,q2⟩=>?_;exact hf v u s2 x y H2 I2 r1 r2 q2
theorem AF {op:Operator} (ho:OpR X (binaryOp op) r) (ha:PE X a ta) (hb:PE X b tb):PE X (.BinOp a op b pos) (tOp r ta tb):=by
 intro pins s O H Q I h;exact wpAny_BinOp (CA ha hb I h λv u s2 x y H2 I2 rx ry q=>ho pins s2 O H2 x y v u Q I2 rx ry q)
theorem Db {op:UnaryOp} {r:V->Hp->VK->Prop} (ho:UnR X (unaryOp op) r) (ha:PE X a ta):PE X (.UnaryOp op a pos) (tUn r ta):=by
 intro pins s O H Q I h;exact UnaryOp_ (thn (ha pins s O H _ I h) λv s1 ⟨x,H1,I1,r1,q1⟩=>ho pins s1 O H1 x v Q I1 r1 q1)
theorem opI {C:Int->Int->Prop} {g:Int->Int->Int}
  (rule:∀(i j:Int) (t u:Tok) (s:Shared) (Q:Value->Shared->Prop) (E:Value->Shared->Prop),C i j->Q (.int (g i j) s.toks) { s with toks:=s.toks+1 }->wpAny (model X.prog X.w) X.A (f (.int i t) (.int j u)) Q E s) :
  OpR X f (rI C λi j=>.int (g i j)):=by
 intro pins s O H x y v u Q I rx ry h;obtain⟨i,j,rfl,rfl,hc,q⟩:=h;obtain⟨t,rfl⟩:=rx;obtain⟨t',rfl⟩:=ry;exact rule i j t t' s _ _ hc ⟨.int (g i j),H,I.tok _,⟨_,rfl⟩,q⟩
theorem D2 {g:Int->Int->Int}
  (rule:∀(i j:Int) (t u:Tok) (s:Shared) (Q:Value->Shared->Prop) (E:Value->Shared->Prop),Q (.int (g i j) s.toks) { s with toks:=s.toks+1 }->wpAny (model X.prog X.w) X.A (f (.int i t) (.int j u)) Q E s) :
  OpR X f (rI0 λi j=>.int (g i j)):=by
 intro pins s O H x y v u Q I rx ry h;obtain⟨i,j,rfl,rfl,q⟩:=h;obtain⟨t,rfl⟩:=rx;obtain⟨t',rfl⟩:=ry;exact rule i j t t' s _ _ ⟨.int (g i j),H,I.tok _,⟨_,rfl⟩,q⟩
theorem BP {g:Int->Int->Bool}
  (rule:∀(i j:Int) (t u:Tok) (s:Shared) (Q:Value->Shared->Prop) (E:Value->Shared->Prop),Q (.bool (g i j)) s->wpAny (model X.prog X.w) X.A (f (.int i t) (.int j u)) Q E s) :
  OpR X f (rI0 λi j=>.bl (g i j)):=by
 intro pins s O H x y v u Q I rx ry h;obtain⟨i,j,rfl,rfl,q⟩:=h;obtain⟨t,rfl⟩:=rx;obtain⟨t',rfl⟩:=ry;exact rule i j t t' s _ _ ⟨.bl (g i j),H,I,rfl,q⟩
def DE (i j:Int):Prop:=0<j/\j<1073741824
def CMul (i j:Int):Prop:=(-(2 ^ 64)<i/\i<2 ^ 64)\/(-(2 ^ 64)<j/\j<2 ^ 64)
theorem CMul.ok {i j:Int} (h:CMul i j):IntMulOk i j:=by
 rcases h with⟨h1,h2⟩|⟨h1,h2⟩
 ·exact .of_left (intBits_le_64 h1 h2)
 ·exact .of_right (intBits_le_64 h1 h2)
theorem op_add:OpR X (binaryOp .Add) (rI0 λi j=>.int (i+j)):=D2 λ_ _ _ _ _ _ _ q=>add_int q
theorem BN:OpR X (binaryOp .Mult) (rI CMul λi j=>.int (i*j)):=opI λ_ _ _ _ _ _ _ hc q=>mul_int q hc.ok
theorem zr:OpR X (binaryOp .FloorDiv) (rI DE λi j=>.int (i/j)):=opI λi j _ _ _ _ _ hc q=>by
 have h1:(0:Int)<j:=hc.1;have h2:j<1073741824:=hc.2;exact floordiv_int (by omega) (by rw[Int.fdiv_eq_ediv_of_nonneg i (by omega)];exact q) (.inl (PyProof.noPylong_small (by omega)))
theorem BO:OpR X (binaryOp .Mod) (rI (λ_ j=>0<j) λi j=>.int (i%j)):=opI λi j _ _ _ _ _ hc q=>by
 have h1:(0:Int)<j:=hc;exact mod_int' (by omega) (by rw[Int.fmod_eq_emod_of_nonneg i (by omega)];exact q)
theorem unI {f:Value->Sem Value} {g:Int->Int}
  (rule:∀(i:Int) (t:Tok) (s:Shared) (Q:Value->Shared->Prop) (E:Value->Shared->Prop),Q (.int (g i) s.toks) { s with toks:=s.toks+1 }->wpAny (model X.prog X.w) X.A (f (.int i t)) Q E s) :
  UnR X f (rU λi=>.int (g i)):=by
 intro pins s O H x v Q I rx h;obtain⟨i,rfl,q⟩:=h;obtain⟨t,rfl⟩:=rx;exact rule i t s _ _ ⟨.int (g i),H,I.tok _,⟨_,rfl⟩,q⟩
theorem AX:UnR X (unaryOp .USub) (rU λi=>.int (-i)):=unI λ_ _ _ _ _ q=>neg_int q
end
variable {op:CmpOp} {r':R2}
section
variable {X:Cx} {a b c:Expr} {ta tb tc:TE} {pos:Pos}
theorem AH:OpR X (compareOp .Lt) (rI0 λi j=>.bl (decide (i<j))):=BP λ_ _ _ _ _ _ _ q=>lt_int q
theorem rd:OpR X (compareOp .LtE) (rI0 λi j=>.bl (decide (i<=j))):=BP λ_ _ _ _ _ _ _ q=>le_int q
theorem Dc:OpR X (compareOp .Gt) (rI0 λi j=>.bl (decide (j<i))):=BP λ_ _ _ _ _ _ _ q=>gt_int q
theorem OpR.or (h:OpR X f r) (h':OpR X f r'):OpR X f (λx y H Q=>r x y H Q\/r' x y H Q):=by
 intro pins s O H x y v u Q I rx ry q;rcases q with q|q
 ·exact h pins s O H x y v u Q I rx ry q
 ·exact h' pins s O H x y v u Q I rx ry q
theorem mT (b:Expr) (h:op ≠ .In:=by decide) (h2:op ≠ .NotIn:=by decide):behindInMarks op b=false:=by
 have e1:(op==CmpOp.In)=false:=by cases op<;>first|rfl|exact absurd rfl h
 have e2:(op==CmpOp.NotIn)=false:=by cases op<;>first|rfl|exact absurd rfl h2
 cases b<;>simp[behindInMarks,e1,e2]
theorem zj (ho:OpR X (compareOp op) r) (ha:PE X a ta) (hb:PE X b tb) (hm:behindInMarks op b=false):PE X (.Compare a [op] [b] pos) (tOp r ta tb):=by
 intro pins s O H Q I h;exact wpAny_Compare1 (CA ha hb I h λv u s2 x y H2 I2 rx ry q=>ho pins s2 O H2 x y v u Q I2 rx ry q) hm
def Ay (t:TE):TT:=λO H Q=>t O H λx H'=>∃k,x=.bl k/\Q k H'
theorem uD (ho:OpR X (compareOp op) r) (ha:PE X a ta) (hb:PE X b tb) (hm:behindInMarks op b=false):PT X (.Compare a [op] [b] pos) (Ay (tOp r ta tb)):=by
 intro pins s O H Q I h;refine wpAny_isTrue_Compare1 (thn (ha pins s O H _ I h) λv s1 ⟨x,H1,I1,r1,q1⟩=>thn (hb pins s1 O H1 _ I1 q1) λu s2 ⟨y,H2,I2,r2,q2⟩ =>
  thn (ho pins s2 O H2 x y v u _ I2 r1 r2 q2) λc s3 ⟨z,H3,I3,r3,k,e,q3⟩=>?_) hm
 subst e;cases r3;exact wpAny_truthy_bool ⟨H3,I3,q3⟩
def tf (r r':R2) (ta tb tc:TE):TE:=λO H Q=>ta O H λx H1=>tb O H1 λy H2=>r x y H2 λz H3=>∃k,z=.bl k /\
 (if k=true then tc O H3 λw' H4=>r' y w' H4 Q else Q (.bl false) H3)
theorem xj {op':CmpOp} (ho:OpR X (compareOp op) r) (ho':OpR X (compareOp op') r') (ha:PE X a ta) (hb:PE X b tb) (hc:PE X c tc)
  (hm:lastMarks [op,op'] [b,c]=false:=by with_unfolding_all rfl):PE X (.Compare a [op,op'] [b,c] pos) (tf r r' ta tb tc):=by
 intro pins s O H Q I h;refine Compare_chain (thn (ha pins s O H _ I h) λv s1 ⟨x,H1,I1,r1,q1⟩=>chain_link (thn (hb pins s1 O H1 _ I1 q1) λu s2 ⟨y,H2,I2,r2,q2⟩ =>
  thn (ho pins s2 O H2 x y v u _ I2 r1 r2 q2) λd s3 ⟨z,H3,I3,r3,k,e,q3⟩=>?_)) hm
 subst e;cases r3;refine wpAny_truthy_bool ?_;cases k with
 | false=>exact ite_ff ⟨.bl false,H3,I3,rfl,q3⟩
 | true=>exact ite_tt (chain_last (thn (hc pins s3 O H3 _ I3 q3) λw' s4 ⟨z',H4,I4,r4,q4⟩=>ho' pins s4 O H4 y z' u w' Q I4 r2 r4 q4))
theorem wV {op':CmpOp} (ho:OpR X (compareOp op) r) (ho':OpR X (compareOp op') r') (ha:PE X a ta) (hb:PE X b tb) (hc:PE X c tc)
  (hm:lastMarks [op,op'] [b,c]=false:=by with_unfolding_all rfl):PT X (.Compare a [op,op'] [b,c] pos) (Ay (tf r r' ta tb tc)):=by
 intro pins s O H Q I h;refine isTrue_chain (thn (ha pins s O H _ I h) λv s1 ⟨x,H1,I1,r1,q1⟩=>test_link (thn (hb pins s1 O H1 _ I1 q1) λu s2 ⟨y,H2,I2,r2,q2⟩ =>
  thn (ho pins s2 O H2 x y v u _ I2 r1 r2 q2) λd s3 ⟨z,H3,I3,r3,k,e,q3⟩=>?_)) hm
 subst e;cases r3;refine wpAny_truthy_bool ?_;cases k with
 | false =>
  obtain⟨k',e',q'⟩:=q3;cases e';exact ite_ff ⟨H3,I3,q'⟩
 | true =>
  refine ite_tt (test_last (thn (hc pins s3 O H3 _ I3 q3) λw' s4 ⟨z',H4,I4,r4,q4⟩=>thn (ho' pins s4 O H4 y z' u w' _ I4 r2 r4 q4) λd' s5 ⟨z2,H5,I5,r5,k2,e2,q5⟩=>?_));subst e2;cases r5;exact wpAny_truthy_bool ⟨H5,I5,q5⟩
theorem qb:(sizeLine:Nat)<2 ^ 63:=by rw[sizeLine_eq];decide
theorem oH {x:V} {us:List Value} (r:Vals [x] us):∃u,us=[u]/\RelV x u:=by
 cases r with
 | cons r1 r2=>cases r2;exact⟨_,rfl,r1⟩
theorem CL {x y:V} {us:List Value} (r:Vals [x,y] us):∃u w',us=[u,w']/\RelV x u/\RelV y w':=by
 cases r with
 | cons r1 r2 =>
  cases r2 with
  | cons r3 r4=>cases r4;exact⟨_,_,rfl,r1,r3⟩
theorem kW (hc:X.calm=true):kh X (.builtin "max") (λxs H Q=>∃i j,xs=[.int i,.int j]/\Q (.int (if j>i then j else i)) H):=by
 intro pins s O H xs us Q I r h;obtain⟨i,j,rfl,q⟩:=h;obtain⟨u,w',rfl,⟨t,rfl⟩,⟨t',rfl⟩⟩:=CL r;refine max_two_ints (I.ok.hd hc) λh' tk k=>⟨_,H,I.kept k,?_,q⟩;by_cases hj:j>i
 ·rw[if_pos hj,if_pos hj];exact⟨_,rfl⟩
 ·rw[if_neg hj,if_neg hj];exact⟨_,rfl⟩
end
end L2
namespace L2
open PySem PySem.Spec PyProof.Rows
structure ObjM (h:Heap) (x dx C:Addr) (mA:Str->Option Value):Prop where
 obj:h.get? x=some (instObj C dx)
 ns:h.Ns1 dx mA
 ne:dx≠x
theorem vU {h:Heap} {dx:Addr} {mA:Str->Option Value} (n:h.Ns1 dx mA):∃od,h.get? dx=some od/\∀name,PySem.W.lookIn name od=some (mA name):=by
 obtain⟨o,es,ep,ho,hd,hk,_,hm⟩:=n;refine⟨o,ho,λname=>?_⟩;have e:=hm name;unfold nsFind findBy at e;rw[<- Array.find?_toList]at e;unfold PySem.W.lookIn;rw[hd];dsimp only;split
 ·rename_i y q;rw[q]at e;exact congrArg some e
 ·rename_i q;rw[q]at e;have a:es.toList.any (·.refKey)=false:=by
   rw[List.any_eq_false];intro y hy;obtain⟨z,t,hkey⟩:=hk y (Array.mem_toList_iff.mp hy);simp[DictEntry.refKey,hkey]
  have a':¬ es.toList.any (·.refKey)=true:=by rw[a];exact Bool.false_ne_true
  rw[if_neg a'];exact congrArg some e
variable {C:Addr}
theorem ObjM.look {h:Heap} {x dx:Addr} {mA:Str->Option Value} (I:ObjM h x dx C mA):∃od,PySem.W.InstAt h x (instObj C dx) C (some od)/\∀name,PySem.W.lookIn name od=some (mA name) :=
 let ⟨od,ho,hl⟩:=vU I.ns
 ⟨od,⟨I.obj,rfl,rfl,ho⟩,hl⟩
variable {Q:Value->Shared->Prop}
section
variable {prog:Program} {w:World} {A:Around} {E:Value->Shared->Prop} {s:Shared} {K:Frag} {x dx C f:Addr} {mA:Str->Option Value} {name:Str} {v:Value}
theorem zM {expr:Bool} (X:K.In s.heap) (I:ObjM s.heap x dx C mA) (hg:plainGet K C name=true) (hh:hasDictIn K C=true)
  (ha:findIn K (.ref C) name=some none) (hv:mA name=some v) (hv':PySem.W.handedIn v=true) (h:Q v { s with toks:=s.toks+1 }) :
  wpAny (model prog w) A (getAttr (.ref x) name expr) Q E s:=by
 obtain⟨od,J,hl⟩:=I.look;exact PySem.W.get_value X J (PySem.W.plainGet_of hg).1 (PySem.W.findObj_own hh ha rfl (by rw[hl,hv])) hv' h
theorem yR {ns:List Str} {Q:Unit->Shared->Prop} (X:K.In s.heap) (I:ObjM s.heap x dx C mA)
  (hs:findIn K (.ref C) "__setattr__"=some (some (.builtin "object.__setattr__"))) (hp:PySem.W.plainOver K C=true) (ht:PySem.W.takerIn K C name=some none) (hh:hasDictIn K C=true)
  (hw:PySem.Within mA ns) (hsz:ns.length<=sizeLine)
  (h:∀h',ObjM h' x dx C (λy=>if y=name then some v else mA y)->Heap.SameBut dx s.heap h'->Q () { s with heap:=h',toks:=s.toks+2 }) :
  wpAny (model prog w) A (setAttr (.ref x) name v) Q E s:=by
 obtain⟨od,J,hl⟩:=I.look;refine PySem.W.set_plain X J hs (PySem.W.osa_open (s:={ s with toks:=s.toks+1 }) (r:=none) X J hp ht λb=>?_);obtain⟨cd,hc,hd'⟩:=PySem.W.any_some hh;have hx:s.heap.get? x=some ⟨.ref C,some dx,.plain,#[]⟩:=I.obj;refine wpAny_bind (wpAny_pure (wpAny_bind (wpAny_bind (wpAny_loadPart hx (wpAny_bind (PySem.W.Looks.here (s:={ s with toks:=s.toks+1 }) (PySem.W.looks_clsIn X hc) ?_))))));rw[hd'];refine wpAny_pure (a:=some dx) (wpAny_bind (wpAny_pure (wpAny_bind ?_)));refine wpAny_nsSet1 (s:={ s with toks:=s.toks+1 }) I.ns λh' hn2 hs2=>?_;obtain⟨oD,esD,epD,hoD,hdD,hcD⟩:=hn2.count (PySem.Within.cons name v hw);refine wpAny_bind (wpAny_lookBehind hoD (by rw[hdD];exact pastItsLine_dict (Nat.le_trans hcD (by rw[List.length_cons];omega))) ?_);exact wpAny_pure (h _ ⟨(hs2.2 _ (Ne.symm I.ne)).trans I.obj,hn2,I.ne⟩ hs2)
theorem xB {R:Result->Shared->Prop} {vs:List Value} {kw:List (Str×Value)} (X:K.In s.heap) (hm:PySem.W.makesIn K C=true)
  (hi:findIn K (.ref C) "__init__"=some (some (.ref f))) (hf:PySem.W.typeIn K (.ref f)=some (.type "function"))
  (h:codeAny (model prog w) (A.under (.builtin "type.__call__" ⟨.ref C::vs,kw⟩)) (.call (.ref f) ⟨.ref (s.heap.objs.size+1)::vs,kw⟩) (PySem.W.InitBack (s.heap.objs.size+1) R)
   {s with heap:=(s.heap.push emptyDict).push (instObj C s.heap.objs.size) }) :
  codeAny (model prog w) A (.call (.ref C) ⟨vs,kw⟩) R s:=by
 obtain⟨hh,g,d,t,os⟩:=s;exact PySem.W.make_core (PySem.W.makes_of X hm) (PySem.W.looks_findIn X hi) (λself=>PySem.W.bind_fn X self hf) (.inl rfl) h
end
def gZ (f:Str) (v:V):List (Str×V)->List (Str×V)
 | []=>[(f,v)]
 | (g,x)::r=>if g=f then(g,v)::r else(g,x)::gZ f v r
theorem lj (f g:Str) (v:V):∀fs:List (Str×V),(gZ f v fs).lookup g=if g=f then some v else fs.lookup g
 | []=>by
  show List.lookup g [(f,v)]=_;by_cases h:g=f
  ·have hb:(g==f)=true:=beq_iff_eq.mpr h;simp only[List.lookup,hb,if_pos h]
  ·have hb:(g==f)=false:=beq_eq_false_iff_ne.mpr h;simp only[List.lookup,hb,if_neg h]
 | (k,x)::r=>by
  have ih:=lj f g v r;rw[show gZ f v ((k,x)::r)=(if k=f then(k,v)::r else(k,x)::gZ f v r)from rfl];by_cases hk:k=f
  ·rw[if_pos hk];by_cases h:g=k
   ·have hb:(g==k)=true:=beq_iff_eq.mpr h;simp only[List.lookup,hb,if_pos (h.trans hk)]
   ·have hb:(g==k)=false:=beq_eq_false_iff_ne.mpr h;simp only[List.lookup,hb,if_neg (λe:g=f=>h (e.trans hk.symm))]
  ·rw[if_neg hk];by_cases h:g=k
   ·have hb:(g==k)=true:=beq_iff_eq.mpr h;simp only[List.lookup,hb,if_neg (λe:g=f=>hk (h.symm.trans e))]
   ·have hb:(g==k)=false:=beq_eq_false_iff_ne.mpr h;simp only[List.lookup,hb];exact ih
theorem kK (f:Str) (v:V):∀fs:List (Str×V),f∈(gZ f v fs).map (·.1)/\∀g,g∈fs.map (·.1)->g∈(gZ f v fs).map (·.1)
 | []=>⟨by simp[gZ],λg h=>by simp at h⟩
 | (k,x)::r=>by
  obtain⟨i1,i2⟩:=kK f v r;rw[show gZ f v ((k,x)::r)=(if k=f then(k,v)::r else(k,x)::gZ f v r)from rfl];by_cases hk:k=f
  ·rw[if_pos hk];subst hk;exact⟨by simp,λg h=>by simpa using h⟩
  ·rw[if_neg hk];refine⟨?_,λg h=>?_⟩
   ·rw[List.map_cons];exact List.mem_cons_of_mem _ i1
   ·rw[List.map_cons]at h ⊢;rcases List.mem_cons.mp h with e|e
    ·exact List.mem_cons.mpr (.inl e)
    ·exact List.mem_cons_of_mem _ (i2 g e)
theorem ll (f:Str) (v:V):∀fs:List (Str×V),(gZ f v fs).length<=fs.length+1
 | []=>by simp[gZ]
 | (k,x)::r=>by
  have ih:=ll f v r;rw[show gZ f v ((k,x)::r)=(if k=f then(k,v)::r else(k,x)::gZ f v r)from rfl];by_cases hk:k=f
  ·rw[if_pos hk,List.length_cons,List.length_cons];omega
  ·rw[if_neg hk,List.length_cons,List.length_cons];omega
theorem RelO.some_of {v:V} {o:Option Value} (r:RelO (some v) o):∃u,o=some u/\RelV v u:=by
 cases o with
 | none=>exact(show False from r).elim
 | some u=>exact⟨u,rfl,r⟩
variable {u:Value}
theorem v6 {v:V} (r:RelV v u):PySem.W.handedIn u=true:=by
 cases v with
 | non=>cases(show u=Value.none from r);rfl
 | bl b=>cases(show u=Value.bool b from r);rfl
 | int i=>obtain⟨t,e⟩:=(show ∃t,u=Value.int i t from r);cases e;rfl
 | str x=>obtain⟨t,e⟩:=(show ∃t,u=Value.str x t from r);cases e;rfl
 | byt b=>obtain⟨t,e⟩:=(show ∃t,u=Value.bytes b t from r);cases e;rfl
 | flt b=>obtain⟨t,e⟩:=(show ∃t,u=Value.float b t from r);cases e;rfl
 | ref a=>cases(show u=Value.ref a from r);rfl
 | ty n=>cases(show u=Value.type n from r);rfl
section
variable {P:Program} {w:World} {H H':Hp} {h h':Heap} {a C dx:Addr} {fs fs':List (Str×V)}
theorem qg (hok:HOk P w H h) (e:H a=some (.ins C dx fs)):∃mA,ObjM h a dx C mA/\(∀f,RelO (fs.lookup f) (mA f))/\PySem.Within mA (fs.map (·.1))/\fs.length<=1000/\H dx=some (.own a):=by
 obtain⟨d,z,ne,ob,mA,n,r,q⟩:=(show ObjOk P w H h a (.ins C dx fs)from hok a _ e);exact⟨mA,⟨ob,n,ne⟩,r,q,z,d⟩
end
structure Cls (K:Frag) (C:Addr):Prop where
 pg:plainGet K C Str.empty=true
 hd:hasDictIn K C=true
 po:PySem.W.plainOver K C=true
 sa:findIn K (.ref C) "__setattr__"=some (some (.builtin "object.__setattr__"))
theorem Cls.get {K:Frag} (c:Cls K C) (f:Str):plainGet K C f=true:=c.pg
def NoAttr (K:Frag) (C:Addr) (f:Str):Prop:=findIn K (.ref C) f=some none
theorem NoAttr.taker {K:Frag} {f:Str} (n:NoAttr K C f):PySem.W.takerIn K C f=some none:=by
 unfold PySem.W.takerIn;rw[show findIn K (.ref C) f=some none from n];rfl
section
variable {X:Cx} {pins:List (Addr×Obj)} {O:St} {H:Hp} {s:Shared} {a C dx:Addr} {fs:List (Str×V)} {f:Str} {v:V} {A:Around} {E:Value->Shared->Prop}
theorem tU {b:Bool} (I:Inv X pins O H s) (e:H a=some (.ins C dx fs)) (c:Cls X.K C) (n:NoAttr X.K C f) (l:fs.lookup f=some v)
  (h:∀u s',Inv X pins O H s'->RelV v u->Q u s'):wpAny (model X.prog X.w) A (getAttr (.ref a) f b) Q E s:=by
 obtain⟨mA,EX,r,_,_,_⟩:=qg I.hok e;obtain⟨u,hu,ru⟩:=RelO.some_of (v:=v) (o:=mA f) (by rw[<- l];exact r f);exact zM I.kIn EX (c.get f) c.hd n hu (v6 ru) (h u _ (I.tok _) ru)
theorem tw {y:V} {Q:Unit->Shared->Prop} (I:Inv X pins O H s) (e:H a=some (.ins C dx fs)) (c:Cls X.K C) (n:NoAttr X.K C f) (hl:fs.length<1000) (ry:RelV y u)
  (h:∀s',Inv X pins O (upd H a (.ins C dx (gZ f y fs))) s'->Q () s'):wpAny (model X.prog X.w) A (setAttr (.ref a) f u) Q E s:=by
 obtain⟨mA,EX,r,wi,_,ho⟩:=qg I.hok e;have hz:(fs.map (·.1)).length<=sizeLine:=by rw[List.length_map,sizeLine_eq];omega
 refine yR I.kIn EX c.sa c.po n.taker c.hd wi hz λh' O' sb=>h _ ?_;have hd:∃o,h'.get? dx=some o:=let ⟨o,_,_,e',_⟩:=O'.ns;⟨o,e'⟩;refine I.write (x:=a) (e:=dx) (by rw[e];exact True.intro) (.inr ho) (λb q hb z=>(sb.2 b hb).trans z) hd ?_;refine⟨by rw[aE EX.ne];exact ho,?_,EX.ne,O'.obj,_,O'.ns,λg=>?_,λg hg=>?_⟩
 ·have:=ll f y fs;omega
 ·show RelO ((gZ f y fs).lookup g) (if g=f then some u else mA g);rw[lj];by_cases q:g=f
  ·rw[if_pos q,if_pos q];exact ry
  ·rw[if_neg q,if_neg q];exact r g
 ·by_cases q:g=f
  ·rw[q];exact(kK f y fs).1
  ·refine(kK f y fs).2 g (wi g λz=>hg ?_);show(if g=f then some u else mA g)=none;rw[if_neg q];exact z
theorem Inv.made (I:Inv X pins O H s):Inv X pins O (upd (upd H s.heap.objs.size (.own (s.heap.objs.size+1))) (s.heap.objs.size+1) (.ins C s.heap.objs.size []))
  {s with heap:=(s.heap.push emptyDict).push (instObj C s.heap.objs.size) }:=by
 have e1:(s.heap.push emptyDict).get? s.heap.objs.size=some emptyDict:=Heap.get?_push_size s.heap rfl;have e2:((s.heap.push emptyDict).push (instObj C s.heap.objs.size)).get? (s.heap.objs.size+1)=some (instObj C s.heap.objs.size):=by
  have:=Heap.get?_push_size (s.heap.push emptyDict) (o:=instObj C s.heap.objs.size) rfl;rwa[Heap.size_push]at this
 have e3:(s.heap.push emptyDict).Ns s.heap.objs.size (λ_=>none):=⟨emptyDict,#[],_,e1,rfl,(λe he=>absurd he (by simp)),λ_=>rfl⟩;have I1:=I.laid (a:=s.heap.objs.size) (o:=.own (s.heap.objs.size+1)) (h':=s.heap.push emptyDict) (t':=s.toks) (λb u q=>Heap.get?_push_of_some _ q) (Nat.le_refl _) ⟨_,e1⟩;refine I1.laid (a:=s.heap.objs.size+1) (o:=.ins C s.heap.objs.size []) (t':=s.toks) (λb u q=>Heap.get?_push_of_some _ q) (Nat.le_of_eq (Heap.size_push _ _)) ?_;have ne:s.heap.objs.size≠s.heap.objs.size+1:=Nat.ne_of_lt (Nat.lt_succ_self _);refine⟨by rw[aE ne,aO],Nat.zero_le _,ne,e2,λ_=>none,(Heap.Ns1.of_empty e3).at λo q=>Heap.get?_push_of_some _ q,λ_=>True.intro,λy hy=>absurd rfl hy⟩
theorem An {prog:Program} {w:World} {env:Env} {e:Expr} {f:Str} {pos:Pos} {s:Shared} (hb:attributeBase e f env (eval e env)=eval e env)
  (h:wpAny (model prog w) A (eval e env) (λo s₁=>wpAny (model prog w) A (getAttr o f true) Q E s₁) E s):wpAny (model prog w) A (eval (.Attribute e f pos) env) Q E s :=
 Attribute_any_ h (by rw[arm_eval_Attribute,hb])
end
def DV (K:Frag) (ta:TE) (f:Str):TE:=λO H Q=>ta O H λx H1=>∃a C dx fs v,x=.ref a/\H1 a=some (.ins C dx fs)/\Cls K C/\NoAttr K C f/\fs.lookup f=some v/\Q v H1
def pD (K:Frag) (ta tv:TE) (f:Str):TS:=λD O H=>tv O H λy H1=>ta O H1 λx H2=>∃a C dx fs,x=.ref a/\H2 a=some (.ins C dx fs)/\Cls K C/\NoAttr K C f/\fs.length<1000 /\
 D.nx O (upd H2 a (.ins C dx (gZ f y fs)))
section
variable {X:Cx} {o e value:Expr} {f:Str} {pos pos' tpos:Pos} {ta tv:TE}
theorem BD (he:PE X e ta) (hb:attributeBase e f X.env (eval e X.env)=eval e X.env):PE X (.Attribute e f pos) (DV X.K ta f):=by
 intro pins s O H Q I h;refine An hb (thn (he pins s O H _ I h) λu s1 ⟨x,H1,I1,rx,a,C,dx,fs,v,ex,ea,c,n,l,q⟩=>?_);subst ex;obtain rfl:u=Value.ref a:=rx;exact tU I1 ea c n l λu' s2 I2 ru=>⟨v,H1,I2,ru,q⟩
theorem Bs (ha:PE X o ta) (hv:PE X value tv) (hs:swapsWith value (some (.Attribute o f pos')) pos.line X.env=pure false):PS X (.Assign [.Attribute o f pos'] value pos) (pD X.K ta tv f):=by
 intro pins s O H D I h;refine plainObj_wpAny_Assign_Attribute (thn (hv pins s O H _ I h) λu s1 ⟨y,H1,I1,ry,q⟩=>thn (ha pins s1 O H1 _ I1 q) λov s2 ⟨x,H2,I2,rx,a,C,dx,fs,ex,ea,c,n,l,q2⟩=>?_) hs;subst ex;obtain rfl:ov=Value.ref a:=rx;exact tw I2 ea c n l ry λs3 I3=>⟨O,_,I3,q2⟩
end
section
variable {X:Cx} {pins:List (Addr×Obj)} {O:St} {H:Hp} {s:Shared} {A:Around} {E:Value->Shared->Prop} {Q:Value->Shared->Prop} {c:Value} {b:Bool}
inductive kY (K:Frag) (H:Hp):V->Value->Prop where
 | non:kY K H .non (.type "NoneType")
 | bl (x:Bool):kY K H (.bl x) (.type "bool")
 | int (i:Int):kY K H (.int i) (.type "int")
 | str (x:Str):kY K H (.str x) (.type "str")
 | flt (x:UInt64):kY K H (.flt x) (.type "float")
 | lst {a:Addr} {xs:List V} (e:H a=some (.lst xs)):kY K H (.ref a) (.type "list")
 | frz {a:Addr} {o:Obj} {xs:List V} (e:H a=some (.frz o (.lst xs))):kY K H (.ref a) (.type "list")
 | tup {a:Addr} {xs:List V} (e:H a=some (.tup xs)):kY K H (.ref a) (.type "tuple")
 | dK {a:Addr} {kvs:List (Key×V)} (e:H a=some (.dK kvs)):kY K H (.ref a) (.type "dict")
 | dT {a:Addr} {kvs:List (List Key×V)} (e:H a=some (.dT kvs)):kY K H (.ref a) (.type "dict")
 | ins {a C dx:Addr} {fs:List (Str×V)} (e:H a=some (.ins C dx fs)) (cl:Cls K C) (ha:findIn K (.ref C) "__class__"=some (some (.builtin "object.__class__")))
   (hn:PySem.W.specialIn K (.builtin "object.__class__") "__get__"=some (some (.builtin "getset_descriptor.__get__"))) (htk:PySem.W.takesIn K (.builtin "object.__class__")=some true)
   (hm:PySem.W.mroIn K C (.type "object")=some true):kY K H (.ref a) (.ref C)
theorem vY {x:V} {t:Value} (I:Inv X pins O H s) (rx:RelV x u) (ty:kY X.K H x t) (e:kitOne X.K t c=some b) (h:∀tk,Q (.bool b) { s with toks:=tk }) :
  wpAny (model X.prog X.w) A (call (.builtin "isinstance") [u,c]) Q E s:=by
 cases ty with
 | non=>cases(show u=Value.none from rx);exact kia_one PySem.W.kitx_none I.kIn True.intro e (λz=>nomatch z) h
 | bl y=>cases(show u=Value.bool y from rx);exact kia_one PySem.W.kitx_bool I.kIn True.intro e (λz=>nomatch z) h
 | int i=>obtain⟨t,q⟩:=(show ∃t,u=Value.int i t from rx);cases q;exact kia_one PySem.W.kitx_int I.kIn True.intro e (λz=>nomatch z) h
 | str y=>obtain⟨t,q⟩:=(show ∃t,u=Value.str y t from rx);cases q;exact kia_one PySem.W.kitx_str I.kIn True.intro e (λz=>nomatch z) h
 | flt y=>obtain⟨t,q⟩:=(show ∃t,u=Value.float y t from rx);cases q;exact kia_one PySem.W.kitx_float I.kIn True.intro e (λz=>nomatch z) h
 | @lst a xs ea =>
  cases(show u=Value.ref a from rx);obtain⟨_,_,n,_,h1⟩:=(show ObjOk X.prog X.w H s.heap a (.lst xs)from I.hok a _ ea);exact kia_one PySem.W.kitx_list I.kIn ⟨_,h1,rfl⟩ e (λz=>nomatch z) h
 | @frz a ob xs ea =>
  cases(show u=Value.ref a from rx);obtain⟨_,_,_,n,_,h1⟩:=(show ObjOk X.prog X.w H s.heap a (.frz ob (.lst xs))from I.hok a _ ea);exact kia_one PySem.W.kitx_list I.kIn ⟨_,h1,rfl⟩ e (λz=>nomatch z) h
 | @tup a xs ea =>
  cases(show u=Value.ref a from rx);obtain⟨_,_,_,p⟩:=(show ObjOk X.prog X.w H s.heap a (.tup xs)from I.hok a _ ea);obtain⟨o,h1,h2,_⟩:=p;exact kia_one PySem.W.kitx_tuple I.kIn ⟨o,h1,h2⟩ e (λz=>nomatch z) h
 | @dK a kvs ea =>
  cases(show u=Value.ref a from rx);obtain⟨_,_,vs,_,p⟩:=(show ObjOk X.prog X.w H s.heap a (.dK kvs)from I.hok a _ ea);obtain⟨o,es,ep,h1,h2,_⟩:=p;exact kia_one PySem.W.kitx_dict I.kIn ⟨o,h1,h2.1⟩ e (λz=>nomatch z) h
 | @dT a kvs ea =>
  cases(show u=Value.ref a from rx);obtain⟨_,_,xs,_,o,es,ep,h1,h2,_⟩:=(show ObjOk X.prog X.w H s.heap a (.dT kvs)from I.hok a _ ea);exact kia_one PySem.W.kitx_dict I.kIn ⟨o,h1,h2.1⟩ e (λz=>nomatch z) h
 | @ins a C dx fs ea cl ha hn htk hm =>
  cases(show u=Value.ref a from rx);obtain⟨mA,EX,_⟩:=qg I.hok ea;obtain⟨od,J,_⟩:=EX.look;exact kia_one (PySem.W.kitx_own (cl.get _) cl.hd ha hn htk hm) I.kIn J e (λz=>nomatch z) h
end
end L2
namespace L2
open PySem PySem.Spec PyProof.Rows
structure Room (k:Nat) (A:Around):Prop where
 hd:A.handled=none
 dp:A.depth+3*k+5<recursionLimit
 un:A.units+16*k+200<cLine
variable {k:Nat} {A:Around}
theorem Room.mono {j:Nat} (r:Room k A) (h:j<=k):Room j A:=⟨r.hd,by have:=r.dp;omega,by have:=r.un;omega⟩
theorem Room.deeper (r:Room (k+1) A) (env:Env):Room k (A.deeper env) :=
 ⟨r.hd,by have:=r.dp;show A.depth+1+3*k+5<_;omega,by have:=r.un;show A.units+3+16*k+200<_;omega⟩
variable {us:List Value}
theorem tP {C:Addr} {kw:List (Str×Value)}:(A.under (.builtin "type.__call__" ⟨.ref C::us,kw⟩)).depth=A.depth+1:=by
 first|rfl|simp[Around.under,Code.weight,Code.isCreation,Code.isGuard,Code.isCaller,Code.frames,Code.isFrame,guardIds]
theorem tO {C:Addr} {kw:List (Str×Value)}:(A.under (.builtin "type.__call__" ⟨.ref C::us,kw⟩)).units=A.units+1:=by
 first|rfl|simp[Around.under,Code.cUnits,Code.frames,Code.isFrame]
theorem Room.make (r:Room (k+1) A) (C:Addr) (us:List Value) (kw:List (Str×Value)):Room k (A.under (.builtin "type.__call__" ⟨.ref C::us,kw⟩)) :=
 ⟨r.hd,by have:=r.dp;rw[tP];omega,by have:=r.un;rw[tO];omega⟩
theorem Room.depth (r:Room k A):A.depth<recursionLimit:=by have:=r.dp;omega
def DR:TA:=λ_ H Q=>Q [] H
def CP (ta:TE) (tr:TA):TA:=λO H Q=>ta O H λx H1=>tr O H1 λxs H2=>Q (x::xs) H2
section
variable {X:Cx} {e:Expr} {es:List Expr} {te:TE} {t:TA} {pos:Pos}
theorem cR:PA X [] DR:=λ_ _ _ _ H Q I h=>Calls.spliced_nil ⟨[],H,I,.nil,h⟩
theorem bN (ha:PE X e te) (hr:PA X es t) (hs:starEach (e::es) X.env=(false,eval e X.env)::starEach es X.env:=by rfl):PA X (e::es) (CP te t):=by
 intro pos pins s O H Q I h;rw[hs];show wpAny _ _ (spliced ((false,eval e X.env)::backTo pos (starEach es X.env))) _ _ s;refine Calls.spliced_cons (thn (ha pins s O H _ I h) λu s1 ⟨x,H1,I1,r1,q1⟩=>?_);exact thn (hr pos pins s1 O H1 _ I1 q1) λus s2 ⟨xs,H2,I2,r2,q2⟩=>⟨x::xs,H2,I2,.cons r1 r2,q2⟩
def DN (t:TA):TE:=λO H Q=>t O H λxs H1=>xs.length<=sizeLine/\∀p,H1 p=none->Q (.ref p) (upd H1 p (.tup xs))
def DS (t:TA):TE:=λO H Q=>t O H λxs H1=>xs.length<=sizeLine/\∀p,H1 p=none->Q (.ref p) (upd H1 p (.lst xs))
theorem xg {x1} (h:PA X es t):PE X (.Tuple es x1 pos) (DN t):=by
 intro pins s O H Q I hq;refine wpAny_Tuple_spliced (thn (h pos pins s O H _ I hq) λus s1 ⟨xs,H1,I1,r,z,q⟩=>⟨by rw[<- r.length];exact z,?_⟩);have hf:H1 s1.heap.objs.size=none:=I1.hok.fresh (Nat.le_refl _);refine⟨.ref s1.heap.objs.size,upd H1 s1.heap.objs.size (.tup xs),I1.laid (t':=s1.toks) (λb u e=>Heap.get?_push_of_some _ e) (Nat.le_refl _) ?_,rfl,q _ hf⟩;exact⟨z,us,r,⟨_,Heap.get?_push_size _ rfl,rfl,_,rfl⟩⟩
theorem pU (h:PA X es t):PE X (.List es pos) (DS t):=by
 intro pins s O H Q I hq;refine wpAny_List_spliced (thn (h pos pins s O H _ I hq) λus s1 ⟨xs,H1,I1,r,z,q⟩=>⟨by rw[<- r.length];exact z,?_⟩);have hf:H1 s1.heap.objs.size=none:=I1.hok.fresh (Nat.le_refl _);refine⟨.ref s1.heap.objs.size,upd H1 s1.heap.objs.size (.lst xs),I1.laid (t':=s1.toks) (λb u e=>Heap.get?_push_of_some _ e) (Nat.le_refl _) ?_,rfl,q _ hf⟩;exact⟨z,us,0,r,Heap.get?_push_size _ rfl⟩
end
abbrev Sp:=List V->Hp->VK->XK->Prop
abbrev CXT:=List Env->Hp->Shared->XK->Value->Shared->Prop
structure Env0 (P:Program) (w:World) (K:Frag) (mg:Str->Option Value) (base:Heap) (A:Around) (outer:List Env) (s:Shared) (H:Hp):Prop where
 frames:A.frames=some outer
 mod:Mod K mg base
 bs:∀b o,base.get? b=some o->s.heap.get? b=some o/\H b=none
 bsz:base.objs.size<=s.heap.objs.size
 funs:s.heap.FunFrames base outer
 frf:∀b∈frs outer,H b=none
 hok:HOk P w H s.heap
 bare:AllBare s.gens
def CE (outer:List Env) (P:Program) (w:World) (H:Hp) (s:Shared) (Q:VK) (u:Value) (s':Shared):Prop :=
 ∃v H',s'.os=s.os/\AllBare s'.gens/\Un (frs outer) [] H H' s.heap s'.heap/\HOk P w H' s'.heap/\RelV v u/\Q v H'
def CR (CX:CXT) (outer:List Env) (P:Program) (w:World) (H:Hp) (s:Shared) (Q:VK) (E:XK) (r:Result) (s':Shared):Prop :=
 match r with
 | .ok (.ret u)=>CE outer P w H s Q u s'
 | .ok _=>False
 | .error e=>CX outer H s E e s'
structure FnOk (P:Program) (w:World) (K:Frag) (mg:Str->Option Value) (base:Heap) (CX:CXT) (k:Nat) (f:Addr) (fd:FuncData) (ps:List Str) (sp:Sp):Prop where
 len:∀vs H Q E,sp vs H Q E->vs.length=ps.length
 run:∀(A:Around) (outer:List Env) (s:Shared) (H:Hp) (args:Args) (us:List Value) (vs:List V) (Q:VK) (E:XK),Room k A->Env0 P w K mg base A outer s H->BindsTo s fd args (ps.zip us)->Vals vs us->sp vs H Q E ->
  codeAny (model P w) A (.call (.ref f) args) (CR CX outer P w H s Q E) s
variable {P:Program} {w:World} {K:Frag} {mg:Str->Option Value} {CX:CXT} {f:Addr} {ps:List Str}
theorem FnOk.imp {base:Heap} {fd:FuncData} {sp sp':Sp} (F:FnOk P w K mg base CX k f fd ps sp)
  (h:∀vs H Q E,sp' vs H Q E->sp vs H Q E):FnOk P w K mg base CX k f fd ps sp' :=
 ⟨λvs H Q E q=>F.len vs H Q E (h _ _ _ _ q),λA outer s H args us vs Q E hr he hb hv hs=>F.run A outer s H args us vs Q E hr he hb hv (h _ _ _ _ hs)⟩
variable {s:Shared} {H:Hp}
theorem Env0.make {base:Heap} {outer:List Env} (e:Env0 P w K mg base A outer s H) (C:Addr) (us:List Value) (kw:List (Str×Value)) :
  Env0 P w K mg base (A.under (.builtin "type.__call__" ⟨.ref C::us,kw⟩)) outer s H:=⟨by first|exact e.frames|(simpa[Around.under,Code.envs,Code.isFrame,pushEnvs]using e.frames),e.mod,e.bs,e.bsz,e.funs,e.frf,e.hok,e.bare⟩
section
variable {X:Cx} {pins:List (Addr×Obj)} {O:St} {H:Hp} {s s':Shared}
theorem Inv.env0 (I:Inv X pins O H s):Env0 X.prog X.w X.K X.mg X.base X.A X.stack s H :=
 ⟨I.ok.frames,I.ok.mod,I.bs,Nat.le_trans I.ok.bsz I.sz,I.stack,I.stkFree,I.hok,I.bare⟩
theorem Inv.after {Q:VK} {u:Value} (I:Inv X pins O H s) (h:CE X.stack X.prog X.w H s Q u s'):EP X pins O Q u s':=by
 obtain⟨v,H',os,bare,un,hok,r,q⟩:=h;obtain⟨hh,g,d,t,os'⟩:=s';obtain rfl:os'=s.os:=os;exact⟨v,H',I.call (h':=hh) (g':=g) (d':=d) (t':=t) (ch:=[]) un hok bare (λb z=>absurd z (by simp)),r,q⟩
end
def Binds (K:Frag) (fd:FuncData) (ps:List Str) (ds:List Value):Prop :=
 ∀(s:Shared) (us:List Value),K.In s.heap->(us++ds).length=ps.length->BindsTo s fd ⟨us,[]⟩ (ps.zip (us++ds))
theorem Binds.all {fd:FuncData} (h:∀us:List Value,us.length=ps.length->bindArgs fd ⟨us,[]⟩=pure (ps.zip us)):Binds K fd ps []:=λs us _ hl=>by
 rw[List.append_nil]at hl ⊢;exact .of_eq (h us hl)
def qM (CX:CXT) (X:Cx) (E:XK):Prop:=∀(pins:List (Addr×Obj)) (O:St) (H:Hp) (s:Shared) (e:Value) (s':Shared),Inv X pins O H s->CX X.stack H s E e s'->X.xe e s'
variable {vs:List V}
section
variable {X:Cx} {CX:CXT} {k:Nat} {f C:Addr} {fd:FuncData} {ps:List Str} {sp:Sp} {dvs:List V} {ds:List Value} {E:XK} {x m:Str} {p pos apos:Pos} {e o:Expr} {es:List Expr} {ta:TE} {t:TA}
theorem kt {pins:List (Addr×Obj)} {O:St} {Q:VK} (F:FnOk X.prog X.w X.K X.mg X.base CX k f fd ps sp) (hr:Room k X.A) (hb:Binds X.K fd ps ds) (hd:Vals dvs ds) (hx:qM CX X E)
  (I:Inv X pins O H s) (r:Vals vs us) (h:sp (vs++dvs) H Q E):wpAny (model X.prog X.w) X.A (call (.ref f) us) (EP X pins O Q) X.xe s:=by
 have r2:Vals (vs++dvs) (us++ds):=r.append hd;have hl:(us++ds).length=ps.length:=by rw[<- r2.length];exact F.len _ _ _ _ h
 refine wpAny_call (codeAny_mono (F.run X.A X.stack s H ⟨us,[]⟩ (us++ds) (vs++dvs) Q E hr I.env0 (hb s us I.kIn hl) r2 h) λr s' hq=>?_);cases r with
 | error e=>exact hx pins O H s e s' I hq
 | ok fl =>
  cases fl with
  | ret u=>exact I.after hq
  | next=>exact False.elim hq
  | brk=>exact False.elim hq
  | cont=>exact False.elim hq
structure Mk (K:Frag) (C f:Addr):Prop where
 makes:PySem.W.makesIn K C=true
 init:findIn K (.ref C) "__init__"=some (some (.ref f))
 fn:PySem.W.isFn K (.ref f)=true
 kp:keepIn K (.ref C)=true
theorem wM {pins:List (Addr×Obj)} {O:St} {Q:VK} (M:Mk X.K C f) (F:FnOk X.prog X.w X.K X.mg X.base CX k f fd ps sp) (hr:Room (k+1) X.A) (hb:Binds X.K fd ps ds) (hd:Vals dvs ds)
  (hx:qM CX X E) (I:Inv X pins O H s) (r:Vals vs us)
  (h:∀x dx,H x=none->H dx=none->dx≠x->sp (.ref x::(vs++dvs)) (upd (upd H dx (.own x)) x (.ins C dx [])) (λv H2=>v=.non/\Q (.ref x) H2) E) :
  wpAny (model X.prog X.w) X.A (call (.ref C) us) (EP X pins O Q) X.xe s:=by
 have hq:=h (s.heap.objs.size+1) s.heap.objs.size (I.hok.fresh (Nat.le_succ _)) (I.hok.fresh (Nat.le_refl _)) (Nat.ne_of_lt (Nat.lt_succ_self _));have I2:=Inv.made (C:=C) I;have r2:Vals (V.ref (s.heap.objs.size+1)::(vs++dvs)) (Value.ref (s.heap.objs.size+1)::(us++ds)):=.cons rfl (r.append hd);have hl:(Value.ref (s.heap.objs.size+1)::us++ds).length=ps.length:=by
  have e:=r2.length;rw[F.len _ _ _ _ hq]at e;exact e.symm
 refine wpAny_call (xB (f:=f) I.kIn M.makes M.init (beq_iff_eq.mp M.fn) (codeAny_mono (F.run _ X.stack _ _ ⟨Value.ref (s.heap.objs.size+1)::us,[]⟩ (Value.ref (s.heap.objs.size+1)::(us++ds)) _ _ E (hr.make C us [])
  (I2.env0.make C us []) (hb _ (Value.ref (s.heap.objs.size+1)::us) I2.kIn hl) r2 hq) λr s' hq'=>?_))
 cases r with
 | error e=>exact hx pins O _ _ e s' I2 hq'
 | ok fl =>
  cases fl with
  | ret u =>
   obtain⟨v,H',I3,rv,ev,q3⟩:=I2.after hq';subst ev;exact⟨rv,⟨V.ref (s.heap.objs.size+1),H',I3,rfl,q3⟩⟩
  | next=>exact False.elim hq'
  | brk=>exact False.elim hq'
  | cont=>exact False.elim hq'
end
section
variable {X:Cx} {CX:CXT} {k:Nat} {f C:Addr} {fd:FuncData} {ps ks:List Str} {sp:Sp} {E:XK} {x m:Str} {p pos apos kpos:Pos} {e o:Expr} {es:List Expr} {kws:List Keyword} {te ta:TE} {t tk:TA} {nm:Option Str}
variable {g:List Value->List Value->List Value} {gV:List V->List V->List V}
end
structure aF (N P:List Str) (sc:Scope):Prop where
 kind:sc.kind=.function
 co:sc.isCoroutine=false
 gen:sc.isGenerator=false
 nd:N.Nodup
 pre:N.take P.length=P
 par:∀x∈P,sc.names.lookup x=some .local\/sc.names.lookup x=some .cell
 nofree:∀y∈sc.names,y.2 ≠ .free
theorem o7 {kindOf:Str->Option NameKind} {x:Str}:∀{binds:List (Str×Value)} {m:Str->Option Value},(∀v,(x,v)∉binds)->bindL kindOf binds m x=m x
 | [],_,_=>rfl
 | (n,v)::r,m,h=>by
  unfold bindL;rw[o7 λw hw=>h w (List.mem_cons_of_mem _ hw)];split
  ·have:x≠n:=by rintro rfl;exact h v List.mem_cons_self
   simp[this]
  ·rfl
theorem o9 {kindOf:Str->Option NameKind} {x:Str}:∀{binds:List (Str×Value)} {m:Str->Option Value},(∀v,(x,v)∉binds)->bindC kindOf binds m x=m x
 | [],_,_=>rfl
 | (n,v)::r,m,h=>by
  unfold bindC;rw[o9 λw hw=>h w (List.mem_cons_of_mem _ hw)];split
  ·rfl
  ·have:x≠n:=by rintro rfl;exact h v List.mem_cons_self
   simp[this]
theorem o8 {kindOf:Str->Option NameKind} {x:Str} {v:Value}:∀{P:List Str} {vs:List Value} {i:Nat} {m:Str->Option Value},P.Nodup->P[i]?=some x->vs[i]?=some v->kindOf x=some .local ->
  bindL kindOf (P.zip vs) m x=some v
 | [],_,_,_,_,h,_,_=>by simp at h
 | _::_,[],_,_,_,_,h,_=>by simp at h
 | p::P,w::vs,0,m,nd,h1,h2,hk=>by
  simp at h1 h2;subst h1;subst h2;show bindL kindOf ((p,w)::P.zip vs) m p=_;unfold bindL;rw[o7 λv hv=>(List.nodup_cons.mp nd).1 (List.of_mem_zip hv).1,if_pos hk];simp
 | p::P,w::vs,i+1,m,nd,h1,h2,hk=>by
  show bindL kindOf ((p,w)::P.zip vs) m x=_;unfold bindL;exact o8 (i:=i) (List.nodup_cons.mp nd).2 (by simpa using h1) (by simpa using h2) hk
theorem o_ {kindOf:Str->Option NameKind} {x:Str} {v:Value}:∀{P:List Str} {vs:List Value} {i:Nat} {m:Str->Option Value},P.Nodup->P[i]?=some x->vs[i]?=some v->kindOf x≠some .local ->
  bindC kindOf (P.zip vs) m x=some v
 | [],_,_,_,_,h,_,_=>by simp at h
 | _::_,[],_,_,_,_,h,_=>by simp at h
 | p::P,w::vs,0,m,nd,h1,h2,hk=>by
  simp at h1 h2;subst h1;subst h2;show bindC kindOf ((p,w)::P.zip vs) m p=_;unfold bindC;rw[o9 λv hv=>(List.nodup_cons.mp nd).1 (List.of_mem_zip hv).1,if_neg hk];simp
 | p::P,w::vs,i+1,m,nd,h1,h2,hk=>by
  show bindC kindOf ((p,w)::P.zip vs) m x=_;unfold bindC;exact o_ (i:=i) (List.nodup_cons.mp nd).2 (by simpa using h1) (by simpa using h2) hk
def start (N:List Str) (vs:List V):St:=vs.map some++List.replicate (N.length-vs.length) none
def ii (CX:CXT) (P:Program) (w:World) (K:Frag) (mg:Str->Option Value) (base:Heap) (N:List Str) (qual:Str) (scope:Scope) (f:Addr) (cd:Value) (A:Around) (outer:List Env) (s:Shared) (H:Hp) (E:XK):Cx where
 prog:=P
 w:=w
 K:=K
 mg:=mg
 base:=base
 A:=A.deeper (envOfC qual scope s.heap.objs.size f cd)
 N:=N
 s₀:=s
 H₀:=H
 env:=envOfC qual scope s.heap.objs.size f cd
 outer:=outer
 stack:=envOfC qual scope s.heap.objs.size f cd::outer
 ex:=[]
 calm:=true
 fn:=λ_=>true
 pn:=[]
 xe:=λe s'=>wpAny (model P w) (A.deeper (envOfC qual scope s.heap.objs.size f cd)) (leaving (envOfC qual scope s.heap.objs.size f cd) e) (λ_ s''=>CX outer H s E e s'') (λe' s''=>CX outer H s E e' s'') s'
theorem sF {sc:Scope} {n:Nat} {x:Str} (h:sc.names.lookup x=some .cell):∃c,(cellsFrom n sc.names []).lookup x=some c:=by
 have q:=PySem.W.cellsFrom_some sc.names n [] (.inl h);exact Option.isSome_iff_exists.mp q
theorem vZ {base:Heap} {N:List Str} {qual:Str} {scope:Scope} {cd:Value} {outer:List Env} {s1:Shared} {E:XK}
  (S:aF N ps scope) (hd:A.handled=none) (e0:Env0 P w K mg base A outer s H) (hl:vs.length=ps.length) (r:Vals vs us)
  (x:InCallC s s.heap.objs.size (bindL (envOfC qual scope s.heap.objs.size f cd).kindOf (ps.zip us) λ_=>none) (cellsFrom (s.heap.objs.size+1) scope.names []) (bindC (envOfC qual scope s.heap.objs.size f cd).kindOf (ps.zip us) λ_=>none) s1) :
  Inv (ii CX P w K mg base N qual scope f cd A outer s H E) [] (start N vs) H s1:=by
 have hpl:ps.length<=N.length:=by have:=congrArg List.length S.pre;rw[List.length_take]at this;omega
 obtain⟨h1,tk,rfl,hk⟩:=x.done;have noA:∀b:Addr,b∉(ii CX P w K mg base N qual scope f cd A outer s H E).ex:=λb z=>absurd (show b∈([]:List Addr)from z) (by simp);refine⟨⟨e0.mod,S.kind,rfl,rfl,Nat.le_refl _,λy z c h1 h2=>?_,λy hy=>?_,λy c _ h=>?_,λ_=>hd,Around.frames_deeper e0.frames,.inr ⟨rfl,rfl⟩,λb z=>absurd z (noA b),e0.bs,e0.bsz,λb _ _=>noA b,λb z=>absurd z (noA b),e0.funs,e0.frf⟩,
  rfl,e0.bare,Un.kept hk,⟨_,x.toInCall.ns,λi y v h1 h2 h3=>?_⟩,λy c h=>⟨_,x.cell y c h⟩,e0.hok.fresh (Nat.le_refl _),λy c h=>?_,λp hp=>absurd (show p∈([]:List (Addr×Obj))from hp) (by simp),e0.hok.kept hk,?_⟩
 ·exact name_of_addr x.apart (PySem.mem_of_lookup h1) (PySem.mem_of_lookup h2)
 ·have hy:scope.names.lookup y=some .cell\/scope.names.lookup y=some .free:=hy;rcases hy with hy|hy
  ·exact sF hy
  ·exact absurd rfl (S.nofree _ (PySem.mem_of_lookup hy))
 ·exact Nat.le_of_lt (x.above y c (PySem.mem_of_lookup h))
 ·have hi:i<vs.length:=by
   unfold start at h2;by_cases hi:i<vs.length
   ·exact hi
   ·rw[List.getElem?_append_right (by simpa using hi)]at h2;rw[List.getElem?_replicate]at h2;split at h2<;>cases h2
  have ha:vs[i]?=some v:=by
   unfold start at h2;rw[List.getElem?_append_left (by simpa using hi),List.getElem?_map]at h2;cases e:vs[i]? with
   | none=>rw[e]at h2;cases h2
   | some a=>rw[e]at h2;cases h2;rfl
  obtain⟨u,hu,rv⟩:=r.get ha;have hp:ps[i]?=some y:=by
   rw[<- S.pre,List.getElem?_take_of_lt (by omega)];exact h1
  have ndP:ps.Nodup:=by rw[<- S.pre];exact S.nd.sublist (List.take_sublist _ _)
  refine⟨u,rv,?_⟩;rcases S.par y (List.mem_of_getElem? hp)with k|k
  ·exact .inl ⟨k,o8 ndP hp hu k⟩
  ·obtain⟨c,e⟩:=sF (n:=s.heap.objs.size+1) k;refine .inr ⟨.inl k,c,e,?_⟩;have q:=x.cell y c e;rw[o_ ndP hp hu (by show scope.names.lookup y≠_;rw[k];decide)]at q;exact q
 ·exact e0.hok.fresh (Nat.le_of_lt (x.above y c (PySem.mem_of_lookup h)))
 ·unfold start;show _=N.length;rw[List.length_append,List.length_map,List.length_replicate];omega
theorem Ds {base:Heap} {name qual:Str} {params:Arguments} {body:List Stmt} {scope:Scope} {dV kV doc pm cdv ct oc:Value} {an od:Option Addr}
  {osl:Array (Option Value)} {N:List Str} {sp:Sp} (lk:K.lookup f=some ⟨oc,od,.func (fnOf name qual params body scope dV kV doc pm an cdv ct),osl⟩) (hcd:codeIn K cdv qual=true) (S:aF N ps scope)
  (len:∀vs H Q E,sp vs H Q E->vs.length=ps.length)
  (hbody:∀(A:Around) (outer:List Env) (s:Shared) (H:Hp) (vs:List V) (Q:VK) (E:XK),Room k (A.deeper (envOfC qual scope s.heap.objs.size f cdv))->sp vs H Q E ->
   ∃t,PSs (ii CX P w K mg base N qual scope f cdv A outer s H E) body t/\t { nx:=λ_ H'=>Q .non H',rt:=Q } (start N vs) H) :
  FnOk P w K mg base CX (k+1) f (fnOf name qual params body scope dV kV doc pm an cdv ct) ps sp:=by
 refine⟨len,λA outer s H args us vs Q E hr e0 hb r hsp=>?_⟩;have hl:=len _ _ _ _ hsp;have KX:K.In s.heap:=e0.mod.kin.keeps λb o e=>(e0.bs b o e).1;have lim:s.heap.NoLimit:=e0.mod.nolimit.keeps λb o e=>(e0.bs b o e).1;have hkind:∀y∈ps.zip us,scope.names.lookup y.1=some .local\/(scope.names.lookup y.1=some .cell/\((cellsFrom (s.heap.objs.size+1) scope.names []).lookup y.1).isSome=true):=λ⟨n,v⟩ hy=>by
  rcases S.par n (List.of_mem_zip hy).1 with q|q
  ·exact .inl q
  ·exact .inr ⟨q,PySem.W.cellsFrom_some _ _ _ (.inl q)⟩
 refine codeAny_call_function hr.depth (KX _ _ lk) rfl S.co S.gen rfl (PySem.W.codeRec_of KX hcd) (hb _ _ _ _ ?_);refine wpAny_newFunctionEnv_cells S.kind hkind λenv he s1 x=>?_;subst he;refine⟨lim.keeps x.toInCall.keep,codeAny_func ?_⟩;obtain⟨t,ht,hq⟩:=hbody A outer s H vs Q E (hr.deeper _) hsp;have I:Inv (ii CX P w K mg base N qual scope f cdv A outer s H E) [] (start N vs) H s1:=vZ S hr.hd e0 hl r x;refine wpAny_mono (ht [] s1 (start N vs) H _ I hq) (λfl s' hs=>?_) λe s' hs=>hs;have fin:∀{σ':St} {H':Hp} {v:V} {u:Value},Inv (ii CX P w K mg base N qual scope f cdv A outer s H E) [] σ' H' s'->RelV v u->Q v H'->CE outer P w H s Q u s' :=
  λ{σ' H' v u} J rv q=>⟨v,H',J.os,J.bare,J.base,J.hok,rv,q⟩
 cases fl with
 | ret u =>
  obtain⟨v,σ',H',J,rv,q⟩:=hs;exact fin J rv q
 | next =>
  obtain⟨σ',H',J,q⟩:=hs;exact fin (v:=V.non) (u:=Value.none) J rfl q
 | brk =>
  obtain⟨_,_,_,q⟩:=hs;exact False.elim q
 | cont =>
  obtain⟨_,_,_,q⟩:=hs;exact False.elim q
end L2
namespace L2
open PySem PySem.Spec PyProof.Rows
section
variable {X:Cx} {x:Str} {p pos:Pos} {e:Expr} {es:List Expr} {t:TA} {id T:String} {r:List V->Hp->VK->Prop}
def tCB (r:List V->Hp->VK->Prop) (t:TA):TE:=λO H Q=>t O H λvs H1=>r vs H1 Q
theorem fM (hc:kh X (.builtin id) r) (hg:Gl X x) (hm:X.mg x=none) (hv:bootBuiltins x=some (.builtin id)) (ha:PA X (e::es) t) (hn:x ≠ "__name__":=by decide) (hdb:(x==("__debug__":Str))=false:=by decide)
  (he:starEach (e::es) X.env=(false,eval e X.env)::starEach es X.env:=by rfl) (hpl:(backTo pos (starEach es X.env)).any (·.1)=false:=by rfl):PE X (.Call (.Name x p) (e::es) [] pos) (tCB r t):=by
 intro pins s O H Q I h;refine wpAny_Call_Name_kw (jr I hg hm hv ?_ hn hdb);exact PyProof.Rows.callWith_builtin1 (thn (ha pos pins s O H _ I h) λus s1 ⟨vs,H1,I1,r1,q1⟩=>hc pins s1 O H1 vs us Q I1 r1 q1) he hpl
theorem cO (hc:kh X (.type T) r) (hg:Gl X x) (hm:X.mg x=none) (hv:bootBuiltins x=some (.type T)) (ha:PA X (e::es) t) (hn:x ≠ "__name__":=by decide) (hdb:(x==("__debug__":Str))=false:=by decide)
  (he:starEach (e::es) X.env=(false,eval e X.env)::starEach es X.env:=by rfl) (hpl:(backTo pos (starEach es X.env)).any (·.1)=false:=by rfl):PE X (.Call (.Name x p) (e::es) [] pos) (tCB r t):=by
 intro pins s O H Q I h;refine wpAny_Call_Name_kw (jr I hg hm hv ?_ hn hdb);exact PyProof.Rows.callWith_type1 (thn (ha pos pins s O H _ I h) λus s1 ⟨vs,H1,I1,r1,q1⟩=>hc pins s1 O H1 vs us Q I1 r1 q1) he hpl
end
end L2
namespace HT
open PySem PyProof.Rows
section
open PySem.SeqAt
open PySem.AutoSeq1 (wpAny_loadPart')
open PySem.MeetsSeq PySem.MeetsSeq2 PySem.MeetsSeq3
end
section
variable {prog:Program} {w:World} {A:Around} {E:Value->Shared->Prop} {s:Shared}
end
end HT
namespace L2
open PySem PySem.Spec PyProof.Rows
theorem tR {ns:List Int}:∀{us:List Value},Vals (ns.map V.int) us->IntsAre us ns:=by
 induction ns with
 | nil=>intro us r;rw[List.map_nil]at r;cases r;exact .nil
 | cons n ns ih =>
  intro us r;rw[List.map_cons]at r;cases r with
  | cons r1 r2 =>
   obtain⟨t,e⟩:=r1;subst e;exact .cons n t (ih r2)
section
variable {X:Cx} {e:Expr} {te:TE} {lo hi:Option Expr} {tl th:TO} {pos p2:Pos}
end
end L2
namespace L2
open PySem PySem.Spec PyProof.Rows
def ixN (n:Nat) (i:Int):Option Nat:=if 0<=i then(if i<n then some i.toNat else none)else if -(n:Int)<=i then some (i+n).toNat else none
def atI {Y:Type} (xs:List Y) (i:Int):Option Y:=(ixN xs.length i).bind λj=>xs[j]?
theorem zG {n:Nat} {i:Int} {j:Nat} (h:ixN n i=some j):seqIndex? i n=some j/\j<n/\-(n:Int)<=i/\i<n:=by
 unfold ixN at h;by_cases h0:0<=i
 ·rw[if_pos h0]at h;by_cases h1:i<n
  ·rw[if_pos h1]at h;have e:i.toNat=j:=Option.some.inj h;exact⟨by rw[seqIndex_of h0 h1,e],by omega,by omega,h1⟩
  ·rw[if_neg h1]at h;cases h
 ·rw[if_neg h0]at h;by_cases h1:-(n:Int)<=i
  ·rw[if_pos h1]at h;have e:(i+n).toNat=j:=Option.some.inj h;exact⟨by rw[seqIndex_neg (by omega) h1,e],by omega,h1,by omega⟩
  ·rw[if_neg h1]at h;cases h
theorem qL {Y:Type} {xs:List Y} {i:Int} {v:Y} (h:atI xs i=some v):∃j,seqIndex? i xs.length=some j/\xs[j]?=some v/\j<xs.length/\-(xs.length:Int)<=i/\i<xs.length:=by
 unfold atI at h;cases e:ixN xs.length i with
 | none=>rw[e]at h;cases h
 | some j =>
  rw[e]at h;obtain⟨h1,h2,h3,h4⟩:=zG e;exact⟨j,h1,h,h2,h3,h4⟩
def j_ (b:Expr):Prop:=∀o i,subscripted b false o i=operate [o,i] (getItem o i)
def IxR (X:Cx) (r:R2):Prop :=
 ∀(value slice:Expr) (pins:List (Addr×Obj)) (s:Shared) (O:St) (H:Hp) (x y:V) (v u:Value) (Q:VK),Inv X pins O H s->RelV x v->RelV y u->r x y H Q ->
  subscripted slice false v u=operate [v,u] (getItem v u)->wpAny (model X.prog X.w) X.A (subscriptTail value slice v u) (EP X pins O Q) X.xe s
def MtR (X:Cx) (id:String) (r:V->List V->Hp->VK->Prop):Prop :=
 ∀(pins:List (Addr×Obj)) (s:Shared) (O:St) (H:Hp) (x:V) (xs:List V) (v:Value) (us:List Value) (Q:VK),Inv X pins O H s->RelV x v->Vals xs us->r x xs H Q ->
  wpAny (model X.prog X.w) X.A (call (.builtin id) (v::us)) (EP X pins O Q) X.xe s
section
variable {X:Cx} {a b:Expr} {ta tb:TE} {pos:Pos}
theorem IxR.or {r r':R2} (h:IxR X r) (h':IxR X r'):IxR X (λx y H Q=>r x y H Q\/r' x y H Q):=by
 intro value slice pins s O H x y v u Q I rx ry q hs;rcases q with q|q
 ·exact h value slice pins s O H x y v u Q I rx ry q hs
 ·exact h' value slice pins s O H x y v u Q I rx ry q hs
theorem xh {r:R2} (hr:IxR X r) (ha:PE X a ta) (hb:PE X b tb) (hs:j_ b):PE X (.Subscript a b pos) (tOp r ta tb):=by
 intro pins s O H Q I h;exact Subscript_ (CA ha hb I h λv u s2 x y H2 I2 rx ry q=>hr a b pins s2 O H2 x y v u Q I2 rx ry q (hs _ _))
def C1 (K:Frag):R2:=λx y H Q=>∃p xs i v,x=.ref p/\y=.int i/\SqL K H p xs/\atI xs i=some v/\Q v H
def CZ (K:Frag):R2:=λx y H Q=>∃p xs i v,x=.ref p/\y=.int i/\SqT K H p xs/\atI xs i=some v/\Q v H
def C0:R2:=λx y H Q=>∃z i c,x=.str z/\y=.int i/\z.length<=sizeLine/\atI z.cps.toList i=some c/\Q (.str ⟨#[c]⟩) H
theorem ix_list:IxR X (C1 X.K):=by
 intro value slice pins s O H x y v u Q I rx ry h hs;obtain⟨p,xs,i,z,rfl,rfl,hq,he,q⟩:=h;cases rx;obtain⟨t,rfl⟩:=ry;obtain⟨its,r,pl,hz⟩:=I.list hq;obtain⟨j,h1,h2,h3,h4,h5⟩:=qL he;obtain⟨w,ew,rw'⟩:=r.get h2;have hl:=r.length;have hn:=qb;have fin:EP X pins O Q w s:=⟨z,H,I,rw',q⟩;by_cases h0:0<=i
 ·have hj:i.toNat=j:=by
   rw[seqIndex_of h0 h5]at h1;exact Option.some.inj h1
  exact item_listR pl.isList h0 (by omega) (by rw[hj];simpa using ew) fin hs
 ·have hj:(i+(its.toArray.size:Int)).toNat=j:=by
   rw[seqIndex_neg (by omega) h4]at h1;rw[List.size_toArray,<- hl];exact Option.some.inj h1
  exact subscriptTail_builtinR (x:=w) pl.isList.typeIs slot_list_getitem.lookup
   (wpAny_getItem_list_neg (Q:=λr s'=>r=w/\EP X pins O Q r s') pl.isList (by omega) (by rw[List.size_toArray]<;>omega) (by omega) (by rw[hj];simpa using ew) ⟨rfl,fin⟩) hs
theorem ix_tup:IxR X (CZ X.K):=by
 intro value slice pins s O H x y v u Q I rx ry h hs;obtain⟨p,xs,i,z,rfl,rfl,hq,he,q⟩:=h;cases rx;obtain⟨t,rfl⟩:=ry;obtain⟨its,r,pl,hz⟩:=I.tuple hq;obtain⟨j,h1,h2,h3,h4,h5⟩:=qL he;obtain⟨w,ew,rw'⟩:=r.get h2;have hl:=r.length;have hn:=qb;have fin:EP X pins O Q w s:=⟨z,H,I,rw',q⟩;exact subscriptTail_builtinR (x:=w) pl.typeIs slot_tuple_getitem.lookup
  (getItem_tuple (j:=j) (Q:=λr s'=>r=w/\EP X pins O Q r s') pl (by omega) (by omega) (by rw[List.size_toArray,<- hl];exact h1) (by simpa using ew) ⟨rfl,fin⟩) hs
theorem B5:IxR X C0:=by
 intro value slice pins s O H x y v u Q I rx ry h hs;obtain⟨z,i,c,rfl,rfl,hz,he,q⟩:=h;obtain⟨t,rfl⟩:=rx;obtain⟨t',rfl⟩:=ry;obtain⟨j,h1,h2,h3,h4,h5⟩:=qL he;have hl:z.cps.toList.length=z.length:=by simp[Str.length]
 rw[hl]at h1 h4 h5;have hn:=qb;exact tail_any (typeIs_str s z t) slot_str_getitem.lookup (getItem_str (c:=c) (by
  have e1:decide (i < -(2 ^ 63:Int))=false:=decide_eq_false (by omega);have e2:decide (i ≥ 2 ^ 63)=false:=decide_eq_false (by omega);rw[e1,e2,Bool.or_false]) (by rw[h1];simpa using h2) ⟨.str ⟨#[c]⟩,H,I.tok _,⟨_,rfl⟩,q⟩) hs
def rIx (K:Frag):R2:=λx y H Q=>C1 K x y H Q\/CZ K x y H Q\/C0 x y H Q
theorem xK:IxR X (rIx X.K):=ix_list.or (ix_tup.or B5)
theorem j8:kh X (.builtin "len") (λxs H Q=>∃p ys,xs=[.ref p]/\(SqL X.K H p ys\/SqT X.K H p ys)/\Q (.int ys.length) H):=by
 intro pins s O H xs us Q I r h;obtain⟨p,ys,rfl,hq,q⟩:=h;obtain⟨u,rfl,rx⟩:=oH r;cases rx;have hn:=qb;rcases hq with hq|hq
 ·obtain⟨its,r',pl,hz⟩:=I.list hq;have hlen:=r'.length;exact Calls.call_len_list pl.isList (by simp only[List.size_toArray]<;>omega) ⟨.int ys.length,H,I.tok _,⟨s.toks+1,by rw[List.size_toArray,hlen]⟩,q⟩
 ·obtain⟨its,r',pl,hz⟩:=I.tuple hq;have hlen:=r'.length;exact len_tuple pl (by simp only[List.size_toArray]<;>omega) ⟨.int ys.length,H,I.tok _,⟨s.toks+1,by rw[List.size_toArray,hlen]⟩,q⟩
theorem j7:kh X (.type "list") (λxs H Q=>∃p ys,xs=[.ref p]/\(SqL X.K H p ys\/SqT X.K H p ys)/\∀l,H l=none->Q (.ref l) (upd H l (.lst ys))):=by
 intro pins s O H xs us Q I r h;obtain⟨p,ys,rfl,hq,q⟩:=h;obtain⟨u,rfl,rx⟩:=oH r;cases rx;have fin:∀(its:List Value),Vals ys its->ys.length<=sizeLine->∀(h':Heap) (c':Nat),(∀b o',s.heap.get? b=some o'->h'.get? b=some o') ->
   h'.get? s.heap.objs.size=some { cls:=.type "list",dict:=none,data:=.seq its.toArray c',slots:=#[] }->EP X pins O Q (.ref s.heap.objs.size) { s with heap:=h' }:=λits r' hz h' c' kp e =>
  ⟨.ref s.heap.objs.size,_,I.laid (t':=s.toks) kp (Nat.le_refl _) (show ObjOk X.prog X.w _ h' _ (.lst ys)from⟨hz,its,c',r',e⟩),rfl,q _ (I.hok.fresh (Nat.le_refl _))⟩
 rcases hq with hq|hq
 ·obtain⟨its,r',pl,hz⟩:=I.list hq;have hlen:=r'.length;obtain⟨o,ho,hc,n,hd⟩:=pl.isList;exact call_list_seq p (.inl rfl) ho hc hd (λh' c' kp e=>fin its r' hz h' c' kp e) (by simp only[List.size_toArray]<;>omega)
 ·obtain⟨its,r',pl,hz⟩:=I.tuple hq;have hlen:=r'.length;obtain⟨o,ho,hc,n,hd⟩:=pl;exact call_list_seq p (.inr rfl) ho hc hd (λh' c' kp e=>fin its r' hz h' c' kp e) (by simp only[List.size_toArray]<;>omega)
theorem dw:kh X (.type "tuple") (λxs H Q=>∃p ys,xs=[.ref p]/\((SqL X.K H p ys/\∀l,H l=none->Q (.ref l) (upd H l (.tup ys)))\/(SqT X.K H p ys/\Q (.ref p) H))):=by
 intro pins s O H xs us Q I r h;obtain⟨p,ys,rfl,h⟩:=h;obtain⟨u,rfl,rx⟩:=oH r;cases rx;rcases h with⟨hq,q⟩|⟨hq,q⟩
 ·obtain⟨its,r',pl,hz⟩:=I.list hq;have hlen:=r'.length;refine call_tuple_list pl.isList (λh' kp=>?_) (by simp only[List.size_toArray]<;>omega);have I1:Inv X pins O H { s with heap:=h' }:=I.kept (t':=s.toks) kp;have I2:Inv X pins O (upd H h'.objs.size (.tup ys)) { s with heap:=h'.push { cls:=.type "tuple",data:=.seq its.toArray } } :=
   I1.laid (t':=s.toks) (λb o e=>Heap.get?_push_of_some _ e) (Nat.le_refl _) (show ObjOk X.prog X.w _ _ _ (.tup ys)from⟨hz,its,r',IsTup.new _ _⟩)
  exact⟨.ref h'.objs.size,_,I2,rfl,q _ (I1.hok.fresh (Nat.le_refl _))⟩
 ·obtain⟨its,r',pl,hz⟩:=I.tuple hq;exact call_tuple_same pl ⟨.ref p,H,I,rfl,q⟩
def tyV (K:Frag) (T:String) (x:V) (H:Hp):Prop:=match x with
 | .str _=>T="str"
 | .int _=>T="int"
 | .ref p=>(T="list"/\∃xs,SqL K H p xs)\/(T="tuple"/\∃o,K.lookup p=some o/\o.cls=.type "tuple"/\o.dict=none) \/
   (T="dict"/\((∃kvs,H p=some (.dK kvs))\/∃kvs,H p=some (.dT kvs)))\/(T="set"/\∃S n,H p=some (.set S n))
 | _=>False
theorem AY {pins:List (Addr×Obj)} {O:St} {H:Hp} {s:Shared} {T:String} {x:V} {v:Value} (I:Inv X pins O H s) (r:RelV x v) (ty:tyV X.K T x H) :
  s.TypeIs v T/\∀a,v=.ref a->∃ob,s.heap.get? a=some ob/\ob.dict=none:=by
 cases x with
 | str z =>
  obtain⟨t,rfl⟩:=r;cases(show T="str" from ty);exact⟨typeIs_str s z t,λ_ e=>nomatch e⟩
 | int i =>
  obtain⟨t,rfl⟩:=r;cases(show T="int" from ty);exact⟨typeIs_int s i t,λ_ e=>nomatch e⟩
 | ref p =>
  cases r;rcases ty with⟨rfl,xs,hq⟩|⟨rfl,o,hk,hc,hd⟩|⟨rfl,hk⟩|⟨rfl,S,n,hk⟩
  ·obtain⟨its,_,pl,_⟩:=I.list hq;refine⟨pl.isList.typeIs,λa e=>?_⟩;cases e;obtain⟨o,n,e,c,hd,_⟩:=pl;exact⟨o,e,hd⟩
  ·refine⟨⟨o,I.kIn p o hk,hc⟩,λa e=>?_⟩;cases e;exact⟨o,I.kIn _ o hk,hd⟩
  ·have z:∃o,s.heap.get? p=some o/\o.ExactDict:=by
    rcases hk with⟨kvs,hk⟩|⟨kvs,hk⟩
    ·obtain⟨_,_,_,_,o,_,_,e,ex,_⟩:=I.hok p _ hk;exact⟨o,e,ex⟩
    ·obtain⟨_,_,_,_,o,_,_,e,ex,_⟩:=I.hok p _ hk;exact⟨o,e,ex⟩
   obtain⟨o,e,ex⟩:=z;refine⟨⟨o,e,ex.1⟩,λa e2=>?_⟩;cases e2;exact⟨o,e,ex.2.1⟩
  ·obtain⟨o,_,_,_,e,ex,_⟩:=I.hok p _ hk;refine⟨⟨o,e,ex.1⟩,λa e2=>?_⟩;cases e2;exact⟨o,e,ex.2.1⟩
 | _=>exact False.elim ty
def tBM (K:Frag) (T:String) (r:V->List V->Hp->VK->Prop) (to:TE) (t:TA):TE:=λO H Q=>to O H λx H1=>tyV K T x H1/\t O H1 λxs H2=>r x xs H2 Q
variable {o e:Expr} {es:List Expr} {to:TE} {t:TA} {name:Str} {apos cpos:Pos} {T id:String} {r:V->List V->Hp->VK->Prop}
theorem oP (pa:PlainAttrs T) (slot:Slot T name id) (hty:typeOf (.builtin id)=pure (.type "method_descriptor")) (hm:MtR X id r) (ho:PE X o to) (ha:PA X (e::es) t)
  (hbase:attributeBase o name X.env (eval o X.env)=eval o X.env:=by rfl)
  (hfew:((backTo cpos (starEach (e::es) X.env)).all (λx=>!x.1)&&(backToKw cpos (keywordEach [] X.env)).all (λx=>x.1.isSome)
   && decide ((e::es).length+([]:List Keyword).length+(if([]:List Keyword).isEmpty then 0 else 1)<30))=true:=by rfl)
  (hline:(apos.endLine==cpos.line)=true:=by rfl) (hs:starEach (e::es) X.env=(false,eval e X.env)::starEach es X.env:=by rfl) (hplain:(backTo cpos (starEach es X.env)).any (·.1)=false:=by rfl) :
  PE X (.Call (.Attribute o name apos) (e::es) [] cpos) (tBM X.K T r to t):=by
 intro pins s O H Q I h;refine wpAny_Call_method_late hbase hfew hline rfl (thn (ho pins s O H _ I h) λv s1 ⟨x,H1,I1,r1,ty,q1⟩=>?_);obtain⟨h1,h2⟩:=AY I1 r1 ty;refine⟨T,id,pa,slot,hty,h1,h2,?_⟩;have hA:=ha cpos pins s1 O H1 _ I1 q1;rw[hs]at hA ⊢;refine Calls.callWith_builtin (by show(false||(backTo cpos (starEach es X.env)).any (·.1))=false;rw[hplain]<;>rfl) (Calls.evalArgs_plain ?_);exact thn hA λus s2 ⟨vs,H2,I2,r2,q2⟩=>hm pins s2 O H2 x vs v us Q I2 r1 r2 q2
end
end L2
namespace L2
open PySem PySem.Spec PyProof.Rows
def MtM (X:Cx) (id:String) (r:V->List V->Hp->VK->Prop):Prop :=
 ∀(pins:List (Addr×Obj)) (s:Shared) (O:St) (H:Hp) (x:V) (xs:List V) (v:Value) (us:List Value) (Q:VK),Inv X pins O H s->RelV x v->Vals xs us->r x xs H Q ->
  wpAny (model X.prog X.w) X.A (call (.builtin id) (v::us)) (EP X pins O Q) X.xe s
theorem Vals.one:∀{x:V} {us:List Value},Vals [x] us->∃u,us=[u]/\RelV x u
 | _,_,.cons r .nil=>⟨_,rfl,r⟩
theorem Vals.two:∀{x y:V} {us:List Value},Vals [x,y] us->∃u v,us=[u,v]/\RelV x u/\RelV y v
 | _,_,_,.cons r (.cons q .nil)=>⟨_,_,rfl,r,q⟩
section
variable {X:Cx} {pins:List (Addr×Obj)} {O:St} {H:Hp} {s:Shared} {l b:Addr} {xs ys zs:List V}
theorem Inv.lset {its its':List Value} {n:Nat} {f:Array Value->Array Value} {t':Nat} (I:Inv X pins O H s) (hH:H l=some (.lst xs))
  (e:s.heap.get? l=some { cls:=.type "list",data:=.seq its.toArray n }) (hf:f its.toArray=its'.toArray) (hv:Vals ys its') (hz:ys.length<=sizeLine) :
  Inv X pins O (upd H l (.lst ys)) { s with heap:=s.heap.update l (Obj.mapSeq f),toks:=t' }:=by
 have q:=PySem.IsL.update e f;rw[hf]at q;refine I.write (x:=l) (e:=l) (by rw[hH];exact trivial) (.inl rfl) (λb' u hb hu=>(Heap.get?_update_other s.heap (Obj.mapSeq f) (Ne.symm hb)).trans hu) ⟨_,q⟩ ?_;exact⟨hz,its',_,hv,q⟩
theorem Inv.lnew {its:List Value} {t':Nat} (I:Inv X pins O H s) (hv:Vals ys its) (hz:ys.length<=sizeLine) :
  Inv X pins O (upd H s.heap.objs.size (.lst ys)) { s with heap:=s.heap.push { cls:=.type "list",data:=.seq its.toArray },toks:=t' } :=
 I.laid (λ_ _ q=>Heap.get?_push_of_some _ q) (Nat.le_refl _) ⟨hz,its,0,hv,Heap.get?_push_size _ rfl⟩
theorem Inv.fresh (I:Inv X pins O H s):H s.heap.objs.size=none:=I.hok.fresh (Nat.le_refl _)
theorem Inv.lstM (I:Inv X pins O H s) (hH:H l=some (.lst xs)):xs.length<=sizeLine/\∃(its:List Value) (n:Nat),Vals xs its/\xs.length=its.length/\s.heap.get? l=some { cls:=.type "list",data:=.seq its.toArray n }:=by
 obtain⟨z,its,n,r,e⟩:=I.hok l _ hH;exact⟨z,its,n,r,r.length,e⟩
end
section
variable {X:Cx}
def mf:V->List V->Hp->VK->Prop:=λx vs H Q=>∃l xs y,x=.ref l/\vs=[y]/\H l=some (.lst xs)/\xs.length<sizeLine/\Q .non (upd H l (.lst (xs++[y])))
theorem i7:MtM X "list.append" mf:=by
 intro pins s O H x vs v us Q I rx rv h;obtain⟨l,xs,y,rfl,rfl,hH,hz,q⟩:=h;cases rx;obtain⟨u,rfl,ru⟩:=rv.one;obtain⟨z,its,n,r,hl,e⟩:=I.lstM hH;refine call_meets F.slot_list_append ⟨_,e,rfl⟩ F.entry_list_append (F.args_list_append_2 _ _) (PySem.list_append l its.toArray n u (by rw[List.size_toArray];omega)) ⟨e,?_⟩;refine⟨.non,_,I.lset (its':=its++[u]) hH e (by simp) (r.append (.cons ru .nil)) ?_,rfl,q⟩;rw[List.length_append,List.length_singleton];omega
def Bg:R2:=λx y H Q=>∃l b xs zs,x=.ref l/\y=.ref b/\H l=some (.lst xs)/\H b=some (.lst zs)/\xs.length+zs.length<=sizeLine/\∀p,H p=none->Q (.ref p) (upd H p (.lst (xs++zs)))
theorem xr:OpR X (binaryOp .Add) Bg:=by
 intro pins s O H x y v u Q I rx ry h;obtain⟨l,b,xs,zs,rfl,rfl,hH,hB,hz,q⟩:=h;cases rx;cases ry;obtain⟨z,its,n,r,hl,e⟩:=I.lstM hH;obtain⟨z2,its2,n2,r2,hl2,e2⟩:=I.lstM hB;refine PySem.P.add_list e e2 ?_ (by rw[List.size_toArray,List.size_toArray];omega);have ea:its.toArray++its2.toArray=(its++its2).toArray:=by simp
 rw[ea];exact⟨.ref _,_,I.lnew (t':=s.toks) (r.append r2) (by rw[List.length_append];omega),rfl,q _ I.fresh⟩
end
section
variable {prog:Program} {w:World} {A:Around} {E:Value->Shared->Prop} {s:Shared}
end
section
variable {X:Cx}
end
end L2
namespace Att
open PySem PySem.W PySem.Calls PyProof.Rows
theorem lS {P:Params} {h:Heap}:∀(ns:List Int) (vs:List Value),WellAll P h vs (ns.map WData.int)->IntsAre vs ns:=by
 intro ns
 induction ns with
 | nil =>
  intro vs w;rw[List.map_nil]at w;cases w;exact .nil
 | cons n ns ih =>
  intro vs w;rw[List.map_cons]at w;cases w with
  | cons a b =>
   cases a;exact .cons _ _ (ih _ b)
theorem vF {l:OpenLaw} {n:Nat} (hn:l.most=some n) {P:Params} {h:Heap} {args:List WData} {vals:List Value}
  (hpre:l.row.toRowW.claim.pre args=true) (hwl:WellAll P h vals args) :
  ∃a vs ns,vals=[Value.ref a]/\args=[WData.list (ns.map WData.int)]/\h.get? a=some { cls:=.type "list",data:=.seq vs.toArray }/\IntsAre vs ns/\ns.length<=n:=by
 have hsh:WShape.hasAll [] args [.list .int]=true:=(pre_splitW hpre).1;have hc:l.pre.holds [] { args:=args }=true:=(pre_splitW hpre).2;obtain⟨d,r,rfl,h1,h2⟩:=hasAllW_cons hsh;obtain rfl:=hasAllW_nil h2;obtain⟨xs,rfl,h3⟩:=hasW_list h1;obtain⟨ns,rfl⟩:=items_int h3;have hlen:ns.length<=n:=by
  unfold OpenLaw.pre at hc;have h4:(WTm.not (.lt (.lit (.int (n:Int))) (.len (.arg 0)))).holds [] { args:=[.list (ns.map .int)] }=true:=by
   have h4:=(holds_andW hc).1;rw[hn]at h4;exact h4
  have h5:=condW_of h4 (w_not (w_lt w_lit (w_len_list (w_arg rfl))));rw[List.length_map]at h5;refine Nat.le_of_not_lt λq=>?_;have q':(n:Int)<((ns.length:Nat):Int):=by omega
  first
   | (rw[decide_eq_true q']at h5;exact absurd h5 (by decide))
   | (simp at h5;omega)
 cases hwl with
 | cons w1 w2 =>
  cases w2;cases w1 with
  | list ho hall=>exact⟨_,_,ns,rfl,rfl,ho,lS ns _ hall,hlen⟩
theorem vL (l:OpenLaw) (args:List WData):l.row.toRowW.claim.post args (.bool true) args=true :=
 postW_of (r:=l.row.toRowW) (X:=(true==true))
  (show WShape.has [] (.bool true) .bool=true by first|rfl|decide|simp[WShape.has,WShape.arms,WShape.armsAll])
  (show(WTm.eq .res (.lit (.bool true))).value [] { args:=args,res:=some (.bool true),after:=args }=some (.bool (true==true))from w_eq_bool (w_res rfl) w_lit) rfl
theorem attach_call {l:OpenLaw} {n:Nat} {q:Program} {loose:List Str} {XP:(Str->Option Value)->Heap->Prop} {YP:World->Heap->Prop} {d:DefRec}
  (hn:l.most=some n) (hdf:d.params.defaults=[])
  (call:∀(w:World) (s₀ s₁:Shared) (mg mb:Str->Option Value) (fa:Addr) (o:Obj) (pm cd doc:Value) (a:Addr) (vs:List Value) (ns:List Int),
   Ground q loose [] XP w s₀ mg mb s₁.heap->YP w s₁.heap ->
   s₁.heap.get? fa=some o->o.data=.func (docDef d.name d.params d.body d.scope pm cd doc)->s₁.heap.CodeRec cd d.name->mg d.name=some (.ref fa) ->
   s₁.heap.get? a=some { cls:=.type "list",data:=.seq vs.toArray }->IntsAre vs ns->ns.length<=n->s₁.gens=#[] ->
   codeAny (model l.prog w) callerA (.call (.ref fa) ⟨[.ref a],[]⟩) (λr s'=>r=.ok (.ret (.bool true))/\OldK s₁.heap s'.heap/\s'.os=s₁.os/\AllBare s'.gens) s₁) :
  WalkO q loose XP YP l.row.toRowW d [] (λf vs=>PySem.call f vs):=by
 intro w s₀ s₁ mg mb G EY fa o pm cd doc dV kV ho hd hcd hD hmg hg args vals as hpre hlay hrd hwl hlo;obtain rfl:dV=.none:=Dflts.none hD hdf;obtain rfl:kV=.none:=Dflts.noKw hD;obtain⟨a,vs,ns,rfl,rfl,hobj,hints,hlen⟩:=vF hn hpre hwl;refine enter_call (codeAny_mono (call w s₀ s₁ mg mb fa o pm cd doc a vs ns G EY ho (fd_plain hd) hcd hmg hobj hints hlen hg) λr s' hq=>?_);obtain⟨rfl,h2,h3,h4⟩:=hq;exact⟨.inl ⟨.bool true,.bool true,[],rfl,λ_=>rfl,.bool true,vL l _,λ_=>⟨List.Pairwise.nil,λ_ hm=>(nomatch hm)⟩⟩,h2,h3,h4⟩
section
variable {prog:Program} {w:World} {A:Around} {E:Value->Shared->Prop} {s:Shared} {K:Frag}
end
end Att
namespace L2
open PySem PySem.Spec PyProof.Rows
theorem oG:∀{vs:List Value} {ns:List Int},IntsAre vs ns->Vals (ns.map V.int) vs
 | _,_,.nil=>.nil
 | _,_,.cons n t h=>.cons ⟨t,rfl⟩ (oG h)
def CF (H:Hp):Prop:=∀b,H b=none\/∃o xs,H b=some (.frz o (.lst xs))
theorem xF {P:Program} {w:World} {K:Frag} {mg mb:Str->Option Value} {CX:CXT} {k:Nat} {fa a:Addr} {fd:FuncData} {x:Str} {sp:Sp} {s₁:Shared} {vs:List Value} {ns:List Int}
  (KX:K.In s₁.heap) (hns:s₁.heap.Ns mainGlobals mg) (hb:s₁.heap.Ns builtinsNs mb) (hbb:∀x:Str,x ≠ "__name__"->mb x=bootBuiltins x) (hlim:s₁.heap.NoLimit) (hg:s₁.gens=#[])
  (ha:s₁.heap.get? a=some { cls:=.type "list",data:=.seq vs.toArray }) (hi:IntsAre vs ns) (hl:ns.length<=sizeLine) (hr:Room k callerA)
  (F:∀base:Heap,K.In base->base.Ns mainGlobals mg->FnOk P w K mg base CX k fa fd [x] sp) (hbind:∀(s:Shared) (u:Value),BindsTo s fd ⟨[u],[]⟩ [(x,u)])
  (hsp:∀H:Hp,CF H->SqL K H a (ns.map V.int)->sp [.ref a] H (λv _=>v=.bl true) λ_ _ _=>False)
  (hCX:∀H e s',CX [] H s₁ (λ_ _ _=>False) e s'->False) :
  codeAny (model P w) callerA (.call (.ref fa) ⟨[.ref a],[]⟩) (λr s'=>r=.ok (.ret (.bool true))/\OldK s₁.heap s'.heap/\s'.os=s₁.os/\AllBare s'.gens) s₁:=by
 have rv:=oG hi;have lenV:=hi.length;have core:∀H:Hp,CF H->SqL K H a (ns.map V.int)->HOk P w H s₁.heap->(∀b,H b≠none->b=a)->(H a≠none->K.lookup a=none) ->
   codeAny (model P w) callerA (.call (.ref fa) ⟨[.ref a],[]⟩) (λr s'=>r=.ok (.ret (.bool true))/\OldK s₁.heap s'.heap/\s'.os=s₁.os/\AllBare s'.gens) s₁:=by
  intro H hO hS hok hA hK;have base_of:∀{b:Addr} {o:Obj},s₁.heap.get? b=some o->H b=none->(qh s₁.heap H).get? b=some o:=λe n=>xO e n;have noA:∀{b:Addr} {o:Obj} {es:Array DictEntry} {ep:Nat},s₁.heap.get? b=some o->o.data=.dict es ep->H b=none:=λ{b o es ep} e d=>by
   cases q:H b with
   | none=>rfl
   | some u =>
    have e':b=a:=hA b (by rw[q];simp);subst e';rw[ha]at e;cases e;have d':Data.seq vs.toArray _=Data.dict es ep:=d;cases d'
  have nsK:∀{b:Addr} {m:Str->Option Value},s₁.heap.Ns b m->(qh s₁.heap H).Ns b m:=λ{b m} ⟨o,es,ep,e,d,r⟩=>⟨o,es,ep,base_of e (noA e d),d,r⟩;have hKb:K.In (qh s₁.heap H):=λb o e=>base_of (KX b o e) (by
   cases q:H b with
   | none=>rfl
   | some u =>
    have e':b=a:=hA b (by rw[q];simp);subst e';rw[hK (by rw[q];simp)]at e;cases e)
  have hM:Mod K mg (qh s₁.heap H):=⟨hKb,nsK hns,⟨mb,nsK hb,hbb⟩,let ⟨mc,h1,h2⟩:=hlim;⟨mc,nsK h1,h2⟩⟩;have e0:Env0 P w K mg (qh s₁.heap H) callerA [] s₁ H:=⟨rfl,hM,λb o e=>zt e,Nat.le_of_eq (v5 _ _),trivial,λb hb=>absurd (show b∈([]:List Addr)from hb) (by simp),hok,.of_eq hg⟩;refine codeAny_mono ((F _ hKb (nsK hns)).run callerA [] s₁ H ⟨[.ref a],[]⟩ [.ref a] [.ref a] _ _ hr e0 (hbind s₁ (.ref a)) (.cons rfl .nil) (hsp H hO hS)) λr s' h=>?_;cases r with
  | error e=>exact(hCX H e s' h).elim
  | ok fl =>
   cases fl with
   | next=>exact False.elim h
   | brk=>exact False.elim h
   | cont=>exact False.elim h
   | ret u =>
    obtain⟨v,H',os,bare,un,hok',r',q⟩:=h;have q':v=.bl true:=q;subst q';obtain rfl:u=Value.bool true:=r';refine⟨rfl,OldK.of_keep λb o e=>?_,os,bare⟩;cases q:H b with
    | none=>exact un.keep b o e q (by intro z;exact absurd (show b∈([]:List Addr)from z) (by simp)) (by simp)
    | some u =>
     rcases hO b with z|⟨ob,xs,z⟩
     ·rw[q]at z;cases z
     ·have z2:=un.frzs b ob _ z;obtain⟨e1,_⟩:=hok b _ z;obtain⟨e2,_⟩:=hok' b _ z2;rw[e]at e1;cases e1;exact e2
 cases hk:K.lookup a with
 | some o =>
  have e:=KX a o hk;rw[ha]at e;cases e;refine core (λ_=>none) (λ_=>.inl rfl) (.inr ⟨_,vs.toArray,_,hk,rfl,rfl,rfl,by rw[List.size_toArray,lenV];exact hl,by simpa using rv⟩) (λb u z=>by have z':(none:Option HO)=some u:=z;cases z') (λb z=>absurd rfl z) λz=>absurd rfl z
 | none =>
  refine core (λb=>if b=a then some (.frz { cls:=.type "list",data:=.seq vs.toArray } (.lst (ns.map V.int)))else none) (λb=>?_) (.inl (.inr ⟨{ cls:=.type "list",data:=.seq vs.toArray },if_pos rfl⟩)) (λb u z=>?_) (λb z=>?_) λ_=>hk
  ·by_cases hb:b=a
   ·exact .inr ⟨_,_,if_pos hb⟩
   ·exact .inl (if_neg hb)
  ·by_cases hb:b=a
   ·have z':=(if_pos hb).symm.trans z;cases z';subst hb;exact⟨ha,by rw[List.length_map];exact hl,vs,_,rv,ha⟩
   ·have z':=(if_neg hb).symm.trans z;cases z'
  ·by_cases hb:b=a
   ·exact hb
   ·exact absurd (if_neg hb) z
end L2
namespace L2
open PySem PySem.Spec PyProof.Rows
theorem walk_of {l:PySem.W.OpenLaw} {n k:Nat} {q:Program} {loose:List Str} {XP:(Str->Option Value)->Heap->Prop} {YP:World->Heap->Prop} {d:DefRec} {K:Params->Frag} {CX:World->CXT} {sp:World->Sp} {x:Str}
  (hn:l.most=some n) (hn2:n<=sizeLine) (hdf:d.params.defaults=[]) (hr:Room k callerA)
  (hY:∀(w:World) (h:Heap),YP w h->(K w.params).In h)
  (F:∀(w:World) (mg:Str->Option Value) (fa:Addr) (h:Heap),(K w.params).In h->h.Ns mainGlobals mg->mg d.name=some (.ref fa) ->
   ∃fd:FuncData,(∀(s:Shared) (u:Value),BindsTo s fd ⟨[u],[]⟩ [(x,u)]) /\
    ∀base:Heap,(K w.params).In base->base.Ns mainGlobals mg->FnOk l.prog w (K w.params) mg base (CX w) k fa fd [x] (sp w))
  (hsp:∀(w:World) (H:Hp) (a:Addr) (ns:List Int),ns.length<=n->CF H->SqL (K w.params) H a (ns.map V.int)->sp w [.ref a] H (λv _=>v=.bl true) λ_ _ _=>False)
  (hCX:∀(w:World) (H:Hp) (s:Shared) (e:Value) (s':Shared),CX w [] H s (λ_ _ _=>False) e s'->False) :
  PySem.W.WalkO q loose XP YP l.row.toRowW d [] (λf vs=>PySem.call f vs):=by
 refine Att.attach_call hn hdf λw s₀ s₁ mg mb fa o pm cd doc a vs ns G EY ho hd hcd hmg hobj hints hlen hg=>?_;have KX:=hY w _ EY;obtain⟨fd,hb,hF⟩:=F w mg fa _ KX G.T.g hmg;exact xF KX G.T.g G.T.b G.T.builtins G.T.nolimit hg hobj hints (Nat.le_trans hlen hn2) hr hF hb (λH hO hS=>hsp w H a ns hlen hO hS) λH e s'=>hCX w H s₁ e s'
end L2
namespace L2
open PySem PySem.Spec PyProof.Rows
def zL (s:Stmt) (j:Nat):Stmt:=match s with
 | .ClassDef _ _ _ body _ _ _ _ _ _ _=>body.getD j (.Pass ⟨0,0,0,0⟩)
 | _=>.Pass ⟨0,0,0,0⟩
def ja (s:Stmt):Arguments:=match s with
 | .FunctionDef _ a _ _ _ _ _ _ _ _=>a
 | _=>{ posonlyargs:=[],args:=[],vararg:=none,kwonlyargs:=[],kw_defaults:=[],kwarg:=none,defaults:=[] }
def cJ (s:Stmt):List Stmt:=match s with
 | .FunctionDef _ _ b _ _ _ _ _ _ _=>b
 | _=>[]
def ar (s:Stmt):Scope:=match s with
 | .FunctionDef _ _ _ _ _ _ sc _ _ _=>sc
 | _=>{ kind:=.function,names:=[],isGenerator:=false,isCoroutine:=false }
abbrev CX0:CXT:=λ_ _ _ _ _ _=>False
abbrev E0:XK:=λ_ _ _=>False
theorem mR {X:Cx}:qM CX0 X E0:=λ_ _ _ _ _ _ _ h=>h.elim
structure Fun (K:Frag) (x qual:Str) (st:Stmt) (f:Addr) (fd:FuncData):Prop where
 ex:∃(oc:Value) (od:Option Addr) (kV doc pm:Value) (an:Option Addr) (cdv ct:Value) (osl:Array (Option Value)),
  fd=fnOf x qual (ja st) (cJ st) (ar st) .none kV doc pm an cdv ct/\K.lookup f=some ⟨oc,od,.func fd,osl⟩/\codeIn K cdv qual=true
 kp:keepIn K (.ref f)=true
variable {x qual:Str} {st:Stmt} {f:Addr}
section
variable {P:Program} {w:World} {K:Frag} {mg:Str->Option Value} {base:Heap}
theorem Fun.ok {fd:FuncData} {N ps:List Str} {k:Nat} {sp:Sp} (F:Fun K x qual st f fd) (S:aF N ps (ar st)) (len:∀vs H Q E,sp vs H Q E->vs.length=ps.length)
  (hbody:∀(cdv:Value) (A:Around) (outer:List Env) (s:Shared) (H:Hp) (vs:List V) (Q:VK) (E:XK),Room k (A.deeper (envOfC qual (ar st) s.heap.objs.size f cdv))->sp vs H Q E ->
   ∃t,PSs (ii CX0 P w K mg base N qual (ar st) f cdv A outer s H E).nox (cJ st) t/\t { nx:=λ_ H'=>Q .non H',rt:=Q } (start N vs) H):FnOk P w K mg base CX0 (k+1) f fd ps sp:=by
 obtain⟨oc,od,kV,doc,pm,an,cdv,ct,osl,rfl,lk,hcd⟩:=F.ex;refine Ds lk hcd S len λA outer s H vs Q E hr hsp=>?_;obtain⟨t,h,q⟩:=hbody cdv A outer s H vs Q E hr hsp;exact⟨t,h.nox,q⟩
theorem Fun.binds {fd:FuncData} {ps:List Str} (F:Fun K x qual st f fd)
  (h:∀(kV doc pm:Value) (an:Option Addr) (cdv ct:Value) (us:List Value),us.length=ps.length->bindArgs (fnOf x qual (ja st) (cJ st) (ar st) .none kV doc pm an cdv ct) ⟨us,[]⟩=pure (ps.zip us)):Binds K fd ps []:=by
 obtain⟨oc,od,kV,doc,pm,an,cdv,ct,osl,rfl,lk,hcd⟩:=F.ex;exact .all (h kV doc pm an cdv ct)
theorem aV {oc:Value} {od an:Option Addr} {osl:Array (Option Value)} {kV doc pm cdv ct:Value} (l:K.lookup f=some ⟨oc,od,.func (fnOf x qual (ja st) (cJ st) (ar st) .none kV doc pm an cdv ct),osl⟩)
  (c:codeIn K cdv qual=true) (k:keepIn K (.ref f)=true):Fun K x qual st f (fnOf x qual (ja st) (cJ st) (ar st) .none kV doc pm an cdv ct):=⟨⟨oc,od,kV,doc,pm,an,cdv,ct,osl,rfl,l,c⟩,k⟩
end
section
variable {X:Cx}
theorem pv (i:Nat) {pos:Pos} (hN:X.N[i]?=some x:=by rfl) (hv:Vis X.env.scope x:=by first|exact Or.inl rfl|exact Or.inr (Or.inl rfl)|exact Or.inr (Or.inr rfl)) (hd:(x==("__debug__":Str))=false:=by decide)
  (hcd:(x==("__classdict__":Str))=false:=by decide):PE X (.Name x pos) (dD i):=Bw hN hv hd hcd
end
theorem zI {A B:Prop} (h:B):if false=true then A else B:=by
 rw[if_neg Bool.false_ne_true];exact h
theorem zH {A B:Prop} (h:A):if true=true then A else B:=by
 rw[if_pos rfl];exact h
def Same (H H':Hp):Prop:=∀b o,H b=some o->H' b=some o
theorem Same.refl (H:Hp):Same H H:=λ_ _ h=>h
theorem Same.trans {H H1 H2:Hp} (a:Same H H1) (b:Same H1 H2):Same H H2:=λc o h=>b c o (a c o h)
theorem Same.seq {K:Frag} {H H':Hp} {a:Addr} {xs:List V} (e:Same H H') (h:SqL K H a xs):SqL K H' a xs:=by
 rcases h with(h|⟨o,h⟩)|h
 ·exact .inl (.inl (e _ _ h))
 ·exact .inl (.inr ⟨o,e _ _ h⟩)
 ·exact .inr h
end L2
set_option compiler.extract_closed false
set_option genSizeOf true
set_option genInjectivity true
set_option autoImplicit false
namespace DL
open PySem PySem.Spec PyProof.Rows L2
abbrev St:=L2.St
def exN (c:Nat):Str:=match c with
 | 0=>"NoHall"
 | 1=>"NoArrow"
 | 2=>"NoBox"
 | 3=>"NoPicture"
 | 4=>"NoReading"
 | 5=>"NoThing"
 | _=>"NoSending"
structure CH (h:Heap) (e:Addr) (cls:Value) (ch:List Addr):Prop where
 mem:e∈ch
 at_:∃oe vs,h.get? e=some oe/\oe.cls=cls/\oe.dict=none/\oe.data=.fields vs/\1<vs.size/\(vs[1]?=some .none\/∃T oT ts fl,vs[1]?=some (.ref T)/\T≠e/\T∈ch/\h.get? T=some oT/\oT.data=.fields ts/\ts[3]?=some fl)
 thr:∀b∈ch,∃o vs,h.get? b=some o/\o.data=.fields vs
section
variable {M:Model} {A:Around} {E:Value->Shared->Prop} {s:Shared}
end
variable {X:Cx} {O:St} {H:Hp} {s:Shared}
theorem _root_.L2.Inv.frn {pins:List (Addr×Obj)} (I:Inv X pins O H s):∀b∈X.fs,H b=none:=λb hb=>by
 obtain⟨_,o,ho,_⟩:=I.ok.funs.mem hb;exact I.base.free b o ho (I.ok.frf b hb) λz=>I.ok.exfs b z hb
def Em (X:Cx) (pins:List (Addr×Obj)) (H:Hp) (b:Addr):Prop :=
 H b=none/\X.s₀.heap.get? b=none/\b≠X.env.locals/\b∉frs X.stack/\(∀x c,X.env.cells.lookup x=some c->c≠b)/\∀p∈X.pn++pins,p.1≠b
section
variable {X:Cx} {pins:List (Addr×Obj)} {O:St} {H:Hp} {s:Shared} {h':Heap} {ch:List Addr}
end
inductive D where
 | non|bl (b:Bool)|int (i:Int)|lst (xs:List D)|tup (xs:List D)|ob (e r t:D)|scr (ns:List Int)|exn (c:Nat)
abbrev KA:=Int×Int×List Int
inductive OK where
 | s|l (k:OK)|p (j k:OK)
 deriving DecidableEq
inductive Slt where
 | shr (d:D)|own (xs:List D)|dic (kvs:List (KA×D))|tre (k:OK) (d:D)
abbrev Rho:=List (Option Slt)
structure RB where
 rho:Rho
 ad:Nat->List Addr
instance:Coe RB Rho:=⟨RB.rho⟩
inductive R (Y:Type) where
 | val (a:Y)|exc (c:Nat)|bad
def R.bind {Y β:Type}:R Y->(Y->R β)->R β
 | .val a,f=>f a
 | .exc c,_=>.exc c
 | .bad,_=>.bad
inductive Out where
 | nx (U:Rho)|rt (d:D)|bk (U:Rho)|ct (U:Rho)
def exP (K:Frag) (c:Nat) (a:Addr):Heap->Prop:=λh=>∃ox Cc,h.get? a=some ox/\ox.cls=.ref Cc/\ox.dict=none/\(∃vs,ox.data=.fields vs)/\nsIn K mainGlobals (exN c)=some (some (.ref Cc))
def Dv (e r t:V):List (Str×V):=[("ends",e),("rests",r),("table",t)]
mutual
inductive Has (K:Frag) (C:Addr) (H:Hp):V->D->Prop where
 | non:Has K C H .non .non
 | bl (b:Bool):Has K C H (.bl b) (.bl b)
 | int (i:Int):Has K C H (.int i) (.int i)
 | lst {a:Addr} {vs:List V} {xs:List D}:H a=some (.lst vs)->HasL K C H vs xs->Has K C H (.ref a) (.lst xs)
 | tup {a:Addr} {vs:List V} {xs:List D}:H a=some (.tup vs)->HasL K C H vs xs->Has K C H (.ref a) (.tup xs)
 | scr {a:Addr} {ns:List Int}:SqL K H a (ns.map V.int)->Has K C H (.ref a) (.scr ns)
 | exn {a:Addr} {c:Nat}:H a=some (.ext (exP K c a))->Has K C H (.ref a) (.exn c)
 | ob {a dx:Addr} {ve vr vt:V} {e r t:D}:H a=some (.ins C dx (Dv ve vr vt))->Has K C H ve e->Has K C H vr r->Has K C H vt t->Has K C H (.ref a) (.ob e r t)
inductive HasL (K:Frag) (C:Addr) (H:Hp):List V->List D->Prop where
 | nil:HasL K C H [] []
 | cons {v:V} {d:D} {vs:List V} {ds:List D}:Has K C H v d->HasL K C H vs ds->HasL K C H (v::vs) (d::ds)
end
section
variable {K:Frag} {C:Addr} {H H':Hp}
mutual
theorem Has.mono (s:Same H H'):∀{v:V} {d:D},Has K C H v d->Has K C H' v d
 | _,_,.non=>.non
 | _,_,.bl b=>.bl b
 | _,_,.int i=>.int i
 | _,_,.lst q h=>.lst (s _ _ q) (HasL.mono s h)
 | _,_,.tup q h=>.tup (s _ _ q) (HasL.mono s h)
 | _,_,.scr q=>.scr (s.seq q)
 | _,_,.exn q=>.exn (s _ _ q)
 | _,_,.ob q a b c=>.ob (s _ _ q) (Has.mono s a) (Has.mono s b) (Has.mono s c)
theorem HasL.mono (s:Same H H'):∀{vs:List V} {ds:List D},HasL K C H vs ds->HasL K C H' vs ds
 | _,_,.nil=>.nil
 | _,_,.cons a b=>.cons (Has.mono s a) (HasL.mono s b)
end
theorem HasL.len:∀{vs:List V} {ds:List D},HasL K C H vs ds->vs.length=ds.length
 | _,_,.nil=>rfl
 | _,_,.cons _ b=>by simp[HasL.len b]
theorem HasL.app:∀{vs:List V} {ds:List D} {ws:List V} {es:List D},HasL K C H vs ds->HasL K C H ws es->HasL K C H (vs++ws) (ds++es)
 | _,_,_,_,.nil,h=>h
 | _,_,_,_,.cons a b,h=>.cons a (HasL.app b h)
theorem HasL.get:∀{vs:List V} {ds:List D} {i:Nat} {d:D},HasL K C H vs ds->ds[i]?=some d->∃v,vs[i]?=some v/\Has K C H v d
 | _,_,_,_,.nil,e=>by simp at e
 | _,_,0,_,.cons a _,e=>by simp at e;subst e;exact⟨_,rfl,a⟩
 | _,_,i+1,d,.cons _ b,e=>by
  obtain⟨v,h1,h2⟩:=HasL.get (i:=i) (d:=d) b (by simpa using e);exact⟨v,by simpa using h1,h2⟩
theorem HasL.get':∀{vs:List V} {ds:List D} {i:Nat} {v:V},HasL K C H vs ds->vs[i]?=some v->∃d,ds[i]?=some d/\Has K C H v d
 | _,_,_,_,.nil,e=>by simp at e
 | _,_,0,_,.cons a _,e=>by simp at e;subst e;exact⟨_,rfl,a⟩
 | _,_,i+1,v,.cons _ b,e=>by
  obtain⟨d,h1,h2⟩:=HasL.get' (i:=i) (v:=v) b (by simpa using e);exact⟨d,by simpa using h1,h2⟩
theorem HasL.drop:∀{vs:List V} {ds:List D} (n:Nat),HasL K C H vs ds->HasL K C H (vs.drop n) (ds.drop n)
 | _,_,0,h=>h
 | _,_,_+1,.nil=>.nil
 | _,_,n+1,.cons _ b=>HasL.drop n b
theorem HasL.take:∀{vs:List V} {ds:List D} (n:Nat),HasL K C H vs ds->HasL K C H (vs.take n) (ds.take n)
 | _,_,0,_=>.nil
 | _,_,_+1,.nil=>.nil
 | _,_,n+1,.cons a b=>.cons a (HasL.take n b)
theorem HasL.ints:∀ns:List Int,HasL K C H (ns.map V.int) (ns.map D.int)
 | []=>.nil
 | n::ns=>.cons (.int n) (HasL.ints ns)
end
def xM:Slt->Bool
 | .shr _=>false
 | _=>true
def Own (U:RB) (O:St) (b:Addr):Prop:=∃i:Nat,b∈U.ad i
open Classical in
def msk (U:RB) (O:St) (H:Hp):Hp:=λb=>if Own U O b then none else H b
section
variable {U:RB} {O:St} {H H':Hp} {b:Addr} {o:HO}
theorem msk_some:msk U O H b=some o↔¬ Own U O b/\H b=some o:=by
 unfold msk;by_cases h:Own U O b
 ·rw[if_pos h];exact⟨λe=>(by cases e),λe=>absurd h e.1⟩
 ·rw[if_neg h];exact⟨λe=>⟨h,e⟩,λe=>e.2⟩
theorem msk_sub:Same (msk U O H) H:=λb o e=>(msk_some.mp e).2
theorem aZ (s:Same H H'):Same (msk U O H) (msk U O H'):=λb o e=>msk_some.mpr ⟨(msk_some.mp e).1,s _ _ (msk_some.mp e).2⟩
end
def mt (k:KA):Int:=reduceHash (Builtin.Tuple.tupleHashOf [hashInt k.1,hashInt k.2.1,reduceHash (Builtin.Tuple.tupleHashOf (k.2.2.map hashInt))])
def Ei (x:KA×Addr×Value):DictEntry:=⟨mt x.1,.ref x.2.1,x.2.2⟩
def dOk (a:Addr) (xs:List (KA×Addr×Value)) (h:Heap):Prop:=(a==sysModules)=false/\xs.length<=100001/\∃o es ep,h.get? a=some o/\o.ExactDict/\o.data=.dict es ep/\es.toList=xs.map Ei
def j6 (a:Addr) (xs:List (KA×Addr×Value)):HO:=.ext (dOk a xs)
def KeyIn (M:Hp) (k:KA) (a:Addr):Prop:=∃ta,M a=some (.tup [.int k.1,.int k.2.1,.ref ta])/\M ta=some (.tup (k.2.2.map V.int))
def EntOk (K:Frag) (C:Addr) (M:Hp) (p:KA×D) (q:KA×Addr×Value):Prop:=p.1=q.1/\KeyIn M p.1 q.2.1/\∃v,RelV v q.2.2/\Has K C M v p.2
structure DicAt (K:Frag) (C:Addr) (M H:Hp) (a:Addr) (kvs:List (KA×D)):Prop where
 ex:∃xs,H a=some (j6 a xs)/\(xs.map (·.1)).Nodup/\Paired (EntOk K C M) kvs xs
variable {M M':Hp}
theorem KeyIn.mono {k:KA} {a:Addr} (m:Same M M') (h:KeyIn M k a):KeyIn M' k a:=by
 obtain⟨ta,h1,h2⟩:=h;exact⟨ta,m _ _ h1,m _ _ h2⟩
variable {K:Frag} {C:Addr}
theorem EntOk.mono {p:KA×D} {q:KA×Addr×Value} (m:Same M M') (h:EntOk K C M p q):EntOk K C M' p q:=by
 obtain⟨h1,h2,v,h3,h4⟩:=h;exact⟨h1,h2.mono m,v,h3,h4.mono m⟩
variable {H':Hp}
theorem DicAt.mono {a:Addr} {kvs:List (KA×D)} (e:∀o,H a=some o->H' a=some o) (m:Same M M') (h:DicAt K C M H a kvs):DicAt K C M' H' a kvs:=by
 obtain⟨xs,h1,h2,h3⟩:=h.ex;exact⟨xs,e _ h1,h2,Paired.mapP h3 λp q z=>z.mono m⟩
mutual
inductive Tre (K:Frag) (C:Addr) (M H:Hp):OK->V->D->List Addr->Prop where
 | s {v:V} {d:D}:Has K C M v d->Tre K C M H .s v d []
 | l {k:OK} {a:Addr} {vs:List V} {xs:List D} {A:List Addr}:H a=some (.lst vs)->TreP K C M H (vs.map λ_=>k) vs xs A->a∉A->Tre K C M H (.l k) (.ref a) (.lst xs) (a::A)
 | p {j k:OK} {a:Addr} {vs:List V} {xs:List D} {A:List Addr}:H a=some (.tup vs)->TreP K C M H [j,k] vs xs A->Tre K C M H (.p j k) (.ref a) (.tup xs) A
inductive TreP (K:Frag) (C:Addr) (M H:Hp):List OK->List V->List D->List Addr->Prop where
 | nil:TreP K C M H [] [] [] []
 | cons {k:OK} {ks:List OK} {v:V} {vs:List V} {d:D} {ds:List D} {A B:List Addr}:Tre K C M H k v d A->TreP K C M H ks vs ds B->(∀a∈A,a∉B)->TreP K C M H (k::ks) (v::vs) (d::ds) (A++B)
end
structure Stay (A:List Addr) (H H':Hp):Prop where
 at_:∀a∈A,∀o,H a=some o->H' a=some o
 tup:∀a vs,H a=some (.tup vs)->H' a=some (.tup vs)
variable {A:List Addr}
section
variable {K:Frag} {C:Addr} {H H' M M':Hp}
theorem Stay.of (s:Same H H'):Stay A H H':=⟨λa _ o e=>s a o e,λa vs e=>s a _ e⟩
theorem Stay.sub {B:List Addr} (h:Stay A H H') (hs:∀a∈B,a∈A):Stay B H H':=⟨λa ha=>h.at_ a (hs a ha),h.tup⟩
mutual
theorem Tre.stay (m:Same M M'):∀{k:OK} {v:V} {d:D} {A:List Addr},Stay A H H'->Tre K C M H k v d A->Tre K C M' H' k v d A
 | _,_,_,_,_,.s h=>.s (h.mono m)
 | _,_,_,_,y,.l e h n=>.l (y.at_ _ List.mem_cons_self _ e) (TreP.stay m (y.sub λ_ ha=>List.mem_cons_of_mem _ ha) h) n
 | _,_,_,_,y,.p e h=>.p (y.tup _ _ e) (TreP.stay m y h)
theorem TreP.stay (m:Same M M'):∀{ks:List OK} {vs:List V} {ds:List D} {A:List Addr},Stay A H H'->TreP K C M H ks vs ds A->TreP K C M' H' ks vs ds A
 | _,_,_,_,_,.nil=>.nil
 | _,_,_,_,y,.cons h t n=>.cons (Tre.stay m (y.sub λ_ ha=>List.mem_append_left _ ha) h) (TreP.stay m (y.sub λ_ ha=>List.mem_append_right _ ha) t) n
end
mutual
theorem Tre.has (m:Same M H):∀{k:OK} {v:V} {d:D} {A:List Addr},Tre K C M H k v d A->Has K C H v d
 | _,_,_,_,.s h=>h.mono m
 | _,_,_,_,.l e h _=>.lst e (TreP.has m h)
 | _,_,_,_,.p e h=>.tup e (TreP.has m h)
theorem TreP.has (m:Same M H):∀{ks:List OK} {vs:List V} {ds:List D} {A:List Addr},TreP K C M H ks vs ds A->HasL K C H vs ds
 | _,_,_,_,.nil=>.nil
 | _,_,_,_,.cons h t _=>.cons (Tre.has m h) (TreP.has m t)
end
mutual
theorem Tre.lists:∀{k:OK} {v:V} {d:D} {A:List Addr},Tre K C M H k v d A->∀a∈A,∃vs,H a=some (.lst vs)
 | _,_,_,_,.s _,a,ha=>by cases ha
 | _,_,_,_,.l e h _,a,ha=>by
  rcases List.mem_cons.mp ha with rfl|ha
  ·exact⟨_,e⟩
  ·exact TreP.lists h a ha
 | _,_,_,_,.p _ h,a,ha=>TreP.lists h a ha
theorem TreP.lists:∀{ks:List OK} {vs:List V} {ds:List D} {A:List Addr},TreP K C M H ks vs ds A->∀a∈A,∃vs,H a=some (.lst vs)
 | _,_,_,_,.nil,a,ha=>by cases ha
 | _,_,_,_,.cons h t _,a,ha=>by
  rcases List.mem_append.mp ha with ha|ha
  ·exact Tre.lists h a ha
  ·exact TreP.lists t a ha
end
theorem TreP.len:∀{ks:List OK} {vs:List V} {ds:List D} {A:List Addr},TreP K C M H ks vs ds A->vs.length=ds.length/\ks.length=ds.length
 | _,_,_,_,.nil=>⟨rfl,rfl⟩
 | _,_,_,_,.cons _ t _=>⟨congrArg Nat.succ t.len.1,congrArg Nat.succ t.len.2⟩
theorem TreP.of:∀{vs:List V} {ds:List D},HasL K C M vs ds->TreP K C M H (vs.map λ_=>.s) vs ds []
 | _,_,.nil=>.nil
 | _,_,.cons h t=>.cons (A:=[]) (B:=[]) (.s h) (TreP.of t) λ_ ha=>by cases ha
theorem TreP.flat:∀{vs us:List V} {ds:List D} {A:List Addr},TreP K C M H (us.map λ_=>OK.s) vs ds A->A=[]/\HasL K C M vs ds
 | [],us,_,_,h=>by cases us with
  | nil=>cases h;exact⟨rfl,.nil⟩
  | cons _ _=>cases h
 | v::vs,us,_,_,h=>by cases us with
  | nil=>cases h
  | cons _ us=>cases h with
   | cons h t _=>cases h with
    | s h=>obtain⟨e,t'⟩:=TreP.flat t;subst e;exact⟨rfl,.cons h t'⟩
end
def SlotOk (K:Frag) (C:Addr) (M H:Hp) (A:List Addr):Slt->Option (Option V)->Prop
 | .shr d,o=>∃v,o=some (some v)/\Has K C M v d
 | .own xs,o=>∃a vs,o=some (some (.ref a))/\a∈A/\H a=some (.lst vs)/\HasL K C M vs xs
 | .dic kvs,o=>∃a,o=some (some (.ref a))/\a∈A/\DicAt K C M H a kvs
 | .tre k d,o=>∃v B,o=some (some v)/\(∀a∈B,a∈A)/\Tre K C M H k v d B
structure Rel (K:Frag) (C:Addr) (H0:Hp) (U:RB) (O:St) (H:Hp):Prop where
 len:U.rho.length=O.length
 keep:Same H0 (msk U O H)
 at_:∀(i:Nat) sl,U.rho[i]?=some (some sl)->SlotOk K C (msk U O H) H (U.ad i) sl O[i]?
 inj:∀(i j:Nat) a,a∈U.ad i->a∈U.ad j->i=j
 kin:∀(i:Nat) a,a∈U.ad i->(∃vs,H a=some (.lst vs))\/∃xs,H a=some (j6 a xs)
 bnd:∀(i:Nat) a,a∈U.ad i->i<U.rho.length
def wt (K:Frag) (C:Addr) (H0:Hp) (U:Rho) (O:St) (H:Hp):Prop:=∃β:RB,β.rho=U/\Rel K C H0 β O H
def RB.put (U:RB) (i:Nat) (sl:Slt) (A:List Addr):RB:=⟨U.rho.set i (some sl),λj=>if j=i then(if i<U.rho.length then A else[])else U.ad j⟩
variable {sl:Slt} {o:HO} {i j:Nat} {σ':St} {Y:Type} {v:V} {d:D} {vs:List V} {xs:List D}
section
variable {K:Frag} {C:Addr} {H0 H H' M M':Hp} {U:RB} {O:St}
theorem SlotOk.stay {o:Option (Option V)} (y:Stay A H H') (m:Same M M') (h:SlotOk K C M H A sl o):SlotOk K C M' H' A sl o:=by
 cases sl with
 | shr d=>obtain⟨v,e,h⟩:=h;exact⟨v,e,h.mono m⟩
 | own xs=>obtain⟨a,vs,e,n,q,h⟩:=h;exact⟨a,vs,e,n,y.at_ _ n _ q,h.mono m⟩
 | dic kvs=>obtain⟨a,e,n,h⟩:=h;exact⟨a,e,n,h.mono (λo q=>y.at_ _ n _ q) m⟩
 | tre k d=>obtain⟨v,B,e,n,h⟩:=h;exact⟨v,B,e,n,h.stay m (y.sub n)⟩
theorem SlotOk.mono {o:Option (Option V)} (s:Same H H') (m:Same M M') (h:SlotOk K C M H A sl o):SlotOk K C M' H' A sl o:=h.stay (.of s) m
theorem Rel.mono (r:Rel K C H0 U O H) (s:Same H H'):Rel K C H0 U O H' :=
 ⟨r.len,r.keep.trans (aZ s),λi sl e=>(r.at_ i sl e).mono s (aZ s),r.inj,λi a h=>(r.kin i a h).imp (λ⟨vs,e⟩=>⟨vs,s _ _ e⟩) λ⟨xs,e⟩=>⟨xs,s _ _ e⟩,r.bnd⟩
theorem Rel.rebase (r:Rel K C H0 U O H):Rel K C (msk U O H) U O H:=⟨r.len,Same.refl _,r.at_,r.inj,r.kin,r.bnd⟩
theorem Rel.base {H1:Hp} (r:Rel K C H0 U O H) (s:Same H1 H0):Rel K C H1 U O H:=⟨r.len,s.trans r.keep,r.at_,r.inj,r.kin,r.bnd⟩
theorem Rel.ownAt (r:Rel K C H0 U O H) {b:Addr} (h:Own U O b):H b≠none:=by
 obtain⟨i,h⟩:=h;rcases r.kin i b h with⟨vs,e⟩|⟨xs,e⟩<;>(rw[e];exact λz=>by cases z)
theorem Rel.new (r:Rel K C H0 U O H) {p:Addr} (h:H p=none):msk U O (upd H p o) p=some o :=
 msk_some.mpr ⟨λz=>r.ownAt z h,aO⟩
theorem aL {p:Addr} (h:H p=none):Same H (upd H p o):=λb u e=>by
 rw[aE (bx e h)];exact e
theorem d5 {a:Addr} (h:a∈(U.put i sl A).ad j):(j=i/\i<U.rho.length/\a∈A)\/(j≠i/\a∈U.ad j):=by
 unfold RB.put at h;dsimp only at h;split at h
 ·rename_i e;split at h
  ·exact .inl ⟨e,‹_›,h⟩
  ·cases h
 ·exact .inr ⟨‹_›,h⟩
theorem wU {sl':Slt} (h:(U.put i sl A).rho[j]?=some (some sl')):(j=i/\i<U.rho.length/\sl'=sl)\/(j≠i/\U.rho[j]?=some (some sl')):=by
 unfold RB.put at h;dsimp only at h;by_cases e:i=j
 ·subst e;rw[List.getElem?_set]at h;simp only[if_true]at h;split at h
  ·cases h;exact .inl ⟨rfl,‹_›,rfl⟩
  ·cases h
 ·rw[List.getElem?_set_ne e]at h;exact .inr ⟨λz=>e z.symm,h⟩
theorem Bk {a:Addr} (hi:i<U.rho.length):(U.put i sl A).ad i=A:=by
 unfold RB.put;dsimp only;rw[if_pos rfl,if_pos hi]
theorem mh (h:j≠i):(U.put i sl A).ad j=U.ad j:=by
 unfold RB.put;dsimp only;rw[if_neg h]
theorem Rel.put (r:Rel K C H0 U O H) (hl:σ'.length=O.length) (ho:∀j:Nat,j≠i->σ'[j]?=O[j]?)
  (fr:∀a∈A,a∈U.ad i\/H a=none) (st:∀j:Nat,j≠i->Stay (U.ad j) H H') (ks:∀b o,msk U O H b=some o->H' b=some o) (kA:∀a∈A,(∃vs,H' a=some (.lst vs))\/∃xs,H' a=some (j6 a xs))
  (h:i<U.rho.length->Same (msk U O H) (msk (U.put i sl A) σ' H')->SlotOk K C (msk (U.put i sl A) σ' H') H' A sl σ'[i]?):Rel K C H0 (U.put i sl A) σ' H':=by
 have own:∀b,Own (U.put i sl A) σ' b->Own U O b\/H b=none:=λb z=>by
  obtain⟨j,z⟩:=z;rcases d5 z with⟨_,_,z⟩|⟨_,z⟩
  ·rcases fr b z with z|z
   ·exact .inl ⟨i,z⟩
   ·exact .inr z
  ·exact .inl ⟨j,z⟩
 have sub:Same (msk U O H) (msk (U.put i sl A) σ' H'):=λb o e=>by
  obtain⟨h1,h2⟩:=msk_some.mp e;refine msk_some.mpr ⟨λz=>?_,ks b o e⟩;rcases own b z with z|z
  ·exact h1 z
  ·rw[z]at h2;cases h2
 have kin':∀(j:Nat) a,j≠i->a∈U.ad j->(∃vs,H' a=some (.lst vs))\/∃xs,H' a=some (j6 a xs):=λj a hj ha=>(r.kin j a ha).imp (λ⟨vs,e⟩=>⟨vs,(st j hj).at_ a ha _ e⟩) λ⟨xs,e⟩=>⟨xs,(st j hj).at_ a ha _ e⟩;refine⟨?_,r.keep.trans sub,λj sl' e=>?_,λj k a x y=>?_,λj a x=>?_,λj a x=>?_⟩
 ·show(U.rho.set i (some sl)).length=_;rw[List.length_set,hl];exact r.len
 ·rcases wU e with⟨rfl,hi,rfl⟩|⟨hj,e⟩
  ·rw[Bk (a:=0) hi];exact h hi sub
  ·rw[mh hj,ho j hj];exact(r.at_ j sl' e).stay (st j hj) sub
 ·rcases d5 x with⟨rfl,_,x⟩|⟨hj,x⟩
  ·rcases d5 y with⟨rfl,_,_⟩|⟨hk,y⟩
   ·rfl
   ·rcases fr a x with x|x
    ·exact r.inj _ _ a x y
    ·exact absurd x (r.ownAt ⟨k,y⟩)
  ·have x':=x;rcases d5 y with⟨rfl,_,y⟩|⟨hk,y⟩
   ·rcases fr a y with y|y
    ·exact r.inj _ _ a x' y
    ·exact absurd y (r.ownAt ⟨j,x'⟩)
   ·exact r.inj _ _ a x' y
 ·rcases d5 x with⟨_,_,x⟩|⟨hj,x⟩
  ·exact kA a x
  ·exact kin' j a hj x
 ·show j<(U.rho.set i (some sl)).length;rw[List.length_set];rcases d5 x with⟨rfl,hi,_⟩|⟨_,x⟩
  ·exact hi
  ·exact r.bnd j a x
theorem Rel.e (r:Rel K C H0 U O H):wt K C H0 U.rho O H:=⟨U,rfl,r⟩
theorem l_ {l:List Y} {a:Y}:(l.set i a).length=l.length:=List.length_set
theorem pk {O:St} (h:i<O.length):(O.set i (some v))[i]?=some (some v):=by
 rw[List.getElem?_set];simp[h]
theorem Rel.setShr (r:Rel K C H0 U O H) (h:Has K C (msk U O H) v d):Rel K C H0 (U.put i (.shr d) []) (O.set i (some v)) H :=
 r.put l_ (λj hj=>List.getElem?_set_ne λz=>hj z.symm) (λa ha=>by cases ha) (λj _=>.of (Same.refl _)) (λb o e=>(msk_some.mp e).2) (λa ha=>by cases ha) λhi s=>⟨v,pk (by rw[<- r.len];exact hi),h.mono s⟩
theorem Rel.setOwn (r:Rel K C H0 U O H) {a:Addr} (hn:H a=none) (h:HasL K C (msk U O H) vs xs):Rel K C H0 (U.put i (.own xs) [a]) (O.set i (some (.ref a))) (upd H a (.lst vs)) :=
 r.put l_ (λj hj=>List.getElem?_set_ne λz=>hj z.symm) (λb hb=>.inr (by cases List.mem_singleton.mp hb;exact hn)) (λj _=>.of (aL hn)) (λb o e=>aL hn b o (msk_some.mp e).2)
  (λb hb=>.inl (by cases List.mem_singleton.mp hb;exact⟨vs,aO⟩)) λhi s=>⟨a,vs,pk (by rw[<- r.len];exact hi),List.mem_singleton.mpr rfl,aO,h.mono s⟩
theorem Rel.apart (r:Rel K C H0 U O H) {a:Addr} (ha:a∈U.ad i) (hj:j≠i):Stay (U.ad j) H (upd H a o):=by
 refine⟨λb hb u e=>?_,λb vs e=>?_⟩
 ·rw[aE λ(z:b=a)=>hj (r.inj j i b hb (z▸ha))];exact e
 ·have:b≠a:=λz=>by
   subst z;rcases r.kin i b ha with⟨us,e'⟩|⟨xs,e'⟩<;>(rw[e]at e';cases e')
  rw[aE this];exact e
theorem Rel.shown (r:Rel K C H0 U O H) {a:Addr} (ha:a∈U.ad i):∀b u,msk U O H b=some u->upd H a o b=some u:=λb u e=>by
 obtain⟨h1,h2⟩:=msk_some.mp e;rw[aE λ(z:b=a)=>h1 ⟨i,z▸ha⟩];exact h2
theorem Rel.write (r:Rel K C H0 U O H) {a:Addr} {ys:List D} {ws:List V} (e:U.rho[i]?=some (some (.own xs))) (q:O[i]?=some (some (.ref a))) (h:HasL K C (msk U O H) ws ys) :
  Rel K C H0 (U.put i (.own ys) [a]) O (upd H a (.lst ws)):=by
 obtain⟨b,vs,e1,ha,_,_⟩:=r.at_ i _ e;rw[q]at e1;cases e1;exact r.put rfl (λj _=>rfl) (λb hb=>.inl (by cases List.mem_singleton.mp hb;exact ha)) (λj hj=>r.apart ha hj) (r.shown ha) (λb hb=>.inl (by cases List.mem_singleton.mp hb;exact⟨ws,aO⟩))
  λhi s=>⟨a,ws,q,List.mem_singleton.mpr rfl,aO,h.mono s⟩
theorem Rel.freeze (r:Rel K C H0 U O H) (e:U.rho[i]?=some (some (.own xs))):Rel K C H0 (U.put i (.shr (.lst xs)) []) O H:=by
 obtain⟨a,vs,q,ha,h1,h2⟩:=r.at_ i _ e;refine r.put rfl (λj _=>rfl) (λb hb=>by cases hb) (λj _=>.of (Same.refl _)) (λb o z=>(msk_some.mp z).2) (λb hb=>by cases hb) λhi s=>⟨_,q,.lst (msk_some.mpr ⟨λz=>?_,h1⟩) (h2.mono s)⟩;obtain⟨j,z⟩:=z;rcases d5 z with⟨_,_,z⟩|⟨hj,z⟩
 ·cases z
 ·exact hj (r.inj j i a z ha)
mutual
theorem Tre.share (s:Same M M'):∀{k:OK} {v:V} {d:D} {A:List Addr},Tre K C M H k v d A->(∀a∈A,∀o,H a=some o->M' a=some o)->(∀a vs,H a=some (.tup vs)->M' a=some (.tup vs))->Has K C M' v d
 | _,_,_,_,.s h,_,_=>h.mono s
 | _,_,_,_,.l e h _,f,t=>.lst (f _ List.mem_cons_self _ e) (TreP.share s h (λa ha=>f a (List.mem_cons_of_mem _ ha)) t)
 | _,_,_,_,.p e h,f,t=>.tup (t _ _ e) (TreP.share s h f t)
theorem TreP.share (s:Same M M'):∀{ks:List OK} {vs:List V} {ds:List D} {A:List Addr},TreP K C M H ks vs ds A->(∀a∈A,∀o,H a=some o->M' a=some o)->(∀a vs,H a=some (.tup vs)->M' a=some (.tup vs))->HasL K C M' vs ds
 | _,_,_,_,.nil,_,_=>.nil
 | _,_,_,_,.cons h t _,f,u=>.cons (Tre.share s h (λa ha=>f a (List.mem_append_left _ ha)) u) (TreP.share s t (λa ha=>f a (List.mem_append_right _ ha)) u)
end
theorem Rel.tups (r:Rel K C H0 U O H) {a:Addr} (e:H a=some (.tup vs)):¬ Own U O a:=λ⟨i,h⟩=>by
 rcases r.kin i a h with⟨us,e'⟩|⟨xs,e'⟩<;>(rw[e]at e';cases e')
theorem Rel.thaw (r:Rel K C H0 U O H) {k:OK} (e:U.rho[i]?=some (some (.tre k d))):Rel K C H0 (U.put i (.shr d) []) O H:=by
 obtain⟨v,A,q,hA,h⟩:=r.at_ i _ e;have own:∀b,Own (U.put i (.shr d) []) O b->Own U O b/\b∉U.ad i:=λb z=>by
  obtain⟨j,z⟩:=z;rcases d5 z with⟨_,_,z⟩|⟨hj,z⟩
  ·cases z
  ·exact⟨⟨j,z⟩,λy=>hj (r.inj j i b z y)⟩
 refine r.put rfl (λj _=>rfl) (λb hb=>by cases hb) (λj _=>.of (Same.refl _)) (λb o z=>(msk_some.mp z).2) (λb hb=>by cases hb) λhi s=>⟨_,q,h.share s (λa ha o e=>?_) λa vs e=>?_⟩
 ·exact msk_some.mpr ⟨λz=>(own a z).2 (hA a ha),e⟩
 ·exact msk_some.mpr ⟨λz=>r.tups e (own a z).1,e⟩
end
def Fly (X:Cx) (pins:List (Addr×Obj)) (c:Nat) (H:Hp) (e:Value) (s:Shared):Prop:=∃ea Cc ch,e=.ref ea/\X.mg (exN c)=some (.ref Cc)/\CH s.heap ea (.ref Cc) ch/\∀b∈ch,Em X pins H b
def XE (X:Cx) (c:Nat) (O:St) (H:Hp):Prop:=∀pins H' e s',Inv X pins O H' s'->Same H H'->Fly X pins c H' e s'->X.xe e s'
def XS (X:Cx) (c:Nat) (H0:Hp):Prop:=∀pins σ' H' e s',Inv X pins σ' H' s'->Same H0 H'->Fly X pins c H' e s'->X.xe e s'
variable {c:Nat}
theorem XE.mono (s:Same H H') (h:XE X c O H):XE X c O H':=λpins H2 e s' I s2 f=>h pins H2 e s' I (s.trans s2) f
theorem XS.mono (s:Same H H') (h:XS X c H):XS X c H':=λpins O H2 e s' I s2 f=>h pins O H2 e s' I (s.trans s2) f
theorem XS.xe (s:Same H H') (h:XS X c H):XE X c O H':=λpins H2 e s' I s2 f=>h pins O H2 e s' I (s.trans s2) f
inductive Brw (K:Frag) (C:Addr) (M H:Hp):V->D->Prop where
 | cl {v:V} {d:D}:Has K C M v d->Brw K C M H v d
 | own {a:Addr} {vs:List V} {xs:List D}:H a=some (.lst vs)->HasL K C M vs xs->Brw K C M H (.ref a) (.lst xs)
theorem Brw.mono (m:Same M M') (s:Same H H') (h:Brw K C M H v d):Brw K C M' H' v d:=by
 cases h with
 | cl h=>exact .cl (h.mono m)
 | own e h=>exact .own (s _ _ e) (h.mono m)
section
variable (C:Addr) (X:Cx)
abbrev cN (H0:Hp) (U:RB) (O:St) (H:Hp):Prop:=Rel X.K C H0 U O H
abbrev oa (H0:Hp) (U:Rho) (O:St) (H:Hp):Prop:=wt X.K C H0 U O H
abbrev dJ (U:RB) (O:St) (H:Hp) (v:V) (d:D):Prop:=Has X.K C (msk U O H) v d
abbrev iW (U:RB) (O:St) (H:Hp) (v:List V) (d:List D):Prop:=HasL X.K C (msk U O H) v d
abbrev CJ (U:RB) (O:St) (H:Hp) (v:V) (d:D):Prop:=Brw X.K C (msk U O H) H v d
def pV (Rl:Hp->V->D->Prop) (r:R D) (O:St) (H:Hp) (Q:VK):Prop:=match r with
 | .val d=>∀v H',Same H H'->Rl H' v d->Q v H'
 | .exc c=>XE X c O H
 | .bad=>False
def pB (r:R Bool) (O:St) (H:Hp) (Q:Bool->Hp->Prop):Prop:=match r with
 | .val b=>∀H',Same H H'->Q b H'
 | .exc c=>XE X c O H
 | .bad=>False
def pL (Rl:Hp->List V->List D->Prop) (r:R (List D)) (O:St) (H:Hp) (Q:List V->Hp->Prop):Prop:=match r with
 | .val d=>∀v H',Same H H'->Rl H' v d->Q v H'
 | .exc c=>XE X c O H
 | .bad=>False
def teC (F:Rho->R D):TE:=λO H Q=>∃U:RB,(∃H0,cN C X H0 U O H)/\pV X (dJ C X U O) (F U) O H Q
def teB (F:Rho->R D):TE:=λO H Q=>∃U:RB,(∃H0,cN C X H0 U O H)/\pV X (CJ C X U O) (F U) O H Q
def ttD (F:Rho->R Bool):TT:=λO H Q=>∃U:RB,(∃H0,cN C X H0 U O H)/\pB X (F U) O H Q
def taD (F:Rho->R (List D)):TA:=λO H Q=>∃U:RB,(∃H0,cN C X H0 U O H)/\pL X (iW C X U O) (F U) O H Q
def ED (e:Expr) (F:Rho->R D):Prop:=PE X e (teC C X F)
def EB (e:Expr) (F:Rho->R D):Prop:=PE X e (teB C X F)
def TD (e:Expr) (F:Rho->R Bool):Prop:=PT X e (ttD C X F)
def AD (es:List Expr) (F:Rho->R (List D)):Prop:=PA X es (taD C X F)
def pS (o:R Out) (H0:Hp) (Dn:jC):Prop:=match o with
 | .val (.nx U')=>∀σ' H',oa C X H0 U' σ' H'->Dn.nx σ' H'
 | .val (.bk U')=>∀σ' H',oa C X H0 U' σ' H'->Dn.bk σ' H'
 | .val (.ct U')=>∀σ' H',oa C X H0 U' σ' H'->Dn.ct σ' H'
 | .val (.rt d)=>∀v H',Same H0 H'->Has X.K C H' v d->Dn.rt v H'
 | .exc c=>XS X c H0
 | .bad=>False
def tsD (F:Rho->R Out):TS:=λDn O H=>∃U H0,oa C X H0 U O H/\pS C X (F U) H0 Dn
def SD (st:Stmt) (F:Rho->R Out):Prop:=PS X st (tsD C X F)
def SDs (st:List Stmt) (F:Rho->R Out):Prop:=PSs X st (tsD C X F)
end
variable {a b:Expr} {r:R2} {Q:VK} {F Fa Fb:Rho->R D} {x:Str} {pos:Pos} {f:D->D->R D} {op:CmpOp} {rest es:List Expr} {n:Nat}
section
variable {C:Addr} {X:Cx} {U:RB} {O:St} {H H':Hp}
theorem aJ {e:Expr} {t t':TE} (h:PE X e t) (hw:∀O H Q,t' O H Q->t O H Q):PE X e t':=λpins s O H Q I q=>h pins s O H Q I (hw O H Q q)
theorem i3 {e:Expr} {t t':TT} (h:PT X e t) (hw:∀O H Q,t' O H Q->t O H Q):PT X e t':=λpins s O H Q I q=>h pins s O H Q I (hw O H Q q)
theorem mn {e:List Expr} {t t':TA} (h:PA X e t) (hw:∀O H Q,t' O H Q->t O H Q):PA X e t':=λpos pins s O H Q I q=>h pos pins s O H Q I (hw O H Q q)
theorem bq {e:Stmt} {t t':TS} (h:PS X e t) (hw:∀D O H,t' D O H->t D O H):PS X e t':=λpins s O H Q I q=>h pins s O H Q I (hw Q O H q)
theorem dQ {e:List Stmt} {t t':TS} (h:PSs X e t) (hw:∀D O H,t' D O H->t D O H):PSs X e t':=λpins s O H Q I q=>h pins s O H Q I (hw Q O H q)
theorem pV.mono {Rl:Hp->V->D->Prop} {r:R D} (s:Same H H') (h:pV X Rl r O H Q):pV X Rl r O H' Q:=by
 cases r with
 | val d=>exact λv H2 s2 q=>h v H2 (s.trans s2) q
 | exc c=>exact XE.mono s h
 | bad=>exact h
theorem pB.mono {r:R Bool} {Q:Bool->Hp->Prop} (s:Same H H') (h:pB X r O H Q):pB X r O H' Q:=by
 cases r with
 | val d=>exact λH2 s2=>h H2 (s.trans s2)
 | exc c=>exact XE.mono s h
 | bad=>exact h
theorem pL.mono {Rl:Hp->List V->List D->Prop} {r:R (List D)} {Q:List V->Hp->Prop} (s:Same H H') (h:pL X Rl r O H Q):pL X Rl r O H' Q:=by
 cases r with
 | val d=>exact λv H2 s2 q=>h v H2 (s.trans s2) q
 | exc c=>exact XE.mono s h
 | bad=>exact h
theorem aR {Rl:Hp->V->D->Prop} {r:R D} {k:D->R Y} {P:R Y->Hp->Prop} (hexc:∀c,P (.exc c) H->XE X c O H) (hbad:P .bad H->False) (h:P (r.bind k) H)
  (hk:∀d v H1,Same H H1->Rl H1 v d->P (k d) H->Q v H1):pV X Rl r O H Q:=by
 cases r with
 | val d=>exact λv H1 s q=>hk d v H1 s q h
 | exc c=>exact hexc c h
 | bad=>exact hbad h
theorem jO {r:R Bool} {k:Bool->R Y} {P:R Y->Hp->Prop} {Q:Bool->Hp->Prop} (hexc:∀c,P (.exc c) H->XE X c O H) (hbad:P .bad H->False) (h:P (r.bind k) H)
  (hk:∀d H1,Same H H1->P (k d) H->Q d H1):pB X r O H Q:=by
 cases r with
 | val d=>exact λH1 s=>hk d H1 s h
 | exc c=>exact hexc c h
 | bad=>exact hbad h
theorem dB {Rl:Hp->List V->List D->Prop} {r:R (List D)} {k:List D->R Y} {P:R Y->Hp->Prop} {Q:List V->Hp->Prop} (hexc:∀c,P (.exc c) H->XE X c O H) (hbad:P .bad H->False) (h:P (r.bind k) H)
  (hk:∀d v H1,Same H H1->Rl H1 v d->P (k d) H->Q v H1):pL X Rl r O H Q:=by
 cases r with
 | val d=>exact λv H1 s q=>hk d v H1 s q h
 | exc c=>exact hexc c h
 | bad=>exact hbad h
theorem EB.of {e:Expr} (h:ED C X e F):EB C X e F:=aJ h λO H Q yy0=>by
 obtain⟨U,r,q⟩:=yy0;exact⟨U,r,by
  cases z:F U with
  | val d=>rw[z]at q;exact λv H' s h=>q v H' s (.cl h)
  | exc c=>rw[z]at q;exact q
  | bad=>rw[z]at q;exact q⟩
def vr (i:Nat):Rho->R D:=λU=>match U[i]? with
 | some (some (.shr d))=>.val d
 | _=>.bad
def vb (i:Nat):Rho->R D:=λU=>match U[i]? with
 | some (some (.shr d))=>.val d
 | some (some (.own xs))=>.val (.lst xs)
 | some (some (.tre (.l .s) (.lst xs)))=>.val (.lst xs)
 | _=>.bad
theorem Co (h:PE X (.Name x pos) (dD i)):ED C X (.Name x pos) (vr i):=by
 refine aJ h λO H Q zz0=>?_;obtain⟨U,⟨H0,r⟩,q⟩:=zz0;unfold vr at q;split at q
 ·rename_i d e;obtain⟨v,e1,h1⟩:=r.at_ i _ e;exact⟨v,e1,q v H (Same.refl _) h1⟩
 ·exact q.elim
theorem Cu (h:PE X (.Name x pos) (dD i)):EB C X (.Name x pos) (vb i):=by
 refine aJ h λO H Q zz1=>?_;obtain⟨U,⟨H0,r⟩,q⟩:=zz1;unfold vb at q;split at q
 ·rename_i d e;obtain⟨v,e1,h1⟩:=r.at_ i _ e;exact⟨v,e1,q v H (Same.refl _) (.cl h1)⟩
 ·rename_i xs e;obtain⟨a,vs,e1,_,h1,h2⟩:=r.at_ i _ e;exact⟨_,e1,q _ H (Same.refl _) (.own h1 h2)⟩
 ·rename_i xs e;obtain⟨v,B,e1,_,h⟩:=r.at_ i _ e;cases h with
  | l h1 h2 _=>exact⟨_,e1,q _ H (Same.refl _) (.own h1 h2.flat.2)⟩
 ·exact q.elim
def kd (d:D):Rho->R D:=λ_=>.val d
theorem bg {i j pos}:ED C X (.Constant (.int i) j pos) (kd (.int i)):=aJ BC λO H Q yy1=>by
 obtain⟨U,r,q⟩:=yy1;exact q _ H (Same.refl _) (.int i)
theorem gn {i j pos}:ED C X (.Constant (.bool i) j pos) (kd (.bl i)):=aJ AG λO H Q yy2=>by
 obtain⟨U,r,q⟩:=yy2;exact q _ H (Same.refl _) (.bl i)
theorem Cq {j pos}:ED C X (.Constant .none j pos) (kd .non):=aJ BA λO H Q yy3=>by
 obtain⟨U,r,q⟩:=yy3;exact q _ H (Same.refl _) .non
theorem j5 {i:Int} {t:Tok} (hg:Gl X x) (hm:X.mg x=some (.int i t)) (hd:(x==("__debug__":Str))=false:=by decide):ED C X (.Name x pos) (kd (.int i)) :=
  aJ (zi (v:=.int i) hg hm ⟨t,rfl⟩ hd) λO H Q yy4=>by
   obtain⟨U,r,q⟩:=yy4;exact q _ H (Same.refl _) (.int i)
def bin (f:D->D->R D) (a b:Rho->R D):Rho->R D:=λU=>(a U).bind λx=>(b U).bind λy=>f x y
def OpD (C:Addr) (X:Cx) (r:R2) (f:D->D->R D):Prop:=∀U O H v w x y z (Q:VK),(∃H0,cN C X H0 U O H)->CJ C X U O H v x->CJ C X U O H w y->f x y=.val z->(∀u H',Same H H'->dJ C X U O H' u z->Q u H')->r v w H Q
def fu (f:D->D->R D):Prop:=∀x y c,f x y ≠ .exc c
theorem pi (hf:fu f) (ho:OpD C X r f) {O:St} {H:Hp} (h:teC C X (bin f Fa Fb) O H Q):tOp r (teB C X Fa) (teB C X Fb) O H Q:=by
 obtain⟨U,⟨H0,r0⟩,q⟩:=h;refine⟨U,⟨H0,r0⟩,aR (P:=λz H=>pV X (dJ C X U O) z O H Q) (λ_ h=>h) (λh=>h) q λx v H1 s1 h1 q1=>?_⟩;refine⟨U,⟨H0,r0.mono s1⟩,aR (P:=λz H=>pV X (dJ C X U O) z O H Q) (λ_ h=>h) (λh=>h) (q1.mono s1) λy w H2 s2 h2 q2=>?_⟩;cases e:f x y with
 | val z =>
  rw[e]at q2;exact ho U O H2 v w x y z Q ⟨H0,(r0.mono s1).mono s2⟩ (h1.mono (aZ s2) s2) h2 e λu H3 s3 h3=>q2 u H3 (s2.trans s3) h3
 | exc c=>exact(hf x y c e).elim
 | bad=>rw[e]at q2;exact q2.elim
theorem u6 {op:Operator} (h:OpR X (binaryOp op) r) (hf:fu f) (ho:OpD C X r f) (ha:EB C X a Fa) (hb:EB C X b Fb) :
  ED C X (.BinOp a op b pos) (bin f Fa Fb):=aJ (AF h ha hb) λO H Q q=>pi hf ho q
theorem Ct (h:OpR X (compareOp op) r) (hf:fu f) (ho:OpD C X r f) (ha:EB C X a Fa) (hb:EB C X b Fb) (hm:behindInMarks op b=false) :
  ED C X (.Compare a [op] [b] pos) (bin f Fa Fb):=aJ (zj h ha hb hm) λO H Q q=>pi hf ho q
theorem Dz (h:IxR X r) (hf:fu f) (ho:OpD C X r f) (ha:EB C X a Fa) (hb:EB C X b Fb) (hs:j_ b) :
  ED C X (.Subscript a b pos) (bin f Fa Fb):=aJ (xh h ha hb hs) λO H Q q=>pi hf ho q
def asB:D->R Bool
 | .bl b=>.val b
 | _=>.bad
def tst (F:Rho->R D):Rho->R Bool:=λU=>(F U).bind asB
theorem Brw.int {H:Hp} {i:Int} (h:Brw K C M H v (.int i)):v=.int i:=by
 cases h with
 | cl h=>cases h;rfl
theorem Brw.bl {H:Hp} {i:Bool} (h:Brw K C M H v (.bl i)):v=.bl i:=by
 cases h with
 | cl h=>cases h;rfl
theorem Has.bl' {i:Bool} (h:Has K C M v (.bl i)):v=.bl i:=by cases h;rfl
theorem CQ {O:St} {H:Hp} {Q:Bool->Hp->Prop} (h:ttD C X (tst F) O H Q):teC C X F O H λx H1=>∃c,x=.bl c/\Q c H1:=by
 obtain⟨U,⟨H0,r0⟩,q⟩:=h;refine⟨U,⟨H0,r0⟩,aR (P:=λz H=>pB X z O H Q) (λ_ h=>h) (λh=>h) q λx v H1 s1 h1 q1=>?_⟩;cases x with
 | bl b=>exact⟨b,Has.bl' h1,q1 H1 s1⟩
 | _=>exact q1.elim
theorem cr {e:Expr} (h:ED C X e F) (he:∀whole,isTrue e X.env whole=(do let v <- whole;standAt e.pos;holding [v] (truthy v)):=by intro _;rfl):TD C X e (tst F) :=
 i3 (Bp h he) λO H Q q=>CQ q
theorem mF (h:OpR X (compareOp op) r) (hf:fu f) (ho:OpD C X r f) (ha:EB C X a Fa) (hb:EB C X b Fb) (hm:behindInMarks op b=false) :
  TD C X (.Compare a [op] [b] pos) (tst (bin f Fa Fb)):=i3 (uD h ha hb hm) λO H Q q=>by
 obtain⟨U,r0,q⟩:=q;refine pi hf ho ⟨U,r0,?_⟩;exact aR (P:=λz H=>pB X z O H Q) (λ_ h=>h) (λh=>h) q λx v H1 s1 h1 q1=>by
  cases x with
  | bl b=>exact⟨b,Has.bl' h1,q1 H1 s1⟩
  | _=>exact q1.elim
def CD (a b:Rho->R Bool):Rho->R Bool:=λU=>(a U).bind λx=>if x=true then b U else .val false
def orB (a b:Rho->R Bool):Rho->R Bool:=λU=>(a U).bind λx=>if x=true then .val true else b U
def eV (a:Rho->R Bool):Rho->R Bool:=λU=>(a U).bind λx=>.val (!x)
def WD (C:Addr) (X:Cx) (e:Expr) (F:Rho->R Bool):Prop:=PW X e (ttD C X F)
theorem uC {e:Expr} {t t':TT} (h:PW X e t) (hw:∀O H Q,t' O H Q->t O H Q):PW X e t':=λwh pins s O H Q I q=>h wh pins s O H Q I (hw O H Q q)
theorem yK {F:Rho->R Bool} (h:TD C X a F):WD C X (.BoolOp .And [a] pos) F:=zb h
theorem fH {F:Rho->R Bool} (h:TD C X a F):WD C X (.BoolOp .Or [a] pos) F:=Bh h
theorem AT {Fa Fb:Rho->R Bool} (ha:TD C X a Fa) (hb:WD C X (.BoolOp .And (b::rest) pos) Fb):WD C X (.BoolOp .And (a::b::rest) pos) (CD Fa Fb) :=
  uC (Bi ha hb) λO H Q yy5=>by
   obtain⟨U,⟨H0,r0⟩,q⟩:=yy5;exact⟨U,⟨H0,r0⟩,jO (P:=λz H=>pB X z O H Q) (λ_ h=>h) (λh=>h) q λx H1 s1 q1=>by
    cases x with
    | true=>rw[if_pos rfl];rw[if_pos rfl]at q1;exact⟨U,⟨H0,r0.mono s1⟩,q1.mono s1⟩
    | false=>rw[if_neg Bool.false_ne_true];rw[if_neg Bool.false_ne_true]at q1;exact q1 H1 s1⟩
theorem fI {Fa Fb:Rho->R Bool} (ha:TD C X a Fa) (hb:WD C X (.BoolOp .Or (b::rest) pos) Fb):WD C X (.BoolOp .Or (a::b::rest) pos) (orB Fa Fb) :=
  uC (C4 ha hb) λO H Q yy6=>by
   obtain⟨U,⟨H0,r0⟩,q⟩:=yy6;exact⟨U,⟨H0,r0⟩,jO (P:=λz H=>pB X z O H Q) (λ_ h=>h) (λh=>h) q λx H1 s1 q1=>by
    cases x with
    | false=>rw[if_neg Bool.false_ne_true];rw[if_neg Bool.false_ne_true]at q1;exact⟨U,⟨H0,r0.mono s1⟩,q1.mono s1⟩
    | true=>rw[if_pos rfl];rw[if_pos rfl]at q1;exact q1 H1 s1⟩
theorem lH {e:Expr} {F:Rho->R Bool} (h:WD C X e F):TD C X e F:=h.pt
theorem cW {F:Rho->R Bool} (h:TD C X a F):TD C X (.UnaryOp .Not a pos) (eV F) :=
  i3 (Bq h) λO H Q yy7=>by
   obtain⟨U,r0,q⟩:=yy7;exact⟨U,r0,jO (P:=λz H=>pB X z O H Q) (λ_ h=>h) (λh=>h) q λx H1 s1 q1=>q1 H1 s1⟩
def yC (a b:Rho->R D):Rho->R D:=λU=>(a U).bind λx=>(asB x).bind λc=>if c=true then b U else .val (.bl false)
def Dd (a:Rho->R D):Rho->R D:=λU=>(a U).bind λx=>(asB x).bind λc=>.val (.bl (!c))
theorem t6 {op} (h:ED C X a F):ED C X (.BoolOp op [a] pos) F:=By h
theorem t7 (ha:ED C X a Fa) (hb:ED C X (.BoolOp .And (b::rest) pos) Fb):ED C X (.BoolOp .And (a::b::rest) pos) (yC Fa Fb) :=
  aJ (BF ha hb) λO H Q yy8=>by
   obtain⟨U,⟨H0,r0⟩,q⟩:=yy8;exact⟨U,⟨H0,r0⟩,aR (P:=λz H=>pV X (dJ C X U O) z O H Q) (λ_ h=>h) (λh=>h) q λx v H1 s1 h1 q1=>by
    cases x with
    | bl c =>
      refine⟨c,Has.bl' h1,?_⟩;cases c with
      | true=>exact zH ⟨U,⟨H0,r0.mono s1⟩,q1.mono s1⟩
      | false=>exact zI (q1 _ H1 s1 (.bl false))
    | _=>exact q1.elim⟩
theorem Cp (h:ED C X a F):ED C X (.UnaryOp .Not a pos) (Dd F) :=
  aJ (Bz h) λO H Q yy10=>by
   obtain⟨U,⟨H0,r0⟩,q⟩:=yy10;exact⟨U,⟨H0,r0⟩,aR (P:=λz H=>pV X (dJ C X U O) z O H Q) (λ_ h=>h) (λh=>h) q λx v H1 s1 h1 q1=>by
    cases x with
    | bl c=>exact⟨c,Has.bl' h1,q1 _ H1 s1 (.bl _)⟩
    | _=>exact q1.elim⟩
def aN:Rho->R (List D):=λ_=>.val []
def aC (a:Rho->R D) (r:Rho->R (List D)):Rho->R (List D):=λU=>(a U).bind λx=>(r U).bind λxs=>.val (x::xs)
theorem aj:AD C X [] aN:=mn cR λO H Q yy12=>by
 obtain⟨U,r0,q⟩:=yy12;exact q [] H (Same.refl _) .nil
theorem ah {e:Expr} {Fr:Rho->R (List D)} (ha:ED C X e Fa) (hr:AD C X es Fr) (hs:starEach (e::es) X.env=(false,eval e X.env)::starEach es X.env:=by rfl):AD C X (e::es) (aC Fa Fr) :=
  mn (bN ha hr hs) λO H Q yy13=>by
   obtain⟨U,⟨H0,r0⟩,q⟩:=yy13;exact⟨U,⟨H0,r0⟩,aR (P:=λz H=>pL X (iW C X U O) z O H Q) (λ_ h=>h) (λh=>h) q λx v H1 s1 h1 q1 =>
    ⟨U,⟨H0,r0.mono s1⟩,dB (P:=λz H=>pL X (iW C X U O) z O H Q) (λ_ h=>h) (λh=>h) (q1.mono s1) λxs vs H2 s2 h2 q2=>q2 _ H2 s2 (.cons (h1.mono (aZ s2)) h2)⟩⟩
def LIM:Nat:=100000
theorem no (h:n<=LIM):n<=sizeLine:=Nat.le_trans h (by decide)
theorem BX (h:n<=LIM):n<sizeLine:=Nat.lt_of_le_of_lt h (by decide)
def mkT (xs:List D):R D:=if xs.length<=LIM then .val (.tup xs)else .bad
def mkL (xs:List D):R D:=if xs.length<=LIM then .val (.lst xs)else .bad
def eT (a:Rho->R (List D)):Rho->R D:=λU=>(a U).bind mkT
def eL (a:Rho->R (List D)):Rho->R D:=λU=>(a U).bind mkL
theorem cj {x1} {F : Rho -> R (List D)} (h : AD C X es F) : ED C X (.Tuple es x1 pos) (eT F) :=
  aJ (xg h) fun O H Q yy14 => by
   obtain ⟨U, ⟨H0, r0⟩, q⟩ := yy14
   exact ⟨U, ⟨H0, r0⟩, dB (P := fun z H => pV X (dJ C X U O) z O H Q) (fun _ h => h) (fun h => h) q fun xs vs H1 s1 h1 q1 => by
    unfold mkT at q1
    split at q1
    · rename_i hl
      refine ⟨by rw [h1.len]; exact no hl, fun p hp => q1 _ _ (s1.trans (aL hp)) ?_⟩
      exact .tup ((r0.mono s1).new hp) (h1.mono (aZ (aL hp)))
    · exact q1.elim⟩
theorem bT {F : Rho -> R (List D)} (h : AD C X es F) : ED C X (.List es pos) (eL F) :=
  aJ (pU h) fun O H Q yy15 => by
   obtain ⟨U, ⟨H0, r0⟩, q⟩ := yy15
   exact ⟨U, ⟨H0, r0⟩, dB (P := fun z H => pV X (dJ C X U O) z O H Q) (fun _ h => h) (fun h => h) q fun xs vs H1 s1 h1 q1 => by
    unfold mkL at q1
    split at q1
    · rename_i hl
      refine ⟨by rw [h1.len]; exact no hl, fun p hp => q1 _ _ (s1.trans (aL hp)) ?_⟩
      exact .lst ((r0.mono s1).new hp) (h1.mono (aZ (aL hp)))
    · exact q1.elim⟩
end
section
variable {C:Addr} {X:Cx} {U:RB} {O:St} {H H':Hp}
def iI (f:Int->Int->R D):D->D->R D
 | .int i,.int j=>f i j
 | _,_=>.bad
theorem jK {f:Int->Int->R D} (h:∀i j c,f i j ≠ .exc c):fu (iI f):=by
 intro x y c;cases x<;>cases y<;>simp[iI]<;>exact h _ _ c
theorem xo {g:Int->Int->V} {f:Int->Int->R D} (h:∀i j z,f i j=.val z->∀K C H,Has K C H (g i j) z):OpD C X (rI0 g) (iI f):=by
 intro U O H v w x y z Q r hx hy e k;cases x with
 | int i =>
  cases y with
  | int j=>exact⟨i,j,hx.int,hy.int,k _ H (Same.refl _) (h i j z e _ _ _)⟩
  | _=>cases e
 | _=>cases e
theorem xp {P:Int->Int->Prop} {g:Int->Int->V} {f:Int->Int->R D} (h:∀i j z,f i j=.val z->P i j/\∀K C H,Has K C H (g i j) z):OpD C X (rI P g) (iI f):=by
 intro U O H v w x y z Q r hx hy e k;cases x with
 | int i =>
  cases y with
  | int j=>exact⟨i,j,hx.int,hy.int,(h i j z e).1,k _ H (Same.refl _) ((h i j z e).2 _ _ _)⟩
  | _=>cases e
 | _=>cases e
def cY (i j:Int):R D:=if(-(2 ^ 64)<i/\i<2 ^ 64)\/(-(2 ^ 64)<j/\j<2 ^ 64)then .val (.int (i*j))else .bad
def a_ (i j:Int):R D:=if 0<j then .val (.int (i%j))else .bad
def dq (i j:Int):R D:=if 0<j/\j<1073741824 then .val (.int (i/j))else .bad
def flt (i j:Int):R D:=.val (.bl (decide (i<j)))
def fgt (i j:Int):R D:=.val (.bl (decide (j<i)))
theorem zm:OpD C X (rI CMul λi j=>.int (i*j)) (iI cY):=xp λi j z e=>by
 unfold cY at e;split at e
 ·cases e;exact⟨‹_›,λ_ _ _=>.int _⟩
 ·cases e
theorem zn:OpD C X (rI (λ_ j=>0<j) λi j=>.int (i%j)) (iI a_):=xp λi j z e=>by
 unfold a_ at e;split at e
 ·cases e;exact⟨‹_›,λ_ _ _=>.int _⟩
 ·cases e
theorem zo:OpD C X (rI DE λi j=>.int (i/j)) (iI dq):=xp λi j z e=>by
 unfold dq at e;split at e
 ·cases e;exact⟨‹_›,λ_ _ _=>.int _⟩
 ·cases e
theorem BI:OpD C X (rI0 λi j=>.bl (decide (i<j))) (iI flt):=xo λi j z e=>by cases e;exact λ_ _ _=>.bl _
theorem BL:OpD C X (rI0 λi j=>.bl (decide (j<i))) (iI fgt):=xo λi j z e=>by cases e;exact λ_ _ _=>.bl _
theorem Bl:fu (iI cY):=jK λi j c e=>by unfold cY at e;split at e<;>cases e
theorem Bm:fu (iI a_):=jK λi j c e=>by unfold a_ at e;split at e<;>cases e
theorem Bn:fu (iI dq):=jK λi j c e=>by unfold dq at e;split at e<;>cases e
theorem C6:fu (iI flt):=jK λi j c e=>by cases e
theorem C9:fu (iI fgt):=jK λi j c e=>by cases e
def ba:D->D->R D
 | .int i,.int j=>.val (.int (i+j))
 | .lst xs,.lst ys=>if xs.length+ys.length<=LIM then .val (.lst (xs++ys))else .bad
 | _,_=>.bad
theorem Brw.lst {K:Frag} {M H:Hp} {v:V} {xs:List D} (s:Same M H) (h:Brw K C M H v (.lst xs)):∃a vs,v=.ref a/\H a=some (.lst vs)/\HasL K C M vs xs:=by
 cases h with
 | cl h=>cases h with
  | lst q h=>exact⟨_,_,rfl,s _ _ q,h⟩
 | own e h=>exact⟨_,_,rfl,e,h⟩
theorem Brw.tup {K:Frag} {M H:Hp} {v:V} {xs:List D} (s:Same M H) (h:Brw K C M H v (.tup xs)):∃a vs,v=.ref a/\H a=some (.tup vs)/\HasL K C M vs xs:=by
 cases h with
 | cl h=>cases h with
  | tup q h=>exact⟨_,_,rfl,s _ _ q,h⟩
theorem Brw.scr {K:Frag} {M H:Hp} {v:V} {ns:List Int} (s:Same M H) (h:Brw K C M H v (.scr ns)):∃a,v=.ref a/\SqL K H a (ns.map V.int):=by
 cases h with
 | cl h=>cases h with
  | scr q=>exact⟨_,rfl,s.seq q⟩
theorem zp:OpD C X (λx y H Q=>rI0 (λi j=>.int (i+j)) x y H Q\/Bg x y H Q) ba:=by
 intro U O H v w x y z Q r hx hy e k;obtain⟨H0,r⟩:=r;cases x with
 | int i =>
  cases y with
  | int j=>cases e;exact .inl ⟨i,j,hx.int,hy.int,k _ H (Same.refl _) (.int _)⟩
  | _=>cases e
 | lst xs =>
  cases y with
  | lst ys =>
   simp only[ba]at e;split at e
   ·rename_i hl;cases e;obtain⟨a,vs,rfl,q1,h1⟩:=hx.lst msk_sub;obtain⟨b,ws,rfl,q2,h2⟩:=hy.lst msk_sub;refine .inr ⟨a,b,vs,ws,rfl,rfl,q1,q2,by rw[h1.len,h2.len];exact no hl,λp hp=>k _ _ (aL hp) ?_⟩;exact .lst (r.new hp) ((h1.app h2).mono (aZ (aL hp)))
   ·cases e
  | _=>cases e
 | _=>cases e
theorem Bo:fu ba:=by
 intro x y c e;unfold ba at e;split at e
 ·cases e
 ·split at e<;>cases e
 ·cases e
theorem zl:OpR X (binaryOp .Add) (λx y H Q=>rI0 (λi j=>.int (i+j)) x y H Q\/Bg x y H Q):=op_add.or xr
def fix:D->D->R D
 | .lst xs,.int i=>match atI xs i with
  | some d=>.val d
  | none=>.bad
 | .tup xs,.int i=>match atI xs i with
  | some d=>.val d
  | none=>.bad
 | .scr ns,.int i=>match atI ns i with
  | some d=>.val (.int d)
  | none=>.bad
 | _,_=>.bad
theorem C7:fu fix:=by
 intro x y c e;unfold fix at e;split at e
 ·split at e<;>cases e
 ·split at e<;>cases e
 ·split at e<;>cases e
 ·cases e
theorem Ao {β:Type} (f:Y->β) (xs:List Y) (i:Int):L2.atI (xs.map f) i=(L2.atI xs i).map f:=by
 unfold L2.atI;rw[List.length_map];cases ixN xs.length i with
 | none=>rfl
 | some j=>simp
theorem HasL.atI {K:Frag} {vs:List V} {xs:List D} {i:Int} {d:D} (h:HasL K C H vs xs) (e:atI xs i=some d):∃v,L2.atI vs i=some v/\Has K C H v d:=by
 unfold L2.atI at e ⊢;rw[h.len];cases q:ixN xs.length i with
 | none=>rw[q]at e;cases e
 | some j =>
  rw[q]at e;exact h.get e
theorem BJ:OpD C X (rIx X.K) fix:=by
 intro U O H v w x y z Q r hx hy e k;unfold fix at e;split at e
 ·rename_i xs i;split at e
  ·rename_i d q;cases e;obtain⟨a,vs,rfl,q1,h1⟩:=hx.lst msk_sub;obtain⟨u,q2,h2⟩:=h1.atI q;exact .inl ⟨a,vs,i,u,rfl,hy.int,SqL.of q1,q2,k _ H (Same.refl _) h2⟩
  ·cases e
 ·rename_i xs i;split at e
  ·rename_i d q;cases e;obtain⟨a,vs,rfl,q1,h1⟩:=hx.tup msk_sub;obtain⟨u,q2,h2⟩:=h1.atI q;exact .inr (.inl ⟨a,vs,i,u,rfl,hy.int,SqT.of q1,q2,k _ H (Same.refl _) h2⟩)
  ·cases e
 ·rename_i ns i;split at e
  ·rename_i d q;cases e;obtain⟨a,rfl,q1⟩:=hx.scr msk_sub;exact .inl ⟨a,_,i,.int d,rfl,hy.int,q1,by rw[Ao,q];rfl,k _ H (Same.refl _) (.int d)⟩
  ·cases e
 ·cases e
theorem cH (ha:EB C X a Fa) (hb:EB C X b Fb):ED C X (.BinOp a .Add b pos) (bin ba Fa Fb):=u6 zl Bo zp ha hb
theorem jw (ha:EB C X a Fa) (hb:EB C X b Fb):ED C X (.BinOp a .Mult b pos) (bin (iI cY) Fa Fb):=u6 BN Bl zm ha hb
theorem cz (ha:EB C X a Fa) (hb:EB C X b Fb):ED C X (.BinOp a .Mod b pos) (bin (iI a_) Fa Fb):=u6 BO Bm zn ha hb
theorem fC (ha:EB C X a Fa) (hb:EB C X b Fb):ED C X (.BinOp a .FloorDiv b pos) (bin (iI dq) Fa Fb):=u6 zr Bn zo ha hb
theorem Ax (ha:EB C X a Fa) (hb:EB C X b Fb):TD C X (.Compare a [.Lt] [b] pos) (tst (bin (iI flt) Fa Fb)):=mF AH C6 BI ha hb (mT _)
theorem oJ (ha:EB C X a Fa) (hb:EB C X b Fb):TD C X (.Compare a [.Gt] [b] pos) (tst (bin (iI fgt) Fa Fb)):=mF Dc C9 BL ha hb (mT _)
theorem au (ha:EB C X a Fa) (hb:EB C X b Fb) (hs:j_ b:=by exact λ_ _=>rfl):ED C X (.Subscript a b pos) (bin fix Fa Fb):=Dz xK C7 BJ ha hb hs
def qj:D->R D
 | .int i=>.val (.int (-i))
 | _=>.bad
def una (f:D->R D) (a:Rho->R D):Rho->R D:=λU=>(a U).bind f
theorem qy (h:EB C X a F):ED C X (.UnaryOp .USub a pos) (una qj F) :=
  aJ (Db AX h) λO H Q yy0=>by
   obtain⟨U,r0,q⟩:=yy0;exact⟨U,r0,aR (P:=λz H=>pV X (dJ C X U O) z O H Q) (λ_ h=>h) (λh=>h) q λx v H1 s1 h1 q1=>by
    cases x with
    | int i=>exact⟨i,h1.int,q1 _ H1 s1 (.int _)⟩
    | _=>exact q1.elim⟩
def nK:D->D
 | .non=>.bl true
 | _=>.bl false
def tW:D->D
 | .non=>.bl false
 | _=>.bl true
theorem Brw.isN {H:Hp} (h:Brw K C M H v d):nK d=.bl (decide (v=.non))/\tW d=.bl (!decide (v=.non)):=by
 cases h with
 | cl h=>cases h<;>simp[nK,tW]
 | own e h=>simp[nK,tW]
theorem Cs {j pos pos'} (h:EB C X a F):ED C X (.Compare a [.Is] [.Constant .none j pos'] pos) (una (λd=>.val (nK d)) F) :=
  aJ (BE (xk h)) λO H Q yy1=>by
   obtain⟨U,r0,q⟩:=yy1;exact⟨U,r0,aR (P:=λz H=>pV X (dJ C X U O) z O H Q) (λ_ h=>h) (λh=>h) q λx v H1 s1 h1 q1=>by
    rw[(h1.isN).1]at q1;exact q1 _ H1 s1 (.bl _)⟩
def chn (f g:Int->Int->Bool) (a b c:Rho->R D):Rho->R D:=λU=>(a U).bind λx=>(b U).bind λy=>match x,y with
 | .int i,.int j=>if f i j=true then(c U).bind λz=>match z with
   | .int k=>.val (.bl (g j k))
   | _=>.bad
  else .val (.bl false)
 | _,_=>.bad
end
variable {k:Nat} {p:Pos} {g:Int->Int->Bool} {Fc:Rho->R D} {st:Stmt} {H0:Hp}
section
variable {C:Addr} {X:Cx} {U:RB} {O:St} {H H':Hp}
theorem oK {f:Int->Int->Bool} {O:St} {H:Hp} (h:teC C X (chn f g Fa Fb Fc) O H Q) :
  tf (rI0 λi j=>.bl (f i j)) (rI0 λi j=>.bl (g i j)) (teB C X Fa) (teB C X Fb) (teB C X Fc) O H Q:=by
 obtain⟨U,⟨H0,r0⟩,q⟩:=h;refine⟨U,⟨H0,r0⟩,aR (P:=λz H=>pV X (dJ C X U O) z O H Q) (λ_ h=>h) (λh=>h) q λx v H1 s1 h1 q1=>?_⟩;refine⟨U,⟨H0,r0.mono s1⟩,aR (P:=λz H=>pV X (dJ C X U O) z O H Q) (λ_ h=>h) (λh=>h) (q1.mono s1) λy w H2 s2 h2 q2=>?_⟩;cases x with
 | int i =>
  cases y with
  | int j =>
   refine⟨i,j,h1.int,h2.int,f i j,rfl,?_⟩;cases e:f i j with
   | false =>
    simp only[e,Bool.false_eq_true,if_false]at q2 ⊢;exact q2 _ H2 s2 (.bl false)
   | true =>
    simp only[e,if_true]at q2 ⊢;refine⟨U,⟨H0,(r0.mono s1).mono s2⟩,aR (P:=λz H=>pV X (dJ C X U O) z O H Q) (λ_ h=>h) (λh=>h) (q2.mono s2) λz w' H3 s3 h3 q3=>?_⟩;cases z with
    | int k=>exact⟨j,k,h2.int,h3.int,q3 _ H3 s3 (.bl _)⟩
    | _=>exact q3.elim
  | _=>exact q2.elim
 | _=>exact q2.elim
theorem yj {c:Expr} {op':CmpOp} {f:Int->Int->Bool} (ho:OpR X (compareOp op) (rI0 λi j=>.bl (f i j))) (ho':OpR X (compareOp op') (rI0 λi j=>.bl (g i j)))
  (ha:EB C X a Fa) (hb:EB C X b Fb) (hc:EB C X c Fc) (hm:lastMarks [op,op'] [b,c]=false:=by with_unfolding_all rfl):ED C X (.Compare a [op,op'] [b,c] pos) (chn f g Fa Fb Fc) :=
 aJ (xj ho ho' ha hb hc hm) λO H Q q=>oK q
theorem qO {c:Expr} {op':CmpOp} {f:Int->Int->Bool} (ho:OpR X (compareOp op) (rI0 λi j=>.bl (f i j))) (ho':OpR X (compareOp op') (rI0 λi j=>.bl (g i j)))
  (ha:EB C X a Fa) (hb:EB C X b Fb) (hc:EB C X c Fc) (hm:lastMarks [op,op'] [b,c]=false:=by with_unfolding_all rfl):TD C X (.Compare a [op,op'] [b,c] pos) (tst (chn f g Fa Fb Fc)) :=
 i3 (wV ho ho' ha hb hc hm) λO H Q q=>by
  obtain⟨U,r0,q⟩:=q;refine oK ⟨U,r0,?_⟩;exact aR (P:=λz H=>pB X z O H Q) (λ_ h=>h) (λh=>h) q λx v H1 s1 h1 q1=>by
   cases x with
   | bl b=>exact⟨b,Has.bl' h1,q1 H1 s1⟩
   | _=>exact q1.elim
def dI (f:Nat):D->R D
 | .ob e r t=>match f with
  | 0=>.val e
  | 1=>.val r
  | _=>.val t
 | _=>.bad
theorem e_ {e:Expr} {f:Str} (h:EB C X e F) (c:Cls X.K C) (n:NoAttr X.K C f) (hb:attributeBase e f X.env (eval e X.env)=eval e X.env)
    (hk:∀ve vr vt,(Dv ve vr vt).lookup f=some (match k with|0=>ve|1=>vr|_=>vt)):ED C X (.Attribute e f pos) (una (dI k) F) :=
  aJ (BD h hb) λO H Q yy0=>by
   obtain⟨U,r0,q⟩:=yy0;exact⟨U,r0,aR (P:=λz H=>pV X (dJ C X U O) z O H Q) (λ_ h=>h) (λh=>h) q λx v H1 s1 h1 q1=>by
    cases x with
    | ob de dr dt =>
      cases h1 with
      | cl h1 =>
        cases h1 with
        | @ob a dx ve vr vt _ _ _ e1 g1 g2 g3 =>
          refine⟨a,C,dx,_,_,rfl,msk_sub _ _ e1,c,n,hk ve vr vt,?_⟩
          match k with
          | 0=>exact q1 _ H1 s1 g1
          | 1=>exact q1 _ H1 s1 g2
          | _+2=>exact q1 _ H1 s1 g3
    | _=>exact q1.elim⟩
def aA:D->R D
 | .lst xs=>.val (.int xs.length)
 | .tup xs=>.val (.int xs.length)
 | .scr ns=>.val (.int ns.length)
 | _=>.bad
theorem Cr {e:Expr} (h:EB C X e F) (hg:Gl X "len") (hm:X.mg "len"=none) (hst:starEach [e] X.env=(false,eval e X.env)::starEach [] X.env:=by rfl)
    (hs:∀t:TA,PA X [e] t->PE X (.Call (.Name "len" p) [e] [] pos) (tCB (λxs H Q=>∃p ys,xs=[.ref p]/\(SqL X.K H p ys\/SqT X.K H p ys)/\Q (.int ys.length) H) t):=by
      exact λt ha=>fM j8 (by assumption) (by assumption) PySem.boot_len ha):ED C X (.Call (.Name "len" p) [e] [] pos) (una aA F) :=
  aJ (hs _ (bN h cR hst)) λO H Q yy1=>by
   obtain⟨U,r0,q⟩:=yy1;exact⟨U,r0,aR (P:=λz H=>pV X (dJ C X U O) z O H Q) (λ_ h=>h) (λh=>h) q λx v H1 s1 h1 q1=>by
    cases x with
    | lst xs =>
      obtain⟨a,vs,rfl,e1,h2⟩:=h1.lst msk_sub;exact⟨a,vs,rfl,.inl (SqL.of e1),q1 _ H1 s1 (by rw[h2.len];exact .int _)⟩
    | tup xs =>
      obtain⟨a,vs,rfl,e1,h2⟩:=h1.tup msk_sub;exact⟨a,vs,rfl,.inr (SqT.of e1),q1 _ H1 s1 (by rw[h2.len];exact .int _)⟩
    | scr ns =>
      obtain⟨a,rfl,e1⟩:=h1.scr msk_sub;exact⟨a,_,rfl,.inl e1,q1 _ H1 s1 (by rw[List.length_map];exact .int _)⟩
    | _=>exact q1.elim⟩
def zR:List D->R D
 | [.int i,.int j]=>.val (.int (if j>i then j else i))
 | _=>.bad
def qz (F:Rho->R (List D)):Rho->R D:=λU=>(F U).bind zR
theorem yh {F : Rho -> R (List D)} (hc : X.calm = true) (h : AD C X [a, b] F) (hg : Gl X "max") (hm : X.mg "max" = none)
    (hs : ∀ t : TA, PA X [a, b] t -> PE X (.Call (.Name "max" p) [a, b] [] pos) (tCB (fun xs H Q => ∃ i j, xs = [.int i, .int j] /\ Q (.int (if j > i then j else i)) H) t) := by
      exact fun t ha => fM (kW (by assumption)) (by assumption) (by assumption) PySem.boot_max ha) : ED C X (.Call (.Name "max" p) [a, b] [] pos) (qz F) :=
  aJ (hs _ h) fun O H Q yy2 => by
   obtain ⟨U, r0, q⟩ := yy2
   exact ⟨U, r0, dB (P := fun z H => pV X (dJ C X U O) z O H Q) (fun _ h => h) (fun h => h) q fun xs vs H1 s1 h1 q1 => by
    unfold zR at q1
    split at q1
    · rename_i i j
      cases h1 with
      | cons a1 b1 => cases b1 with
        | cons a2 b2 => cases b2; cases a1; cases a2; exact ⟨i, j, rfl, q1 _ H1 s1 (.int _)⟩
    · exact q1.elim⟩
def pF (Rl:Hp->List V->List D->Prop) (r:R (List D)) (O:St) (H:Hp) (Q:VK):Prop:=match r with
 | .val xs=>∀a vs H1,Same H H1->H1 a=none->Rl H1 vs xs->Q (.ref a) (upd H1 a (.lst vs))
 | .exc c=>XE X c O H
 | .bad=>False
variable (C X) in
def teF (F:Rho->R (List D)):TE:=λO H Q=>∃U:RB,(∃H0,cN C X H0 U O H)/\pF (X:=X) (iW C X U O) (F U) O H Q
variable (C X) in
def FD (e:Expr) (F:Rho->R (List D)):Prop:=PE X e (teF C X F)
def BW (r:R (List D)):R D:=r.bind λxs=>.val (.lst xs)
def eLs (F:Rho->R (List D)):Rho->R D:=λU=>BW (F U)
theorem cV {e:Expr} {F:Rho->R (List D)} (h:FD C X e F):ED C X e (eLs F):=aJ h λO H Q yy3=>by
 obtain⟨U,⟨H0,r0⟩,q⟩:=yy3;exact⟨U,⟨H0,r0⟩,by
  unfold eLs at q;cases e:F U with
  | val xs =>
    rw[e]at q;exact λa vs H1 s1 hn h1=>q _ _ (s1.trans (aL hn)) (.lst ((r0.mono s1).new hn) (h1.mono (aZ (aL hn))))
  | exc c=>rw[e]at q;exact q
  | bad=>rw[e]at q;exact q⟩
def lim (r:R (List D)):R (List D):=r.bind λxs=>if xs.length<=LIM then .val xs else .bad
def fS (F:Rho->R (List D)):Rho->R (List D):=λU=>lim (F U)
theorem iD {F : Rho -> R (List D)} (h : AD C X es F) : FD C X (.List es pos) (fS F) :=
  aJ (pU h) fun O H Q yy4 => by
   obtain ⟨U, ⟨H0, r0⟩, q⟩ := yy4
   exact ⟨U, ⟨H0, r0⟩, dB (P := fun z H => pF (X := X) (iW C X U O) z O H Q) (fun _ h => h) (fun h => h) q fun xs vs H1 s1 h1 q1 => by
    split at q1
    · rename_i hl
      exact ⟨by rw [h1.len]; exact no hl, fun p hp => q1 p vs H1 s1 hp h1⟩
    · exact q1.elim⟩
def itD:D->R (List D)
 | .lst xs=>.val xs
 | .tup xs=>.val xs
 | .scr ns=>.val (ns.map .int)
 | _=>.bad
def fIt (F:Rho->R D):Rho->R (List D):=λU=>(F U).bind itD
theorem zT {e:Expr} (h:EB C X e F) (hg:Gl X "list") (hm:X.mg "list"=none) (hst:starEach [e] X.env=(false,eval e X.env)::starEach [] X.env:=by rfl)
    (hs:∀t:TA,PA X [e] t->PE X (.Call (.Name "list" p) [e] [] pos) (tCB (λxs H Q=>∃p ys,xs=[.ref p]/\(SqL X.K H p ys\/SqT X.K H p ys)/\∀l,H l=none->Q (.ref l) (upd H l (.lst ys))) t):=by
      exact λt ha=>cO j7 (by assumption) (by assumption) PySem.boot_list ha):FD C X (.Call (.Name "list" p) [e] [] pos) (fIt F) :=
  aJ (hs _ (bN h cR hst)) λO H Q yy5=>by
   obtain⟨U,r0,q⟩:=yy5;exact⟨U,r0,aR (P:=λz H=>pF (X:=X) (iW C X U O) z O H Q) (λ_ h=>h) (λh=>h) q λx v H1 s1 h1 q1=>by
    cases x with
    | lst xs =>
      obtain⟨a,vs,rfl,e1,h2⟩:=h1.lst msk_sub;exact⟨a,vs,rfl,.inl (SqL.of e1),λl hl=>q1 l vs H1 s1 hl h2⟩
    | tup xs =>
      obtain⟨a,vs,rfl,e1,h2⟩:=h1.tup msk_sub;exact⟨a,vs,rfl,.inr (SqT.of e1),λl hl=>q1 l vs H1 s1 hl h2⟩
    | scr ns =>
      obtain⟨a,rfl,e1⟩:=h1.scr msk_sub;exact⟨a,_,rfl,.inl e1,λl hl=>q1 l _ H1 s1 hl (HasL.ints ns)⟩
    | _=>exact q1.elim⟩
def je:D->R D
 | .lst xs=>.val (.tup xs)
 | .tup xs=>.val (.tup xs)
 | _=>.bad
theorem j4 {e:Expr} (h:EB C X e F) (hg:Gl X "tuple") (hm:X.mg "tuple"=none) (hst:starEach [e] X.env=(false,eval e X.env)::starEach [] X.env:=by rfl)
    (hs:∀t:TA,PA X [e] t->PE X (.Call (.Name "tuple" p) [e] [] pos) (tCB (λxs H Q=>∃p ys,xs=[.ref p]/\((SqL X.K H p ys/\∀l,H l=none->Q (.ref l) (upd H l (.tup ys)))\/(SqT X.K H p ys/\Q (.ref p) H))) t):=by
      exact λt ha=>cO dw (by assumption) (by assumption) PySem.boot_tuple ha):ED C X (.Call (.Name "tuple" p) [e] [] pos) (una je F) :=
  aJ (hs _ (bN h cR hst)) λO H Q yy6=>by
   obtain⟨U,⟨H0,r0⟩,q⟩:=yy6;exact⟨U,⟨H0,r0⟩,aR (P:=λz H=>pV X (dJ C X U O) z O H Q) (λ_ h=>h) (λh=>h) q λx v H1 s1 h1 q1=>by
    cases x with
    | lst xs =>
      obtain⟨a,vs,rfl,e1,h2⟩:=h1.lst msk_sub;exact⟨a,vs,rfl,.inl ⟨SqL.of e1,λl hl=>q1 _ _ (s1.trans (aL hl)) (.tup ((r0.mono s1).new hl) (h2.mono (aZ (aL hl))))⟩⟩
    | tup xs =>
      cases h1 with
      | cl h1 =>
        cases h1 with
        | tup e1 h2=>exact⟨_,_,rfl,.inr ⟨SqT.of (msk_sub _ _ e1),q1 _ H1 s1 (.tup e1 h2)⟩⟩
    | _=>exact q1.elim⟩
def sq (a b:Rho->R Out):Rho->R Out:=λU=>(a U).bind λo=>match o with
 | .nx U'=>b U'
 | o=>.val o
def nxt:Rho->R Out:=λU=>.val (.nx U)
def asg (i:Nat) (e:Rho->R D):Rho->R Out:=λU=>(e U).bind λd=>.val (.nx (U.set i (some (.shr d))))
def own (i:Nat) (e:Rho->R (List D)):Rho->R Out:=λU=>(e U).bind λxs=>.val (.nx (U.set i (some (.own xs))))
def ret (e:Rho->R D):Rho->R Out:=λU=>(e U).bind λd=>.val (.rt d)
def drp (e:Rho->R D):Rho->R Out:=λU=>(e U).bind λ_=>.val (.nx U)
def iff (t:Rho->R Bool) (a b:Rho->R Out):Rho->R Out:=λU=>(t U).bind λc=>if c=true then a U else b U
def bad:Rho->R Out:=λ_=>.bad
theorem aK:SDs C X [] nxt:=dQ uE λD O H yy7=>by
 obtain⟨_,H0,⟨U,rfl,r⟩,q⟩:=yy7;exact q O H r.e
theorem ao {rest:List Stmt} {F G:Rho->R Out} (h1:SD C X st F) (h2:SDs C X rest G):SDs C X (st::rest) (sq F G) :=
 dQ (fL h1 h2) λD O H zz0=>by
  obtain⟨_,H0,⟨U,rfl,r⟩,q⟩:=zz0;refine⟨U,H0,r.e,?_⟩;unfold sq at q;cases e:F U with
  | val o =>
   rw[e]at q;cases o with
   | nx U'=>exact λσ' H' r'=>⟨U',H0,r',q⟩
   | rt d=>exact q
   | bk U'=>exact q
   | ct U'=>exact q
  | exc c=>rw[e]at q;exact q
  | bad=>rw[e]at q;exact q
theorem al {F:Rho->R Out} (h:SD C X st F):SDs C X [st] F:=gj h
theorem cX {Dn:jC} {U:RB} {O:St} {H:Hp} (r:cN C X H0 U O H) (h:pS C X (.exc c) H0 Dn):XE X c O H:=XS.xe (r.keep.trans msk_sub) h
theorem Bc {e:Expr} {pos':Pos} (hN:X.N.Nodup) (hi:X.N[i]?=some x) (hx:Loc X.env.scope x) (he:ED C X e F) (hs:swapsWith e (some (.Name x pos')) pos.line X.env=pure false:=by rfl)
    (hf:X.fn x=true\/X.env.scope.names.lookup x=some .local:=by first|exact .inl rfl|exact .inr rfl|assumption):SD C X (.Assign [.Name x pos'] e pos) (asg i F) :=
  bq (ky hN hi hx he hs hf) λD O H yy8=>by
   obtain⟨_,H0,⟨U,rfl,r⟩,q⟩:=yy8;exact⟨U,⟨H0,r⟩,aR (P:=λz _=>pS C X z H0 D) (λc h=>cX r h) (λh=>h) q λd v H1 s1 h1 q1=>q1 _ _ ⟨_,rfl,(r.mono s1).setShr h1⟩⟩
theorem jp {e:Expr} {pos':Pos} {F:Rho->R (List D)} (hN:X.N.Nodup) (hi:X.N[i]?=some x) (hx:Loc X.env.scope x) (he:FD C X e F) (hs:swapsWith e (some (.Name x pos')) pos.line X.env=pure false:=by rfl)
    (hf:X.fn x=true\/X.env.scope.names.lookup x=some .local:=by first|exact .inl rfl|exact .inr rfl|assumption):SD C X (.Assign [.Name x pos'] e pos) (own i F) :=
  bq (ky hN hi hx he hs hf) λD O H yy9=>by
   obtain⟨_,H0,⟨U,rfl,r⟩,q⟩:=yy9;exact⟨U,⟨H0,r⟩,by
    unfold own at q;cases e:F U with
    | val xs =>
      rw[e]at q;exact λa vs H1 s1 hn h1=>q _ _ ⟨_,rfl,(r.mono s1).setOwn hn h1⟩
    | exc c=>rw[e]at q;exact cX r q
    | bad=>rw[e]at q;exact q⟩
theorem aU {e:Expr} (he:ED C X e F):SD C X (.Return (some e) pos) (ret F) :=
  bq (pM he) λD O H yy10=>by
   obtain⟨_,H0,⟨U,rfl,r⟩,q⟩:=yy10;exact⟨U,⟨H0,r⟩,aR (P:=λz _=>pS C X z H0 D) (λc h=>cX r h) (λh=>h) q λd v H1 s1 h1 q1=>q1 v H1 ((r.mono s1).keep.trans msk_sub) (h1.mono msk_sub)⟩
theorem jE {e:Expr} (he:EB C X e F) (hs:swapsWith e none pos.line X.env=pure false:=by rfl):SD C X (.Expr e pos) (drp F) :=
  bq (i4 he hs) λD O H yy11=>by
   obtain⟨_,H0,⟨U,rfl,r⟩,q⟩:=yy11;exact⟨U,⟨H0,r⟩,aR (P:=λz _=>pS C X z H0 D) (λc h=>cX r h) (λh=>h) q λd v H1 s1 h1 q1=>q1 _ _ (r.mono s1).e⟩
theorem bo {c:Expr} {a b:List Stmt} {Ft:Rho->R Bool} {Fa Fb:Rho->R Out} (hc:TD C X c Ft) (ha:SDs C X a Fa) (hb:SDs C X b Fb):SD C X (.If c a b pos) (iff Ft Fa Fb) :=
  bq (AE hc ha hb) λD O H yy12=>by
   obtain⟨_,H0,⟨U,rfl,r⟩,q⟩:=yy12;exact⟨U,⟨H0,r⟩,jO (P:=λz _=>pS C X z H0 D) (λc h=>cX r h) (λh=>h) q λc H1 s1 q1=>by
    cases c with
    | true=>exact zH ⟨U,H0,(r.mono s1).e,q1⟩
    | false=>exact zI ⟨U,H0,(r.mono s1).e,q1⟩⟩
theorem dL:SD C X st bad:=bq wY λD O H yy13=>by
 obtain⟨_,H0,⟨U,rfl,r⟩,q⟩:=yy13;exact q
def frz (i:Nat) (U:Rho):Rho:=match U[i]? with
 | some (some (.own xs))=>U.set i (some (.shr (.lst xs)))
 | some (some (.tre _ d))=>U.set i (some (.shr d))
 | _=>U
theorem Rel.frz {K:Frag} {H0:Hp} {U:Rho} (r:wt K C H0 U O H) (i:Nat):wt K C H0 (DL.frz i U) O H:=by
 obtain⟨U,rfl,r⟩:=r;unfold DL.frz;split
 ·exact⟨_,rfl,r.freeze ‹_›⟩
 ·exact⟨_,rfl,r.thaw ‹_›⟩
 ·exact r.e
theorem yS {sts:List Stmt} {F:Rho->R Out} (i:Nat) (h:SDs C X sts F):SDs C X sts (λU=>F (frz i U)):=dQ h λD O H yy16=>by
 obtain⟨U,H0,r,q⟩:=yy16;exact⟨frz i U,H0,Rel.frz r i,q⟩
def app (i:Nat) (e:Rho->R D):Rho->R Out:=λU=>match U[i]? with
 | some (some (.own xs))=>(e U).bind λd=>if xs.length<LIM then .val (.nx (U.set i (some (.own (xs++[d])))))else .bad
 | _=>.bad
theorem io {e:Expr} {ap cp:Pos} (hv:PE X (.Name x p) (dD i)) (he:ED C X e F)
  (hs:∀{to:TE} {t:TA},PE X (.Name x p) to->PA X [e] t->PS X (.Expr (.Call (.Attribute (.Name x p) "append" ap) [e] [] cp) pos) (lg (tBM X.K "list" mf to t)):=by
   exact λho ha=>i4 (oP PySem.F.plainAttrs_list PySem.F.slot_list_append PySem.F.type_list_append i7 ho ha))
  (hst:starEach [e] X.env=(false,eval e X.env)::starEach [] X.env:=by rfl) :
  SD C X (.Expr (.Call (.Attribute (.Name x p) "append" ap) [e] [] cp) pos) (app i F) :=
 bq (hs hv (bN he cR hst)) λD O H zz1=>by
  obtain⟨_,H0,⟨U,rfl,r⟩,q⟩:=zz1;unfold app at q;split at q
  ·rename_i xs e0;obtain⟨a,vs,e1,_,h1,h2⟩:=r.at_ i _ e0;refine⟨_,e1,.inl ⟨rfl,_,SqL.of h1⟩,U,⟨H0,r⟩,aR (P:=λz _=>pS C X z H0 D) (λc h=>cX r h) (λh=>h) q λd v H1 s1 h3 q1=>?_⟩;split at q1
   ·rename_i hl;have h2':=h2.mono (aZ (U:=U) (O:=O) s1);refine⟨a,vs,v,rfl,rfl,s1 _ _ h1,by rw[h2.len];exact Nat.lt_of_lt_of_le hl (by decide),?_⟩;exact q1 _ _ ⟨_,rfl,(r.mono s1).write e0 e1 (h2'.app (.cons h3 .nil))⟩
   ·exact q1.elim
  ·exact q.elim
end
def B_:HO->Bool
 | .lst _=>true
 | .ins _ _ _=>true
 | .own _=>true
 | .ext _=>true
 | _=>false
structure Hid (H:Hp) (h:Heap) (zs:List Addr):Prop where
 kind:∀z∈zs,∃o,H z=some o/\B_ o=true
 insd:∀z∈zs,∀c dx fs,H z=some (.ins c dx fs)->dx∈zs
 own:∀z∈zs,∀a,H z=some (.own a)->a∈zs
 obj:∀z∈zs,∃o,h.get? z=some o/\∀v,o.data ≠ .cell v
def cut (zs:List Addr) (H:Hp):Hp:=λb=>if b∈zs then none else H b
def jn (zs:List Addr) (H M:Hp):Hp:=λb=>if b∈zs then H b else M b
variable {zs:List Addr}
theorem cut_some {b:Addr}:cut zs H b=some o↔b∉zs/\H b=some o:=by
 unfold cut;by_cases h:b∈zs
 ·rw[if_pos h];exact⟨λe=>(by cases e),λe=>absurd h e.1⟩
 ·rw[if_neg h];exact⟨λe=>⟨h,e⟩,λe=>e.2⟩
theorem fq {b:Addr} (h:b∈zs):cut zs H b=none:=by unfold cut;rw[if_pos h]
theorem iw {b:Addr} (h:b∈zs):jn zs H M b=H b:=by unfold jn;rw[if_pos h]
theorem bM {b:Addr} (h:b∉zs):jn zs H M b=M b:=by unfold jn;rw[if_neg h]
section
variable {X:Cx} {pins:List (Addr×Obj)} {O:St} {H M:Hp} {s s':Shared} {zs:List Addr}
theorem _root_.L2.Inv.hide (I:Inv X pins O H s) (Z:Hid H s.heap zs):Inv X (pins++dm zs s.heap) O (cut zs H) s:=by
 have nk:∀b o,H b=some o->B_ o=false->b∉zs:=λb o e k hb=>by
  obtain⟨o',e',k'⟩:=Z.kind b hb;rw[e]at e';cases e';rw[k]at k';cases k'
 have nz:∀b,H b=none->b∉zs:=λb e hb=>by
  obtain⟨o',e',k'⟩:=Z.kind b hb;rw[e]at e';cases e'
 have none':∀b,H b=none->cut zs H b=none:=λb e=>by unfold cut;split<;>first|rfl|exact e
 have I1:Inv X pins O (cut zs H) s:=by
  refine⟨I.ok,I.os,I.bare,⟨I.base.keep,I.base.slot,λb o q n hx=>none' b (I.base.free b o q n hx),I.base.there,λb xs e=>?_,λb o u e=>?_,λb ps e=>?_⟩,I.loc,I.cell,none' _ I.free,λx c e=>none' _ (I.freeC x c e),λp hp=>?_,λa o e=>?_,I.len⟩
  ·have e1:=I.base.tups b xs e;exact cut_some.mpr ⟨nk b _ e1 rfl,e1⟩
  ·have e1:=I.base.frzs b o u e;exact cut_some.mpr ⟨nk b _ e1 rfl,e1⟩
  ·obtain⟨more,e1⟩:=I.base.tbls b ps e;exact⟨more,cut_some.mpr ⟨nk b _ e1 rfl,e1⟩⟩
  ·obtain⟨h1,h2,h3⟩:=I.pin p hp;exact⟨h1,none' _ h2,h3⟩
  ·obtain⟨h1,h2⟩:=cut_some.mp e;refine(I.hok a o h2).stay (λb u _ q=>q) (λb q=>cut_some.mpr ⟨λhb=>h1 (Z.own b hb a q),q⟩) λb xs q=>cut_some.mpr ⟨nk b _ q rfl,q⟩
 refine I1.pins_of λp hp=>?_;rcases List.mem_append.mp hp with hp|hp
 ·exact I1.pin p (List.mem_append_right _ hp)
 ·obtain⟨h1,h2⟩:=i6 hp;obtain⟨o',e',k'⟩:=Z.kind p.1 h1;obtain⟨o,e,d⟩:=Z.obj p.1 h1;rw[h2]at e;cases e;refine⟨h2,fq h1,λz=>?_,λz=>?_,d⟩
  ·rw[z,I.free]at e';cases e'
  ·rw[I.frn _ z]at e';cases e'
theorem _root_.L2.Inv.showG {pins' pins'':List (Addr×Obj)} (I:Inv X pins O H s) (Z:Hid H s.heap zs) (J:Inv X pins' σ' M s') (h1:∀p∈dm zs s.heap,p∈pins') (h2:∀p∈pins'',p∈pins'/\H p.1=none):Inv X pins'' σ' (jn zs H M) s'/\∀z∈zs,M z=none:=by
 have nk:∀b o,H b=some o->B_ o=false->b∉zs:=λb o e k hb=>by
  obtain⟨o',e',k'⟩:=Z.kind b hb;rw[e]at e';cases e';rw[k]at k';cases k'
 have nz:∀b,H b=none->b∉zs:=λb e hb=>by
  obtain⟨o',e',k'⟩:=Z.kind b hb;rw[e]at e';cases e'
 have pin:∀z∈zs,∀o,s.heap.get? z=some o->s'.heap.get? z=some o/\M z=none:=λz hz o e=>by
  have q:=J.pin (z,o) (List.mem_append_right _ (h1 _ (fN hz e)));exact⟨q.1,q.2.1⟩
 have mz:∀z∈zs,M z=none:=λz hz=>by
  obtain⟨o,e,_⟩:=Z.obj z hz;exact(pin z hz o e).2
 have none':∀b,H b=none->M b=none->jn zs H M b=none:=λb e e'=>by rw[bM (nz b e)];exact e'
 refine⟨⟨J.ok,J.os,J.bare,⟨J.base.keep,J.base.slot,λb o q n hx=>none' b (I.base.free b o q n hx) (J.base.free b o q n hx),J.base.there,λb xs e=>?_,λb o u e=>?_,λb ps e=>?_⟩,J.loc,J.cell,none' _ I.free J.free,λx c e=>none' _ (I.freeC x c e) (J.freeC x c e),λp hp=>?_,λa o e=>?_,J.len⟩,mz⟩
 ·rw[bM (nk b _ (I.base.tups b xs e) rfl)];exact J.base.tups b xs e
 ·rw[bM (nk b _ (I.base.frzs b o u e) rfl)];exact J.base.frzs b o u e
 ·obtain⟨more,e1⟩:=I.base.tbls b ps e;rw[bM (nk b _ e1 rfl)];exact J.base.tbls b ps e
 ·rcases List.mem_append.mp hp with hp|hp
  ·obtain⟨q1,q2,q3⟩:=J.pin p (List.mem_append_left _ hp);exact⟨q1,none' _ (I.pin p (List.mem_append_left _ hp)).2.1 q2,q3⟩
  ·obtain⟨q1,q2,q3⟩:=J.pin p (List.mem_append_right _ (h2 p hp).1);exact⟨q1,none' _ (h2 p hp).2 q2,q3⟩
 ·by_cases ha:a∈zs
  ·rw[iw ha]at e;obtain⟨o',e',k'⟩:=Z.kind a ha;rw[e]at e';cases e';have ok:=I.hok a o e;have same:∀u,s.heap.get? a=some u->s'.heap.get? a=some u:=λu q=>(pin a ha u q).1;cases o with
   | lst xs=>obtain⟨z,its,n,r,e1⟩:=ok;exact⟨z,its,n,r,same _ e1⟩
   | own y=>obtain⟨u,e1⟩:=ok;exact⟨u,same _ e1⟩
   | ext φ=>obtain⟨p,⟨u,e1⟩,st⟩:=ok;exact⟨st _ _ p λo q=>same o q,⟨u,same _ e1⟩,st⟩
   | ins c dx fs =>
    obtain⟨d,z,ne,e1,mA,⟨od,es,ep,e2,rest⟩,r⟩:=ok;have hd:dx∈zs:=Z.insd a ha c dx fs e;exact⟨by rw[iw hd];exact d,z,ne,same _ e1,mA,⟨od,es,ep,(pin dx hd _ e2).1,rest⟩,r⟩
   | _=>cases k'
  ·rw[bM ha]at e;refine(J.hok a o e).stay (λb u _ q=>q) (λb q=>?_) λb xs q=>?_
   ·rw[bM λhb=>by rw[mz b hb]at q;cases q];exact q
   ·rw[bM λhb=>by rw[mz b hb]at q;cases q];exact q
theorem _root_.L2.Inv.show' (I:Inv X pins O H s) (Z:Hid H s.heap zs) (J:Inv X (pins++dm zs s.heap) O M s'):Inv X pins O (jn zs H M) s'/\∀z∈zs,M z=none :=
 I.showG Z J (λp hp=>List.mem_append_right _ hp) λp hp=>⟨List.mem_append_left _ hp,(I.pin p (List.mem_append_right _ hp)).2.1⟩
end
def cu (U:RB) (O:St):List Addr:=(List.range U.rho.length).flatMap U.ad
variable {U:RB}
theorem fO {b:Addr} (hb:∀(i:Nat) a,a∈U.ad i->i<U.rho.length):b∈cu U O↔Own U O b:=by
 unfold cu;rw[List.mem_flatMap];exact⟨λ⟨i,_,h⟩=>⟨i,h⟩,λ⟨i,h⟩=>⟨i,List.mem_range.mpr (hb i b h),h⟩⟩
theorem fB (hb:∀(i:Nat) a,a∈U.ad i->i<U.rho.length):msk U O H=cut (cu U O) H:=by
 funext b
 unfold msk cut;by_cases h:Own U O b
 ·rw[if_pos h,if_pos ((fO hb).mpr h)]
 ·rw[if_neg h,if_neg λz=>h ((fO hb).mp z)]
theorem Rel.hid {pins:List (Addr×Obj)} (r:cN C X H0 U O H) (I:Inv X pins O H s):Hid H s.heap (cu U O):=by
 have key:∀z∈cu U O,(∃vs,H z=some (.lst vs))\/∃xs,H z=some (j6 z xs):=λz hz=>by
  obtain⟨i,h⟩:=(fO r.bnd).mp hz;exact r.kin i z h
 refine⟨λz hz=>?_,λz hz c dx fs e=>?_,λz hz a e=>?_,λz hz=>?_⟩
 ·rcases key z hz with⟨vs,e⟩|⟨vs,e⟩<;>exact⟨_,e,rfl⟩
 ·rcases key z hz with⟨vs,e'⟩|⟨vs,e'⟩<;>(rw[e]at e';cases e')
 ·rcases key z hz with⟨vs,e'⟩|⟨vs,e'⟩<;>(rw[e]at e';cases e')
 ·rcases key z hz with⟨vs,e'⟩|⟨vs,e'⟩
  ·obtain⟨_,its,n,_,e1⟩:=I.hok z _ e';exact⟨_,e1,λv q=>by cases q⟩
  ·obtain⟨⟨_,_,o,es,ep,e1,_,e2,_⟩,_⟩:=I.hok z _ e';exact⟨o,e1,λv q=>by rw[e2]at q;cases q⟩
def spD (K:Frag) (C:Addr) (n:Nat) (den:List D->R D):Sp:=λvs H Q _=>vs.length=n/\∃ds,HasL K C H vs ds/\match den ds with
 | .val d=>∀v H',Same H H'->Has K C H' v d->Q v H'
 | _=>False
section
variable {C:Addr} {X:Cx}
def noex:R D->R D
 | .val d=>.val d
 | _=>.bad
def cal (n:Nat) (den:List D->R D) (a:Rho->R (List D)):Rho->R D:=λU=>(a U).bind λds=>if ds.length=n then noex (den ds)else .bad
theorem Ad {CX:CXT} {f:Addr} {fd:FuncData} {ps:List Str} {den:List D->R D} {e:Expr} {Fa:Rho->R (List D)}
  (F:FnOk X.prog X.w X.K X.mg X.base CX k f fd ps (spD X.K C n den)) (hr:Room k X.A) (hg:Gl X x) (hm:X.mg x=some (.ref f)) (hk:keepIn X.K (.ref f)=true) (hb:Binds X.K fd ps []) (hx:qM CX X E0)
  (ha:AD C X (e::es) Fa) (hdb:(x==("__debug__":Str))=false:=by decide) (he:starEach (e::es) X.env=(false,eval e X.env)::starEach es X.env:=by rfl) (hpl:(backTo pos (starEach es X.env)).any (·.1)=false:=by rfl) :
  ED C X (.Call (.Name x p) (e::es) [] pos) (cal n den Fa):=by
 rintro pins s O H Q I ⟨U,⟨H0,r0⟩,q⟩;refine wpAny_Call_Name_kw (gl I hg hm ?_ hdb);refine callWith_K (h₀:=X.base) I.ok.mod.kin hk (thn (ha pos pins s O H (λvs H1=>∃ds d,ds.length=n/\Same H H1/\iW C X U O H1 vs ds/\den ds=.val d/\∀v H',Same H H'->dJ C X U O H' v d->Q v H') I
  ⟨U,⟨H0,r0⟩,dB (P:=λz H=>pV X (dJ C X U O) z O H Q) (λ_ h=>h) (λh=>h) q λds vs H1 s1 h1 q1=>?_⟩) λus s1 ⟨vs,H1,I1,rv,ds,d,hl,s1',h1,e1,q1⟩=>⟨I1.kIn,?_⟩) he hpl
 ·split at q1
  ·rename_i hl;cases e1:den ds with
   | val d=>rw[e1]at q1;exact⟨ds,d,hl,s1,h1,e1,q1⟩
   | exc c=>rw[e1]at q1;exact q1.elim
   | bad=>rw[e1]at q1;exact q1.elim
  ·exact q1.elim
 ·have r1:=r0.mono s1';have Z:=Rel.hid r1 I1;have J:=I1.hide Z;refine thn (kt (E:=E0) (Q:=λv M'=>Same (cut (cu U O) H1) M'/\Has X.K C M' v d) F hr hb .nil hx J rv ?_) λu s2 ⟨v,M',J2,ru,sm,hv⟩=>?_
  ·rw[List.append_nil];refine⟨h1.len.trans hl,ds,by rw[<- fB r0.bnd];exact h1,?_⟩;rw[e1];exact λv H' s2 h2=>⟨s2,h2⟩
  ·obtain⟨I2,mz⟩:=I1.show' Z J2;have sj:Same H1 (jn (cu U O) H1 M'):=λb o eb=>by
    by_cases hb:b∈cu U O
    ·rw[iw hb];exact eb
    ·rw[bM hb];exact sm b o (cut_some.mpr ⟨hb,eb⟩)
   have em:msk U O (jn (cu U O) H1 M')=M':=by
    rw[fB r0.bnd]
    funext b
    by_cases hb:b∈cu U O
    ·rw[fq hb,mz b hb]
    ·unfold cut;rw[if_neg hb,bM hb]
   exact⟨v,_,I2,ru,q1 v _ (s1'.trans sj) (by show Has _ _ (msk U O _) v d;rw[em];exact hv)⟩
end
def tgN (i:Nat):D->Rho->Option Rho:=λx U=>some (U.set i (some (.shr x)))
def tg2 (i j:Nat):D->Rho->Option Rho:=λx U=>match x with
 | .tup [a,b]=>some ((U.set i (some (.shr a))).set j (some (.shr b)))
 | _=>none
variable {tg:Expr} {ix:List Nat} {T:D->Rho->Option Rho}
section
variable {C:Addr} {X:Cx}
variable (C X) in
def gtD (ix:List Nat) (T:D->Rho->Option Rho):TG:=λv O H Q=>∃(U:RB) (H0:Hp) (x:D) (U':Rho),cN C X H0 U O H/\dJ C X U O H v x/\T x U=some U'/\∀(σ':St) (β:RB),β.rho=U'->(∀j:Nat,β.ad j=if j∈ix then[]else U.ad j)->cN C X H0 β σ' H->(∀j:Nat,j∉ix->σ'[j]?=O[j]?)->Q σ' H
variable (C X) in
def GD (tg:Expr) (ix:List Nat) (T:D->Rho->Option Rho):Prop:=PG X tg (gtD C X ix T)
theorem uI {t t':TG} (h:PG X tg t) (hw:∀v O H Q,t' v O H Q->t v O H Q):PG X tg t':=λpins s O H v u Q I r q=>h pins s O H v u Q I r (hw v O H Q q)
theorem pJ (j:Nat):(U.put i (.shr d) []).ad j=if j=i then[]else U.ad j:=by
 unfold RB.put;dsimp only;split
 ·split<;>rfl
 ·rfl
theorem pY:Same (msk U O H) (msk (U.put i (.shr d) []) σ' H):=λb o eb=>by
 obtain⟨h1,h2⟩:=msk_some.mp eb;refine msk_some.mpr ⟨λ⟨j,z⟩=>?_,h2⟩;rcases d5 z with⟨_,_,z⟩|⟨_,z⟩
 ·cases z
 ·exact h1 ⟨j,z⟩
theorem zN (hN:X.N.Nodup) (hi:X.N[i]?=some x) (hx:Loc X.env.scope x) (hf:X.fn x=true\/X.env.scope.names.lookup x=some .local:=by first|exact .inl rfl|exact .inr rfl|assumption) :
  GD C X (.Name x pos) [i] (tgN i):=uI (aD hN hi hx hf) λv O H Q zz0=>by
 obtain⟨U,H0,x,U',r,h,e,k⟩:=zz0;cases e;exact k _ _ rfl (λj=>by rw[pJ];by_cases e1:j=i<;>simp[e1]) (r.setShr h) λj hj=>List.getElem?_set_ne λz=>hj (by simp[z])
theorem cS {y:Str} {px py:Pos} (hc:X.calm=true) (h1:PG X (.Name x px) (fR i)) (h2:PG X (.Name y py) (fR j))
  (hs1:(assignEach [.Name x px,.Name y py] X.env).map (·.2)=assign (.Name x px) X.env::(assignEach [.Name y py] X.env).map (·.2):=by rfl)
  (hs2:(assignEach [.Name y py] X.env).map (·.2)=assign (.Name y py) X.env::(assignEach [] X.env).map (·.2):=by rfl)
  (hn:(assignEach [.Name x px,.Name y py] X.env).length=2:=by rfl) (hst:(assignEach [.Name x px,.Name y py] X.env).findIdx? (·.1)=none:=by rfl) :
  GD C X (.Tuple [.Name x px,.Name y py] n pos) [i,j] (tg2 i j):=uI (w9 hc (jN h1 (jN h2 uH hs2) hs1) hn hst) λv O H Q zz1=>by
 obtain⟨U,H0,d,U',r,h,e,k⟩:=zz1;unfold tg2 at e;split at e
 ·rename_i a b;cases e;cases h with
  | tup q hl =>
   cases hl with
   | @cons va _ _ _ ha hl =>
    cases hl with
    | @cons vb _ _ _ hb hl =>
     cases hl;refine⟨_,_,rfl,SqT.of (msk_sub _ _ q),rfl,va,_,rfl,vb,_,rfl,rfl,?_⟩;have r1:=r.setShr (i:=i) ha;refine k _ _ rfl (λm=>?_) (r1.setShr (i:=j) (hb.mono pY)) λm hm=>?_
     ·rw[pJ,pJ];by_cases e1:m=i<;>by_cases e2:m=j<;>simp[e1,e2]
     ·rw[List.getElem?_set_ne λz=>hm (by simp[z]),List.getElem?_set_ne λz=>hm (by simp[z])]
 ·cases e
def asT (T:D->Rho->Option Rho) (e:Rho->R D):Rho->R Out:=λU=>(e U).bind λd=>match T d U with
 | some U'=>.val (.nx U')
 | none=>.bad
theorem wL {e : Expr} (he : ED C X e F) (hg : GD C X tg ix T) (hs : swapsWithSole [tg] e pos.line X.env = pure false := by rfl) (hw : swappedStores [tg] e X.env = pure none := by rfl)
    (h1 : (assignEach [tg] X.env).map (·.2) = [assign tg X.env] := by rfl) : SD C X (.Assign [tg] e pos) (asT T F) :=
  bq (tJ he hg hs hw h1) fun D O H yy0 => by
   obtain ⟨_, H0, ⟨U, rfl, r⟩, q⟩ := yy0
   exact ⟨U, ⟨H0, r⟩, aR (P := fun z _ => pS C X z H0 D) (fun c h => cX r h) (fun h => h) q fun d v H1 s1 h1 q1 => by
    split at q1
    · rename_i U' e1
      exact ⟨U, H0, d, U', r.mono s1, h1, e1, fun σ' β eb _ r' _ => q1 σ' H1 ⟨β, eb, r'⟩⟩
    · exact q1.elim⟩
structure sQ (K:Frag) (C:Addr) (J:It) (xs:List D) (M:Hp):Prop where
 go:∀(i:Nat) x H2,Same M H2->xs[i]?=some x->J.go i H2/\∀v H3,J.yld i H2 v H3->Same H2 H3/\∀U O,(∀b,Own U O b->H2 b≠none)->Same M (msk U O H2)->Has K C (msk U O H3) v x
 stop:∀H2,Same M H2->J.stop xs.length H2
variable (C X) in
def itI (F:Rho->R (List D)):TI:=λO H Rk=>∃U:RB,(∃H0,cN C X H0 U O H)/\match F U with
 | .val xs=>∀J H',Same H H'->sQ X.K C J xs (msk U O H')->Rk J H'
 | .exc c=>XE X c O H
 | .bad=>False
variable (C X) in
def ID (tg iter:Expr) (F:Rho->R (List D)):Prop:=PI X tg iter (itI C X F)
theorem pT {e:Expr} {t t':TI} (h:PI X tg e t) (hw:∀O H Q,t' O H Q->t O H Q):PI X tg e t':=λpins s O H R I q=>h pins s O H R I (hw O H R q)
theorem vx {a:Addr} (e:M a=some (.lst vs)) (h:HasL K C M vs xs):sQ K C (Itl K a) xs M where
 go:=λi x H2 s hx=>by
  obtain⟨v,e1,h1⟩:=h.get hx;refine⟨⟨vs,v,SqL.of (s _ _ e),e1⟩,λv' H3 y=>?_⟩;obtain⟨rfl,y⟩:=y;have e2:=y vs (SqL.of (s _ _ e));rw[e1]at e2;cases e2;exact⟨Same.refl _,λU O _ m=>h1.mono m⟩
 stop:=λH2 s=>⟨vs,SqL.of (s _ _ e),by rw[h.len];exact Nat.le_refl _⟩
theorem wu {a:Addr} (e:M a=some (.tup vs)) (h:HasL K C M vs xs):sQ K C (Itt K a) xs M where
 go:=λi x H2 s hx=>by
  obtain⟨v,e1,h1⟩:=h.get hx;refine⟨⟨vs,v,SqT.of (s _ _ e),e1⟩,λv' H3 y=>?_⟩;obtain⟨rfl,y⟩:=y;have e2:=y vs (SqT.of (s _ _ e));rw[e1]at e2;cases e2;exact⟨Same.refl _,λU O _ m=>h1.mono m⟩
 stop:=λH2 s=>⟨vs,SqT.of (s _ _ e),by rw[h.len];exact Nat.le_refl _⟩
theorem wv {a:Addr} {ns:List Int} (e:SqL K M a (ns.map V.int)):sQ K C (Itl K a) (ns.map D.int) M where
 go:=λi x H2 s hx=>by
  obtain⟨v,e1,h1⟩:=(HasL.ints (K:=K) (C:=C) (H:=M) ns).get hx;refine⟨⟨_,v,s.seq e,e1⟩,λv' H3 y=>?_⟩;obtain⟨rfl,y⟩:=y;have e2:=y _ (s.seq e);rw[e1]at e2;cases e2;exact⟨Same.refl _,λU O _ m=>h1.mono m⟩
 stop:=λH2 s=>⟨_,s.seq e,by simp⟩
def rng (lo:Int) (n:Nat):List D:=(List.range n).map λ(k:Nat)=>D.int (lo+(k:Int))
theorem ww {lo:Int}:sQ K C (Itr lo n) (rng lo n) M where
 go:=λi x H2 s hx=>by
  have hi:i<n:=by have:=(List.getElem?_eq_some_iff.mp hx).1;simpa[rng]using this
  refine⟨hi,λv H3 y=>?_⟩;obtain⟨rfl,rfl⟩:=y;refine⟨Same.refl _,λU O _ m=>?_⟩;have:x=.int (lo+(i:Int)):=by
   unfold rng at hx;rw[List.getElem?_map,List.getElem?_range hi]at hx;exact(Option.some.inj hx).symm
  rw[this];exact .int _
 stop:=λH2 s=>by simp[rng,Itr]
theorem w8 {l:Expr} {tl:TE} (hl:PE X l tl):PI X tg l (λO H R=>tl O H λx H1=>∃a,x=.ref a/\(((∃xs,SqL X.K H1 a xs)/\R (Itl X.K a) H1)\/((∃xs,SqT X.K H1 a xs)/\R (Itt X.K a) H1))):=by
 intro pins s O H R I h;refine thn (hl pins s O H _ I h) λv s1 zz3=>?_;obtain⟨x,H1,I1,r1,q1⟩:=zz3;obtain⟨a,e,q1⟩:=q1;subst e;cases r1;rcases q1 with⟨⟨xs,hq⟩,q⟩|⟨⟨xs,hq⟩,q⟩
 ·obtain⟨its,rv,p,hz⟩:=I1.list hq;refine wpAny_pyIter_list p.isList ?_;refine⟨s1.heap.objs.size,[s1.heap.objs.size],_,_,H1,rfl,I1.kept (t':=s1.toks) λb o e=>Heap.get?_push_of_some _ e,oI a _,⟨_,Heap.get?_push_size _ rfl,rfl,rfl⟩,λb hb=>?_,q⟩;have e:b=s1.heap.objs.size:=by simpa using hb
  subst e;exact I1.fpOk (Nat.le_refl _) (I1.hok.fresh (Nat.le_refl _))
 ·obtain⟨its,rv,p,hz⟩:=I1.tuple hq;refine wpAny_pyIter_tuple (show s1.heap.IsTuple a its.toArray from p) ?_;refine⟨s1.heap.objs.size,[s1.heap.objs.size],_,_,H1,rfl,I1.kept (t':=s1.toks) λb o e=>Heap.get?_push_of_some _ e,sY a _,⟨_,Heap.get?_push_size _ rfl,rfl,rfl⟩,λb hb=>?_,q⟩;have e:b=s1.heap.objs.size:=by simpa using hb
  subst e;exact I1.fpOk (Nat.le_refl _) (I1.hok.fresh (Nat.le_refl _))
theorem bA {e:Expr} (h:ED C X e F):ID C X tg e (fIt F):=pT (w8 h) λO H R yy2=>by
 obtain⟨U,⟨H0,r⟩,q⟩:=yy2;exact⟨U,⟨H0,r⟩,by
  unfold fIt at q;cases e:F U with
  | val d =>
    rw[e]at q;intro v H1 s1 h1;cases h1 with
    | lst e1 h1=>exact⟨_,rfl,.inl ⟨⟨_,SqL.of (msk_sub _ _ e1)⟩,q _ H1 s1 (vx e1 h1)⟩⟩
    | tup e1 h1=>exact⟨_,rfl,.inr ⟨⟨_,SqT.of (msk_sub _ _ e1)⟩,q _ H1 s1 (wu e1 h1)⟩⟩
    | scr e1=>exact⟨_,rfl,.inl ⟨⟨_,msk_sub.seq e1⟩,q _ H1 s1 (wv e1)⟩⟩
    | _=>exact q.elim
  | exc c=>rw[e]at q;exact q
  | bad=>rw[e]at q;exact q⟩
def on:List D->R (List D)
 | [.int j]=>if -(2 ^ 62)<=j/\j<2 ^ 62 then .val (rng 0 j.toNat)else .bad
 | _=>.bad
def bF (F:Rho->R (List D)):Rho->R (List D):=λU=>(F U).bind on
theorem bH {F : Rho -> R (List D)} (hg : Gl X "range") (hm : X.mg "range" = none) (ha : AD C X [a] F) (hs : starEach [a] X.env = [(false, eval a X.env)] := by rfl) :
    ID C X tg (.Call (.Name "range" p) [a] [] pos) (bF F) := pT (vM hg hm ha hs) fun O H R yy3 => by
     obtain ⟨U, ⟨H0, r⟩, q⟩ := yy3
     exact ⟨U, ⟨H0, r⟩, by
  unfold bF at q
  cases e : F U with
  | val ds =>
    rw [e] at q
    dsimp only [DL.R.bind] at q
    intro vs H1 s1 h1
    unfold on at q
    split at q
    · rename_i e0
      split at e0
      · rename_i j
        split at e0
        · rename_i hj
          cases e0
          cases h1 with
          | cons a b => cases a; cases b; exact ⟨j, rfl, hj.1, hj.2, q _ H1 s1 ww⟩
        · cases e0
      · cases e0
    · rename_i e0
      split at e0
      · split at e0 <;> cases e0
      · cases e0
    · exact q.elim
  | exc c => rw [e] at q; exact q
  | bad => rw [e] at q; exact q⟩
def bz (T:D->Rho->Option Rho) (F:Rho->R Out):List D->Rho->R Out
 | [],U=>.val (.nx U)
 | x::xs,U=>match T x U with
  | some U1=>(F U1).bind λo=>match o with
   | .nx U2=>bz T F xs U2
   | .ct U2=>bz T F xs U2
   | .bk U2=>.val (.nx U2)
   | .rt d=>.val (.rt d)
  | none=>.bad
def bh (src:Rho->R (List D)) (T:D->Rho->Option Rho) (F:Rho->R Out):Rho->R Out:=λU=>(src U).bind λxs=>bz T F xs U
theorem xS {src:Rho->R (List D)} {F:Rho->R Out} {D:jC} (h:tsD C X (bh src T F) D O H):CO (itI C X src) (gtD C X ix T) (tsD C X F) D O H:=by
 obtain⟨_,H0,⟨U,rfl,r⟩,q⟩:=h;refine⟨U,⟨H0,r⟩,?_⟩;unfold bh at q;cases e:src U with
 | exc c=>rw[e]at q;exact cX r q
 | bad=>rw[e]at q;exact q
 | val xs =>
  rw[e]at q;intro J H1 s1 wk;have r1:=r.mono s1;have hM:Same H0 (msk U O H1):=r1.keep;refine⟨λi m σ' H'=>m=xs.length-i/\i<=xs.length/\∃U':RB,cN C X (msk U O H1) U' σ' H'/\pS C X (bz T F (xs.drop i) U') H0 D,⟨xs.length,rfl,Nat.zero_le _,U,r1.rebase,q⟩,?_⟩;rintro i m σ' H' ⟨rfl,hi,U',r',q'⟩;have sm:Same (msk U O H1) H':=r'.keep.trans msk_sub;by_cases hlt:i<xs.length
  ·have ex:xs[i]?=some xs[i]:=by simp[hlt]
   have ed:xs.drop i=xs[i]::xs.drop (i+1):=List.drop_eq_getElem_cons hlt;rw[ed]at q';obtain⟨go,yld⟩:=wk.go i _ H' sm ex;refine .inr ⟨go,λO2 H2=>∃U2:RB,cN C X (msk U O H1) U2 O2 H2/\pS C X (bz T F (xs.drop (i+1)) U2) H0 D,λO2 H2 ⟨U2,r2,q2⟩=>⟨xs.length-(i+1),by omega,rfl,hlt,U2,r2,q2⟩,λv H3 y=>?_⟩;obtain⟨s3,hv⟩:=yld v H3 y;have hv':=hv U' σ' (λb ob=>r'.ownAt ob) r'.keep;unfold bz at q';split at q'
   ·rename_i U1 e1;refine⟨U',_,xs[i],U1,r'.mono s3,hv',e1,λO2 β eb _ r2 _=>⟨U1,_,⟨β,eb,r2⟩,?_⟩⟩;cases eF:F U1 with
    | val o =>
     rw[eF]at q';cases o with
     | nx U2=>exact λO4 H4 ⟨β4,e4,r4⟩=>⟨β4,r4,by rw[e4];exact q'⟩
     | ct U2=>exact λO4 H4 ⟨β4,e4,r4⟩=>⟨β4,r4,by rw[e4];exact q'⟩
     | bk U2=>exact λO4 H4 ⟨β4,e4,r4⟩=>q' O4 H4 ⟨β4,e4,r4.base hM⟩
     | rt d=>exact λv4 H4 s4 h4=>q' v4 H4 (hM.trans s4) h4
    | exc c=>rw[eF]at q';exact XS.mono hM q'
    | bad=>rw[eF]at q';exact q'
   ·exact q'.elim
  ·have ei:i=xs.length:=by omega
   subst ei;rw[List.drop_length]at q';exact .inl ⟨wk.stop H' sm,q' σ' H' (r'.base hM).e⟩
theorem bp {iter:Expr} {body:List Stmt} {src:Rho->R (List D)} {F:Rho->R Out} (hp:PassesOwn (model X.prog X.w) X.A X.env X.xe) (hc:X.calm=true) (hi:ID C X tg iter src) (hg:GD C X tg ix T) (hb:SDs C X body F)
  (hs:∀x,foldedSetIterable iter X.env x=pure x:=by intro _;rfl):SD C X (.For tg iter body [] pos) (bh src T F) :=
 bq (pO hp hc hi hg hb hs) λD O H h=>xS h
end
def st0 (N:List Str) (ds:List D):Rho:=ds.map (λd=>some (.shr d))++List.replicate (N.length-ds.length) none
def fin:R Out->R D
 | .val (.nx _)=>.val .non
 | .val (.rt d)=>.val d
 | .val _=>.bad
 | .exc c=>.exc c
 | .bad=>.bad
variable {N:List Str}
theorem yQ {ds:List D} (h:(st0 N ds)[i]?=some (some sl)):∃d,sl=.shr d/\ds[i]?=some d:=by
 unfold st0 at h;by_cases hi:i<ds.length
 ·rw[List.getElem?_append_left (by simpa using hi),List.getElem?_map]at h;cases e:ds[i]? with
  | none=>rw[e]at h;cases h
  | some d=>rw[e]at h;cases h;exact⟨d,rfl,rfl⟩
 ·rw[List.getElem?_append_right (by simpa using hi),List.getElem?_replicate]at h;split at h<;>cases h
theorem ku {ds:List D} (h:HasL K C H vs ds):wt K C H (st0 N ds) (L2.start N vs) H:=by
 have sub:Same H (msk ⟨st0 N ds,λ_=>[]⟩ (L2.start N vs) H):=λb o e=>msk_some.mpr ⟨λ⟨_,z⟩=>(List.not_mem_nil z).elim,e⟩;refine⟨⟨st0 N ds,λ_=>[]⟩,rfl,?_,sub,λi sl e=>?_,λi j a z=>(List.not_mem_nil z).elim,λi a z=>(List.not_mem_nil z).elim,λi a z=>(List.not_mem_nil z).elim⟩
 ·show(st0 N ds).length=_;unfold st0 L2.start;simp[h.len]
 ·obtain⟨d,rfl,e1⟩:=yQ e;obtain⟨v,e2,h2⟩:=h.get e1;refine⟨v,?_,h2.mono sub⟩;have hi:i<vs.length:=(List.getElem?_eq_some_iff.mp e2).1;unfold L2.start;rw[List.getElem?_append_left (by simpa using hi),List.getElem?_map,e2];rfl
section
variable {P:Program} {w:World} {K:Frag} {mg:Str->Option Value} {base:Heap} {C:Addr}
theorem be {qual:Str} {f:Addr} {fd:FuncData} {ps:List Str} {den:Rho->R Out} (F:Fun K x qual st f fd) (sc:aF N ps (ar st))
  (hb:∀(cdv:Value) (A:Around) (outer:List Env) (s:Shared) (H:Hp) (E:XK),Room k (A.deeper (envOfC qual (ar st) s.heap.objs.size f cdv)) ->
   SDs C (ii CX0 P w K mg base N qual (ar st) f cdv A outer s H E).nox (cJ st) den) :
  FnOk P w K mg base CX0 (k+1) f fd ps (spD K C ps.length λds=>fin (den (st0 N ds))):=by
 refine F.ok sc (λvs H Q E h=>h.1) (λcdv A outer s H vs Q E hr h=>⟨_,hb cdv A outer s H E hr,?_⟩);obtain⟨_,ds,h,q⟩:=h;refine⟨st0 N ds,H,ku h,?_⟩;dsimp only at q;cases e:den (st0 N ds)with
 | val o =>
  rw[e]at q;cases o with
  | nx U'=>exact λσ' H' ⟨_,_,r⟩=>q _ H' (r.keep.trans msk_sub) .non
  | rt d=>exact λv H' s' h'=>q v H' s' h'
  | bk U'=>exact q.elim
  | ct U'=>exact q.elim
 | exc c=>rw[e]at q;exact q.elim
 | bad=>rw[e]at q;exact q.elim
end
def Dy (scope:Scope) (env:Env) (L:Addr) (cs:List (Str×Addr)):Env :=
 {scope:=relabel scope env,locals:=L,globals:=env.globals,cells:=cs,qual:=env.qual,func:=none,code:=env.code,frame:=env.frame,builtins:=env.builtins }
def B7 (o:Option NameKind):Bool:=match o with
 | some .cell=>true
 | _=>false
def kc (o:Option NameKind):Bool:=match o with
 | some .cell=>true
 | some .free=>true
 | _=>false
def cxC (X:Cx) (N':List Str) (scope:Scope) (L:Addr) (cs:List (Str×Addr)) (s:Shared) (H:Hp) (fp:List Addr):Cx :=
 {prog:=X.prog,w:=X.w,K:=X.K,mg:=X.mg,base:=X.base,A:=X.A,N:=N',s₀:=s,H₀:=H,env:=Dy scope X.env L cs,outer:=X.stack,stack:=X.stack,ex:=fp,
  fn:=λx=>B7 (scope.names.lookup x),calm:=X.calm,pn:=[],xe:=λ_ _=>False }
def yt (N:List Str) (env:Env) (sc:Scope):List Str->Nat->Bool
 | [],_=>true
 | x::r,i=>(match sc.names.lookup x with
   | some .free=>(match N[i]? with|some y=>y==x|none=>false)&&kc (env.kindOf x)
   | some .local=>Nat.ble N.length i
   | some .cell=>Nat.ble N.length i
   | _=>true)&&yt N env sc r (i+1)
def fK (env:Env) (x:Str) (k:NameKind):Bool:=match k with
 | .free=>kc (env.kindOf x)
 | _=>true
def Al (env:Env):List (Str×NameKind)->Bool
 | []=>true
 | p::r=>fK env p.1 p.2&&Al env r
def lK (k:NameKind) (o:Option NameKind):Bool:=match k,o with
 | .local,some .local=>true
 | .local,_=>false
 | .free,some .free=>true
 | .free,_=>false
 | .cell,some .cell=>true
 | .cell,_=>false
 | _,_=>true
def Ak (names:List (Str×NameKind)):List (Str×NameKind)->Bool
 | []=>true
 | p::r=>lK p.2 (names.lookup p.1)&&Ak names r
theorem Di {k:NameKind} {o:Option NameKind} (h:lK k o=true) (hk:k=.local\/k=.free\/k=.cell):o=some k:=by
 rcases hk with rfl|rfl|rfl
 ·cases o with
  | none=>cases h
  | some j=>cases j<;>first|rfl|cases h
 ·cases o with
  | none=>cases h
  | some j=>cases j<;>first|rfl|cases h
 ·cases o with
  | none=>cases h
  | some j=>cases j<;>first|rfl|cases h
def ub (N N':List Str) (env:Env) (sc:Scope):Bool:=yt N env sc N' 0&&(Al env sc.names&&(Ak sc.names sc.names&&(Nat.ble N.length N'.length&&(match sc.kind with | .function=>true|_=>false))))
theorem qf {o:Option NameKind} (h:kc o=true):o=some .cell\/o=some .free:=by
 unfold kc at h;split at h<;>simp_all
theorem vo {N:List Str} {env:Env} {sc:Scope}:∀{l:List Str} {k i:Nat} {x:Str},yt N env sc l k=true->l[i]?=some x ->
  (sc.names.lookup x=some .free->N[k+i]?=some x/\kc (env.kindOf x)=true)/\((sc.names.lookup x=some .local\/sc.names.lookup x=some .cell)->N.length<=k+i)
 | [],_,_,_,_,e=>by simp at e
 | y::r,k,0,x,h,e=>by
  simp at e;subst e;rw[yt,Bool.and_eq_true]at h;obtain⟨h,_⟩:=h;refine⟨λz=>?_,λz=>?_⟩
  ·rw[z]at h;simp only[Bool.and_eq_true]at h;obtain⟨h1,h2⟩:=h;refine⟨?_,h2⟩;split at h1
   ·rename_i w e1;rw[Nat.add_zero,e1,beq_iff_eq.mp h1]
   ·cases h1
  ·rcases z with z|z<;>(rw[z]at h;exact Nat.le_of_ble_eq_true h)
 | y::r,k,i+1,x,h,e=>by
  rw[yt,Bool.and_eq_true]at h;have q:=vo (k:=k+1) (i:=i) (x:=x) h.2 (by simpa using e);rw[show k+(i+1)=k+1+i by omega];exact q
theorem qG {env:Env}:∀{l:List (Str×NameKind)} {x:Str},Al env l=true->(x,NameKind.free)∈l->kc (env.kindOf x)=true
 | [],_,_,h=>by cases h
 | p::r,x,h,m=>by
  have h:fK env p.1 p.2=true/\Al env r=true:=Bool.and_eq_true_iff.mp h;rcases List.mem_cons.mp m with e|m
  ·subst e;exact h.1
  ·exact qG h.2 m
theorem mB {names:List (Str×NameKind)}:∀{l:List (Str×NameKind)} {x:Str} {k:NameKind},Ak names l=true->(x,k)∈l->(k=.local\/k=.free\/k=.cell)->names.lookup x=some k
 | [],_,_,_,h,_=>by cases h
 | p::r,x,k,h,m,hk=>by
  have h:lK p.2 (names.lookup p.1)=true/\Ak names r=true:=Bool.and_eq_true_iff.mp h;rcases List.mem_cons.mp m with e|m
  ·subst e;exact Di h.1 hk
  ·exact mB h.2 m hk
def cSt (x:Str) (k:NameKind) (o:Option Addr) (acc:List (Str×Addr)):List (Str×Addr):=match k,o with
 | .free,some c=>(x,c)::acc
 | _,_=>acc
def dH (env:Env):List (Str×NameKind)->List (Str×Addr)->List (Str×Addr)
 | [],acc=>acc
 | p::r,acc=>dH env r (cSt p.1 p.2 (env.cells.lookup p.1) acc)
theorem qJ {k:NameKind} {o:Option Addr} {acc:List (Str×Addr)} (h:k ≠ .free):cSt x k o acc=acc:=by
 cases k with
 | free=>exact absurd rfl h
 | _=>rfl
theorem n8 {k:NameKind} {acc:List (Str×Addr)}:cSt x k none acc=acc:=by cases k<;>rfl
theorem vm {env:Env} {scope:Scope} (h:∀x,(x,NameKind.free)∈scope.names->∃c,env.cells.lookup x=some c):closureFor scope env=pure (dH env scope.names []):=by
 unfold closureFor;have gen:∀(l:List (Str×NameKind)) (acc:List (Str×Addr)) (f:Str×NameKind->List (Str×Addr)->Sem (ForInStep (List (Str×Addr)))),(∀x,(x,NameKind.free)∈l->∃c,env.cells.lookup x=some c) ->
   (∀n k cs,f (n,k) cs=if(k==NameKind.free)=true then(do let a <- cellOf env n;pure (ForInStep.yield ((n,a)::cs)))else pure (ForInStep.yield cs))->forIn l acc f=pure (dH env l acc):=by
  intro l
  induction l with
  | nil=>intro acc f _ _;rfl
  | cons y r ih =>
   intro acc f hc hf;obtain⟨n,k⟩:=y;rw[List.forIn_cons,hf];have ih':=λacc=>ih acc f (λx hx=>hc x (List.mem_cons_of_mem _ hx)) hf;by_cases hk:k=.free
   ·subst hk;obtain⟨c,e⟩:=hc n List.mem_cons_self;rw[if_pos (by rfl)];unfold cellOf;rw[e];simp only[pure_bind];rw[ih'];show pure (dH env r ((n,c)::acc))=pure (dH env r (cSt n .free (env.cells.lookup n) acc));rw[e];rfl
   ·have hb:(k==NameKind.free)=false:=by simpa using hk
    rw[hb,if_neg Bool.false_ne_true,pure_bind];show forIn r acc f=_;rw[ih'];show _=pure (dH env r (cSt n k (env.cells.lookup n) acc));rw[qJ hk]
 dsimp only;rw[gen scope.names [] _ h]
 ·rfl
 ·intro n k cs;cases hb:k==NameKind.free<;>simp[hb]
theorem n0 {env:Env}:∀{l:List (Str×NameKind)} {acc:List (Str×Addr)} {x:Str} {c:Addr},(dH env l acc).lookup x=some c->(∀c',acc.lookup x=some c'->env.cells.lookup x=some c')->env.cells.lookup x=some c
 | [],acc,x,c,e,h=>h c e
 | (y,k)::r,acc,x,c,e,h=>by
  have e:(dH env r (cSt y k (env.cells.lookup y) acc)).lookup x=some c:=e;refine n0 e λc' e'=>?_;by_cases hk:k=.free
  ·subst hk;cases e0:env.cells.lookup y with
   | none=>rw[e0,n8]at e';exact h c' e'
   | some c0 =>
    rw[e0]at e';have e':((y,c0)::acc).lookup x=some c':=e';rw[List.lookup_cons]at e';cases hb:x==y with
    | true=>rw[hb]at e';cases e';rw[beq_iff_eq.mp hb];exact e0
    | false=>rw[hb]at e';exact h c' e'
  ·rw[qJ hk]at e';exact h c' e'
theorem kS {env:Env} {x:Str} {c:Addr} (hc:env.cells.lookup x=some c):∀{l:List (Str×NameKind)} {acc:List (Str×Addr)},((x,NameKind.free)∈l\/acc.lookup x=some c)->(dH env l acc).lookup x=some c
 | [],acc,h=>h.elim (λz=>by cases z) id
 | (y,k)::r,acc,h=>by
  show(dH env r (cSt y k (env.cells.lookup y) acc)).lookup x=some c;refine kS hc ?_;rcases h with h|h
  ·rcases List.mem_cons.mp h with e|h
   ·cases e;right;rw[hc];show((x,c)::acc).lookup x=some c;rw[List.lookup_cons,beq_self_eq_true]
   ·exact .inl h
  ·right;by_cases hk:k=.free
   ·subst hk;cases e0:env.cells.lookup y with
    | none=>rw[n8];exact h
    | some c0 =>
     show((y,c0)::acc).lookup x=some c;rw[List.lookup_cons];cases hb:x==y with
     | true=>rw[<- beq_iff_eq.mp hb,hc]at e0;exact e0.symm
     | false=>exact h
   ·rw[qJ hk];exact h
theorem mC:∀{names:List (Str×NameKind)} {n:Nat} {acc:List (Str×Addr)} {x:Str} {c:Addr},(cellsFrom n names acc).lookup x=some c->acc.lookup x=some c\/(n<=c/\(x,NameKind.cell)∈names)
 | [],_,_,_,_,e=>.inl e
 | (y,k)::r,n,acc,x,c,e=>by
  unfold cellsFrom at e;split at e
  ·rename_i hk;rcases mC e with q|⟨q,m⟩
   ·rw[List.lookup_cons]at q;cases hb:x==y with
    | true=>rw[hb]at q;cases q;rw[beq_iff_eq.mp hb,beq_iff_eq.mp hk];exact .inr ⟨Nat.le_refl _,List.mem_cons_self⟩
    | false=>rw[hb]at q;exact .inl q
   ·exact .inr ⟨Nat.le_of_succ_le q,List.mem_cons_of_mem _ m⟩
  ·rcases mC e with q|⟨q,m⟩
   ·exact .inl q
   ·exact .inr ⟨q,List.mem_cons_of_mem _ m⟩
theorem qH:∀{names:List (Str×NameKind)} {n:Nat} {acc:List (Str×Addr)} {x:Str},(x,NameKind.cell)∉names->(cellsFrom n names acc).lookup x=acc.lookup x
 | [],_,_,_,_=>rfl
 | (y,k)::r,n,acc,x,h=>by
  unfold cellsFrom;split
  ·rename_i hk;rw[qH λm=>h (List.mem_cons_of_mem _ m),List.lookup_cons];cases hb:x==y with
   | true=>exact absurd (by rw[beq_iff_eq.mp hb,beq_iff_eq.mp hk];exact List.mem_cons_self) h
   | false=>rfl
  ·exact qH λm=>h (List.mem_cons_of_mem _ m)
theorem yJ {M:Model} {A:Around} {E:Value->Shared->Prop} {scope:Scope} {cl:List (Str×Addr)} {env:Env} {Q:Env->Shared->Prop}
  (h:Q { scope:=scope,locals:=s.heap.objs.size,globals:=env.globals,cells:=cellsFrom (s.heap.objs.size+1) scope.names cl,qual:=env.qual,func:=none,code:=env.code,frame:=env.frame,builtins:=env.builtins }
   {s with heap:=pushCells (s.heap.push { cls:=.type "dict",data:=.dict #[] }) scope.names }):wpAny M A (newFunctionEnv scope env.globals cl [] env.qual none .none (some env)) Q E s:=by
 simp only[newFunctionEnv,Option.isSome_some,if_true];refine wpAny_bind (wpAny_alloc ?_);refine wpAny_bind (wpAny_layCells _ (λname kind cells=>by cases hkc:kind==NameKind.cell<;>simp[hkc]) _ _ _ _ ?_);rw[show({ s with heap:=s.heap.push { cls:=.type "dict",data:=.dict #[] } }:Shared).heap.objs.size=s.heap.objs.size+1 from Heap.size_push ..];exact wpAny_pure h
structure At (ix:List Nat) (T:D->Rho->Option Rho):Prop where
 len:∀x U U',T x U=some U'->U'.length=U.length
 out:∀x U U',T x U=some U'->∀j:Nat,j∉ix->U'[j]?=U[j]?
 shr:∀x U U',T x U=some U'->∀(j:Nat) sl,j∈ix->U'[j]?=some (some sl)->xM sl=false
theorem bL:At [i] (tgN i) where
 len:=λx U U' e=>by cases e;simp
 out:=λx U U' e j hj=>by cases e;exact List.getElem?_set_ne λz=>hj (by simp[z])
 shr:=λx U U' e j sl hj h=>by
  cases e;have:j=i:=by simpa using hj
  subst this;rw[List.getElem?_set]at h;simp only[if_true]at h;split at h<;>cases h
  rfl
theorem ut {U:Rho} (h:(U.set i (some (.shr d)))[j]?=some (some sl)) (hn:i≠j->xM sl=false):xM sl=false:=by
 by_cases hj:i=j
 ·subst hj;rw[List.getElem?_set]at h;simp only[if_true]at h;split at h<;>cases h
  rfl
 ·exact hn hj
theorem wD:At [i,j] (tg2 i j) where
 len:=λx U U' e=>by
  unfold tg2 at e;split at e
  ·cases e;simp
  ·cases e
 out:=λx U U' e k hk=>by
  unfold tg2 at e;split at e
  ·cases e;rw[List.getElem?_set_ne λz=>hk (by simp[z]),List.getElem?_set_ne λz=>hk (by simp[z])]
  ·cases e
 shr:=λx U U' e k sl hk h=>by
  unfold tg2 at e;split at e
  ·cases e;refine ut h λhj=>?_;rw[List.getElem?_set_ne hj]at h;refine ut h λhi=>?_;simp at hk;rcases hk with rfl|rfl
   ·exact absurd rfl hi
   ·exact absurd rfl hj
  ·cases e
def noE {Y:Type}:R Y->R Y
 | .val a=>.val a
 | _=>.bad
def iN (T:D->Rho->Option Rho) (t:Rho->R Bool) (e:Rho->R D):List D->Rho->R (List D)
 | [],_=>.val []
 | x::xs,U=>match T x U with
  | some U1=>(noE (t U1)).bind λb=>if b=true then(noE (e U1)).bind λd=>(iN T t e xs U).bind λds=>.val (d::ds)else iN T t e xs U
  | none=>.bad
variable {C:Addr} {X:Cx}
variable (C X) in
def sV (ifs:List Expr) (t:Rho->R Bool):Prop:=∀(pins:List (Addr×Obj)) (s:Shared) (O:St) (H:Hp) (Q:Bool->Hp->Prop),Inv X pins O H s->ttD C X t O H Q ->
 wpAny (model X.prog X.w) X.A (forIn ifs true λc r=>if r=true then do let ok <- isTrue c X.env (eval c X.env);pure (ForInStep.yield ok)else pure (ForInStep.yield r)) (TP X pins O Q) X.xe s
def tT:Rho->R Bool:=λ_=>.val true
theorem bu:sV C X [] tT:=λpins s O H Q I zz0=>by
 obtain⟨U,r,q⟩:=zz0;rw[List.forIn_nil];exact wpAny_pure ⟨H,I,q H (Same.refl _)⟩
theorem ms {c:Expr} {t:Rho->R Bool} (h:TD C X c t):sV C X [c] t:=λpins s O H Q I q=>by
 rw[List.forIn_cons,if_pos rfl];refine wpAny_bind (wpAny_bind (thn (h pins s O H Q I q) λb s1 z=>wpAny_pure ?_));show wpAny _ _ (forIn [] b _) _ _ s1;rw[List.forIn_nil];exact wpAny_pure z
def RB.ext (U:RB) (m:Nat):RB:=⟨U.rho++List.replicate m none,U.ad⟩
theorem xy {β:RB} (h:∀j,β.ad j=U.ad j):msk β σ'=msk U O:=by
 have e:β.ad=U.ad:=funext h
 funext G b
 unfold msk Own;rw[e]
theorem y9 {m:Nat} (r:Rel K C H0 U O H) (hl:σ'.length=U.rho.length+m) (hp:∀j:Nat,j<U.rho.length->σ'[j]?=O[j]?) :
  Rel K C H0 (U.ext m) σ' H/\msk (U.ext m) σ'=msk U O:=by
 have at':∀(i:Nat) sl,(U.rho++List.replicate m none)[i]?=some (some sl)->U.rho[i]?=some (some sl)/\i<U.rho.length:=λi sl e=>by
  by_cases hi:i<U.rho.length
  ·rw[List.getElem?_append_left hi]at e;exact⟨e,hi⟩
  ·rw[List.getElem?_append_right (by omega),List.getElem?_replicate]at e;split at e<;>cases e
 have em:msk (U.ext m) σ'=msk U O:=xy λ_=>rfl;refine⟨⟨?_,by rw[em];exact r.keep,λi sl e=>?_,r.inj,r.kin,λi a z=>?_⟩,em⟩
 ·show(U.rho++List.replicate m none).length=_;simp[hl]
 ·obtain⟨e1,hi⟩:=at' i sl e;rw[em,hp i hi];exact r.at_ i sl e1
 ·show i<(U.rho++List.replicate m none).length;rw[List.length_append];exact Nat.lt_of_lt_of_le (r.bnd i a z) (Nat.le_add_right _ _)
theorem BT {β:RB} {O1:St} (h:∀j:Nat,β.ad j=if j∈ix then[]else U.ad j) (hix:∀j∈ix,U.ad j=[]):msk β O1=msk U O:=xy λj=>by
 rw[h j];split
 ·exact(hix j ‹_›).symm
 ·rfl
end DL
namespace DL
open PySem PySem.Spec PyProof.Rows L2
variable {scope:Scope} {pos:Pos} {env:Env}
theorem qF {prog:Program} {w:World} {A:Around} {R:Result->Shared->Prop} {s:Shared} {elt target iter:Expr} {ifs:List Expr} {it acc:Value} (I:Nat->Shared->Prop)
  (kl:∀n s,I n s->wpAny (model prog w) A (pyNext it) (λr s₁=>match r with
   | none=>R (.ok .next) s₁
   | some v=>wpAny (model prog w) A (letOwnedTupleGo target it v) (λ_ s₀=>wpAny (model prog w) A (assign target env v) (λ_ s₂ =>
     wpAny (model prog w) A (forIn ifs true λc r=>if r=true then do let ok <- isTrue c env (eval c env);pure (ForInStep.yield ok)else pure (ForInStep.yield r)) (λok s₃ =>
      if ok=true then wpAny (model prog w) A (eval elt env) (λx s₄ =>
       wpAny (model prog w) A (call (.builtin "list.append") [acc,x]) (λ_ s₅=>∃m,m<n/\I m s₅) (λ_ _=>False) s₄) (λ_ _=>False) s₃
      else ∃m,m<n/\I m s₃) (λ_ _=>False) s₂) (λ_ _=>False) s₀) (λ_ _=>False) s₁) (λ_ _=>False) s)
  (n:Nat) (h:I n s):codeAny (model prog w) A (.compLoop (.ListComp elt [⟨target,iter,ifs,0⟩] scope pos) 0 it acc env) R s:=by
 refine codeAny_loop rfl I (λn s hI=>?_) n h;show wpAny _ A ((compTurn (.ListComp elt [⟨target,iter,ifs,0⟩] scope pos) 0 it acc env).onRaise (λx=>do noteFrame x env;theTreesLotGoes x)) _ _ s;refine wpAny_noted ?_;rw[compTurn_list];refine wpAny_bind (wpAny_standAt (wpAny_bind (wpAny_mono (kl n s hI) (λr s₁ h₁=>?_) λ_ _ h'=>h'.elim)));cases r with
 | none=>exact wpAny_pure h₁
 | some v =>
  refine wpAny_bind (wpAny_mono h₁ (λ_ s₀ h₀=>?_) λ_ _ h'=>h'.elim);refine wpAny_bind (wpAny_mono h₀ (λ_ s₂ h₂=>wpAny_bind (wpAny_mono h₂ (λok s₃ h₃=>?_) λ_ _ h'=>h'.elim)) λ_ _ h'=>h'.elim);cases ok with
  | false=>exact wpAny_pure ⟨rfl,h₃⟩
  | true =>
   exact wpAny_bind (wpAny_bind (wpAny_mono h₃ (λx s₄ h₄=>wpAny_bind (wpAny_mono h₄ (λ_ s₅ h₅=>wpAny_pure (wpAny_pure ⟨rfl,h₅⟩)) λ_ _ h'=>h'.elim)) λ_ _ h'=>h'.elim))
theorem uc:∀{names:List (Str×NameKind)} {n:Nat} {acc:List (Str×Addr)},(∀x y c,acc.lookup x=some c->acc.lookup y=some c->x=y)->(∀x c,acc.lookup x=some c->c<n) ->
  ∀x y c,(cellsFrom n names acc).lookup x=some c->(cellsFrom n names acc).lookup y=some c->x=y
 | [],_,_,h,_=>h
 | (z,k)::r,n,acc,h,hb=>by
  unfold cellsFrom;split
  ·refine uc (λx y c e1 e2=>?_) (λx c e=>?_)
   ·rw[List.lookup_cons]at e1 e2;cases b1:x==z with
    | true =>
     rw[b1]at e1;cases e1;cases b2:y==z with
     | true=>rw[beq_iff_eq.mp b1,beq_iff_eq.mp b2]
     | false=>rw[b2]at e2;exact absurd (hb y _ e2) (Nat.lt_irrefl _)
    | false =>
     rw[b1]at e1;cases b2:y==z with
     | true=>rw[b2]at e2;cases e2;exact absurd (hb x _ e1) (Nat.lt_irrefl _)
     | false=>rw[b2]at e2;exact h x y c e1 e2
   ·rw[List.lookup_cons]at e;cases b1:x==z with
    | true=>rw[b1]at e;cases e;exact Nat.lt_succ_self _
    | false=>rw[b1]at e;exact Nat.lt_succ_of_lt (hb x c e)
  ·exact uc h hb
theorem qI:∀{names:List (Str×NameKind)} {h:Heap} {acc:List (Str×Addr)} {x:Str} {c:Addr},(cellsFrom h.objs.size names acc).lookup x=some c->acc.lookup x=some c\/(pushCells h names).IsCell c none
 | [],_,_,_,_,e=>.inl e
 | (y,k)::r,h,acc,x,c,e=>by
  unfold cellsFrom at e;unfold pushCells;split at e
  ·rename_i hk;rw[if_pos hk];have e':(cellsFrom (h.push { cls:=.type "cell",data:=.cell none }).objs.size r ((y,h.objs.size)::acc)).lookup x=some c:=by rw[Heap.size_push];exact e
   rcases qI e' with q|q
   ·rw[List.lookup_cons]at q;cases b1:x==y with
    | true =>
     rw[b1]at q;cases q;exact .inr ⟨_,pushCells_keeps r _ _ _ (Heap.get?_push_size _ rfl),rfl⟩
    | false=>rw[b1]at q;exact .inl q
   ·exact .inr q
  ·rename_i hk;rw[if_neg hk];exact qI e
theorem o4 {env:Env}:∀{l:List (Str×NameKind)} {acc:List (Str×Addr)} {x:Str} {c:Addr},(dH env l acc).lookup x=some c->acc.lookup x=some c\/(x,NameKind.free)∈l
 | [],acc,x,c,e=>.inl e
 | (y,k)::r,acc,x,c,e=>by
  have e:(dH env r (cSt y k (env.cells.lookup y) acc)).lookup x=some c:=e;rcases o4 e with q|q
  ·by_cases hk:k=.free
   ·subst hk;cases e0:env.cells.lookup y with
    | none=>rw[e0,n8]at q;exact .inl q
    | some c0 =>
     rw[e0]at q;have q:((y,c0)::acc).lookup x=some c:=q;rw[List.lookup_cons]at q;cases hb:x==y with
     | true=>rw[beq_iff_eq.mp hb];exact .inr List.mem_cons_self
     | false=>rw[hb]at q;exact .inl q
   ·rw[qJ hk]at q;exact .inl q
  ·exact .inr (List.mem_cons_of_mem _ q)
def reK (env:Env) (n:Str) (k:NameKind):NameKind:=if(k == .free&&env.scope.kind == .function&&env.kindOf n==some .cell)=true then .cell else k
theorem uB {env:Env}:∀{names:List (Str×NameKind)} {x:Str},
  (names.map λ(p:Str×NameKind)=>if(p.2 == .free&&env.scope.kind == .function&&env.kindOf p.1==some .cell)=true then(p.1,NameKind.cell)else(p.1,p.2)).lookup x=(names.lookup x).map (reK env x)
 | [],_=>rfl
 | (n,k)::r,x=>by
  have ih:=uB (env:=env) (names:=r) (x:=x);rw[List.map_cons];have e:(if(k == .free&&env.scope.kind == .function&&env.kindOf n==some .cell)=true then(n,NameKind.cell)else(n,k))=(n,reK env n k):=by
   unfold reK;split<;>rfl
  show List.lookup x ((if(k == .free&&env.scope.kind == .function&&env.kindOf n==some .cell)=true then(n,NameKind.cell)else(n,k))::_)=_;rw[e,List.lookup_cons,List.lookup_cons];cases hb:x==n with
  | true=>rw[beq_iff_eq.mp hb];rfl
  | false=>exact ih
variable {x:Str}
theorem gW:(relabel scope env).names.lookup x=(scope.names.lookup x).map (reK env x):=uB
theorem kx {k:NameKind}:(k=.free/\(reK env x k=.free\/reK env x k=.cell))\/(k ≠ .free/\reK env x k=k):=by
 unfold reK;by_cases hk:k=.free
 ·subst hk;left;refine⟨rfl,?_⟩;split<;>simp
 ·right;refine⟨hk,?_⟩;have:(k==NameKind.free)=false:=by simpa using hk
  rw[this];rfl
variable {H:Hp}
theorem Ai:cut [] H=H:=by
 funext b
 unfold cut;rw[if_neg List.not_mem_nil]
variable {O:St}
theorem jR {U:RB} {zs:List Addr}:msk U O (cut zs H)=cut zs (msk U O H):=by
 funext b
 unfold msk cut;by_cases h:Own U O b<;>by_cases h':b∈zs<;>simp[h,h']
theorem qE {zs:List Addr}:Same (cut zs H) H:=λb o e=>(cut_some.mp e).2
theorem dF {H':Hp} {b:Addr} (s:Same H H') (h:H' b=none):H b=none:=by
 cases e:H b with
 | none=>rfl
 | some o=>rw[s b o e]at h;cases h
section
variable {C:Addr} {X:Cx}
def pK (C:Addr) (X:Cx) (k:OK) (U:RB) (r:R D) (O:St) (H:Hp) (Q:VK):Prop:=match r with
 | .val d=>∀v H' A,Same H H'->(∀a∈A,H a=none)->Tre X.K C (cut A (msk U O H')) H' k v d A->Q v H'
 | .exc c=>XE X c O H
 | .bad=>False
variable (C X) in
def teK (k:OK) (F:Rho->R D):TE:=λO H Q=>∃U:RB,(∃H0,cN C X H0 U O H)/\pK C X k U (F U) O H Q
variable (C X) in
def KD (k:OK) (e:Expr) (F:Rho->R D):Prop:=PE X e (teK C X k F)
theorem xJ {e:Expr} {F:Rho->R D} (h:ED C X e F):KD C X .s e F:=aJ h λO H Q ⟨U,r,q⟩=>⟨U,r,by
 cases z:F U with
 | val d=>rw[z]at q;exact λv H' s h=>q v H' [] s (λa ha=>by cases ha) (.s (by rw[Ai];exact h))
 | exc c=>rw[z]at q;exact q
 | bad=>rw[z]at q;exact q⟩
theorem AJ {e:Expr} {F:Rho->R (List D)} (h:FD C X e F):KD C X (.l .s) e (eLs F):=aJ h λO H Q ⟨U,⟨H0,r⟩,q⟩=>⟨U,⟨H0,r⟩,by
 unfold eLs at q;cases z:F U with
 | val xs =>
  rw[z]at q;intro a vs H1 s1 hn h1;refine q _ _ [a] (s1.trans (aL hn)) (λb hb=>by cases List.mem_singleton.mp hb;exact dF s1 hn) (.l aO (TreP.of (h1.mono λb o e=>cut_some.mpr ⟨λhb=>?_,aZ (aL hn) b o e⟩)) List.not_mem_nil);cases List.mem_singleton.mp hb;rw[(msk_some.mp e).2]at hn;cases hn
 | exc c=>rw[z]at q;exact q
 | bad=>rw[z]at q;exact q⟩
def trS (i:Nat) (k:OK) (e:Rho->R D):Rho->R Out:=λU=>(e U).bind λd=>.val (.nx (U.set i (some (.tre k d))))
theorem Rel.setTre {K:Frag} {H0 H':Hp} {U:RB} (r:Rel K C H0 U O H) {i:Nat} {k:OK} {v:V} {d:D} {A:List Addr} (s:Same H H') (hA:∀a∈A,H a=none) (h:Tre K C (cut A (msk U O H')) H' k v d A) :
  Rel K C H0 (U.put i (.tre k d) A) (O.set i (some v)) H':=by
 refine r.put l_ (λj hj=>List.getElem?_set_ne λz=>hj z.symm) (λa ha=>.inr (hA a ha)) (λj _=>.of s) (λb o e=>s b o (msk_some.mp e).2) (λa ha=>.inl (h.lists a ha)) λhi _=>⟨v,A,pk (by rw[<- r.len];exact hi),λa ha=>ha,h.stay (λb o e=>?_) (.of (Same.refl _))⟩;obtain⟨h1,h2⟩:=cut_some.mp e;obtain⟨h3,h4⟩:=msk_some.mp h2;refine msk_some.mpr ⟨λ⟨j,z⟩=>?_,h4⟩;rcases d5 z with⟨_,_,z⟩|⟨_,z⟩
 ·exact h1 z
 ·exact h3 ⟨j,z⟩
theorem pu {i:Nat} {k:OK} {e:Expr} {pos':Pos} {F:Rho->R D} (hN:X.N.Nodup) (hi:X.N[i]?=some x) (hx:Loc X.env.scope x) (he:KD C X k e F) (hs:swapsWith e (some (.Name x pos')) pos.line X.env=pure false:=by rfl)
    (hf:X.fn x=true\/X.env.scope.names.lookup x=some .local:=by first|exact .inl rfl|exact .inr rfl|assumption):SD C X (.Assign [.Name x pos'] e pos) (trS i k F) :=
  bq (ky hN hi hx he hs hf) λD O H yy=>by
   obtain⟨_,H0,⟨U,rfl,r⟩,q⟩:=yy;exact⟨U,⟨H0,r⟩,by
    unfold trS at q;cases z:F U with
    | val d=>rw[z]at q;exact λv H' A s hA h=>q _ _ ⟨_,rfl,r.setTre s hA h⟩
    | exc c=>rw[z]at q;exact cX r q
    | bad=>rw[z]at q;exact q⟩
end
variable {C:Addr} {X:Cx}
theorem Ah {a:Addr} {o:HO} (h:H a=none):cut [a] (upd H a o)=H:=by
 funext b
 unfold cut;by_cases hb:b=a
 ·rw[if_pos (by simp[hb]),hb,h]
 ·rw[if_neg (by simp[hb]),aE hb]
theorem yL {a:Addr} {o:HO} (h:H a=some o):upd (cut [a] H) a o=H:=by
 funext b
 by_cases hb:b=a
 ·rw[hb,aO,h]
 ·rw[aE hb];unfold cut;rw[if_neg (by simp[hb])]
theorem t_ {N':List Str} {n:Nat} (hchk:ub X.N N' X.env scope=true) (hN:N'.length=X.N.length+n)
  {pins:List (Addr×Obj)} {H3:Hp} {s3:Shared} {fp:List Addr} (I3:Inv X pins O H3 s3) (hfp:∀b∈fp,b<s3.heap.objs.size) (f3:∀b∈fp,oF X pins H3 b) :
  Inv (cxC X N' scope s3.heap.objs.size (cellsFrom (s3.heap.objs.size+1) scope.names (dH X.env scope.names [])) s3 H3 fp) [] (O++List.replicate n none) H3
   {s3 with heap:=pushCells (s3.heap.push { cls:=.type "dict",data:=.dict #[] }) scope.names }:=by
 obtain⟨c1,hchk⟩:=Bool.and_eq_true_iff.mp hchk;obtain⟨c2,hchk⟩:=Bool.and_eq_true_iff.mp hchk;obtain⟨c3,hchk⟩:=Bool.and_eq_true_iff.mp hchk;obtain⟨c4,c5⟩:=Bool.and_eq_true_iff.mp hchk;have hkind:scope.kind=.function:=by
  revert c5;cases scope.kind<;>simp
 have keep:∀b o,s3.heap.get? b=some o->(pushCells (s3.heap.push { cls:=.type "dict",data:=.dict #[] }) scope.names).get? b=some o:=λb o e=>pushCells_keeps _ _ b o (Heap.get?_push_of_some _ e);have I4:Inv X pins O H3 { s3 with heap:=pushCells (s3.heap.push { cls:=.type "dict",data:=.dict #[] }) scope.names }:=I3.kept (t':=s3.toks) keep;have sz:(s3.heap.push { cls:=.type "dict",data:=.dict #[] }).objs.size=s3.heap.objs.size+1:=Heap.size_push ..;have fr:∀x,(x,NameKind.free)∈scope.names->∃c,X.env.cells.lookup x=some c:=λx hx=>I3.ok.has x (qf (qG c2 hx));have cl_old:∀x c,(dH X.env scope.names []).lookup x=some c->X.env.cells.lookup x=some c:=λx c e=>n0 e λc' e'=>by cases e'
 have cl_lt:∀x c,(dH X.env scope.names []).lookup x=some c->c<s3.heap.objs.size:=λx c e=>by
  obtain⟨v,q⟩:=I3.cell x c (cl_old x c e);exact q.lt
 have look:∀x c,(cellsFrom (s3.heap.objs.size+1) scope.names (dH X.env scope.names [])).lookup x=some c ->
   X.env.cells.lookup x=some c\/(s3.heap.objs.size+1<=c/\(x,NameKind.cell)∈scope.names/\(pushCells (s3.heap.push { cls:=.type "dict",data:=.dict #[] }) scope.names).IsCell c none):=λx c e=>by
  rcases mC e with q|⟨q,m⟩
  ·exact .inl (cl_old x c q)
  ·rcases qI (h:=s3.heap.push { cls:=.type "dict",data:=.dict #[] }) (by rw[sz];exact e)with z|z
   ·exact absurd (Nat.lt_of_lt_of_le (cl_lt x c z) (Nat.le_of_succ_le q)) (Nat.lt_irrefl _)
   ·exact .inr ⟨q,m,z⟩
 have ok:(cxC X N' scope s3.heap.objs.size (cellsFrom (s3.heap.objs.size+1) scope.names (dH X.env scope.names [])) s3 H3 fp).Ok:=by
  refine⟨I3.ok.mod,hkind,I3.ok.glob,I3.ok.blt,Nat.le_refl _,λx y c e1 e2=>?_,λx hx=>?_,λx c hf e=>?_,I3.ok.hd,I3.ok.frames,.inl rfl,λb hb=>⟨?_,λx c e=>?_⟩,I3.bs,Nat.le_trans I3.ok.bsz I3.sz,λb o e hb=>?_,λb hb hz=>?_,I3.stack,I3.stkFree⟩
  ·exact uc (λx y c e1 e2=>I3.ok.inj x y c (cl_old x c e1) (cl_old y c e2)) (λx c e=>Nat.lt_succ_of_lt (cl_lt x c e)) x y c e1 e2
  ·have hx:(relabel scope X.env).names.lookup x=some .cell\/(relabel scope X.env).names.lookup x=some .free:=hx;rw[gW]at hx;cases e:scope.names.lookup x with
   | none=>rw[e]at hx;rcases hx with z|z<;>cases z
   | some k =>
    rw[e]at hx;have:k=.cell\/k=.free:=by
     rcases kx (env:=X.env) (x:=x) (k:=k)with⟨z,_⟩|⟨_,z⟩
     ·exact .inr z
     ·rcases hx with y|y
      ·left;have:=Option.some.inj y;rw[z]at this;exact this
      ·right;have:=Option.some.inj y;rw[z]at this;exact this
    refine Option.isSome_iff_exists.mp (PySem.W.cellsFrom_some _ _ _ ?_);rcases this with rfl|rfl
    ·exact .inl e
    ·obtain⟨c,ec⟩:=fr x (PySem.mem_of_lookup e);right;rw[kS ec (.inl (PySem.mem_of_lookup e))];rfl
  ·have hf:B7 (scope.names.lookup x)=true:=hf;have e0:scope.names.lookup x=some .cell:=by
    unfold B7 at hf;split at hf
    ·assumption
    ·cases hf
   rcases mC e with q|⟨q,m⟩
   ·rcases o4 q with z|z
    ·cases z
    ·have:=mB c3 z (.inr (.inl rfl));rw[e0]at this;cases this
   ·exact Nat.le_of_succ_le q
  ·exact Nat.ne_of_lt (hfp b hb)
  ·rcases look x c e with q|⟨q,_,_⟩
   ·exact(f3 b hb).2.2.2.2.1 x c q
   ·exact λz=>absurd (Nat.lt_of_lt_of_le (z▸hfp b hb) (Nat.le_of_succ_le q)) (Nat.lt_irrefl _)
  ·rcases(f3 b hb).2.2.2.1 with z|z
   ·exact I3.ok.noex b o e z
   ·exact absurd (Nat.lt_of_lt_of_le (Nat.lt_of_lt_of_le (Heap.lt_size e) I3.ok.bsz) z) (Nat.lt_irrefl _)
  ·have:=I3.stkSub b hz;rcases List.mem_cons.mp this with z|z
   ·exact(f3 b hb).2.1 z
   ·exact(f3 b hb).2.2.1 z
 refine⟨ok,rfl,I3.bare,Un.kept keep,⟨λ_=>none,(Heap.Ns.new s3.heap (.type "dict")).keeps (pushCells_keeps _ _),λi x v h1 h2 h3=>?_⟩,λx c e=>?_,I3.hok.fresh (Nat.le_refl _),λx c e=>?_,λp hp=>absurd (show p∈([]:List (Addr×Obj))from hp) (by simp),I4.hok,?_⟩
 ·have hl:=I3.len;have hi:i<O.length:=by
   by_cases hi:i<O.length
   ·exact hi
   ·rw[List.getElem?_append_right (by omega),List.getElem?_replicate]at h2;split at h2<;>cases h2
  rw[List.getElem?_append_left hi]at h2;have h3:Vis (relabel scope X.env) x:=h3;obtain⟨g1,g2⟩:=vo c1 h1;rw[Nat.zero_add]at g1 g2;have e0:scope.names.lookup x=some .free:=by
   unfold Vis at h3;rw[gW]at h3;cases e:scope.names.lookup x with
   | none=>rw[e]at h3;rcases h3 with z|z|z<;>cases z
   | some k =>
    rw[e]at h3;rcases kx (env:=X.env) (x:=x) (k:=k)with⟨z,_⟩|⟨z0,z⟩
    ·rw[z]
    ·exfalso;have h3:some k=some NameKind.local\/some k=some NameKind.cell\/some k=some NameKind.free:=by
      have h4:some (reK X.env x k)=some NameKind.local\/some (reK X.env x k)=some NameKind.cell\/some (reK X.env x k)=some NameKind.free:=h3;rw[z]at h4;exact h4
     rcases h3 with y|y|y
     ·have:=g2 (.inl (e.trans y));omega
     ·have:=g2 (.inr (e.trans y));omega
     ·exact z0 (Option.some.inj y)
  obtain⟨e1,hk⟩:=g1 e0;have hk:=qf hk;obtain⟨m0,hn0,hl0⟩:=I4.loc;obtain⟨u,ru,lk⟩:=hl0 i x v e1 h2 (.inr hk);refine⟨u,ru,.inr ⟨?_,?_⟩⟩
  ·have:(relabel scope X.env).names.lookup x=some (reK X.env x .free):=by rw[gW,e0];rfl
   rcases kx (env:=X.env) (x:=x) (k:=.free)with⟨_,z|z⟩|⟨z,_⟩
   ·rw[z]at this;exact .inr this
   ·rw[z]at this;exact .inl this
   ·exact absurd rfl z
  ·rcases lk with⟨z,_⟩|⟨_,c,ec,q⟩
   ·rcases hk with y|y<;>(rw[z]at y;cases y)
   ·refine⟨c,?_,q⟩;show(cellsFrom _ scope.names _).lookup x=some c;rw[qH λm=>by have:=mB c3 m (.inr (.inr rfl));rw[e0]at this;cases this];exact kS ec (.inl (PySem.mem_of_lookup e0))
 ·rcases look x c e with q|⟨_,_,q⟩
  ·exact I4.cell x c q
  ·exact⟨_,q⟩
 ·rcases look x c e with q|⟨q,_,_⟩
  ·exact I3.freeC x c q
  ·exact I3.hok.fresh (by omega)
 ·show _=N'.length;rw[List.length_append,List.length_replicate,hN,I3.len]
abbrev cxA (X:Cx) (N':List Str) (scope:Scope) (a:Addr) (H2:Hp) (s3:Shared) (fp:List Addr):Cx:=cxC X N' scope s3.heap.objs.size (cellsFrom (s3.heap.objs.size+1) scope.names (dH X.env scope.names [])) s3 (upd H2 a (.lst [])) fp
def AQ (C:Addr) (X EY:Cx) (k:OK) (T:D->Rho->Option Rho) (t:Rho->R Bool) (e:Rho->R D) (n:Nat) (a:Addr) (H2:Hp) (O:St) (U:RB) (fp:List Addr) (tn:Nat->Heap->Prop) (xs ds:List D) (m:Nat) (s:Shared):Prop :=
 ∃(i:Nat) (σ':St) (H':Hp) (vs:List V) (ds1 ds2:List D) (A:List Addr),m=xs.length+1-i/\i<=xs.length /\
   Inv EY [] σ' H' s/\tn i s.heap/\(∀b∈fp,H' b=none) /\
   (∀j:Nat,j<U.rho.length->σ'[j]?=O[j]?)/\H' a=some (.lst vs)/\Same H2 (cut (a::A) H')/\TreP X.K C (msk U O (cut (a::A) H')) H' (vs.map λ_=>k) vs ds1 A/\a∉A /\
   iN T t e (xs.drop i) (U.rho++List.replicate n none)=.val ds2/\ds1++ds2=ds/\vs.length<=i
theorem TreP.app {K:Frag} {M H:Hp} {k:OK} {v:V} {d:D} {B:List Addr} (h:Tre K C M H k v d B):∀{ks:List OK} {vs:List V} {ds:List D} {A:List Addr},TreP K C M H ks vs ds A->(∀a∈A,a∉B)->∃A',(∀a,a∈A'↔a∈A\/a∈B)/\TreP K C M H (ks++[k]) (vs++[v]) (ds++[d]) A'
 | _,_,_,_,.nil,_=>⟨B++[],λa=>by simp,.cons h .nil λ_ _=>List.not_mem_nil⟩
 | _,_,_,_,.cons (A:=A1) (B:=A2) g t n,f=>by
  obtain⟨A',h1,h2⟩:=TreP.app h t λa ha=>f a (List.mem_append_right _ ha);refine⟨A1++A',λa=>by rw[List.mem_append,List.mem_append,h1 a,or_assoc],.cons g h2 λa ha hb=>?_⟩;rcases(h1 a).mp hb with hb|hb
  ·exact n a ha hb
  ·exact f a (List.mem_append_left _ ha) hb
theorem nZ {k:OK} {tg elt iter:Expr} {ifs:List Expr} {N':List Str} {ix:List Nat} {T:D->Rho->Option Rho} {t:Rho->R Bool} {e:Rho->R D} {n:Nat}
  (hcalm:X.calm=true) (hchk:ub X.N N' X.env scope=true) (hN:N'.length=X.N.length+n) (hix:∀j∈ix,X.N.length<=j)
  (hg:∀L cs s H fp,GD C (cxC X N' scope L cs s H fp) tg ix T) (ht:∀L cs s H fp,sV C (cxC X N' scope L cs s H fp) ifs t) (he:∀L cs s H fp,KD C (cxC X N' scope L cs s H fp) k elt e)
  {pins:List (Addr×Obj)} {H2 H0:Hp} {s2:Shared} {U:RB} {J:It} {fp:List Addr} {it:Addr} {tn:Nat->Heap->Prop} {xs ds:List D}
  (I2:Inv X pins O H2 s2) (r2:cN C X H0 U O H2) (TT:wr X.prog X.w X.K tg J fp it tn) (t0:tn 0 s2.heap) (f2:∀b∈fp,oF X pins H2 b) (wk:sQ X.K C J xs (msk U O H2)) (hlen:xs.length<=LIM)
  (hd:iN T t e xs (U.rho++List.replicate n none)=.val ds) {R:Value->Addr->Result->Shared->Prop} {E:Value->Shared->Prop}
  (hR:∀a L vs A H' s1,Same H2 (cut (a::A) H')->(∀b∈a::A,H2 b=none)->H' a=some (.lst vs)->a∉A->TreP X.K C (msk U O (cut (a::A) H')) H' (vs.map λ_=>k) vs ds A->Inv X pins O H' s1->H' L=none->L≠X.env.locals->X.s₀.heap.objs.size<=L ->
   (∀x c,X.env.cells.lookup x=some c->c≠L)->(∀p∈X.pn++pins,p.1≠L)->(∃m,s1.heap.Ns L m)->R (.ref a) L (.ok .next) s1) :
  wpAny (model X.prog X.w) X.A (newList []) (λacc s₃=>wpAny (model X.prog X.w) X.A (newFunctionEnv scope X.env.globals (dH X.env scope.names []) [] X.env.qual none .none (some X.env)) (λcenv s₄ =>
   codeAny (model X.prog X.w) X.A (.compStart (.ListComp elt [⟨tg,iter,ifs,0⟩] scope pos) 0 (.ref it) acc { cenv with scope:=relabel scope X.env }) (R acc cenv.locals) s₄) E s₃) E s2:=by
 refine wpAny_newObj_type (yJ ?_);have hfr2:H2 s2.heap.objs.size=none:=I2.fresh;have I3:=I2.lnew (its:=[]) (ys:=[]) (t':=s2.toks) .nil (Nat.zero_le _);have hfp:∀b∈fp,b<s2.heap.objs.size:=λb hb=>by
  obtain⟨o,eo,_⟩:=TT.obj 0 _ t0 b hb;exact Heap.lt_size eo
 have sz3:(s2.heap.push { cls:=.type "list",data:=.seq ([]:List Value).toArray }).objs.size=s2.heap.objs.size+1:=Heap.size_push ..;have f3:∀b∈fp,oF X pins (upd H2 s2.heap.objs.size (.lst [])) b:=λb hb=>⟨by rw[aE (Nat.ne_of_lt (hfp b hb))];exact(f2 b hb).1,(f2 b hb).2⟩;have I4:=t_ (n:=n) hchk hN I3 (λb hb=>by rw[sz3];exact Nat.lt_succ_of_lt (hfp b hb)) f3;have keep:∀b o,s2.heap.get? b=some o->(pushCells ((s2.heap.push { cls:=.type "list",data:=.seq ([]:List Value).toArray }).push { cls:=.type "dict",data:=.dict #[] }) scope.names).get? b=some o:=λb o e =>
  pushCells_keeps _ _ b o (Heap.get?_push_of_some _ (Heap.get?_push_of_some _ e))
 have t4:tn 0 (pushCells ((s2.heap.push { cls:=.type "list",data:=.seq ([]:List Value).toArray }).push { cls:=.type "dict",data:=.dict #[] }) scope.names):=TT.keep 0 _ _ t0 λb hb o e=>keep b o e;generalize hs3:({ s2 with heap:=s2.heap.push { cls:=.type "list",data:=.seq ([]:List Value).toArray },toks:=s2.toks }:Shared)=s3 at I3 I4;have hH3:({ s2 with heap:=s2.heap.push { cls:=.type "list",data:=.seq ([]:List Value).toArray },toks:=s2.toks }:Shared).heap=s3.heap:=by rw[hs3]
 have t4':tn 0 (pushCells (s3.heap.push { cls:=.type "dict",data:=.dict #[] }) scope.names):=by rw[<- hH3];exact t4
 have hrl:U.rho.length=X.N.length:=r2.len.trans I2.len;generalize ha0:s2.heap.objs.size=a0 at *;have loop:∀s4:Shared,s4={ s3 with heap:=pushCells (s3.heap.push { cls:=.type "dict",data:=.dict #[] }) scope.names } ->
   codeAny (model X.prog X.w) X.A (.compLoop (.ListComp elt [⟨tg,iter,ifs,0⟩] scope pos) 0 (.ref it) (.ref a0) (Dy scope X.env s3.heap.objs.size (cellsFrom (s3.heap.objs.size+1) scope.names (dH X.env scope.names []))))
    (R (.ref a0) s3.heap.objs.size) s4:=by
  rintro s4 rfl;refine qF (AQ C X (cxA X N' scope a0 H2 s3 fp) k T t e n a0 H2 O U fp tn xs ds) ?_ (xs.length+1)
   ⟨0,_,_,[],[],ds,[],rfl,Nat.zero_le _,I4,t4',λb hb=>(f3 b hb).1,λj hj=>by rw[List.getElem?_append_left (by rw[<- r2.len];exact hj)],aO,by rw[Ah hfr2];exact Same.refl _,.nil,List.not_mem_nil,hd,rfl,Nat.le_refl _⟩
  rintro m s ⟨i,σ',H',vs,ds1,ds2,A,rfl,hi,I,tni,hfn,hpre,ha,sm,hv,hnA,hc,hds,hvl⟩;have lst:∀z∈a0::A,∃us,H' z=some (.lst us):=λz hz=>by
   rcases List.mem_cons.mp hz with rfl|hz
   ·exact⟨vs,ha⟩
   ·exact hv.lists z hz
  have Z:Hid H' s.heap (a0::A):=by
   refine⟨λz hz=>?_,λz hz c dx fs q=>?_,λz hz b q=>?_,λz hz=>?_⟩
   ·obtain⟨us,q⟩:=lst z hz;exact⟨_,q,rfl⟩
   ·obtain⟨us,q'⟩:=lst z hz;rw[q]at q';cases q'
   ·obtain⟨us,q'⟩:=lst z hz;rw[q]at q';cases q'
   ·obtain⟨us,q'⟩:=lst z hz;obtain⟨_,its,m,_,e1⟩:=I.hok _ _ q';exact⟨_,e1,λv q=>by cases q⟩
  have J0:=I.hide Z;have hM:∀b,H' b=none->cut (a0::A) H' b=none:=λb q=>by unfold cut;split<;>first|rfl|exact q
  have stat:∀{pn:List (Addr×Obj)} {G:Hp},(∀b∈fp,G b=none)->(∀p∈pn,∀b∈fp,p.1≠b)->∀b∈fp,oF (cxA X N' scope a0 H2 s3 fp) pn G b:=λ{pn G} h1 h2 b hb =>
   ⟨h1 b hb,(I.ok.exf b hb).1,I.ok.exfs b hb,.inl hb,(I.ok.exf b hb).2,λp hp=>h2 p hp b hb⟩
  have pna:∀p∈([]:List (Addr×Obj))++dm (a0::A) s.heap,∀b∈fp,p.1≠b:=λp hp b hb z=>by
   obtain⟨q1,_⟩:=i6 (show p∈dm (a0::A) s.heap from hp);obtain⟨us,q⟩:=lst _ q1;rw[z,hfn b hb]at q;cases q
  have sM:Same (msk U O H2) (cut (a0::A) H'):=msk_sub.trans sm;by_cases hlt:i<xs.length
  ·have ex:xs[i]?=some xs[i]:=by simp[hlt]
   have ed:xs.drop i=xs[i]::xs.drop (i+1):=List.drop_eq_getElem_cons hlt;obtain⟨go,yld⟩:=wk.go i _ _ sM ex;refine wpAny_mono (TT.item (cxA X N' scope a0 H2 s3 fp) rfl rfl rfl hcalm i _ s σ' _ (λ_ _=>False) J0 (stat (λb hb=>hM b (hfn b hb)) pna) tni go) (λr s1 zz0=>?_) λ_ _ z=>z;obtain⟨u,hr,h1⟩:=zz0;subst hr;refine thn h1 λ_ s5 zz1=>?_;obtain⟨x,H5,I5,r5,y5,t5,n5⟩:=zz1;obtain⟨s5',hx⟩:=yld x H5 y5;have hx5:Has X.K C (msk U O H5) x xs[i]:=hx U O (λb ob q=>by
    have h2:=r2.ownAt ob;cases q2:H2 b with
    | none=>exact h2 q2
    | some o=>rw[sm b o q2]at q;cases q) (aZ sm)
   have r5':=r2.mono (sm.trans s5');obtain⟨re5,em5⟩:=y9 (m:=n) r5' (σ':=σ') (by have q:=I5.len;rw[hrl];exact q.trans hN) hpre;have I5p:=I5.pinned (stat n5 pna) (TT.obj _ _ t5);rw[ed]at hc;unfold iN at hc;split at hc
   ·rename_i U1 eT;have ix0:∀j∈ix,(U.ext n).ad j=[]:=λj hj=>by
     have h2:=hix j hj;refine List.eq_nil_iff_forall_not_mem.mpr λb hb=>?_;have:=r2.bnd j b hb;omega
    refine thn (hg _ _ _ _ _ _ s5 σ' H5 x u (λO6 H6=>H6=H5/\∃β:RB,β.rho=U1/\(∀j:Nat,β.ad j=if j∈ix then[]else(U.ext n).ad j)/\cN C X H0 β O6 H5/\∀j:Nat,j∉ix->O6[j]?=σ'[j]?) I5p r5 ⟨_,H0,xs[i],U1,re5,by show Has _ _ (msk _ _ _) x _;rw[em5];exact hx5,eT,λO6 β q0 q3 q1 q2=>⟨rfl,β,q0,q3,q1,q2⟩⟩) λ_ s6 zz2=>?_;obtain⟨O6,H6,I6,eH,β,eβ,aβ,r6,p6⟩:=zz2;subst eH;subst eβ;have em6:msk β O6=msk U O:=(BT aβ ix0).trans em5;have pre6:∀j:Nat,j<U.rho.length->O6[j]?=O[j]?:=λj hj=>by
     rw[p6 j λz=>by have:=hix j z;omega];exact hpre j hj
    cases et:t β with
    | exc c=>rw[et]at hc;cases hc
    | bad=>rw[et]at hc;cases hc
    | val b =>
     rw[et]at hc;refine thn (ht _ _ _ _ _ _ s6 O6 H6 (λb' H7=>b'=b/\Same H6 H7) I6 ⟨β,⟨H0,r6⟩,by rw[et];exact λH7 q=>⟨rfl,q⟩⟩) λb' s7 zz3=>?_;obtain⟨H7,I7,eb,s67⟩:=zz3;subst eb;have fin:∀{s9:Shared} {H9:Hp} {vs':List V} {ds1' ds2':List D} {A':List Addr},Inv (cxA X N' scope a0 H2 s3 fp) (dm fp s5.heap) O6 H9 s9 ->
       H9 a0=some (.lst vs')->Same H2 (cut (a0::A') H9)->TreP X.K C (msk U O (cut (a0::A') H9)) H9 (vs'.map λ_=>k) vs' ds1' A'->a0∉A'->iN T t e (xs.drop (i+1)) (U.rho++List.replicate n none)=.val ds2'->ds1'++ds2'=ds->vs'.length<=i+1 ->
       ∃m,m<xs.length+1-i/\AQ C X (cxA X N' scope a0 H2 s3 fp) k T t e n a0 H2 O U fp tn xs ds m s9:=λ{s9 H9 vs' ds1' ds2' A'} I9 g1 g3 g4 g4' g5 g6 g7=>by
      refine⟨xs.length+1-(i+1),by omega,i+1,O6,H9,vs',ds1',ds2',A',rfl,hlt,I9.pins_of λp hp=>absurd hp (by simp),TT.keep _ _ _ t5 λb hb o eo=>(I9.pin (b,o) (List.mem_append_right _ (fN hb eo))).1,λb hb=>?_,pre6,g1,g3,g4,g4',g5,g6,g7⟩;obtain⟨o,eo,_⟩:=TT.obj _ _ t5 b hb;exact(I9.pin (b,o) (List.mem_append_right _ (fN hb eo))).2.1
     have h1pins:∀p∈dm (a0::A) s.heap,p∈(([]:List (Addr×Obj))++dm (a0::A) s.heap)++dm fp s5.heap:=λp hp=>List.mem_append_left _ hp;have h2pins:∀p∈dm fp s5.heap,p∈(([]:List (Addr×Obj))++dm (a0::A) s.heap)++dm fp s5.heap/\H' p.1=none:=λp hp=>⟨List.mem_append_right _ hp,hfn _ (i6 hp).1⟩;have s57:Same (cut (a0::A) H') H7:=s5'.trans s67;have back:∀{G:Hp},Same (cut (a0::A) H') G->(∀z∈a0::A,G z=none)->Stay A H' (jn (a0::A) H' G):=λ{G} sG mz=>⟨λb hb o q=>by rw[iw (List.mem_cons_of_mem _ hb)];exact q,λb us q=>by
      have nb:b∉a0::A:=λhb=>by obtain⟨ws,q'⟩:=lst b hb;rw[q]at q';cases q'
      rw[bM nb];exact sG b _ (cut_some.mpr ⟨nb,q⟩)⟩
     cases b' with
     | false =>
      rw[if_neg Bool.false_ne_true];obtain⟨I8,mz⟩:=I.showG Z I7 h1pins h2pins;have eJ:cut (a0::A) (jn (a0::A) H' H7)=H7:=by
       funext b
       by_cases hb:b∈a0::A
       ·rw[fq hb,mz b hb]
       ·unfold cut;rw[if_neg hb,bM hb]
      exact fin (A':=A) I8 (by rw[iw List.mem_cons_self];exact ha) (by rw[eJ];exact sm.trans s57) (by rw[eJ];exact hv.stay (aZ s57) (back s57 mz)) hnA hc hds (Nat.le_succ_of_le hvl)
     | true =>
      rw[if_pos rfl];cases ee:e β with
      | exc c=>rw[ee]at hc;cases hc
      | bad=>rw[ee]at hc;cases hc
      | val d =>
       rw[ee]at hc;refine thn (he _ _ _ _ _ _ s7 O6 H7 (λy H8=>∃B,Same H7 H8/\(∀b∈B,H7 b=none)/\Tre X.K C (cut B (msk U O H8)) H8 k y d B) I7 ⟨β,⟨H0,r6.mono s67⟩,by rw[ee];exact λy H8 B q1 q2 q3=>⟨B,q1,q2,by rw[<- em6];exact q3⟩⟩) λyv s8 zz4=>?_;obtain⟨y,H8,I8,ry,B,s78,hB,hy⟩:=zz4;obtain⟨I9,mz⟩:=I.showG Z I8 h1pins h2pins;have s8':Same (cut (a0::A) H') H8:=s57.trans s78;cases ec:iN T t e (xs.drop (i+1)) (U.rho++List.replicate n none)with
       | exc c=>simp only[noE,DL.R.bind,ec,if_true]at hc;cases hc
       | bad=>simp only[noE,DL.R.bind,ec,if_true]at hc;cases hc
       | val ds3 =>
        simp only[noE,DL.R.bind,ec,if_true]at hc;cases hc;refine thn (i7 _ s8 O6 _ (.ref a0) [y] (.ref a0) [yv] (λ_ H9=>H9=upd (jn (a0::A) H' H8) a0 (.lst (vs++[y]))) I9 rfl (.cons ry .nil)
         ⟨_,vs,y,rfl,rfl,by rw[iw List.mem_cons_self];exact ha,BX (by omega),rfl⟩) λ_ s9 ⟨_,H9,I10,_,eH9⟩=>?_
        have lB:∀b∈B,b∉a0::A:=λb hb hz=>by
         obtain⟨us,q⟩:=hy.lists b hb;rw[mz b hz]at q;cases q
        have at9:∀b,b≠a0->H9 b=jn (a0::A) H' H8 b:=λb hb=>by rw[eH9,aE hb]
        have eJ:∀A',(∀b,b∈A'↔b∈A\/b∈B)->cut (a0::A') H9=cut B H8:=λA' hA'=>by
         funext b
         by_cases hb:b∈a0::A
         ·have:b∈a0::A':=by
           rcases List.mem_cons.mp hb with z|z
           ·exact z▸List.mem_cons_self
           ·exact List.mem_cons_of_mem _ ((hA' b).mpr (.inl z))
          rw[fq this];unfold cut;split
          ·rfl
          ·exact(mz b hb).symm
         ·have nb:b≠a0:=λz=>hb (z▸List.mem_cons_self);by_cases hb2:b∈B
          ·rw[fq hb2,fq (List.mem_cons_of_mem _ ((hA' b).mpr (.inr hb2)))]
          ·have:b∉a0::A':=λz=>by
            rcases List.mem_cons.mp z with z|z
            ·exact nb z
            ·rcases(hA' b).mp z with z|z
             ·exact hb (List.mem_cons_of_mem _ z)
             ·exact hb2 z
           unfold cut;rw[if_neg this,if_neg hb2,at9 b nb,bM hb]
        have sB:Same (cut (a0::A) H') (cut B H8):=λb o q=>cut_some.mpr ⟨λhb=>absurd (hB b hb) (by rw[s57 b o q];exact λz=>by cases z),s8' b o q⟩;have st1:Stay A H' H9:=by
         refine⟨λb hb o q=>?_,λb us q=>?_⟩
         ·rw[at9 b λz=>hnA (z▸hb)];exact(back s8' mz).at_ b hb o q
         ·rw[at9 b λz=>by rw[z,ha]at q;cases q];exact(back s8' mz).tup b us q
        have st2:Stay B H8 H9:=by
         refine⟨λb hb o q=>?_,λb us q=>?_⟩
         ·rw[at9 b λz=>lB b hb (z▸List.mem_cons_self),bM (lB b hb)];exact q
         ·have nb:b∉a0::A:=λhz=>by rw[mz b hz]at q;cases q
          rw[at9 b λz=>nb (z▸List.mem_cons_self),bM nb];exact q
        have g1:TreP X.K C (msk U O (cut B H8)) H9 (vs.map λ_=>k) vs ds1 A:=hv.stay (aZ sB) st1;have g2:Tre X.K C (msk U O (cut B H8)) H9 k y d B:=hy.stay (by rw[jR];exact Same.refl _) st2;obtain⟨A',hA',g3⟩:=TreP.app g2 g1 λb hb hb2=>lB b hb2 (List.mem_cons_of_mem _ hb);refine fin (A':=A') (vs':=vs++[y]) (ds1':=ds1++[d]) (ds2':=ds3) I10 (by rw[eH9];exact aO) (by rw[eJ A' hA'];exact sm.trans sB) (by rw[eJ A' hA',List.map_append];exact g3) (λz=>?_) ec (by rw[<- hds];simp) (by rw[List.length_append,List.length_singleton];omega);rcases(hA' a0).mp z with z|z
        ·exact hnA z
        ·exact lB a0 z List.mem_cons_self
   ·cases hc
  ·have ei:i=xs.length:=by omega
   subst ei;rw[List.drop_length]at hc;cases hc;rw[List.append_nil]at hds;subst hds;refine wpAny_mono (TT.done (cxA X N' scope a0 H2 s3 fp) rfl rfl rfl hcalm xs.length _ s σ' _ (λ_ _=>False) J0 (stat (λb hb=>hM b (hfn b hb)) pna) tni (wk.stop _ sM)) (λr s1 zz5=>?_) λ_ _ z=>z;obtain⟨hr,I1⟩:=zz5;subst hr;obtain⟨Ie,_⟩:=I.show' Z I1;have eH:jn (a0::A) H' (cut (a0::A) H')=H':=by
    funext b
    by_cases hb:b∈a0::A
    ·rw[iw hb]
    ·rw[bM hb];unfold cut;rw[if_neg hb]
   rw[eH]at Ie;have IX:Inv X pins O H' s1:=I3.call' Ie.os Ie.base Ie.hok Ie.bare λb hb=>⟨(f3 b hb).2.2.2.1,(f3 b hb).2.1,(f3 b hb).2.2.2.2.1,(f3 b hb).2.2.2.2.2⟩;obtain⟨m,hm,_⟩:=Ie.loc;refine hR _ _ vs A H' s1 sm (λb hb=>dF sm (fq hb)) ha hnA hv IX Ie.free (Nat.ne_of_gt I3.lt) I3.sz (λx c q z=>?_) (λp hp z=>?_) ⟨m,hm⟩
   ·obtain⟨v,q⟩:=I3.cell x c q;exact absurd (z▸q.lt) (Nat.lt_irrefl _)
   ·exact absurd (z▸Heap.lt_size (I3.pin p hp).1) (Nat.lt_irrefl _)
 exact codeAny_compStart_list (loop _ rfl) (TT.self X.A 0 _ _ _ t4' (loop _ rfl))
end DL
namespace DL
open PySem PySem.Spec PyProof.Rows L2
variable {C:Addr} {X:Cx}
def aW (src:Rho->R (List D)) (n:Nat) (T:D->Rho->Option Rho) (t:Rho->R Bool) (e:Rho->R D):Rho->R (List D):=λU=>(src U).bind λxs=>if xs.length<=LIM then noE (iN T t e xs (U++List.replicate n none))else .bad
variable {k:OK}
theorem sC {src:Rho->R (List D)} {n:Nat} {T:D->Rho->Option Rho} {t:Rho->R Bool} {e:Rho->R D} {O:St} {H:Hp} {Q:VK} {U:RB} {H0:Hp} (r:cN C X H0 U O H) (q:pK C X (.l k) U (eLs (aW src n T t e) U) O H Q) :
  itI C X src O H λJ H2=>∃xs ds,Same H H2/\cN C X H0 U O H2/\sQ X.K C J xs (msk U O H2)/\xs.length<=LIM/\iN T t e xs (U.rho++List.replicate n none)=.val ds/\∀v H' A,Same H2 H'->(∀a∈A,H2 a=none)->Tre X.K C (cut A (msk U O H')) H' (.l k) v (.lst ds) A->Q v H':=by
 refine⟨U,⟨H0,r⟩,?_⟩;unfold eLs BW aW at q;cases es:src U with
 | exc c=>rw[es]at q;exact q
 | bad=>rw[es]at q;exact q
 | val xs =>
  rw[es]at q;intro J H2 s2 wk;simp only[DL.R.bind]at q;by_cases hl:xs.length<=LIM
  ·rw[if_pos hl]at q;cases ec:iN T t e xs (U.rho++List.replicate n none)with
   | val ds=>rw[ec]at q;exact⟨xs,ds,s2,r.mono s2,wk,hl,ec,λv H' A s1 h1 h2=>q v H' A (s2.trans s1) (λa ha=>dF s2 (h1 a ha)) h2⟩
   | exc c=>rw[ec]at q;exact q.elim
   | bad=>rw[ec]at q;exact q.elim
  ·rw[if_neg hl]at q;exact q.elim
variable {F:Rho->R (List D)}
theorem Aw {O:St} {H:Hp} {Q:VK} (h:teF C X F O H Q):teK C X (.l .s) (eLs F) O H Q:=by
 obtain⟨U,⟨H0,r⟩,q⟩:=h;refine⟨U,⟨H0,r⟩,?_⟩;unfold eLs;cases e:F U with
 | val xs =>
  rw[e]at q;intro v H' A s1 hA h1;cases h1 with
  | @l _ a vs _ _ ha hp _ =>
   obtain⟨eA,hl⟩:=hp.flat;subst eA;have q2:=q a vs (cut [a] H') (λb o eb=>cut_some.mpr ⟨λhb=>Option.some_ne_none _ (eb.symm.trans (hA b hb)),s1 b o eb⟩) (fq (List.mem_singleton.mpr rfl)) (by show HasL _ _ (msk U O _) vs xs;rw[jR];exact hl);rw[yL ha]at q2;exact q2
 | exc c=>rw[e]at q;exact q
 | bad=>rw[e]at q;exact q
variable {i:Nat} {st:Stmt}
section
variable {tg elt iter:Expr} {ifs:List Expr} {scope:Scope} {pos:Pos} {N':List Str} {ix:List Nat} {T:D->Rho->Option Rho} {t:Rho->R Bool} {e:Rho->R D} {n:Nat} {src:Rho->R (List D)}
theorem o5 (hchk:ub X.N N' X.env scope=true):(∀x,(x,NameKind.free)∈scope.names->kc (X.env.kindOf x)=true)/\scope.kind=.function/\∀x∈scope.names,x.2=.local->scope.names.lookup x.1=some .local:=by
 obtain⟨c1,hchk⟩:=Bool.and_eq_true_iff.mp hchk;obtain⟨c2,hchk⟩:=Bool.and_eq_true_iff.mp hchk;obtain⟨c3,hchk⟩:=Bool.and_eq_true_iff.mp hchk;obtain⟨c4,c5⟩:=Bool.and_eq_true_iff.mp hchk;refine⟨λx hx=>qG c2 hx,?_,λx hx hl=>?_⟩
 ·revert c5;cases scope.kind<;>simp
 ·obtain⟨n,k⟩:=x;have hl:k=.local:=hl;subst hl;exact mB c3 hx (.inl rfl)
theorem zF (hcalm:X.calm=true) (hchk:ub X.N N' X.env scope=true) (hN:N'.length=X.N.length+n) (hix:∀j∈ix,X.N.length<=j) (hi:ID C X tg iter src)
  (hg:∀L cs s H fp,GD C (cxC X N' scope L cs s H fp) tg ix T) (ht:∀L cs s H fp,sV C (cxC X N' scope L cs s H fp) ifs t) (he:∀L cs s H fp,KD C (cxC X N' scope L cs s H fp) k elt e)
  (hs:∀x,foldedSetIterable iter X.env x=pure x:=by intro _;rfl):KD C X (.l k) (.ListComp elt [⟨tg,iter,ifs,0⟩] scope pos) (eLs (aW src n T t e)):=by
 rintro pins s O H Q I ⟨U,⟨H0,r⟩,q⟩;obtain⟨c2,hkind,hnames⟩:=o5 hchk;rw[eval_ListComp];refine wpAny_comprehension_free (use:=none) rfl hs (vm λx hx=>I.ok.has x (qf (c2 x hx))) hkind hnames ?_;show wpAny _ _ (eval iter X.env) _ _ s;refine thn (hi pins s O H _ I (sC r q)) λv s1 h1=>thn h1 λitv s2 zz0=>?_;obtain⟨it,fp,tn,J,H2,ei,I2,TT,t0,f2,xs,ds,s2',r2,wk,hl,hd,hq⟩:=zz0;subst ei;refine nZ (R:=λacc L=>compPost (model X.prog X.w) X.A X.xe none (EP X pins O Q) acc L) hcalm hchk hN hix hg ht he I2 r2 TT t0 f2 wk hl hd ?_;rintro a L vs A H' s1 sf hA ha hn hv IX uL lne lsz lc lp ⟨m,hm⟩;refine⟨m,hm,λh' hs'=>⟨.ref a,_,IX.turned (t':=s1.toks) (λb o hb eo=>(hs'.2 b hb).trans eo) uL lne (.inr lsz) lc lp,rfl,hq _ H' (a::A) (sf.trans qE) hA (.l ha (by rw[<- jR];exact hv) hn)⟩⟩
theorem b_ (hcalm:X.calm=true) (hchk:ub X.N N' X.env scope=true) (hN:N'.length=X.N.length+n) (hix:∀j∈ix,X.N.length<=j) (tk:At ix T) (hi:ID C X tg iter src)
  (hg:∀L cs s H fp,GD C (cxC X N' scope L cs s H fp) tg ix T) (ht:∀L cs s H fp,sV C (cxC X N' scope L cs s H fp) ifs t) (he:∀L cs s H fp,ED C (cxC X N' scope L cs s H fp) elt e)
  (hs:∀x,foldedSetIterable iter X.env x=pure x:=by intro _;rfl):FD C X (.ListComp elt [⟨tg,iter,ifs,0⟩] scope pos) (aW src n T t e) :=
 aJ (zF hcalm hchk hN hix hi hg ht (λL cs s H fp=>xJ (he L cs s H fp)) hs) λO H Q h=>Aw h
theorem li {y:Str} {py spos:Pos} (hy:PG X (.Name y py) (fR i)) (hcalm:X.calm=true) (hchk:ub X.N N' X.env scope=true) (hN:N'.length=X.N.length+n) (hix:∀j∈ix,X.N.length<=j) (hi:ID C X tg iter src)
  (hg:∀L cs s H fp,GD C (cxC X N' scope L cs s H fp) tg ix T) (ht:∀L cs s H fp,sV C (cxC X N' scope L cs s H fp) ifs t) (he:∀L cs s H fp,KD C (cxC X N' scope L cs s H fp) k elt e)
  (hsw:swapsWith (.ListComp elt [⟨tg,iter,ifs,0⟩] scope pos) (some (.Name y py)) spos.line X.env=pure true)
  (hs:∀x,foldedSetIterable iter X.env x=pure x:=by intro _;rfl):PS X (.Assign [.Name y py] (.ListComp elt [⟨tg,iter,ifs,0⟩] scope pos) spos) (tm (teK C X (.l k) (eLs (aW src n T t e))) (fR i)):=by
 rintro pins s O H Dn I ⟨U,⟨H0,r⟩,q⟩;obtain⟨c2,hkind,hnames⟩:=o5 hchk;rw[exec_Assign_Name_used _ _ _ _ hsw];refine wpAny_bind (wpAny_standAt (wpAny_bind ?_));show wpAny _ _ (do let _ <- comprehension (.ListComp elt [⟨tg,iter,ifs,0⟩] scope pos) scope X.env _ (newList []) false (eval iter X.env) (some (assign (.Name y py) X.env))) _ _ s;refine wpAny_bind (wpAny_mono (wpAny_comprehension_free (use:=some (assign (.Name y py) X.env)) (Q:=λ_ s'=>SP X pins Dn .next s') rfl hs (vm λx hx=>I.ok.has x (qf (c2 x hx))) hkind hnames ?_) (λ_ s' hq=>wpAny_pure (wpAny_pure hq)) λ_ _ z=>z);refine thn (hi pins s O H _ I (sC r q)) λv s1 h1=>thn h1 λitv s2 zz1=>?_;obtain⟨it,fp,tn,J,H2,ei,I2,TT,t0,f2,xs,ds,s2',r2,wk,hl,hd,hq⟩:=zz1;subst ei;refine nZ (R:=λacc L=>compPost (model X.prog X.w) X.A X.xe (some (assign (.Name y py) X.env)) (λ_ s'=>SP X pins Dn .next s') acc L) hcalm hchk hN hix hg ht he I2 r2 TT t0 f2 wk hl hd ?_;rintro a L vs A H' s1 sf hA ha hn hv IX uL lne lsz lc lp ⟨m,hm⟩;obtain⟨oL,esL,epL,eoL,edL,restL⟩:=id hm;have nfs:L∉X.fs:=λz=>by
  obtain⟨_,o,ho,_⟩:=I.ok.funs.mem z;exact absurd (Nat.lt_of_lt_of_le (Heap.lt_size ho) lsz) (Nat.lt_irrefl _)
 have IP:Inv X (pins++[(L,oL)]) O H' s1:=IX.pins_of λp hp=>by
  rcases List.mem_append.mp hp with hp|hp
  ·exact IX.pin p (List.mem_append_right _ hp)
  ·have:p=(L,oL):=by simpa using hp
   subst this;exact⟨eoL,uL,lne,nfs,λv z=>by rw[edL]at z;cases z⟩
 show wpAny _ _ (assign (.Name y py) X.env (.ref a)) _ _ s1;refine thn (hy _ s1 O _ (.ref a) (.ref a) Dn.nx IP rfl (hq _ H' (a::A) (sf.trans qE) hA (.l ha (by rw[<- jR];exact hv) hn))) λ_ s2 zz2=>?_;obtain⟨σ',H',I',qn⟩:=zz2;have pL:=I'.pin (L,oL) (List.mem_append_right _ (List.mem_append_right _ (by simp)));have I'':Inv X pins σ' H' s2:=I'.unpinned;refine⟨m,⟨oL,esL,epL,pL.1,edL,restL⟩,λh' hs'=>⟨σ',H',I''.turned (t':=s2.toks) (λb o hb eo=>(hs'.2 b hb).trans eo) pL.2.1 lne (.inr lsz) lc lp,qn⟩⟩
theorem cg {y:Str} {py spos:Pos} (hy:PG X (.Name y py) (fR i)) (hcalm:X.calm=true) (hchk:ub X.N N' X.env scope=true) (hN:N'.length=X.N.length+n) (hix:∀j∈ix,X.N.length<=j) (tk:At ix T) (hi:ID C X tg iter src)
  (hg:∀L cs s H fp,GD C (cxC X N' scope L cs s H fp) tg ix T) (ht:∀L cs s H fp,sV C (cxC X N' scope L cs s H fp) ifs t) (he:∀L cs s H fp,ED C (cxC X N' scope L cs s H fp) elt e)
  (hsw:swapsWith (.ListComp elt [⟨tg,iter,ifs,0⟩] scope pos) (some (.Name y py)) spos.line X.env=pure true)
  (hs:∀x,foldedSetIterable iter X.env x=pure x:=by intro _;rfl):PS X (.Assign [.Name y py] (.ListComp elt [⟨tg,iter,ifs,0⟩] scope pos) spos) (tm (teF C X (aW src n T t e)) (fR i)) :=
 bq (li hy hcalm hchk hN hix hi hg ht (λL cs s H fp=>xJ (he L cs s H fp)) hsw hs) λD O H h=>Aw h
theorem yT {F:Rho->R D} (h:PS X st (tm (teK C X k F) (fR i))):SD C X st (trS i k F) :=
  bq h λD O H yy=>by
   obtain⟨_,H0,⟨U,rfl,r⟩,q⟩:=yy;exact⟨U,⟨H0,r⟩,by
    unfold trS at q;cases z:F U with
    | val d=>rw[z]at q;exact λv H' A s hA h=>q _ _ ⟨_,rfl,r.setTre s hA h⟩
    | exc c=>rw[z]at q;exact cX r q
    | bad=>rw[z]at q;exact q⟩
theorem fv (h:PS X st (tm (teF C X F) (fR i))):SD C X st (asg i (eLs F)) :=
  bq h λD O H yy0=>by
   obtain⟨_,H0,⟨U,rfl,r⟩,q⟩:=yy0;exact⟨U,⟨H0,r⟩,by
    unfold asg eLs BW at q;cases e:F U with
    | val xs =>
      rw[e]at q;exact λa vs H1 s1 hn h1=>q _ _ ⟨_,rfl,(r.mono (s1.trans (aL hn))).setShr (.lst ((r.mono s1).new hn) (h1.mono (aZ (aL hn))))⟩
    | exc c=>rw[e]at q;exact cX r q
    | bad=>rw[e]at q;exact q⟩
theorem yU (h:PS X st (tm (teF C X F) (fR i))):SD C X st (own i F) :=
  bq h λD O H yy1=>by
   obtain⟨_,H0,⟨U,rfl,r⟩,q⟩:=yy1;exact⟨U,⟨H0,r⟩,by
    unfold own at q;cases e:F U with
    | val xs =>
      rw[e]at q;exact λa vs H1 s1 hn h1=>q _ _ ⟨_,rfl,(r.mono s1).setOwn hn h1⟩
    | exc c=>rw[e]at q;exact cX r q
    | bad=>rw[e]at q;exact q⟩
end
end DL
namespace DL
open PySem PySem.Spec PyProof.Rows L2
def eqb:Nat->D->Bool
 | _,.non=>true
 | _,.bl _=>true
 | _,.int _=>true
 | n+1,.lst xs=>xs.all (eqb n)
 | n+1,.tup xs=>xs.all (eqb n)
 | _,_=>false
def pyq:Nat->D->D->Bool
 | _,.non,.non=>true
 | _,.bl a,.bl b=>a==b
 | _,.bl a,.int b=>(if a then 1 else 0)==b
 | _,.int a,.bl b=>a==(if b then 1 else 0)
 | _,.int a,.int b=>a==b
 | n+1,.lst xs,.lst ys=>decide (xs.length=ys.length)&&(List.range xs.length).all λj=>pyq n (xs.getD j .non) (ys.getD j .non)
 | n+1,.tup xs,.tup ys=>decide (xs.length=ys.length)&&(List.range xs.length).all λj=>pyq n (xs.getD j .non) (ys.getD j .non)
 | _,_,_=>false
theorem pH (n:Nat) (xs ys:List D):pyq (n+1) (.lst xs) (.lst ys)=(decide (xs.length=ys.length)&&(List.range xs.length).all λj=>pyq n (xs.getD j .non) (ys.getD j .non)):=rfl
theorem pG (n:Nat) (xs ys:List D):pyq (n+1) (.tup xs) (.tup ys)=(decide (xs.length=ys.length)&&(List.range xs.length).all λj=>pyq n (xs.getD j .non) (ys.getD j .non)):=rfl
section
variable {K:Frag} {C:Addr} {H:Hp}
theorem HasL.inj {n:Nat} (ih:∀{v:V} {x y:D},eqb n x=true->eqb n y=true->Has K C H v x->Has K C H v y->x=y):∀{vs:List V} {xs ys:List D},xs.all (eqb n)=true->ys.all (eqb n)=true->HasL K C H vs xs->HasL K C H vs ys->xs=ys
 | _,_,_,_,_,.nil,.nil=>rfl
 | _,_,_,h1,h2,.cons a b,.cons c d=>by
  rw[List.all_cons,Bool.and_eq_true]at h1 h2;rw[ih h1.1 h2.1 a c,HasL.inj ih h1.2 h2.2 b d]
theorem Has.inj:∀{n:Nat} {v:V} {x y:D},eqb n x=true->eqb n y=true->Has K C H v x->Has K C H v y->x=y:=by
 intro n
 induction n with
 | zero =>
  intro v x y h1 h2 a b;cases a<;>cases b<;>first|rfl|cases h1|cases h2
 | succ n ih =>
  intro v x y h1 h2 a b;cases a with
  | non=>cases b;rfl
  | bl _=>cases b;rfl
  | int _=>cases b;rfl
  | lst e1 g1 =>
   cases b with
   | lst e2 g2=>rw[e1]at e2;cases e2;rw[HasL.inj ih h1 h2 g1 g2]
   | tup e2 g2=>rw[e1]at e2;cases e2
   | ob _ _ _ _=>cases h2
   | scr _=>cases h2
   | exn _=>cases h2
  | tup e1 g1 =>
   cases b with
   | tup e2 g2=>rw[e1]at e2;cases e2;rw[HasL.inj ih h1 h2 g1 g2]
   | lst e2 g2=>rw[e1]at e2;cases e2
   | ob _ _ _ _=>cases h2
   | scr _=>cases h2
   | exn _=>cases h2
  | ob _ _ _ _=>cases h1
  | scr _=>cases h1
  | exn _=>cases h1
theorem q9:∀{n:Nat} {x:D},eqb n x=true->pyq n x x=true:=by
 intro n
 induction n with
 | zero =>
  intro x h;cases x with
  | non=>rfl
  | bl b=>exact beq_self_eq_true _
  | int b=>exact beq_self_eq_true _
  | _=>cases h
 | succ n ih =>
  intro x h;cases x with
  | non=>rfl
  | bl b=>exact beq_self_eq_true _
  | int b=>exact beq_self_eq_true _
  | lst xs =>
   rw[pH];simp only[decide_true,Bool.true_and,List.all_eq_true,List.mem_range];intro j hj;have h:xs.all (eqb n)=true:=h;rw[List.all_eq_true]at h;have e:xs.getD j .non=xs[j]:=by simp[List.getD,List.getElem?_eq_getElem hj]
   rw[e];exact ih (h _ (List.getElem_mem hj))
  | tup xs =>
   rw[pG];simp only[decide_true,Bool.true_and,List.all_eq_true,List.mem_range];intro j hj;have h:xs.all (eqb n)=true:=h;rw[List.all_eq_true]at h;have e:xs.getD j .non=xs[j]:=by simp[List.getD,List.getElem?_eq_getElem hj]
   rw[e];exact ih (h _ (List.getElem_mem hj))
  | ob _ _ _=>cases h
  | scr _=>cases h
  | exn _=>cases h
end
variable {X:Cx} {C:Addr} {H:Hp} {s:Shared} {vs:List V}
open SeqAt in
theorem AO {n:Nat} {A:Around} {xs ys:List D} {ws:List V} {its its2:List Value}
  (ih:∀{x y:D} {v w:V} {u t:Value},eqb n x=true->eqb n y=true->Has X.K C H v x->Has X.K C H w y->RelV v u->RelV w t->EqAt A s u t (pyq n x y))
  (h1:∀x∈xs,eqb n x=true) (h2:∀x∈ys,eqb n x=true) (g1:HasL X.K C H vs xs) (g2:HasL X.K C H ws ys) (r:Vals vs its) (r2:Vals ws its2) (j:Nat) (h1':j<its.toArray.size) (h2':j<its2.toArray.size) :
  EqAt A s its.toArray[j] its2.toArray[j] (pyq n (xs.getD j .non) (ys.getD j .non)):=by
 have j1:j<xs.length:=by rw[<- g1.len,r.length];exact h1'
 have j2:j<ys.length:=by rw[<- g2.len,r2.length];exact h2'
 obtain⟨vj,ev,hv⟩:=g1.get (List.getElem?_eq_getElem j1);obtain⟨wj,ew,hw⟩:=g2.get (List.getElem?_eq_getElem j2);obtain⟨uj,eu,ruj⟩:=r.get ev;obtain⟨tj,et,rtj⟩:=r2.get ew;have eu':its.toArray[j]=uj:=(List.getElem?_eq_some_iff.mp eu).2;have et':its2.toArray[j]=tj:=(List.getElem?_eq_some_iff.mp et).2;have ex:xs.getD j .non=xs[j]:=by rw[List.getD,List.getElem?_eq_getElem j1];rfl
 have ey:ys.getD j .non=ys[j]:=by rw[List.getD,List.getElem?_eq_getElem j2];rfl
 rw[eu',et',ex,ey];exact ih (h1 _ (List.getElem_mem j1)) (h2 _ (List.getElem_mem j2)) hv hw ruj rtj
variable {pins:List (Addr×Obj)} {O:St}
open SeqAt in
theorem uf (I:Inv X pins O H s):∀(n:Nat) {A:Around} {x y:D} {v w:V} {u t:Value},A.units+n<cLine->eqb n x=true->eqb n y=true->Has X.K C H v x->Has X.K C H w y->RelV v u->RelV w t ->
  RcAt A s u t (pyq n x y)/\EqAt A s u t (pyq n x y)/\RcNeAt A s u t (!pyq n x y):=by
 intro n
 induction n with
 | zero =>
  intro A x y v w u t hu h1 h2 a b ru rt;cases a with
  | non =>
   cases ru;cases b with
   | non=>cases rt;exact⟨RcAt.none_none,EqAt.same _,RcNeAt.none_none⟩
   | bl _=>cases rt;exact⟨RcAt.none_bool _,EqAt.none_bool _,RcNeAt.none_bool _⟩
   | int _=>obtain⟨_,rfl⟩:=rt;exact⟨RcAt.none_int _ _,EqAt.none_int _ _,RcNeAt.none_int _ _⟩
   | _=>cases h2
  | bl _ =>
   cases ru;cases b with
   | non=>cases rt;exact⟨RcAt.bool_none _,EqAt.bool_none _,RcNeAt.bool_none _⟩
   | bl _=>cases rt;exact⟨RcAt.bool_bool _ _,EqAt.bool_bool _ _,RcNeAt.bool_bool _ _⟩
   | int _=>obtain⟨_,rfl⟩:=rt;exact⟨RcAt.bool_int _ _ _,EqAt.bool_int _ _ _,RcNeAt.bool_int _ _ _⟩
   | _=>cases h2
  | int _ =>
   obtain⟨_,rfl⟩:=ru;cases b with
   | non=>cases rt;exact⟨RcAt.int_none _ _,EqAt.int_none _ _,RcNeAt.int_none _ _⟩
   | bl _=>cases rt;exact⟨RcAt.int_bool _ _ _,EqAt.int_bool _ _ _,RcNeAt.int_bool _ _ _⟩
   | int _=>obtain⟨_,rfl⟩:=rt;exact⟨RcAt.int_int _ _ _ _,EqAt.int_int _ _ _ _,RcNeAt.int_int _ _ _ _⟩
   | _=>cases h2
  | _=>cases h1
 | succ n ih =>
  intro A x y v w u t hu h1 h2 a b ru rt;have hA:A.units<cLine:=by omega
  have hin:A.in1.units+n<cLine:=by show A.units+1+n<cLine;omega
  cases a with
  | non =>
   cases ru;cases b with
   | non=>cases rt;exact⟨RcAt.none_none,EqAt.same _,RcNeAt.none_none⟩
   | bl _=>cases rt;exact⟨RcAt.none_bool _,EqAt.none_bool _,RcNeAt.none_bool _⟩
   | int _=>obtain⟨_,rfl⟩:=rt;exact⟨RcAt.none_int _ _,EqAt.none_int _ _,RcNeAt.none_int _ _⟩
   | lst e2 g2=>cases rt;obtain⟨its,r,p,_⟩:=I.list (SqL.of e2);exact⟨RcAt.none_list p.isList hA,EqAt.none_list p.isList hA,RcNeAt.none_list p.isList hA⟩
   | tup e2 g2=>cases rt;obtain⟨its,r,p,_⟩:=I.tuple (SqT.of e2);exact⟨RcAt.none_tuple p hA,EqAt.none_tuple p hA,RcNeAt.none_tuple p hA⟩
   | _=>cases h2
  | bl _ =>
   cases ru;cases b with
   | non=>cases rt;exact⟨RcAt.bool_none _,EqAt.bool_none _,RcNeAt.bool_none _⟩
   | bl _=>cases rt;exact⟨RcAt.bool_bool _ _,EqAt.bool_bool _ _,RcNeAt.bool_bool _ _⟩
   | int _=>obtain⟨_,rfl⟩:=rt;exact⟨RcAt.bool_int _ _ _,EqAt.bool_int _ _ _,RcNeAt.bool_int _ _ _⟩
   | lst e2 g2=>cases rt;obtain⟨its,r,p,_⟩:=I.list (SqL.of e2);exact⟨RcAt.bool_list _ p.isList hA,EqAt.bool_list _ p.isList hA,RcNeAt.bool_list _ p.isList hA⟩
   | tup e2 g2=>cases rt;obtain⟨its,r,p,_⟩:=I.tuple (SqT.of e2);exact⟨RcAt.bool_tuple _ p hA,EqAt.bool_tuple _ p hA,RcNeAt.bool_tuple _ p hA⟩
   | _=>cases h2
  | int _ =>
   obtain⟨_,rfl⟩:=ru;cases b with
   | non=>cases rt;exact⟨RcAt.int_none _ _,EqAt.int_none _ _,RcNeAt.int_none _ _⟩
   | bl _=>cases rt;exact⟨RcAt.int_bool _ _ _,EqAt.int_bool _ _ _,RcNeAt.int_bool _ _ _⟩
   | int _=>obtain⟨_,rfl⟩:=rt;exact⟨RcAt.int_int _ _ _ _,EqAt.int_int _ _ _ _,RcNeAt.int_int _ _ _ _⟩
   | lst e2 g2=>cases rt;obtain⟨its,r,p,_⟩:=I.list (SqL.of e2);exact⟨RcAt.int_list _ _ p.isList hA,EqAt.int_list _ _ p.isList hA,RcNeAt.int_list _ _ p.isList hA⟩
   | tup e2 g2=>cases rt;obtain⟨its,r,p,_⟩:=I.tuple (SqT.of e2);exact⟨RcAt.int_tuple _ _ p hA,EqAt.int_tuple _ _ p hA,RcNeAt.int_tuple _ _ p hA⟩
   | _=>cases h2
  | @lst la vs xs e1 g1 =>
   cases ru;obtain⟨its,r,p,_⟩:=I.list (SqL.of e1);cases b with
   | non=>cases rt;exact⟨RcAt.list_none p.isList hA,EqAt.list_none p.isList hA,RcNeAt.list_none p.isList hA⟩
   | bl _=>cases rt;exact⟨RcAt.list_bool _ p.isList hA,EqAt.list_bool _ p.isList hA,RcNeAt.list_bool _ p.isList hA⟩
   | int _=>obtain⟨_,rfl⟩:=rt;exact⟨RcAt.list_int _ _ p.isList hA,EqAt.list_int _ _ p.isList hA,RcNeAt.list_int _ _ p.isList hA⟩
   | tup e2 g2=>cases rt;obtain⟨its2,r2,p2,_⟩:=I.tuple (SqT.of e2);exact⟨RcAt.list_tuple p.isList p2 hA,EqAt.list_tuple p.isList p2 hA,RcNeAt.list_tuple p.isList p2 hA⟩
   | @lst lb ws ys e2 g2 =>
    cases rt;obtain⟨its2,r2,p2,_⟩:=I.list (SqL.of e2);have l1:its.length=xs.length:=by rw[<- r.length,g1.len]
    have l2:its2.length=ys.length:=by rw[<- r2.length,g2.len]
    have el:=AO (A:=A.in1) (s:=s) (λa b c d e f=>(ih hin a b c d e f).2.1) (List.all_eq_true.mp h1) (List.all_eq_true.mp h2) g1 g2 r r2;have rc:RcAt A s (.ref la) (.ref lb) (pyq (n+1) (.lst xs) (.lst ys)):=by
     rw[pH];by_cases hl:xs.length=ys.length
     ·have q:=RcAt.lists (A:=A) (s:=s) (e:=λj=>pyq n (xs.getD j .non) (ys.getD j .non)) p.isList p2.isList (by simp[l1,l2,hl]) hA el;have es:its.toArray.size=xs.length:=by simp[l1]
      rw[es]at q;rw[decide_eq_true hl,Bool.true_and];exact q
     ·rw[decide_eq_false hl,Bool.false_and];exact RcAt.lists_lengths p.isList p2.isList (by simp[l1,l2,hl]) hA
    have rn:RcNeAt A s (.ref la) (.ref lb) (!pyq (n+1) (.lst xs) (.lst ys)):=by
     rw[pH];by_cases hl:xs.length=ys.length
     ·have q:=RcNeAt.lists (A:=A) (s:=s) (e:=λj=>pyq n (xs.getD j .non) (ys.getD j .non)) p.isList p2.isList (by simp[l1,l2,hl]) hA el;have es:its.toArray.size=xs.length:=by simp[l1]
      rw[es]at q;rw[decide_eq_true hl,Bool.true_and];exact q
     ·rw[decide_eq_false hl,Bool.false_and];exact RcNeAt.lists_lengths p.isList p2.isList (by simp[l1,l2,hl]) hA
    refine⟨rc,?_,rn⟩;by_cases hab:la=lb
    ·subst hab;have:=Has.inj h1 h2 (.lst e1 g1) (.lst e2 g2);rw[this,q9 h2];exact EqAt.same _
    ·exact EqAt.of_refs hab rc
   | _=>cases h2
  | @tup la vs xs e1 g1 =>
   cases ru;obtain⟨its,r,p,_⟩:=I.tuple (SqT.of e1);cases b with
   | non=>cases rt;exact⟨RcAt.tuple_none p hA,EqAt.tuple_none p hA,RcNeAt.tuple_none p hA⟩
   | bl _=>cases rt;exact⟨RcAt.tuple_bool _ p hA,EqAt.tuple_bool _ p hA,RcNeAt.tuple_bool _ p hA⟩
   | int _=>obtain⟨_,rfl⟩:=rt;exact⟨RcAt.tuple_int _ _ p hA,EqAt.tuple_int _ _ p hA,RcNeAt.tuple_int _ _ p hA⟩
   | lst e2 g2=>cases rt;obtain⟨its2,r2,p2,_⟩:=I.list (SqL.of e2);exact⟨RcAt.tuple_list p p2.isList hA,EqAt.tuple_list p p2.isList hA,RcNeAt.tuple_list p p2.isList hA⟩
   | @tup lb ws ys e2 g2 =>
    cases rt;obtain⟨its2,r2,p2,_⟩:=I.tuple (SqT.of e2);have l1:its.length=xs.length:=by rw[<- r.length,g1.len]
    have l2:its2.length=ys.length:=by rw[<- r2.length,g2.len]
    have el:=AO (A:=A.in1) (s:=s) (λa b c d e f=>(ih hin a b c d e f).2.1) (List.all_eq_true.mp h1) (List.all_eq_true.mp h2) g1 g2 r r2;have rc:RcAt A s (.ref la) (.ref lb) (pyq (n+1) (.tup xs) (.tup ys)):=by
     rw[pG];have q:=RcAt.tuples (A:=A) (s:=s) (e:=λj=>pyq n (xs.getD j .non) (ys.getD j .non)) p p2 hA el;have es:its.toArray.size=xs.length:=by simp[l1]
     have es2:its2.toArray.size=ys.length:=by simp[l2]
     rw[es,es2]at q;by_cases hl:xs.length=ys.length
     ·rw[hl,Nat.min_self,beq_self_eq_true,Bool.and_true]at q;rw[decide_eq_true hl,Bool.true_and,hl];exact q
     ·rw[decide_eq_false hl,Bool.false_and];rw[show(xs.length==ys.length)=false by simpa using hl,Bool.and_false]at q;exact q
    have rn:RcNeAt A s (.ref la) (.ref lb) (!pyq (n+1) (.tup xs) (.tup ys)):=by
     rw[pG];have q:=RcNeAt.tuples (A:=A) (s:=s) (e:=λj=>pyq n (xs.getD j .non) (ys.getD j .non)) p p2 hA el;have es:its.toArray.size=xs.length:=by simp[l1]
     have es2:its2.toArray.size=ys.length:=by simp[l2]
     rw[es,es2]at q;by_cases hl:xs.length=ys.length
     ·rw[hl,Nat.min_self,beq_self_eq_true,Bool.and_true]at q;rw[decide_eq_true hl,Bool.true_and,hl];exact q
     ·rw[decide_eq_false hl,Bool.false_and];rw[show(xs.length==ys.length)=false by simpa using hl,Bool.and_false]at q;exact q
    refine⟨rc,?_,rn⟩;by_cases hab:la=lb
    ·subst hab;have:=Has.inj h1 h2 (.tup e1 g1) (.tup e2 g2);rw[this,q9 h2];exact EqAt.same _
    ·exact EqAt.of_refs hab rc
   | _=>cases h2
  | _=>cases h1
open SeqAt in
theorem ye (I:Inv X pins O H s):∀(n:Nat) {A:Around} {x y:D} {v w:V} {u t:Value},A.units+n<cLine->eqb n x=true->eqb n y=true->Has X.K C H v x->Has X.K C H w y->RelV v u->RelV w t ->
  RcAt A s u t (pyq n x y)/\EqAt A s u t (pyq n x y) :=
 λn _ _ _ _ _ _ _ hu h1 h2 a b c d=>⟨(uf I n hu h1 h2 a b c d).1,(uf I n hu h1 h2 a b c d).2.1⟩
open SeqAt in
theorem Df (I:Inv X pins O H s):∀(n:Nat) {A:Around} {x y:D} {v w:V} {u t:Value},A.units+n<cLine->eqb n x=true->eqb n y=true->Has X.K C H v x->Has X.K C H w y->RelV v u->RelV w t ->
  RcNeAt A s u t (!pyq n x y) :=
 λn _ _ _ _ _ _ _ hu h1 h2 a b c d=>(uf I n hu h1 h2 a b c d).2.2
variable {K:Frag}
theorem Brw.has {M:Hp} {v:V} {d:D} (s:Same M H) (h:Brw K C M H v d):Has K C H v d:=by
 cases h with
 | cl h=>exact h.mono s
 | own e h=>exact .lst e (h.mono s)
variable {a b:Expr} {pos:Pos} {Fa Fb:Rho->R D}
section
variable {C:Addr} {X:Cx}
def feq (x y:D):R D:=if eqb 9 x=true/\eqb 9 y=true then .val (.bl (pyq 9 x y))else .bad
def fne (x y:D):R D:=if eqb 9 x=true/\eqb 9 y=true then .val (.bl (!pyq 9 x y))else .bad
def y_ (K:Frag) (C:Addr) (neg:Bool):R2:=λv w H Q=>∃x y,eqb 9 x=true/\eqb 9 y=true/\Has K C H v x/\Has K C H w y/\Q (.bl (if neg then !pyq 9 x y else pyq 9 x y)) H
theorem xq (hu:X.A.units+9<cLine):OpR X (compareOp .Eq) (y_ X.K C false):=by
 intro pins s O H x y v u Q I rx ry h;obtain⟨dx,dy,e1,e2,h1,h2,q⟩:=h;exact(ye I 9 hu e1 e2 h1 h2 rx ry).1 _ _ _ _ ⟨.bl _,H,I,rfl,q⟩
theorem BM (hu:X.A.units+9<cLine):OpR X (compareOp .NotEq) (y_ X.K C true):=by
 intro pins s O H x y v u Q I rx ry h;obtain⟨dx,dy,e1,e2,h1,h2,q⟩:=h;exact Df I 9 hu e1 e2 h1 h2 rx ry _ _ _ _ ⟨.bl _,H,I,rfl,q⟩
theorem xn:OpD C X (y_ X.K C false) feq:=by
 intro U O H v w x y z Q r hx hy e k;unfold feq at e;split at e
 ·rename_i hh;cases e;exact⟨x,y,hh.1,hh.2,hx.has msk_sub,hy.has msk_sub,k _ H (Same.refl _) (.bl _)⟩
 ·cases e
theorem BH:OpD C X (y_ X.K C true) fne:=by
 intro U O H v w x y z Q r hx hy e k;unfold fne at e;split at e
 ·rename_i hh;cases e;exact⟨x,y,hh.1,hh.2,hx.has msk_sub,hy.has msk_sub,k _ H (Same.refl _) (.bl _)⟩
 ·cases e
theorem AC:fu feq:=λx y c e=>by unfold feq at e;split at e<;>cases e
theorem C5:fu fne:=λx y c e=>by unfold fne at e;split at e<;>cases e
theorem u9 (hu:X.A.units+9<cLine) (ha:EB C X a Fa) (hb:EB C X b Fb):ED C X (.Compare a [.Eq] [b] pos) (bin feq Fa Fb):=Ct (xq (C:=C) hu) AC xn ha hb (mT _)
theorem h9 (hu:X.A.units+9<cLine) (ha:EB C X a Fa) (hb:EB C X b Fb):TD C X (.Compare a [.Eq] [b] pos) (tst (bin feq Fa Fb)):=mF (xq (C:=C) hu) AC xn ha hb (mT _)
theorem dn (hu:X.A.units+9<cLine) (ha:EB C X a Fa) (hb:EB C X b Fb):TD C X (.Compare a [.NotEq] [b] pos) (tst (bin fne Fa Fb)):=mF (BM (C:=C) hu) C5 BH ha hb (mT _)
end
variable {C:Addr} {X:Cx}
def Ite (K:Frag) (a:Addr):It :=
 ⟨λi H=>∃xs x,SqL K H a xs/\xs[i]?=some x,λi H v H'=>∃p x,H p=none/\v=.ref p/\H'=upd H p (.tup [.int (i:Int),x])/\∀xs,SqL K H a xs->xs[i]?=some x,λi H=>∃xs,SqL K H a xs/\xs.length<=i⟩
variable {es:List Expr} {k:Nat}
theorem vz {P:Program} {w:World} (a it e:Addr) (hne:e≠it) :
  wr P w K (.Tuple es k pos) (Ite K a) [e,it] e (λi h=>(∃old,IsEnum h e it i old)/\h.IsListIter it a i) where
 mem:=by simp
 obj:=λi h st b hb=>by
  obtain⟨⟨old,he⟩,o,eo,c,d⟩:=st;have hb:b=e\/b=it:=by simpa using hb
  rcases hb with rfl|rfl
  ·exact⟨_,he,λv z=>by have z':Data.fields _=Data.cell v:=z;cases z'⟩
  ·exact⟨o,eo,λv z=>by rw[d]at z;cases z⟩
 keep:=λi h h' st kk=>by
  obtain⟨⟨old,he⟩,st⟩:=st;exact⟨⟨old,kk e (by simp) _ he⟩,st.at λo q=>kk it (by simp) o q⟩
 item:=by
  intro X hP hw hK hc i pins s O H E I hf st hg;subst hP hw hK;obtain⟨⟨old,he⟩,hit⟩:=st;obtain⟨xs,x,hq,hx⟩:=hg;obtain⟨its,rv,p,hz⟩:=I.list hq;obtain⟨u,hu,ru⟩:=rv.get hx;refine wpAny_pyNext_enum_item he hit p.isList (x:=u) (by simpa using hu) hne λh' out hit' ht hsz hk=>?_;refine⟨_,rfl,wpAny_letOwnedTupleGo_enum out λh'' he'' sb=>?_⟩;have fr:=I.fresh;have hk2:∀b o,b≠e->b≠it->s.heap.get? b=some o->h''.get? b=some o:=λb o h1 h2 eo=>(sb.2 b h1).trans (hk b o h1 h2 eo);have hse:s.heap.objs.size≠e:=Nat.ne_of_gt (Heap.lt_size he);have ht2:h''.get? s.heap.objs.size=some { cls:=.type "tuple",data:=.seq #[.int i s.toks,u] }:=(sb.2 _ hse).trans ht;have ne':∀b,H b≠none->b≠e/\b≠it:=λb hb=>⟨λz=>hb (by rw[z];exact(hf e (by simp)).1),λz=>hb (by rw[z];exact(hf it (by simp)).1)⟩;have I1:Inv X pins O (upd H s.heap.objs.size (.tup [.int (i:Int),x])) { s with heap:=h'',toks:=s.toks+1 }:=by
   refine I.call' (s':={ s with heap:=h'',toks:=s.toks+1 }) (ch:=[e,it]) rfl ⟨λb o q n hfs hx=>hk2 b o (λz=>hx (by simp[z])) (λz=>hx (by simp[z])) q,λb o q n hfs hx=>⟨o.slots,hk2 b o (λz=>hx (by simp[z])) (λz=>hx (by simp[z])) q⟩,
    λb o q n hx=>?_,λb o q hx=>⟨o,hk2 b o (λz=>hx (by simp[z])) (λz=>hx (by simp[z])) q⟩,λb ys q=>?_,λb o v q=>?_,λb ps q=>?_⟩ (λb o q=>?_) I.bare λb hb=>?_
   ·rw[aE (Nat.ne_of_lt (Heap.lt_size q))];exact n
   ·rw[aE (bx q fr)];exact q
   ·rw[aE (bx q fr)];exact q
   ·exact⟨#[],by rw[aE (bx q fr),q];simp⟩
   ·by_cases hb:b=s.heap.objs.size
    ·subst hb;rw[aO]at q;cases q;exact⟨by show 2<=sizeLine;decide,[.int i s.toks,u],.cons ⟨_,rfl⟩ (.cons ru .nil),⟨_,ht2,rfl,_,rfl⟩⟩
    ·rw[aE hb]at q;refine(I.hok b o q).stay (λc v hc qv=>?_) (λc qc=>by rw[aE (bx qc fr)];exact qc) λc ys qc=>by rw[aE (bx qc fr)];exact qc
     have hcn:H c≠none:=by
      rcases hc with z|z
      ·rw[z,q];simp
      ·rw[z];simp
     obtain⟨n1,n2⟩:=ne' c hcn;exact hk2 c v n1 n2 qv
   ·obtain⟨g0,g1,g2,g3,g4,g5⟩:=hf b hb;exact⟨g3,g1,g4,g5⟩
  refine⟨.ref s.heap.objs.size,_,I1,rfl,⟨_,x,fr,rfl,rfl,λys hy=>by rw[I.list_inj hy hq];exact hx⟩,⟨⟨u,?_⟩,?_⟩,λb hb=>?_⟩
  ·have:((i:Int)+1)=((i+1:Nat):Int):=by push_cast;rfl
   rw[this]at he'';exact he''
  ·exact hit'.at λo q=>(sb.2 it (Ne.symm hne)).trans q
  ·have hb':=(hf b hb).1;have hlt:b<s.heap.objs.size:=by
    have hb:b=e\/b=it:=by simpa using hb
    rcases hb with rfl|rfl
    ·exact Heap.lt_size he
    ·obtain⟨o,eo,_⟩:=hit;exact Heap.lt_size eo
   rw[aE (Nat.ne_of_lt hlt)];exact hb'
 done:=by
  intro X hP hw hK hc i pins s O H E I hf st hg;subst hP hw hK;obtain⟨⟨old,he⟩,hit⟩:=st;obtain⟨xs,hq,hx⟩:=hg;obtain⟨its,rv,p,hz⟩:=I.list hq;obtain⟨f0,f1,f2,f3,f4,f5⟩:=hf it (by simp);have hl:=rv.length;exact wpAny_pyNext_enum_end (I.ok.hd hc) he hit p.isList (by simp;omega) λh' eb=>⟨rfl,I.turned (t':=s.toks) (λb o hb q=>eb b o hb q) f0 f1 f3 f4 f5⟩
 self:=λ_ _ _ _ _ st h=>by
  obtain⟨⟨old,he⟩,_⟩:=st;exact wpAny_pyIter_enum he h
def enu:Nat->List D->List D
 | _,[]=>[]
 | k,x::r=>.tup [.int (k:Int),x]::enu (k+1) r
theorem mw:∀(k:Nat) (xs:List D),(enu k xs).length=xs.length
 | _,[]=>rfl
 | k,x::r=>by simp[enu,mw]
theorem qu:∀{k:Nat} {xs:List D} {i:Nat} {y:D},(enu k xs)[i]?=some y->∃x,xs[i]?=some x/\y=.tup [.int ((k+i:Nat):Int),x]
 | _,[],_,_,e=>by simp[enu]at e
 | k,x::r,0,y,e=>by
  simp[enu]at e;exact⟨x,rfl,by rw[<- e];rfl⟩
 | k,x::r,i+1,y,e=>by
  have e:(enu (k+1) r)[i]?=some y:=by simpa[enu]using e
  obtain⟨z,h1,h2⟩:=qu e;refine⟨z,by simpa using h1,?_⟩;rw[h2,show k+1+i=k+(i+1) by omega]
theorem vy {a:Addr} {xs:List D} {M:Hp} (e:M a=some (.lst vs)) (h:HasL K C M vs xs):sQ K C (Ite K a) (enu 0 xs) M where
 go:=λi y H2 s hy=>by
  obtain⟨x,hx,rfl⟩:=qu hy;obtain⟨v,e1,h1⟩:=h.get hx;refine⟨⟨vs,v,SqL.of (s _ _ e),e1⟩,λv' H3 y=>?_⟩;obtain⟨p,x',hp,rfl,rfl,y⟩:=y;have e2:=y vs (SqL.of (s _ _ e));rw[e1]at e2;cases e2;refine⟨aL hp,λU O hown m=>?_⟩;have em:msk U O (upd H2 p (.tup [.int (i:Int),v])) p=some (.tup [.int (i:Int),v]):=msk_some.mpr ⟨λz=>hown p z hp,aO⟩;refine .tup em (.cons ?_ (.cons (h1.mono (m.trans (aZ (aL hp)))) .nil));rw[Nat.zero_add];exact .int _
 stop:=λH2 s=>⟨vs,SqL.of (s _ _ e),by rw[mw,h.len];exact Nat.le_refl _⟩
variable {p:Pos}
theorem uG {tp:Pos} {l:Expr} {ta:TA} (hg:Gl X "enumerate") (hm:X.mg "enumerate"=none) (ha:PA X [l] ta) (hs:starEach [l] X.env=[(false,eval l X.env)]:=by rfl) :
  PI X (.Tuple es k tp) (.Call (.Name "enumerate" p) [l] [] pos) (λO H R=>ta O H λvs H1=>∃a xs,vs=[.ref a]/\SqL X.K H1 a xs/\R (Ite X.K a) H1):=by
 intro pins s O H R I h;refine Call_ (jr I hg hm boot_enumerate (PyProof.Rows.callWith_type1 (thn (ha pos pins s O H _ I h) λus s1 zz0=>?_) hs rfl));obtain⟨vs,H1,I1,r1,q1⟩:=zz0;obtain⟨a,xs,e,hq,q⟩:=q1;subst e;cases r1 with
 | cons r rr =>
  cases rr;cases r;obtain⟨its,rv,pl,hz⟩:=I1.list hq;refine call_enumerate_list pl.isList λh' he hit hsz kp=>?_;have I2:Inv X pins O H1 { s1 with heap:=h' }:=I1.kept (t':=s1.toks) kp;refine wpAny_pyIter_enum he ?_;have ne:s1.heap.objs.size+1≠s1.heap.objs.size:=Nat.succ_ne_self _;refine⟨s1.heap.objs.size+1,[s1.heap.objs.size+1,s1.heap.objs.size],_,_,H1,rfl,I2,vz a s1.heap.objs.size (s1.heap.objs.size+1) ne,⟨⟨_,he⟩,hit⟩,λb hb=>?_,q⟩;have hb:b=s1.heap.objs.size+1\/b=s1.heap.objs.size:=by simpa using hb
  have hle:s1.heap.objs.size<=b:=by
   rcases hb with z|z
   ·rw[z];exact Nat.le_succ _
   ·rw[z];exact Nat.le_refl _
  exact I1.fpOk hle (I1.hok.fresh hle)
def Cm:List D->R (List D)
 | [.lst xs]=>.val (enu 0 xs)
 | _=>.bad
def eX (F:Rho->R (List D)):Rho->R (List D):=λU=>(F U).bind Cm
theorem cG {tp : Pos} {l : Expr} {F : Rho -> R (List D)} (hg : Gl X "enumerate") (hm : X.mg "enumerate" = none) (ha : AD C X [l] F) (hs : starEach [l] X.env = [(false, eval l X.env)] := by rfl) :
    ID C X (.Tuple es k tp) (.Call (.Name "enumerate" p) [l] [] pos) (eX F) := pT (uG hg hm ha hs) fun O H R yy0 => by
     obtain ⟨U, ⟨H0, r⟩, q⟩ := yy0
     exact ⟨U, ⟨H0, r⟩, by
  unfold eX at q
  cases e : F U with
  | val ds =>
    rw [e] at q
    intro vs H1 s1 h1
    dsimp only [DL.R.bind] at q
    unfold Cm at q
    split at q
    · rename_i e0
      split at e0
      · rename_i xs
        cases e0
        cases h1 with
        | cons a b =>
          cases b
          cases a with
          | lst e1 g1 => exact ⟨_, _, rfl, SqL.of (msk_sub _ _ e1), q _ H1 s1 (vy e1 g1)⟩
      · cases e0
    · rename_i e0
      split at e0 <;> cases e0
    · exact q.elim
  | exc c => rw [e] at q; exact q
  | bad => rw [e] at q; exact q⟩
def C2:V->List V->Hp->VK->Prop:=λx vs H Q=>∃l xs i y,x=.ref l/\vs=[.int i,y]/\H l=some (.lst xs)/\0<=i/\i<=xs.length/\xs.length<LIM/\Q .non (upd H l (.lst (xs.take i.toNat++y::xs.drop i.toNat)))
theorem vQ:MtM X "list.insert" C2:=by
 intro pins s O H x vs v us Q I rx rv h;obtain⟨l,xs,i,y,rfl,rfl,hH,h0,h1,hz,q⟩:=h;cases rx;obtain⟨ui,uy,rfl,⟨tk,rfl⟩,ry⟩:=rv.two;obtain⟨z,its,n,r,hl,e⟩:=I.lstM hH;have hfit:¬(!Builtin.List.listFitsIndex i)=true:=by
  have h63:(xs.length:Int)<2 ^ 63:=by
   have:xs.length<100000:=hz;omega
  have:Builtin.List.listFitsIndex i=true:=by
   unfold Builtin.List.listFitsIndex;rw[Bool.and_eq_true];exact⟨decide_eq_true (by omega),decide_eq_true (by omega)⟩
  rw[this];simp
 refine call_meets F.slot_list_insert ⟨_,e,rfl⟩ F.entry_list_insert (F.args_list_insert_3 _ _ _) (PySem.AutoListH.list_insert_list_int_val_1 l its.toArray n i tk uy hfit (by rw[List.size_toArray,<- hl];exact z)) ⟨e,?_⟩;have hm:min i.toNat its.length=i.toNat:=by omega
 refine⟨.non,_,I.lset (its':=its.take i.toNat++uy::its.drop i.toNat) hH e ?_ ((r.take i.toNat).append (.cons ry (r.drop i.toNat))) ?_,rfl,q⟩
 ·have hlt:¬ i<0:=by omega
  simp only[hlt,if_false,List.size_toArray,hm];apply Array.ext';simp[hm];exact List.take_of_length_le (by rw[List.length_drop];exact Nat.le_refl _)
 ·rw[List.length_append,List.length_cons,List.length_take,List.length_drop];have:xs.length<100000:=hz;have h2:(100000:Nat)<=sizeLine:=by decide
  omega
def ins (i:Nat) (k e:Rho->R D):Rho->R Out:=λU=>match U[i]? with
 | some (some (.own xs))=>(k U).bind λn=>(e U).bind λd=>match n with
  | .int n=>if 0<=n/\n<=xs.length/\xs.length<LIM then .val (.nx (U.set i (some (.own (xs.take n.toNat++d::xs.drop n.toNat)))))else .bad
  | _=>.bad
 | _=>.bad
theorem wK {i:Nat} {x:Str} {k e:Expr} {ap cp:Pos} {Fk F:Rho->R D} (hv:PE X (.Name x p) (dD i)) (hk:ED C X k Fk) (he:ED C X e F)
  (hs:∀{to:TE} {t:TA},PE X (.Name x p) to->PA X [k,e] t->PS X (.Expr (.Call (.Attribute (.Name x p) "insert" ap) [k,e] [] cp) pos) (lg (tBM X.K "list" C2 to t)):=by
   exact λho ha=>i4 (oP PySem.F.plainAttrs_list PySem.F.slot_list_insert PySem.F.type_list_insert vQ ho ha))
  (hst:starEach [k,e] X.env=(false,eval k X.env)::starEach [e] X.env:=by rfl) (hst2:starEach [e] X.env=(false,eval e X.env)::starEach [] X.env:=by rfl) :
  SD C X (.Expr (.Call (.Attribute (.Name x p) "insert" ap) [k,e] [] cp) pos) (ins i Fk F) :=
 bq (hs hv (bN hk (bN he cR hst2) hst)) λD O H zz1=>by
  obtain⟨_,H0,⟨U,rfl,r⟩,q⟩:=zz1;unfold ins at q;split at q
  ·rename_i xs e0;obtain⟨a,vs,e1,_,h1,h2⟩:=r.at_ i _ e0;refine⟨_,e1,.inl ⟨rfl,_,SqL.of h1⟩,U,⟨H0,r⟩,aR (P:=λz _=>pS C X z H0 D) (λc h=>cX r h) (λh=>h) q λn v H1 s1 h3 q1=>?_⟩;refine⟨U,⟨H0,r.mono s1⟩,aR (P:=λz _=>pS C X z H0 D) (λc h=>cX (r.mono s1) h) (λh=>h) q1 λd w H2 s2 h4 q2=>?_⟩;cases n with
   | int n =>
    dsimp only at q2;split at q2
    ·rename_i hl;cases h3;have h2':=h2.mono (aZ (U:=U) (O:=O) (s1.trans s2));refine⟨a,vs,n,w,rfl,rfl,s2 _ _ (s1 _ _ h1),hl.1,by rw[h2.len];exact hl.2.1,by rw[h2.len];exact hl.2.2,?_⟩;exact q2 _ _ ⟨_,rfl,((r.mono s1).mono s2).write e0 e1 ((h2'.take _).app (.cons h4 (h2'.drop _)))⟩
    ·exact q2.elim
   | _=>exact q2.elim
  ·exact q.elim
def C3 (K:Frag) (C:Addr) (neg:Bool):R2:=λv w H Q=>∃x a vs ys,eqb 8 x=true/\ys.all (eqb 8)=true/\Has K C H v x/\w=.ref a/\H a=some (.lst vs)/\HasL K C H vs ys/\Q (.bl (if neg then !(ys.any λy=>pyq 8 y x)else ys.any λy=>pyq 8 y x)) H
open Classical in
theorem zK (I:Inv X pins O H s) {A:Around} (hu:A.units+9<cLine) {x:D} {v:V} {u:Value} {its:List Value} {ys:List D} (e1:eqb 8 x=true) (e2:ys.all (eqb 8)=true) (h1:Has X.K C H v x) (rx:RelV v u)
  (h2:HasL X.K C H vs ys) (r:Vals vs its):∃e:Value->Bool,(∀y,y∈its.toArray->SeqAt.EqAt A.in1 s y u (e y))/\its.toArray.any e=ys.any λy=>pyq 8 y x:=by
 have key:∀(j:Nat) (t:Value) (d:D),its[j]?=some t->ys[j]?=some d->∃w,RelV w t/\Has X.K C H w d:=λj t d q1 q2=>by
  obtain⟨w,g1,g2⟩:=h2.get q2;obtain⟨t',g3,g4⟩:=r.get g1;rw[q1]at g3;cases g3;exact⟨w,g4,g2⟩
 have mem8:∀(j:Nat) d,ys[j]?=some d->eqb 8 d=true:=λj d q=>List.all_eq_true.mp e2 d (List.mem_of_getElem? q);refine⟨λt=>decide (∃(j:Nat) (d:D),its[j]?=some t/\ys[j]?=some d/\pyq 8 d x=true),λt ht=>?_,?_⟩
 ·have ht:t∈its:=by simpa using ht
  obtain⟨j,hj,rfl⟩:=List.mem_iff_getElem.mp ht;have hl:its.length=ys.length:=by rw[<- r.length,h2.len]
  have q1:its[j]?=some its[j]:=by simp[hj]
  have q2:ys[j]?=some (ys[j]'(by omega)):=by simp[show j<ys.length by omega]
  obtain⟨w,g1,g2⟩:=key j _ _ q1 q2;have ok:=(ye I 8 (A:=A.in1) (by show A.units+1+8<cLine;omega) (mem8 j _ q2) e1 g2 h1 g1 rx).2;have:decide (∃(j':Nat) (d:D),its[j']?=some its[j]/\ys[j']?=some d/\pyq 8 d x=true)=pyq 8 (ys[j]'(by omega)) x:=by
   cases hp:pyq 8 (ys[j]'(by omega)) x with
   | true=>exact decide_eq_true ⟨j,_,q1,q2,hp⟩
   | false =>
    refine decide_eq_false λzz2=>?_;obtain⟨j',d,z1,z2,z3⟩:=zz2;obtain⟨w',g1',g2'⟩:=key j' _ _ z1 z2;have ew:w'=w:=RelV.inj g1' g1;subst ew;have:=Has.inj (mem8 j' d z2) (mem8 j _ q2) g2' g2;rw[<- this,z3]at hp;cases hp
  show SeqAt.EqAt A.in1 s its[j] u (decide (∃(j':Nat) (d:D),its[j']?=some its[j]/\ys[j']?=some d/\pyq 8 d x=true));rw[this];exact ok
 ·have hl:its.length=ys.length:=by rw[<- r.length,h2.len]
  rw[Bool.eq_iff_iff];simp only[Array.any_eq_true,List.any_eq_true,decide_eq_true_eq];constructor
  ·rintro⟨i,hi,j,d,q1,q2,q3⟩;exact⟨d,List.mem_of_getElem? q2,q3⟩
  ·rintro⟨d,hd,q3⟩;obtain⟨j,hj,rfl⟩:=List.mem_iff_getElem.mp hd;have hj':j<its.length:=by omega
   exact⟨j,by simpa using hj',j,ys[j],by simp[hj'],by simp[hj],q3⟩
theorem vN (hu:X.A.units+9<cLine):OpR X (compareOp .NotIn) (C3 X.K C true):=by
 intro pins s O H x y v u Q I rx ry h;obtain⟨d,a,vs,ys,e1,e2,h1,rfl,hH,h2,q⟩:=h;cases ry;obtain⟨its,r,pl,hz⟩:=I.list (SqL.of hH);obtain⟨e,he,hany⟩:=zK I hu e1 e2 h1 rx h2 r;exact SeqAt.notIn_listAt e pl.isList he ⟨.bl _,H,I,by rw[hany];rfl,q⟩
def lT (neg:Bool) (x y:D):R D:=match y with
 | .lst ys=>if eqb 8 x=true/\ys.all (eqb 8)=true then .val (.bl (if neg then !(ys.any λy=>pyq 8 y x)else ys.any λy=>pyq 8 y x))else .bad
 | _=>.bad
theorem BK (neg:Bool):OpD C X (C3 X.K C neg) (lT neg):=by
 intro U O H v w x y z Q r hx hy e k;unfold lT at e;split at e
 ·rename_i ys;split at e
  ·rename_i hh;cases e;obtain⟨a,vs,rfl,e1,h2⟩:=hy.lst msk_sub;exact⟨x,a,vs,ys,hh.1,hh.2,hx.has msk_sub,rfl,e1,h2.mono msk_sub,k _ H (Same.refl _) (.bl _)⟩
  ·cases e
 ·cases e
theorem C8 (neg:Bool):fu (lT neg):=λx y c e=>by
 unfold lT at e;split at e
 ·split at e<;>cases e
 ·cases e
theorem A7 (hu:X.A.units+9<cLine) (ha:EB C X a Fa) (hb:EB C X b Fb) (hm:behindInMarks .NotIn b=false:=by rfl):TD C X (.Compare a [.NotIn] [b] pos) (tst (bin (lT true) Fa Fb)):=mF (vN (C:=C) hu) (C8 _) (BK _) ha hb hm
end DL
namespace DL
open PySem PySem.Spec PyProof.Rows L2
open AutoSeq1 (wpAny_loadPart')
variable {r:Addr} {a b c:Int} {t u v:Tok} {n:Nat}
section
variable {prog:Program} {w:World} {A:Around} {E:Value->Shared->Prop} {s:Shared}
theorem ki {Q:List Value->Shared->Prop} (hh:A.handled=none) (hr:IsRange s.heap r a b c t u v) (hsmall:Builtin.Range.small a b c=true)
  (hn:Builtin.Range.rangeSize a b c=n) (hlen:n<=2 ^ 24)
  (hQ:∀h' tk acc,(∀b o',s.heap.get? b=some o'->h'.get? b=some o')->ItemsOf (λi v=>∃t,v=.int (a+i*c) t) acc n->Q acc.toList { s with heap:=h',toks:=tk }) :
  wpAny (model prog w) A (collect (.ref r)) Q E s:=by
 unfold collect;refine wpAny_bind (wpAny_runValue (codeAny_builtin F.entry_proto_collect ?_));rw[Around.under_plainId F.plain_proto_collect _];show wpAny _ A.in1 (newList [] >>= λl=>again (.builtin "list.__iadd__" ⟨[l,.ref r],[]⟩)) _ _ s;refine wpAny_bind (wpAny_newObj_type ?_);refine wpAny_pure ⟨plainId_quiet F.plain_list_iadd _,codeAny_builtin F.entry_list_iadd ?_⟩;rw[Around.under_plainId F.plain_list_iadd _];show wpAny _ A.in1 (Builtin.List.listExtendWith (.ref s.heap.objs.size) (.ref r) (.ref s.heap.objs.size)) _ _ _;have hS:(s.heap.push { cls:=.type "list",data:=.seq ([]:List Value).toArray }).get? s.heap.objs.size=some { cls:=.type "list",data:=.seq #[] 0 }:=Heap.get?_push_size _ rfl;have fin':∀h' tk acc c',(∀b o',s.heap.get? b=some o'->h'.get? b=some o')->h'.get? s.heap.objs.size=some { cls:=.type "list",dict:=none,data:=.seq acc c',slots:=#[] }->ItemsOf (λi v=>∃t,v=.int (a+i*c) t) acc n ->
   wpAny (model prog w) A (match Value.ref s.heap.objs.size with
   | Value.ref a=>do
    match(<- load a).data with
     | Data.seq xs _=>pure xs.toList
     | _=>unsupported "internal:collect"
   | _=>unsupported "internal:collect") Q E { s with heap:=h',toks:=tk }:=λh' tk acc c' hk hS' hacc=>by
  show wpAny _ A (load s.heap.objs.size >>= _) _ _ _;refine wpAny_bind (wpAny_load hS' ?_);exact wpAny_pure (hQ h' tk acc hk hacc)
 refine wpAny_mono (wpAny_extend_range (A:=A) (R:=λres s'=>∃h' tk acc c',res=.ok (.ret (.ref s.heap.objs.size))/\s'={ s with heap:=h',toks:=tk }/\(∀b o',s.heap.get? b=some o'->h'.get? b=some o') /\
   h'.get? s.heap.objs.size=some { cls:=.type "list",dict:=none,data:=.seq acc c',slots:=#[] }/\ItemsOf (λi v=>∃t,v=.int (a+i*c) t) acc n)
  (s:={ s with heap:=s.heap.push { cls:=.type "list",data:=.seq ([]:List Value).toArray } }) hh (Heap.get?_push_of_some _ hr) hsmall hn hlen s.heap.objs.size _ 0 hS λh' tk acc' c' hk hS' hacc=>⟨h',tk,acc',c',rfl,rfl,λb o' hb=>hk b o' (Nat.ne_of_lt (Heap.lt_size hb)) (Heap.get?_push_of_some _ hb),hS',hacc⟩) (λfin s' h=>?_) (λe s' h=>?_)
 ·cases fin with
  | done f =>
   obtain⟨h',tk,acc,c',e,rfl,hk,hS',hacc⟩:=h;cases e;exact fin' h' tk acc c' hk hS' hacc
  | again c'=>exact⟨h.1,codeAny_mono h.2 λr s'' hr=>by obtain⟨h',tk,acc,c',rfl,rfl,hk,hS',hacc⟩:=hr;exact fin' h' tk acc c' hk hS' hacc⟩
 ·obtain⟨_,_,_,_,e,_⟩:=h;exact absurd e (by simp)
theorem iM {Q₁:Value->Shared->Prop} (hh:A.handled=none) (hr:IsRange s.heap r a b c t u v) (hsmall:Builtin.Range.small a b c=true)
  (hn:Builtin.Range.rangeSize a b c=n) (hlen:n<=2 ^ 24)
  (h:∀(h':Heap) (tk:Nat) (acc:Array Value),(∀b o',s.heap.get? b=some o'->h'.get? b=some o')->ItemsOf (λi v=>∃t,v=.int (a+i*c) t) acc n->Q₁ (.ref h'.objs.size) { s with heap:=h'.push { cls:=.type "tuple",data:=.seq acc },toks:=tk }) (hsz:n<=sizeLine) :
  codeAny (model prog w) A (.call (.builtin "tuple.__new__") ⟨[.type "tuple",.ref r],[]⟩) (wants Q₁ E) s:=by
 refine codeAny_of_tree ?_;show wpAny _ A.in1 (do checkBuiltinCall "tuple.__new__" ⟨[.type "tuple",.ref r],[]⟩;again (.builtin "tuple.__new__" ⟨[.type "tuple",.ref r],[]⟩)) _ _ s;refine wpAny_bind (wpAny_of_eq (F.newCall_tuple_1 _) (wpAny_pure ⟨plainId_quiet F.plain_tuple_new _,codeAny_builtin F.entry_tuple_new ?_⟩));rw[Around.under_plainId F.plain_tuple_new _];have hsub:=sub_tuple_self;have hinit:=init_tuple_lookup;have hmh:=madeHere_tuple;have hTI:s.TypeIs (.ref r) "range":=⟨_,hr,rfl⟩;have hhi:A.in1.handled=none:=hh
 wp_walk using wpAny_typeOf hTI,ki (A:=A.in1) hhi hr hsmall hn hlen
 intro h' tk acc hk hacc;show wpAny _ _ (Builtin.Tuple.tupleExact acc.toList.toArray >>= λv=>PySem.ret v) _ _ _;unfold Builtin.Tuple.tupleExact;refine wpAny_bind (wpAny_newObj_type ?_ (by show acc.toList.toArray.size<=sizeLine;simp only[Array.toArray_toList];rw[hacc.1];exact hsz));refine wpAny_pure ?_;have e:acc.toList.toArray=acc:=by simp
 rw[e];exact h h' tk acc hk hacc
theorem kU {Q:Value->Shared->Prop} (hh:A.handled=none) (hr:IsRange s.heap r a b c t u v) (hsmall:Builtin.Range.small a b c=true)
  (hn:Builtin.Range.rangeSize a b c=n) (hlen:n<=2 ^ 24)
  (h:∀(h':Heap) (tk:Nat) (acc:Array Value),(∀b o',s.heap.get? b=some o'->h'.get? b=some o')->ItemsOf (λi v=>∃t,v=.int (a+i*c) t) acc n->Q (.ref h'.objs.size) { s with heap:=h'.push { cls:=.type "tuple",data:=.seq acc },toks:=tk }) (hsz:n<=sizeLine) :
  wpAny (model prog w) A (call (.type "tuple") [.ref r]) Q E s:=by
 refine callType_codes (Q₁:=λobj s₁=>s₁.TypeIs obj "tuple"/\Q obj s₁) F.called_tuple (F.typeCall_tuple_1 _) F.entry_object_init
  (iM hh hr hsmall hn hlen (λh' tk acc hm hacc=>⟨⟨_,Heap.get?_push_size _ rfl,rfl⟩,h h' tk acc hm hacc⟩) hsz) λobj s₁ h₁=>?_
 exact⟨h₁.1,F.args_object_init_2 obj _,object_init_meets F.called_tuple.init.lookup F.called_tuple.made (by decide) prog w A.in1 _ s₁ ⟨h₁.1,rfl,h₁.2⟩⟩
end
section
variable {C:Addr} {X:Cx}
def DO (ta:TA):TE:=λO H Q=>ta O H λvs H1=>∃j:Int,vs=[.int j]/\-(2 ^ 62)<=j/\j<2 ^ 62/\∀r,H1 r=none->Q (.ref r) (upd H1 r (.rng 0 j))
theorem Bx {a:Expr} {ta:TA} {p pos:Pos} (hg:Gl X "range") (hm:X.mg "range"=none) (ha:PA X [a] ta) (hs:starEach [a] X.env=[(false,eval a X.env)]:=by rfl):PE X (.Call (.Name "range" p) [a] [] pos) (DO ta):=by
 intro pins s O H Q I h;refine Call_ (jr I hg hm boot_range (PyProof.Rows.callWith_type1 (thn (ha pos pins s O H _ I h) λus s1 zz0=>?_) hs rfl));obtain⟨vs,H1,I1,r1,q1⟩:=zz0;obtain⟨j,e,q1,q2,q⟩:=q1;subst e;cases r1 with
 | cons r rr =>
  cases rr;obtain⟨t,rfl⟩:=r;refine call_range_1 ?_;exact⟨.ref s1.heap.objs.size,_,I1.laid (a:=s1.heap.objs.size) (o:=.rng 0 j) (λb u e=>Heap.get?_push_of_some _ e) (Nat.le_refl _) ⟨_,_,_,Heap.get?_push_size _ rfl⟩,rfl,q _ I1.fresh⟩
theorem sX {acc:List Value} (h:acc.length=n) (hv:∀(j:Nat) v,acc[j]?=some v->∃t,v=.int (0+(j:Int)*1) t):Vals ((List.range n).map λ(k:Nat)=>V.int (0+(k:Int))) acc:=by
 induction n generalizing acc with
 | zero=>cases acc with
  | nil=>exact .nil
  | cons x r=>simp at h
 | succ n ih =>
  have hne:acc≠[]:=by intro z;rw[z]at h;cases h
  have e:acc=acc.dropLast++[acc.getLast hne]:=(List.dropLast_concat_getLast hne).symm;have hl:acc.dropLast.length=n:=by rw[List.length_dropLast,h];rfl
  rw[List.range_succ,List.map_append,e];refine Vals.append (ih hl λj v q=>?_) (.cons ?_ .nil)
  ·refine hv j v ?_;rw[e,List.getElem?_append_left (List.getElem?_eq_some_iff.mp q).1];exact q
  ·obtain⟨t,et⟩:=hv n (acc.getLast hne) (by rw[List.getLast_eq_getElem,List.getElem?_eq_getElem (by omega)];congr 1;simp[h]);exact⟨t,by rw[et];simp⟩
def wT:List V->Hp->VK->Prop:=λxs H Q=>∃r j,xs=[.ref r]/\H r=some (.rng 0 j)/\-(2 ^ 62)<=j/\j<=100000/\∀p,H p=none->Q (.ref p) (upd H p (.tup ((List.range j.toNat).map λ(k:Nat)=>V.int (0+(k:Int)))))
theorem iO (hc:X.calm=true):kh X (.type "tuple") wT:=by
 intro pins s O H xs us Q I r h;obtain⟨ra,j,rfl,hq,hj0,hj,q⟩:=h;obtain⟨u,rfl,rx⟩:=oH r;cases rx;obtain⟨t,u',v',e⟩:=I.hok ra _ hq;have hn:Builtin.Range.rangeSize 0 j 1=(j.toNat:Nat):=by rw[rangeSize_one];split<;>omega
 have hsm:Builtin.Range.small 0 j 1=true:=small_one (by decide) (by decide) hj0 (by omega);refine kU (n:=j.toNat) (I.ok.hd hc) e hsm hn (by omega) (λh' tk acc hk hacc=>?_) (Nat.le_trans (show j.toNat<=100000 by omega) (by decide));have I1:Inv X pins O H { s with heap:=h',toks:=tk }:=I.kept hk;have hv:Vals ((List.range j.toNat).map λ(k:Nat)=>V.int (0+(k:Int))) acc.toList:=sX (by simpa using hacc.1) λi v q=>hacc.2 i v (by simpa using q);have I2:Inv X pins O (upd H h'.objs.size (.tup ((List.range j.toNat).map λ(k:Nat)=>V.int (0+(k:Int))))) { s with heap:=h'.push { cls:=.type "tuple",data:=.seq acc },toks:=tk } :=
  I1.laid (t':=tk) (λb o e=>Heap.get?_push_of_some _ e) (Nat.le_refl _) (show ObjOk X.prog X.w _ _ _ (.tup _)from⟨by rw[List.length_map,List.length_range];exact Nat.le_trans (show j.toNat<=100000 by omega) (by decide),acc.toList,hv,by simpa using IsTup.new _ _⟩)
 exact⟨.ref h'.objs.size,_,I2,rfl,q _ I1.fresh⟩
def rgT:List D->R D
 | [.int j]=>if -(2 ^ 62)<=j/\j<=100000 then .val (.tup (rng 0 j.toNat))else .bad
 | _=>.bad
def iJ (F:Rho->R (List D)):Rho->R D:=λU=>(F U).bind rgT
theorem xP {K:Frag} {H:Hp} (n:Nat):HasL K C H ((List.range n).map λ(k:Nat)=>V.int (0+(k:Int))) (rng 0 n):=by
 unfold rng
 induction List.range n with
 | nil=>exact .nil
 | cons x r ih=>exact .cons (.int _) ih
theorem sA {a : Expr} {p p2 pos pos2 : Pos} {F : Rho -> R (List D)} (hc : X.calm = true) (ha : AD C X [a] F) (hgr : Gl X "range") (hmr : X.mg "range" = none) (hgt : Gl X "tuple") (hmt : X.mg "tuple" = none)
    (hs : starEach [a] X.env = [(false, eval a X.env)] := by rfl) (hs2 : starEach [.Call (.Name "range" p2) [a] [] pos2] X.env = (false, eval (.Call (.Name "range" p2) [a] [] pos2) X.env) :: starEach [] X.env := by rfl)
    (hs3 : ∀ t : TA, PA X [.Call (.Name "range" p2) [a] [] pos2] t -> PE X (.Call (.Name "tuple" p) [.Call (.Name "range" p2) [a] [] pos2] [] pos) (tCB wT t) := by
      exact fun t ha => cO (iO (by assumption)) (by assumption) (by assumption) PySem.boot_tuple ha) :
    ED C X (.Call (.Name "tuple" p) [.Call (.Name "range" p2) [a] [] pos2] [] pos) (iJ F) :=
  aJ (hs3 _ (bN (Bx hgr hmr ha hs) cR hs2)) fun O H Q yy0 => by
   obtain ⟨U, ⟨H0, r⟩, q⟩ := yy0
   exact ⟨U, ⟨H0, r⟩, dB (P := fun z H => pV X (dJ C X U O) z O H Q) (fun _ h => h) (fun h => h) q fun ds vs H1 s1 h1 q1 => by
    unfold rgT at q1
    split at q1
    · rename_i j
      split at q1
      · rename_i hj
        cases h1 with
        | cons a b =>
          cases a; cases b
          refine ⟨j, rfl, hj.1, by omega, fun ra hra => ⟨ra, j, rfl, aO, hj.1, hj.2, fun pa hpa => q1 _ _ ((s1.trans (aL hra)).trans (aL hpa)) ?_⟩⟩
          exact .tup (((r.mono s1).mono (aL hra)).new hpa) (xP _)
      · exact q1.elim
    · exact q1.elim⟩
end
end DL
namespace DL
open PySem PySem.Spec PyProof.Rows L2
def IsArr (h:Heap) (k:KA) (a:Addr):Prop:=∃ta t1 t2 its,IsTup h a #[.int k.1 t1,.int k.2.1 t2,.ref ta]/\IsTup h ta its.toArray/\IntsAre its k.2.2
theorem rR {prog:Program} {w:World}:∀{its:List Value} {ks:List Int},IntsAre its ks->ItemsAre (intKind prog w) ks its
 | _,_,.nil=>.nil
 | _,_,.cons n t h=>.cons (by show Value.isInt n (.int n t)=true;simp[Value.isInt]) (rR h)
variable {h:Heap}
theorem ph {prog:Program} {w:World} {ta:Addr} {its:List Value} {ks:List Int} (h1:IsTup h ta its.toArray) (h2:IntsAre its ks):IsTupleKey (intKind prog w) h ks ta:=by
 obtain⟨o,ho,hc,n,hd⟩:=h1;exact⟨o,its.toArray,n,ho,hc,hd,by simpa using rR h2⟩
theorem lu:∀{its:List Value} {ks ls:List Int},IntsAre its ks->IntsAre its ls->ks=ls
 | _,_,_,.nil,.nil=>rfl
 | _,_,_,.cons n t h,.cons _ _ h'=>by rw[lu h h']
variable {a:Addr}
theorem oR {x y:Array Value} (h1:IsTup h a x) (h2:IsTup h a y):x=y:=by
 obtain⟨o,ho,hc,n,hd⟩:=h1;obtain⟨o',ho',hc',n',hd'⟩:=h2;rw[ho]at ho';cases ho';rw[hd]at hd';injection hd'
variable {k:KA}
theorem IsArr.inj {l:KA} (h1:IsArr h k a) (h2:IsArr h l a):k=l:=by
 obtain⟨ta,t1,t2,its,q1,q2,q3⟩:=h1;obtain⟨tb,u1,u2,jts,p1,p2,p3⟩:=h2;have e:=oR q1 p1;have e':=congrArg Array.toList e;simp only[List.cons.injEq,Value.int.injEq,Value.ref.injEq]at e';obtain⟨⟨e1,_⟩,⟨e2,_⟩,e3,_⟩:=e';subst e3;have e4:=oR q2 p2;have e5:its=jts:=by simpa using congrArg Array.toList e4
 subst e5;have e6:=lu q3 p3;obtain⟨a1,a2,a3⟩:=k;obtain⟨b1,b2,b3⟩:=l;simp only at e1 e2 e6;rw[e1,e2,e6]
theorem lq {h':Heap} {d:Addr} {o:Obj} {es ep} {x:Array Value} (hx:IsTup h a x) (ho:h.get? d=some o) (hd:o.data=.dict es ep) (hs:Heap.SameBut d h h'):IsTup h' a x:=by
 obtain⟨o',ho',hc,n,hd'⟩:=hx;have hne:a≠d:=by
  rintro rfl;rw[ho]at ho';cases ho';rw[hd]at hd';cases hd'
 exact⟨o',(hs.2 a hne).trans ho',hc,n,hd'⟩
section
variable {prog:Program} {w:World} {A:Around} {E:Value->Shared->Prop} {s:Shared}
theorem tH {Q:Int->Shared->Prop} (hu:A.units+2<cLine) (hk:IsArr s.heap k a) (h:Q (mt k) { s with toks:=s.toks+(k.2.2.length+4) }):wpAny (model prog w) A (pyHash (.ref a)) Q E s:=by
 obtain⟨ta,t1,t2,its,q1,q2,q3⟩:=hk;have hT:s.TypeIs (.ref a) "tuple":=let ⟨o,ho,hc,_⟩:=q1;⟨o,ho,hc⟩;obtain⟨o,ho,_,n,hd⟩:=id q1;unfold pyHash
 first|unfold pyHashByItsType|skip
 first|refine wpAny_bind (wpAny_cRoomFor_or (.inr (by omega)) ?_)|skip
 refine wpAny_bind (wpAny_specialOf hT F.slot_tuple_hash.lookup ?_);show wpAny _ _ (if(some (Value.builtin "tuple.__hash__")==some Value.none)=true then _ else _) Q E s;rw[if_neg (by rw[beq_builtin_none];exact Bool.false_ne_true)];refine wpAny_bind (wpAny_specialOf hT F.slot_tuple_hash.lookup ?_);show wpAny _ _ (callSpecialIfBoundUnlessNone? (.ref a) "__hash__" _ >>= _) Q E s;refine wpAny_bind (wpAny_callSpecialIfBoundUnlessNone?_slot hT F.slot_tuple_hash (wpAny_call_entry F.slot_tuple_hash hT F.entry_tuple_hash ?_ (F.args_tuple_hash_1 _)));show wpAny _ _ (Builtin.Tuple.tupleItemsOf (.ref a) >>= _) _ _ s;refine wpAny_bind (wpAny_tupleItemsOf ho hd ?_);refine wpAny_bind ?_;rw[<- Array.forIn_toList];simp only[List.forIn_cons,List.forIn_nil];refine wpAny_bind (wpAny_bind (wpAny_pyHash_int ?_));refine wpAny_pure ?_;refine wpAny_bind (wpAny_bind (wpAny_pyHash_int ?_));refine wpAny_pure ?_;refine wpAny_bind (wpAny_bind (wpAny_pyHash_tuple (knd:=intKind prog w) (ks:=k.2.2) (by show A.units+1<cLine;omega) (ph q2 q3) ?_));refine wpAny_pure (wpAny_pure ?_);show wpAny _ _ (retInt (Builtin.Tuple.tupleHashOf _)) _ _ _;refine wpAny_ret_mkInt ?_;have e:((((#[]:Array Int).push (hashInt k.1)).push (hashInt k.2.1)).push (tupleKeyHash (intKind prog w) k.2.2)).toList=[hashInt k.1,hashInt k.2.1,reduceHash (Builtin.Tuple.tupleHashOf (k.2.2.map hashInt))]:=rfl;rw[e];unfold mt at h;generalize hg:Builtin.Tuple.tupleHashOf [hashInt k.1,hashInt k.2.1,reduceHash (Builtin.Tuple.tupleHashOf (k.2.2.map hashInt))]=G at h ⊢;show wpAny _ _ (if(decide (-(2:Int) ^ 63<=G)&&decide (G<2 ^ 63))=true then _ else _) Q E _;unfold reduceHash at h;by_cases hr:(decide (-(2:Int) ^ 63<=G)&&decide (G<2 ^ 63))=true
 ·rw[if_pos hr];rw[if_pos hr]at h;refine wpAny_pure ?_;simpa[Nat.add_assoc,Nat.add_comm,Nat.add_left_comm]using h
 ·rw[if_neg hr];rw[if_neg hr]at h;refine wpAny_bind (wpAny_rule (wpAny_pure ?_));simpa[Nat.add_assoc,Nat.add_comm,Nat.add_left_comm]using h
theorem yf {l:KA} {b:Addr} (hu:A.units+2<cLine) (hk:IsArr s.heap k a) (hl:IsArr s.heap l b):SeqAt.EqAt A s (.ref a) (.ref b) (decide (k=l)):=by
 by_cases hab:a=b
 ·subst hab;rw[hk.inj hl,decide_eq_true rfl];exact SeqAt.EqAt.same _
 ·refine SeqAt.EqAt.of_refs hab ?_;obtain⟨ta,t1,t2,its,q1,q2,q3⟩:=hk;obtain⟨tb,u1,u2,jts,p1,p2,p3⟩:=hl;have z:=SeqAt.RcAt.tuples (A:=A) (s:=s) (e:=λj=>if j=0 then k.1==l.1 else if j=1 then k.2.1==l.2.1 else decide (k.2.2=l.2.2)) q1 p1 (by omega) λj h1 h2=>by
   have hj:j=0\/j=1\/j=2:=by
    have:j<3:=h1;omega
   rcases hj with rfl|rfl|rfl
   ·exact SeqAt.EqAt.int_int _ _ _ _
   ·exact SeqAt.EqAt.int_int _ _ _ _
   ·exact λprog w E Q hq=>wpAny_eqBool_tuple (knd:=intKind prog w) (by show A.units+1<cLine;omega) (ph q2 q3) (ph p2 p3) hq
  have e:((List.range (min (#[Value.int k.1 t1,.int k.2.1 t2,.ref ta]:Array Value).size (#[Value.int l.1 u1,.int l.2.1 u2,.ref tb]:Array Value).size)).all (λj=>if j=0 then k.1==l.1 else if j=1 then k.2.1==l.2.1 else decide (k.2.2=l.2.2)) &&
    (#[Value.int k.1 t1,.int k.2.1 t2,.ref ta]:Array Value).size==(#[Value.int l.1 u1,.int l.2.1 u2,.ref tb]:Array Value).size)=decide (k=l):=by
   obtain⟨a1,a2,a3⟩:=k;obtain⟨b1,b2,b3⟩:=l;show((List.range 3).all _&&true)=_;rw[Bool.eq_iff_iff];simp[List.range_succ]
  rw[e]at z;exact z
theorem vJ (n:Nat) {ks:List Int} {Q:Bool->Shared->Prop} (hk:IsTupleKey (intKind prog w) s.heap ks a) (h:Q true s):wpAny (model prog w) A (eqIsQuiet (n+1) (.ref a)) Q E s:=by
 have hT:=hk.typeIs;obtain⟨o,items,m,ho,_,hd,hi⟩:=hk;unfold eqIsQuiet;refine wpAny_bind (wpAny_specialOf hT F.slot_tuple_eq.lookup ?_);show wpAny _ _ (isInstance (.ref a) (.type "tuple") >>= _) _ _ s;refine wpAny_bind (wpAny_isInstance hT isSubtype_tuple_tuple ?_);simp only[Bool.not_true,Bool.false_eq_true,if_false];refine wpAny_bind (wpAny_seqItems ho hd ?_);refine wpAny_bind ?_;show wpAny _ _ (forIn items _ _) _ _ s;rw[<- Array.forIn_toList];refine wpAny_forIn_list _ (λrest r s'=>r.1=none/\s'=s/\∀v∈rest,carriedByValue v=true) _ ?_ ?_ _ _ ⟨rfl,rfl,hi.byValue⟩
 ·rintro v rest r s' ⟨hr,rfl,hall⟩;rw[eqIsQuiet_byValue _ (hall v List.mem_cons_self)];refine wpAny_bind (wpAny_pure ?_);simp only[Bool.not_true,Bool.false_eq_true,if_false];exact wpAny_pure ⟨rfl,rfl,λu hu'=>hall u (List.mem_cons_of_mem _ hu')⟩
 ·rintro⟨r1,r2⟩ s' ⟨hr,rfl,_⟩;simp only at hr;subst hr;exact wpAny_pure h
theorem vK {Q:Bool->Shared->Prop} (hk:IsArr s.heap k a) (h:Q true s):wpAny (model prog w) A (eqIsQuiet 8 (.ref a)) Q E s:=by
 obtain⟨ta,t1,t2,its,q1,q2,q3⟩:=hk;have hT:s.TypeIs (.ref a) "tuple":=let ⟨o,ho,hc,_⟩:=q1;⟨o,ho,hc⟩;obtain⟨o,ho,_,n,hd⟩:=id q1;unfold eqIsQuiet;refine wpAny_bind (wpAny_specialOf hT F.slot_tuple_eq.lookup ?_);show wpAny _ _ (isInstance (.ref a) (.type "tuple") >>= _) _ _ s;refine wpAny_bind (wpAny_isInstance hT isSubtype_tuple_tuple ?_);simp only[Bool.not_true,Bool.false_eq_true,if_false];refine wpAny_bind (wpAny_seqItems ho hd ?_);refine wpAny_bind ?_;show wpAny _ _ (forIn (#[Value.int k.1 t1,.int k.2.1 t2,.ref ta]:Array Value) _ _) _ _ s;rw[<- Array.forIn_toList];refine wpAny_forIn_list _ (λrest r s'=>r.1=none/\s'=s/\∀v∈rest,carriedByValue v=true\/v=.ref ta) _ ?_ ?_ _ _ ⟨rfl,rfl,λv hv=>?_⟩
 ·rintro v rest r s' ⟨hr,rfl,hall⟩;rcases hall v List.mem_cons_self with hv|rfl
  ·rw[eqIsQuiet_byValue _ hv];refine wpAny_bind (wpAny_pure ?_);simp only[Bool.not_true,Bool.false_eq_true,if_false];exact wpAny_pure ⟨rfl,rfl,λu hu'=>hall u (List.mem_cons_of_mem _ hu')⟩
  ·refine wpAny_bind (vJ (prog:=prog) (w:=w) 6 (ph q2 q3) ?_);simp only[Bool.not_true,Bool.false_eq_true,if_false];exact wpAny_pure ⟨rfl,rfl,λu hu'=>hall u (List.mem_cons_of_mem _ hu')⟩
 ·rintro⟨r1,r2⟩ s' ⟨hr,rfl,_⟩;simp only at hr;subst hr;exact wpAny_pure h
 ·have hv:v∈[Value.int k.1 t1,.int k.2.1 t2,.ref ta]:=hv;simp only[List.mem_cons,List.not_mem_nil,or_false]at hv;rcases hv with rfl|rfl|rfl
  ·exact .inl rfl
  ·exact .inl rfl
  ·exact .inr rfl
end
def mD (prog:Program) (w:World):HeapKind prog w KA where
 is:=IsArr
 hash:=mt
 draws:=λk=>k.2.2.length+4
 room:=λA=>A.units+2<cLine
 inj:=λhx hy=>hx.inj hy
 keeps:=λhx ho hd hs=>by
  obtain⟨ta,t1,t2,its,q1,q2,q3⟩:=hx;exact⟨ta,t1,t2,its,lq q1 ho hd hs,lq q2 ho hd hs,q3⟩
 pyHash:=λhu hk h=>tH hu hk h
 eqBool:=λhu hx hy h=>yf hu hx hy _ _ _ _ h
 quiet:=λhk h=>vK hk h
variable {C:Addr} {X:Cx}
variable {O:St} {H:Hp}
theorem jV {pins:List (Addr×Obj)} {s:Shared} (I:Inv X pins O H s) {kb:Addr} (h:KeyIn H k kb):IsArr s.heap k kb:=by
 obtain⟨ta,h1,h2⟩:=h;obtain⟨its,r,p,_⟩:=I.tuple (SqT.of h1);obtain⟨jts,r2,p2,_⟩:=I.tuple (SqT.of h2);cases r with
 | cons a b =>
  cases b with
  | cons c d =>
   cases d with
   | cons e f =>
    cases f;obtain⟨t1,rfl⟩:=a;obtain⟨t2,rfl⟩:=c;cases e;exact⟨ta,t1,t2,jts,p,p2,tR r2⟩
variable {xs:List (KA×Addr×Value)}
theorem qB {pins:List (Addr×Obj)} {s:Shared} (I:Inv X pins O H s) (e:H a=some (j6 a xs)) (hk:∀x∈xs,KeyIn H x.1 x.2.1) (nd:(xs.map (·.1)).Nodup) :
  s.heap.DictOfH (mD X.prog X.w) a xs/\(a==sysModules)=false/\xs.length<=100001:=by
 obtain⟨⟨h1,hl,o,es,ep,h2,h3,h4,h5⟩,_⟩:=I.hok a _ e;exact⟨⟨o,es,ep,h2,h3,h4,h5,λx hx=>jV I (hk x hx),nd⟩,h1,hl⟩
def DZ:R2:=λx y H Q=>∃a xs kb k p v,x=.ref a/\y=.ref kb/\H a=some (j6 a xs)/\(∀x∈xs,KeyIn H x.1 x.2.1)/\(xs.map (·.1)).Nodup/\KeyIn H k kb/\atKey xs k=some p/\RelV v p.2/\Q v H
theorem B6 (hu:X.A.units+3<cLine):IxR X DZ:=by
 intro value slice pins s O H x y v u Q I rx ry h hs;obtain⟨a,xs,kb,k,p,v',rfl,rfl,e,hk,nd,hkey,hp,rp,q⟩:=h;cases rx;cases ry;obtain⟨hD,_,_⟩:=qB I e hk nd;exact subscriptTail_builtinR (x:=p.2) hD.typeIs slot_dict_getitem.lookup
  (wpAny_getItem_heap (knd:=mD X.prog X.w) (Q:=λr s'=>r=p.2/\EP X pins O Q r s') (by show X.A.units+1+2<cLine;omega) (jV I hkey) hD hp ⟨rfl,v',H,I.tok _,rp,q⟩) hs
def D0 (neg:Bool):R2:=λx y H Q=>∃a xs kb k,x=.ref kb/\y=.ref a/\H a=some (j6 a xs)/\(∀x∈xs,KeyIn H x.1 x.2.1)/\(xs.map (·.1)).Nodup/\KeyIn H k kb/\Q (.bl (if neg then !(atKey xs k).isSome else(atKey xs k).isSome)) H
theorem zq (hu:X.A.units+3<cLine):OpR X (compareOp .NotIn) (D0 true):=by
 intro pins s O H x y v u Q I rx ry h;obtain⟨a,xs,kb,k,rfl,rfl,e,hk,nd,hkey,q⟩:=h;cases rx;cases ry;obtain⟨hD,hs,_⟩:=qB I e hk nd;exact wpAny_notIn_heap (knd:=mD X.prog X.w) (by show X.A.units+1+2<cLine;omega) (jV I hkey) hs hD ⟨.bl _,H,I.tok _,rfl,q⟩
def CY:Au:=λo i v H Q=>∃a xs kb k,o=.ref a/\i=.ref kb/\H a=some (j6 a xs)/\(∀x∈xs,KeyIn H x.1 x.2.1)/\(xs.map (·.1)).Nodup/\KeyIn H k kb/\xs.length<=100000/\∀u,RelV v u->((storedH xs k kb u).map (·.1)).Nodup->Q (upd H a (j6 a (storedH xs k kb u)))
theorem nY:∀h1 h2:Heap,dOk a xs h1->(∀o,h1.get? a=some o->h2.get? a=some o)->dOk a xs h2:=λh1 h2 ⟨p1,p2,o,es,ep,e1,e2,e3,e4⟩ k=>⟨p1,p2,o,es,ep,k o e1,e2,e3,e4⟩
theorem uu (hu:X.A.units+3<cLine):DD X CY:=by
 intro pins s O H o i v ov iv u Q I ro ri rv h;obtain⟨a,xs,kb,k,rfl,rfl,e,hk,nd,hkey,hl,q⟩:=h;cases ro;cases ri;obtain⟨hD,hs,_⟩:=qB I e hk nd;refine wpAny_setItem_heap (knd:=mD X.prog X.w) (by show X.A.units+1+2<cLine;omega) (jV I hkey) hD (λh' hD' sb=>?_) (Nat.le_trans hl (by decide));obtain⟨o',es,ep,e1,e2,e3,e4,_,nd'⟩:=hD';have len:(storedH xs k kb u).length<=100001:=by
  cases z:atKey xs k with
  | none=>rw[storedH_new z];simp;omega
  | some p=>rw[storedH_old z];simp;omega
 refine⟨_,I.write (x:=a) (e:=a) (by rw[e];exact True.intro) (.inl rfl) (λb w hb z=>(sb.2 b hb).trans z) ⟨o',e1⟩ ?_,q u rv nd'⟩;exact⟨⟨hs,len,o',es,ep,e1,e2,e3,e4⟩,⟨o',e1⟩,nY⟩
def nq (kvs:List (KA×D)) (k:KA) (d:D):List (KA×D):=if(kvs.any λp=>decide (p.1=k))=true then kvs.map (λp=>if p.1=k then(p.1,d)else p)else kvs++[(k,d)]
def tQ (kvs:List (KA×D)) (k:KA):Option D:=(kvs.find? λp=>decide (p.1=k)).map (·.2)
def gJ:List D->Option (List Int)
 | []=>some []
 | .int i::r=>(gJ r).map (i :: ·)
 | _=>none
def oz:D->Option KA
 | .tup [.int a,.int b,.tup xs]=>(gJ xs).map λl=>(a,b,l)
 | _=>none
theorem kM {K:Frag} {M:Hp}:∀{xs:List D} {l:List Int} {vs:List V},gJ xs=some l->HasL K C M vs xs->vs=l.map V.int
 | [],l,vs,e,h=>by cases e;cases h;rfl
 | x::r,l,vs,e,h=>by
  cases x with
  | int i =>
   rw[gJ]at e;cases z:gJ r with
   | none=>rw[z]at e;cases e
   | some l' =>
    rw[z]at e;cases e;cases h with
    | cons a b=>cases a;rw[kM z b];rfl
  | _=>cases e
variable {K:Frag}
theorem qe {M:Hp} {d:D} {v:V} (e:oz d=some k) (h:Has K C M v d):∃kb,v=.ref kb/\KeyIn M k kb:=by
 unfold oz at e;split at e
 ·rename_i a b xs;cases z:gJ xs with
  | none=>rw[z]at e;cases e
  | some l =>
   rw[z]at e;cases e;cases h with
   | tup q hl =>
    cases hl with
    | cons h1 hl =>
     cases h1;cases hl with
     | cons h2 hl =>
      cases h2;cases hl with
      | cons h3 hl =>
       cases hl;cases h3 with
       | tup q2 g=>rw[kM z g]at q2;exact⟨_,rfl,_,q,q2⟩
 ·cases e
variable {kvs:List (KA×D)}
section
variable {K:Frag} {M:Hp}
theorem qx:∀{kvs:List (KA×D)} {xs:List (KA×Addr×Value)} {k:KA},Paired (EntOk K C M) kvs xs->(atKey xs k).isSome=kvs.any λp=>decide (p.1=k)
 | _,_,k,.nil=>rfl
 | _,_,k,.cons (a:=p) (b:=q) h t=>by
  have ih:=qx (k:=k) t;have e:=h.1;unfold atKey at ih ⊢;rw[List.find?_cons,List.any_cons,<- e];by_cases z:p.1=k
  ·rw[decide_eq_true z];rfl
  ·rw[decide_eq_false z];exact ih
theorem u5:∀{kvs:List (KA×D)} {xs:List (KA×Addr×Value)} {k:KA} {d:D},Paired (EntOk K C M) kvs xs->tQ kvs k=some d->∃p v,atKey xs k=some p/\RelV v p.2/\Has K C M v d
 | _,_,k,d,.nil,e=>by cases e
 | _,_,k,d,.cons (a:=p) (b:=q) h t,e=>by
  obtain⟨e1,_,v,h1,h2⟩:=h;unfold tQ at e;unfold atKey;rw[List.find?_cons]at e ⊢;rw[<- e1];by_cases z:p.1=k
  ·rw[decide_eq_true z]at e ⊢;cases e;exact⟨_,v,rfl,h1,h2⟩
  ·rw[decide_eq_false z]at e ⊢;exact u5 t e
theorem iF:∀{kvs:List (KA×D)} {xs:List (KA×Addr×Value)},Paired (EntOk K C M) kvs xs->∀x∈xs,KeyIn M x.1 x.2.1
 | _,_,.nil,x,hx=>by cases hx
 | _,_,.cons h t,x,hx=>by
  rcases List.mem_cons.mp hx with rfl|hx
  ·rw[<- h.1];exact h.2.1
  ·exact iF t x hx
theorem u4 {k:KA} {d:D} {u:Value} {v:V} (rv:RelV v u) (hv:Has K C M v d):∀{kvs:List (KA×D)} {xs:List (KA×Addr×Value)},Paired (EntOk K C M) kvs xs->Paired (EntOk K C M) (kvs.map λp=>if p.1=k then(p.1,d)else p) (xs.map (putAt k u))
 | _,_,.nil=>.nil
 | _,_,.cons (a:=p) (b:=q) h t=>by
  refine .cons ?_ (u4 rv hv t);obtain⟨e1,h2,v',h3,h4⟩:=h;show EntOk K C M (if p.1=k then(p.1,d)else p) (if q.1=k then(q.1,q.2.1,u)else q);rw[<- e1];by_cases z:p.1=k
  ·rw[if_pos z,if_pos z];exact⟨rfl,h2,v,rv,hv⟩
  ·rw[if_neg z,if_neg z];exact⟨e1,h2,v',h3,h4⟩
theorem u3 {d:D} {u:Value} {v:V} {kb:Addr} (rv:RelV v u) (hv:Has K C M v d) (hk:KeyIn M k kb) (h:Paired (EntOk K C M) kvs xs):Paired (EntOk K C M) (nq kvs k d) (storedH xs k kb u):=by
 unfold nq;have e:=qx (k:=k) h;by_cases z:(kvs.any λp=>decide (p.1=k))=true
 ·rw[if_pos z];rw[z]at e;obtain⟨p,hp⟩:=Option.isSome_iff_exists.mp e;rw[storedH_old hp];exact u4 rv hv h
 ·rw[if_neg z];have:atKey xs k=none:=by
   cases q:atKey xs k with
   | none=>rfl
   | some p=>rw[q]at e;exact absurd e.symm z
  rw[storedH_new this];exact Paired.snoc h ⟨rfl,hk,v,rv,hv⟩
end
variable {i:Nat}
theorem Rel.setDic {H0:Hp} {U:RB} (r:Rel K C H0 U O H) (hn:H a=none):Rel K C H0 (U.put i (.dic []) [a]) (O.set i (some (.ref a))) (upd H a (j6 a [])) :=
 r.put l_ (λj hj=>List.getElem?_set_ne λz=>hj z.symm) (λb hb=>.inr (by cases List.mem_singleton.mp hb;exact hn)) (λj _=>.of (aL hn)) (λb o e=>aL hn b o (msk_some.mp e).2)
  (λb hb=>.inr (by cases List.mem_singleton.mp hb;exact⟨[],aO⟩)) λhi s=>⟨a,pk (by rw[<- r.len];exact hi),List.mem_singleton.mpr rfl,[],aO,List.nodup_nil,.nil⟩
theorem Rel.putDic {H0:Hp} {U:RB} (r:Rel K C H0 U O H) {kvs':List (KA×D)} {xs':List (KA×Addr×Value)} (e:U.rho[i]?=some (some (.dic kvs))) (q:O[i]?=some (some (.ref a)))
  (nd:(xs'.map (·.1)).Nodup) (h:Paired (EntOk K C (msk U O H)) kvs' xs'):Rel K C H0 (U.put i (.dic kvs') [a]) O (upd H a (j6 a xs')):=by
 obtain⟨b,e1,ha,_⟩:=r.at_ i _ e;rw[q]at e1;cases e1;exact r.put rfl (λj _=>rfl) (λb hb=>.inl (by cases List.mem_singleton.mp hb;exact ha)) (λj hj=>r.apart ha hj) (r.shown ha) (λb hb=>.inr (by cases List.mem_singleton.mp hb;exact⟨xs',aO⟩))
  λhi s=>⟨a,q,List.mem_singleton.mpr rfl,xs',aO,nd,Paired.mapP h λp q z=>z.mono s⟩
def ym (i:Nat):Rho->R Out:=λU=>.val (.nx (U.set i (some (.dic []))))
variable {pos:Pos}
theorem xi:PE X (.Dict [] [] pos) (λ_ H Q=>∀p,H p=none->Q (.ref p) (upd H p (j6 p []))):=λpins s O H Q I h=>by
 have big:sysModules<s.heap.objs.size:=Nat.lt_trans (by decide) (show mainGlobals<s.heap.objs.size from(I.mod.glob.keeps I.bk).lt);have e1:(s.heap.push { cls:=.type "dict",data:=.dict #[] }).get? s.heap.objs.size=some { cls:=.type "dict",data:=.dict #[] }:=Heap.get?_push_size _ rfl;have ok:dOk s.heap.objs.size [] (s.heap.push { cls:=.type "dict",data:=.dict #[] }):=⟨by simpa using(Nat.ne_of_gt big),Nat.zero_le _,_,#[],_,e1,⟨rfl,rfl,rfl⟩,rfl,rfl⟩;exact wpAny_Dict_empty ⟨.ref s.heap.objs.size,_,I.laid (a:=s.heap.objs.size) (o:=j6 s.heap.objs.size []) (t':=s.toks) (λ_ _ q=>Heap.get?_push_of_some _ q) (Nat.le_refl _) ⟨ok,⟨_,e1⟩,nY⟩,rfl,h _ I.fresh⟩
variable {x:Str}
theorem uw {pos' dp:Pos} (hN:X.N.Nodup) (hi:X.N[i]?=some x) (hx:Loc X.env.scope x) (hs:swapsWith (.Dict [] [] dp) (some (.Name x pos')) pos.line X.env=pure false:=by rfl)
    (hf:X.fn x=true\/X.env.scope.names.lookup x=some .local:=by first|exact .inl rfl|exact .inr rfl|assumption):SD C X (.Assign [.Name x pos'] (.Dict [] [] dp) pos) (ym i) :=
  bq (ky hN hi hx xi hs hf) λD O H yy0=>by
   obtain⟨_,H0,⟨U,rfl,r⟩,q⟩:=yy0;exact λp hp=>q _ _ ⟨_,rfl,r.setDic hp⟩
def qA (i:Nat) (k e:Rho->R D):Rho->R Out:=λU=>(e U).bind λd=>(noE (k U)).bind λkd=>match oz kd with
 | some k=>match U[i]? with
  | some (some (.dic kvs))=>if kvs.length<=100000 then .val (.nx (U.set i (some (.dic (nq kvs k d)))))else .bad
  | _=>.bad
 | none=>.bad
theorem mS {M:Hp} (h:Paired (EntOk K C M) kvs xs):kvs.length=xs.length:=Paired.length h
theorem tZ {M M':Hp} (m:Same M M') (h:Paired (EntOk K C M) kvs xs):Paired (EntOk K C M') kvs xs:=Paired.mapP h λp q z=>z.mono m
variable {p:Pos} {Fk:Rho->R D}
theorem uv {k e : Expr} {sp : Pos} {F : Rho -> R D} (hu : X.A.units + 3 < cLine) (hv : PE X (.Name x p) (dD i)) (hk : ED C X k Fk) (he : ED C X e F)
    (ha : ∀ v, assign (.Subscript (.Name x p) k sp) X.env v = (do
      let ov <- holding [v] (eval (.Name x p) X.env)
      let iv <- holding [v, ov] (eval k X.env)
      standAt sp
      holding [v, ov, iv] (setItem ov iv v)
      release [v, ov, iv] []) := by intro _; rfl)
    (hs : swapsWithSole [.Subscript (.Name x p) k sp] e pos.line X.env = pure false := by rfl) (hw : swappedStores [.Subscript (.Name x p) k sp] e X.env = pure none := by rfl)
    (h1 : (assignEach [.Subscript (.Name x p) k sp] X.env).map (·.2) = [assign (.Subscript (.Name x p) k sp) X.env] := by rfl) :
    SD C X (.Assign [.Subscript (.Name x p) k sp] e pos) (qA i Fk F) :=
  bq (tJ he (w_ hv hk (uu hu) ha) hs hw h1) fun D O H yy1 => by
   obtain ⟨_, H0, ⟨U, rfl, r⟩, q⟩ := yy1
   exact ⟨U, ⟨H0, r⟩, aR (P := fun z _ => pS C X z H0 D) (fun c h => cX r h) (fun h => h) q fun d v H1 s1 h1 q1 => by
    cases ek : Fk U with
    | exc c => rw [ek] at q1; exact q1.elim
    | bad => rw [ek] at q1; exact q1.elim
    | val kd =>
      rw [ek] at q1
      dsimp only [DL.R.bind, noE] at q1
      split at q1
      · rename_i kk ekk
        split at q1
        · rename_i kvs ei
          split at q1
          · rename_i hl
            obtain ⟨a, ea, _, xs, eH, nd, hp⟩ := r.at_ i _ ei
            refine ⟨_, ea, U, ⟨H0, r.mono s1⟩, ?_⟩
            rw [ek]
            intro kv H2 s2 h2
            obtain ⟨kb, rfl, hkey⟩ := qe ekk h2
            have hp2 := tZ (aZ (s1.trans s2)) hp
            refine ⟨a, xs, kb, kk, rfl, rfl, s2 _ _ (s1 _ _ eH), fun x hx => (iF hp2 x hx).mono msk_sub, nd, hkey.mono msk_sub, by rw [<- mS hp]; exact hl, fun u ru nd' => ?_⟩
            exact q1 _ _ ⟨_, rfl, ((r.mono s1).mono s2).putDic ei ea nd' (u3 ru (h1.mono (aZ s2)) hkey hp2)⟩
          · exact q1.elim
        · exact q1.elim
      · exact q1.elim⟩
def qC (i:Nat) (k:Rho->R D):Rho->R D:=λU=>match U[i]? with
 | some (some (.dic kvs))=>(k U).bind λkd=>match oz kd with
  | some k=>match tQ kvs k with
   | some d=>.val d
   | none=>.bad
  | none=>.bad
 | _=>.bad
theorem u_ {k:Expr} (hu:X.A.units+3<cLine) (hv:PE X (.Name x p) (dD i)) (hk:ED C X k Fk) (hs:j_ k:=by exact λ_ _=>rfl) :
  ED C X (.Subscript (.Name x p) k pos) (qC i Fk) :=
 aJ (xh (B6 hu) hv hk hs) λO H Q zz1=>by
  obtain⟨U,⟨H0,r⟩,q⟩:=zz1;unfold qC at q;split at q
  ·rename_i kvs ei;obtain⟨a,ea,_,xs,eH,nd,hp⟩:=r.at_ i _ ei;refine⟨_,ea,U,⟨H0,r⟩,aR (P:=λz H=>pV X (dJ C X U O) z O H Q) (λ_ h=>h) (λh=>h) q λkd kv H1 s1 h1 q1=>?_⟩;split at q1
   ·rename_i kk ekk;split at q1
    ·rename_i d eg;obtain⟨kb,rfl,hkey⟩:=qe ekk h1;have hp2:=tZ (aZ s1) hp;obtain⟨pr,v,e1,e2,e3⟩:=u5 hp2 eg;exact⟨a,xs,kb,kk,pr,v,rfl,rfl,s1 _ _ eH,λx hx=>(iF hp2 x hx).mono msk_sub,nd,hkey.mono msk_sub,e1,e2,q1 v H1 s1 e3⟩
    ·exact q1.elim
   ·exact q1.elim
  ·exact q.elim
def yl (i:Nat) (k:Rho->R D):Rho->R Bool:=λU=>(k U).bind λkd=>match U[i]? with
 | some (some (.dic kvs))=>match oz kd with
  | some k=>.val (!(kvs.any λp=>decide (p.1=k)))
  | none=>.bad
 | _=>.bad
theorem yO {k : Expr} (hu : X.A.units + 3 < cLine) (hv : PE X (.Name x p) (dD i)) (hk : ED C X k Fk) (hm : behindInMarks .NotIn (.Name x p) = false := by rfl) :
    TD C X (.Compare k [.NotIn] [.Name x p] pos) (yl i Fk) :=
  i3 (uD (zq hu) hk hv hm) fun O H Q yy2 => by
   obtain ⟨U, ⟨H0, r⟩, q⟩ := yy2
   exact ⟨U, ⟨H0, r⟩, aR (P := fun z H => pB X z O H Q) (fun _ h => h) (fun h => h) q fun kd kv H1 s1 h1 q1 => by
    split at q1
    · rename_i kvs ei
      obtain ⟨a, ea, _, xs, eH, nd, hp⟩ := r.at_ i _ ei
      split at q1
      · rename_i kk ekk
        obtain ⟨kb, rfl, hkey⟩ := qe ekk h1
        have hp2 := tZ (aZ s1) hp
        refine ⟨_, ea, a, xs, kb, kk, rfl, rfl, s1 _ _ eH, fun x hx => (iF hp2 x hx).mono msk_sub, nd, hkey.mono msk_sub, _, rfl, ?_⟩
        have := qx (k := kk) hp2
        rw [this]
        exact q1 H1 s1
      · exact q1.elim
    · exact q1.elim⟩
end DL
namespace DL
open PySem PySem.Spec PyProof.Rows L2
variable {C:Addr} {X:Cx}
def fz (i:Nat) (F:Rho->R Out):Rho->R Out:=λU=>F (frz i U)
theorem im {sts:List Stmt} {F:Rho->R Out} (i:Nat) (h:SDs C X sts F):SDs C X sts (fz i F):=yS i h
def Fn (P:Program) (w:World) (K:Frag) (mg:Str->Option Value) (base:Heap) (C:Addr) (k:Nat) (x:Str) (n:Nat) (den:List D->R D):Prop :=
 ∃f fd ps,FnOk P w K mg base CX0 k f fd ps (spD K C n den)/\mg x=some (.ref f)/\keepIn K (.ref f)=true/\Binds K fd ps []
variable {k:Nat}
theorem DA {n:Nat} {den:List D->R D} {x:Str} {p pos:Pos} {e:Expr} {es:List Expr} {Fa:Rho->R (List D)} (F:Fn X.prog X.w X.K X.mg X.base C k x n den) (hr:Room k X.A) (hg:Gl X x) (ha:AD C X (e::es) Fa) (hx:X.xe=λ_ _=>False)
  (hdb:(x==("__debug__":Str))=false:=by decide) (he:starEach (e::es) X.env=(false,eval e X.env)::starEach es X.env:=by rfl) (hpl:(backTo pos (starEach es X.env)).any (·.1)=false:=by rfl) :
  ED C X (.Call (.Name x p) (e::es) [] pos) (cal n den Fa):=by
 obtain⟨f,fd,ps,h1,h2,h3,h4⟩:=F;exact Ad h1 hr hg h2 h3 h4 mR ha hdb he hpl
theorem br {A:Around} (r:Room k A):A.units+9<cLine:=by have:=r.un;omega
theorem oO {A:Around} (r:Room k A):A.units+3<cLine:=by have:=r.un;omega
theorem eW (m:Nat):∀j∈[m],m<=j:=λj hj=>by rw[List.mem_singleton.mp hj];exact Nat.le_refl _
theorem Dq (m:Nat):∀j∈[m,m+1],m<=j:=λj hj=>by
 rcases List.mem_cons.mp hj with h|h
 ·rw[h];exact Nat.le_refl _
 ·rw[List.mem_singleton.mp h];exact Nat.le_succ _
def whD (c:Rho->R Bool) (F:Rho->R Out):Nat->Rho->R Out
 | 0,_=>.bad
 | n+1,U=>(c U).bind λb=>if b=true then(F U).bind λo=>match o with
   | .nx U'=>whD c F n U'
   | .ct U'=>whD c F n U'
   | .bk U'=>.val (.nx U')
   | .rt d=>.val (.rt d)
  else .val (.nx U)
theorem wJ {c:Expr} {body:List Stmt} {pos:Pos} {Fc:Rho->R Bool} {F:Rho->R Out} (n:Nat) (hp:PassesOwn (model X.prog X.w) X.A X.env X.xe) (hc:TD C X c Fc) (hb:SDs C X body F):SD C X (.While c body [] pos) (whD Fc F n) :=
  bq (wW hp hc hb) λD O H yy0=>by
   obtain⟨_,H0,⟨U,rfl,r⟩,q⟩:=yy0;exact⟨λm σ' H'=>∃U':RB,cN C X H0 U' σ' H'/\pS C X (whD Fc F m U') H0 D,⟨n,U,r,q⟩,λm σ' H' zz0=>by
    obtain⟨U',r',q'⟩:=zz0;cases m with
    | zero=>exact q'.elim
    | succ m =>
      unfold whD at q';refine⟨U',⟨H0,r'⟩,jO (P:=λz _=>pS C X z H0 D) (λc h=>cX r' h) (λh=>h) q' λb H1 s1 q1=>?_⟩;cases b with
      | false=>exact zI (q1 σ' H1 (r'.mono s1).e)
      | true =>
        refine zH ⟨λO2 H2=>∃U2:RB,cN C X H0 U2 O2 H2/\pS C X (whD Fc F m U2) H0 D,λO2 H2 z=>⟨m,Nat.lt_succ_self _,z⟩,U',H0,(r'.mono s1).e,?_⟩;rw[if_pos rfl]at q1;cases eF:F U' with
        | val o =>
          rw[eF]at q1;cases o with
          | nx U2=>exact λO4 H4 ⟨β4,e4,r4⟩=>⟨β4,r4,by rw[e4];exact q1⟩
          | ct U2=>exact λO4 H4 ⟨β4,e4,r4⟩=>⟨β4,r4,by rw[e4];exact q1⟩
          | bk U2=>exact λO4 H4 r4=>q1 O4 H4 r4
          | rt d=>exact λv4 H4 s4 h4=>q1 v4 H4 s4 h4
        | exc c=>rw[eF]at q1;exact q1
        | bad=>rw[eF]at q1;exact q1⟩
end DL
namespace DL
open PySem PySem.Spec PyProof.Rows L2
variable {x:Str}
section
variable {env:Env} {r:List Expr} {p:Pos}
theorem ae:starEach (.Name x p::r) env=(false,eval (.Name x p) env)::starEach r env:=rfl
theorem ay {a k}:starEach (.Constant a k p::r) env=(false,eval (.Constant a k p) env)::starEach r env:=rfl
theorem dg {a}:starEach (.List a p::r) env=(false,eval (.List a p) env)::starEach r env:=rfl
theorem ik {a k}:starEach (.Tuple a k p::r) env=(false,eval (.Tuple a k p) env)::starEach r env:=rfl
theorem bb {a b c}:starEach (.BinOp a b c p::r) env=(false,eval (.BinOp a b c p) env)::starEach r env:=rfl
theorem ai {a b}:starEach (.Subscript a b p::r) env=(false,eval (.Subscript a b p) env)::starEach r env:=rfl
theorem bw {a b}:starEach (.Attribute a b p::r) env=(false,eval (.Attribute a b p) env)::starEach r env:=rfl
theorem az {a b c}:starEach (.Call a b c p::r) env=(false,eval (.Call a b c p) env)::starEach r env:=rfl
theorem bG {a b c}:starEach (.ListComp a b c p::r) env=(false,eval (.ListComp a b c p) env)::starEach r env:=rfl
theorem ax:(backTo p (starEach [] env)).any (·.1)=false:=rfl
theorem aq {e:Expr} (h:starEach (e::r) env=(false,eval e env)::starEach r env) (h2:(backTo p (starEach r env)).any (·.1)=false):(backTo p (starEach (e::r) env)).any (·.1)=false:=by
 rw[h];exact h2
theorem bf {e:Expr} (h:starEach [e] env=(false,eval e env)::starEach [] env):starEach [e] env=[(false,eval e env)]:=h.trans rfl
end
variable {i j:Nat} {sl:Slt} {a:Addr}
section
variable {K:Frag} {C:Addr} {H0 H:Hp} {U:RB} {O:St}
def RB.del (U:RB) (i:Nat):RB:=⟨U.rho.set i none,λj=>if j=i then[]else U.ad j⟩
theorem oU {l:Rho} (h:(l.set i none)[j]?=some (some sl)):i≠j/\l[j]?=some (some sl):=by
 rw[List.getElem?_set]at h;split at h
 ·split at h<;>cases h
 ·exact⟨by assumption,h⟩
theorem jA (h:a∈(U.del i).ad j):j≠i/\a∈U.ad j:=by
 unfold RB.del at h;dsimp only at h;split at h
 ·cases h
 ·exact⟨‹_›,h⟩
theorem my (h:j≠i):(U.del i).ad j=U.ad j:=by
 unfold RB.del;dsimp only;rw[if_neg h]
theorem Own.forget {b:Addr} (h:Own (U.del i) O b):Own U O b:=by
 obtain⟨j,h⟩:=h;exact⟨j,(jA h).2⟩
theorem Rel.forget (r:Rel K C H0 U O H) (i:Nat):Rel K C H0 (U.del i) O H:=by
 have sub:Same (msk U O H) (msk (U.del i) O H):=λb o e=>msk_some.mpr ⟨λz=>(msk_some.mp e).1 z.forget,(msk_some.mp e).2⟩;refine⟨?_,r.keep.trans sub,λj sl e=>?_,λj k a x y=>r.inj j k a (jA x).2 (jA y).2,λj a x=>r.kin j a (jA x).2,λj a x=>?_⟩
 ·show(U.rho.set i none).length=_;rw[List.length_set];exact r.len
 ·obtain⟨hj,e⟩:=oU e;rw[my λz=>hj z.symm];exact(r.at_ j sl e).mono (Same.refl _) sub
 ·show j<(U.rho.set i none).length;rw[List.length_set];exact r.bnd j a (jA x).2
end
def spM (K:Frag) (C:Addr) (den:List D->R D):Sp:=λvs H Q _=>∃a us xs,vs=[.ref a]/\H a=some (.lst us)/\HasL K C (cut [a] H) us xs/\match den xs with
 | .val d=>∀v H',Same (cut [a] H) H'->Has K C H' v d->Q v H'
 | _=>False
def Mv (P:Program) (w:World) (K:Frag) (mg:Str->Option Value) (base:Heap) (C:Addr) (k:Nat) (x:Str) (den:List D->R D):Prop :=
 ∃f fd p,FnOk P w K mg base CX0 k f fd [p] (spM K C den)/\mg x=some (.ref f)/\keepIn K (.ref f)=true/\Binds K fd [p] []
def st1 (N:List Str) (xs:List D):Rho:=some (.own xs)::List.replicate (N.length-1) none
variable {N:List Str} {xs:List D}
theorem Ba (h:(st1 N xs)[i]?=some (some sl)):i=0/\sl=.own xs:=by
 cases i with
 | zero=>unfold st1 at h;simp at h;exact⟨rfl,h.symm⟩
 | succ n =>
  unfold st1 at h;rw[List.getElem?_cons_succ,List.getElem?_replicate]at h;split at h<;>cases h
variable {H:Hp} {st:Stmt} {f:Addr} {fd:FuncData} {k:Nat}
section
variable {P:Program} {w:World} {K:Frag} {mg:Str->Option Value} {base:Heap} {C:Addr}
theorem tF {us:List V} (e:H a=some (.lst us)) (h:HasL K C (cut [a] H) us xs):wt K C (cut [a] H) (st1 N xs) (L2.start N [.ref a]) H:=by
 have s0:(L2.start N [V.ref a])[0]?=some (some (.ref a)):=by unfold L2.start;simp
 have own:∀{i:Nat} {b:Addr},b∈(⟨st1 N xs,λj=>if j=0 then[a]else[]⟩:RB).ad i->i=0/\b=a:=λ{i b} z=>by
  dsimp only at z;split at z
  ·exact⟨‹_›,List.mem_singleton.mp z⟩
  ·cases z
 have sub:Same (cut [a] H) (msk ⟨st1 N xs,λj=>if j=0 then[a]else[]⟩ (L2.start N [.ref a]) H):=λb o e1=>by
  obtain⟨h1,h2⟩:=cut_some.mp e1;exact msk_some.mpr ⟨λ⟨i,z⟩=>h1 (List.mem_singleton.mpr (own z).2),h2⟩
 refine⟨⟨st1 N xs,λj=>if j=0 then[a]else[]⟩,rfl,?_,sub,λi sl e1=>?_,λi j b x y=>(own x).1.trans (own y).1.symm,λi b x=>.inl ?_,λi b x=>?_⟩
 ·show(st1 N xs).length=_;unfold st1 L2.start;simp
 ·obtain⟨rfl,rfl⟩:=Ba e1;exact⟨a,us,s0,List.mem_singleton.mpr rfl,e,h.mono sub⟩
 ·rw[(own x).2];exact⟨us,e⟩
 ·rw[(own x).1];exact Nat.succ_pos _
theorem Dh {qual p:Str} {den:Rho->R Out} (F:Fun K x qual st f fd) (sc:aF N [p] (ar st))
  (hb:∀(cdv:Value) (A:Around) (outer:List Env) (s:Shared) (H:Hp) (E:XK),Room k (A.deeper (envOfC qual (ar st) s.heap.objs.size f cdv)) ->
   SDs C (ii CX0 P w K mg base N qual (ar st) f cdv A outer s H E).nox (cJ st) den) :
  FnOk P w K mg base CX0 (k+1) f fd [p] (spM K C λxs=>fin (den (st1 N xs))):=by
 refine F.ok sc (λvs H Q E h=>?_) (λcdv A outer s H vs Q E hr h=>⟨_,hb cdv A outer s H E hr,?_⟩)
 ·obtain⟨a,us,xs,rfl,_⟩:=h;rfl
 obtain⟨a,us,xs,rfl,e0,h,q⟩:=h;refine⟨st1 N xs,cut [a] H,tF e0 h,?_⟩;dsimp only at q;cases e:den (st1 N xs)with
 | val o =>
  rw[e]at q;cases o with
  | nx U'=>exact λσ' H' ⟨_,_,r⟩=>q _ H' (r.keep.trans msk_sub) .non
  | rt d=>exact λv H' s' h'=>q v H' s' h'
  | bk U'=>exact q.elim
  | ct U'=>exact q.elim
 | exc c=>rw[e]at q;exact q.elim
 | bad=>rw[e]at q;exact q.elim
end
variable {p pos cp:Pos} {den:List D->R D} {y:Str}
section
variable {C:Addr} {X:Cx}
def zu (i:Nat) (den:List D->R D):Rho->R Out:=λU=>match U[i]? with
 | some (some (.own xs))=>(noex (den xs)).bind λd=>.val (.nx (U.set i (some (.shr d))))
 | _=>.bad
theorem zh {p':Pos} (F:Mv X.prog X.w X.K X.mg X.base C k x den) (hr:Room k X.A) (hg:Gl X x) (hv:PE X (.Name y p') (dD i)) (hdb:(x==("__debug__":Str))=false:=by decide) :
  PE X (.Call (.Name x p) [.Name y p'] [] pos) (λO H Q=>∃(U:RB) (H0:Hp) (xs:List D) (d:D),cN C X H0 U O H/\U.rho[i]?=some (some (.own xs))/\den xs=.val d/\∀v H',cN C X H0 (U.del i) O H'->dJ C X (U.del i) O H' v d->Q v H'):=by
 obtain⟨f,fd,pn,hF,hm,hk,hb⟩:=F;rintro pins s O H Q I ⟨U,H0,xs,d,r0,e0,ed,q⟩;obtain⟨a,vs,e1,ha,h1,h2⟩:=r0.at_ i _ e0;refine wpAny_Call_Name_kw (gl I hg hm ?_ hdb);refine callWith_K (h₀:=X.base) I.ok.mod.kin hk (thn ((bN hv cR ae) pos pins s O H (λus H1=>us=[.ref a]/\H1=H) I ⟨_,e1,rfl,rfl⟩) λus s1 ⟨ws,H1,I1,rv,ew,eh⟩=>⟨I1.kIn,?_⟩) ae ax;subst ew;subst eh;have rf:=r0.forget i;have Z:=Rel.hid rf I1;have J:=I1.hide Z;have nz:a∉cu (U.del i) O:=λz=>by
  obtain⟨j,z⟩:=(fO rf.bnd).mp z;exact(jA z).1 (r0.inj j i a (jA z).2 ha)
 have sub:Same (msk U O H1) (cut [a] (cut (cu (U.del i) O) H1)):=λb o eb=>by
  obtain⟨g1,g2⟩:=msk_some.mp eb;refine cut_some.mpr ⟨λz=>g1 ?_,cut_some.mpr ⟨λz=>g1 ((fO rf.bnd).mp z).forget,g2⟩⟩;rw[List.mem_singleton.mp z];exact⟨i,ha⟩
 refine thn (kt (E:=E0) (Q:=λv M'=>Same (cut [a] (cut (cu (U.del i) O) H1)) M'/\Has X.K C M' v d) hF hr hb .nil mR J rv ?_) λu s2 ⟨v,M',J2,ru,sm,hv'⟩=>?_
 ·rw[List.append_nil];refine⟨a,vs,xs,rfl,cut_some.mpr ⟨nz,h1⟩,h2.mono sub,?_⟩;rw[ed];exact λv H' s2 h2=>⟨s2,h2⟩
 ·obtain⟨I2,mz⟩:=I1.show' Z J2;have em:msk (U.del i) O (jn (cu (U.del i) O) H1 M')=M':=by
   rw[fB rf.bnd]
   funext b
   by_cases hb:b∈cu (U.del i) O
   ·rw[fq hb,mz b hb]
   ·unfold cut;rw[if_neg hb,bM hb]
  have sM:Same (msk U O H1) M':=sub.trans sm;have keep:∀j b,b∈(U.del i).ad j->jn (cu (U.del i) O) H1 M' b=H1 b:=λj b hb=>iw ((fO rf.bnd).mpr ⟨j,hb⟩);have tup:∀b us,H1 b=some (.tup us)->jn (cu (U.del i) O) H1 M' b=some (.tup us):=λb us eb=>by
   have nb:b∉cu (U.del i) O:=λz=>rf.tups eb ((fO rf.bnd).mp z);rw[bM nb];exact sM b _ (msk_some.mpr ⟨r0.tups eb,eb⟩)
  refine⟨v,_,I2,ru,q v _ ⟨rf.len,by rw[em];exact r0.keep.trans sM,λj sl ej=>?_,rf.inj,λj b hb=>by rw[keep j b hb];exact rf.kin j b hb,rf.bnd⟩ (by show Has _ _ (msk _ O _) v d;rw[em];exact hv')⟩;rw[em];obtain⟨hj,ej'⟩:=oU ej;have qq:=r0.at_ j sl ej';rw[<- my (U:=U) (i:=i) λz=>hj z.symm]at qq;exact qq.stay ⟨λb hb o eo=>by rw[keep j b hb];exact eo,tup⟩ sM
theorem yV {p' pos':Pos} (F:Mv X.prog X.w X.K X.mg X.base C k x den) (hr:Room k X.A) (hg:Gl X x) (hv:PE X (.Name y p') (dD i)) (hN:X.N.Nodup) (hi:X.N[i]?=some y) (hx:Loc X.env.scope y)
  (hs:swapsWith (.Call (.Name x p) [.Name y p'] [] cp) (some (.Name y pos')) pos.line X.env=pure false) (hdb:(x==("__debug__":Str))=false:=by decide)
  (hf:X.fn y=true\/X.env.scope.names.lookup y=some .local:=by first|exact .inl rfl|exact .inr rfl|assumption):SD C X (.Assign [.Name y pos'] (.Call (.Name x p) [.Name y p'] [] cp) pos) (zu i den) :=
 bq (ky hN hi hx (zh F hr hg hv hdb) hs hf) λD O H zz1=>by
  obtain⟨_,H0,⟨U,rfl,r⟩,q⟩:=zz1;unfold zu at q;split at q
  ·rename_i xs e0;cases ed:den xs with
   | val d =>
    rw[ed]at q;refine⟨U,H0,xs,d,r,e0,ed,λv H' r' h'=>?_⟩;refine q _ _ ⟨_,?_,r'.setShr (i:=i) h'⟩;show(U.rho.set i none).set i _=_;rw[List.set_set]
   | exc c=>rw[ed]at q;exact q.elim
   | bad=>rw[ed]at q;exact q.elim
  ·exact q.elim
def rK:List D->List (KA×D)->Option (List (KA×D))
 | [],kvs=>some kvs
 | x::r,kvs=>match oz x with
  | some k=>if kvs.length<=100000 then rK r (nq kvs k (.bl true))else none
  | none=>none
def nF (il ix idd:Nat):Rho->R Out:=λU=>match U[il]?,U[idd]? with
 | some (some (.own xs)),some (some (.dic kvs))=>match rK xs kvs with
  | some kvs'=>if ix<U.length then .val (.nx ((U.set ix none).set idd (some (.dic kvs'))))else .bad
  | none=>.bad
 | _,_=>.bad
theorem vD {il ix idd:Nat} {l d:Str} {px pl pd px2 sp pos2:Pos} (hu:X.A.units+3<cLine) (hp:PassesOwn (model X.prog X.w) X.A X.env X.xe) (hc:X.calm=true) (hl:PE X (.Name l pl) (dD il)) (hg:PG X (.Name x px) (fR ix)) (hd:PE X (.Name d pd) (dD idd)) (hx:PE X (.Name x px2) (dD ix))
  (n1:ix≠il:=by decide) (n2:ix≠idd:=by decide) (n3:il≠idd:=by decide)
  (ha:∀v,assign (.Subscript (.Name d pd) (.Name x px2) sp) X.env v=(do
   let ov <- holding [v] (eval (.Name d pd) X.env)
   let iv <- holding [v,ov] (eval (.Name x px2) X.env)
   standAt sp
   holding [v,ov,iv] (setItem ov iv v)
   release [v,ov,iv] []):=by intro _;rfl)
  (hs:swapsWithSole [.Subscript (.Name d pd) (.Name x px2) sp] (.Constant (.bool true) j cp) pos2.line X.env=pure false:=by rfl) (hw:swappedStores [.Subscript (.Name d pd) (.Name x px2) sp] (.Constant (.bool true) j cp) X.env=pure none:=by rfl)
  (h1:(assignEach [.Subscript (.Name d pd) (.Name x px2) sp] X.env).map (·.2)=[assign (.Subscript (.Name d pd) (.Name x px2) sp) X.env]:=by rfl)
  (hfs:∀x,foldedSetIterable (.Name l pl) X.env x=pure x:=by intro _;rfl) :
  SD C X (.For (.Name x px) (.Name l pl) [.Assign [.Subscript (.Name d pd) (.Name x px2) sp] (.Constant (.bool true) j cp) pos2] [] pos) (nF il ix idd) :=
 bq (pO hp hc (zg hl) hg (gj (tJ AG (w_ hd hx (uu hu) ha) hs hw h1)) hfs) λDn O H zz2=>by
  obtain⟨_,H0,⟨U,rfl,r⟩,q⟩:=zz2;unfold nF at q;split at q
  ·rename_i xs kvs el ed;split at q
   ·rename_i kvsf em;have hix:ix<U.rho.length:=by
     by_cases hix:ix<U.rho.length
     ·exact hix
     ·rw[if_neg hix]at q;exact q.elim
    rw[if_pos hix]at q;obtain⟨a,vs,ea,haA,eH,hL⟩:=r.at_ il _ el;have hdl:idd<U.rho.length:=(List.getElem?_eq_some_iff.mp ed).1;refine⟨_,ea,a,rfl,⟨_,SqL.of eH⟩,rW (K:=X.K) (a:=a) (xs:=vs) (λi σ' H'=>∃kvs' β,β.rho=(U.rho.set ix none).set idd (some (.dic kvs'))/\cN C X H0 β σ' H'/\a∈β.ad il/\σ'[il]?=some (some (.ref a))/\H' a=some (.lst vs)/\rK (xs.drop i) kvs'=some kvsf) ⟨kvs,U.del ix,?_,r.forget ix,by rw[my (Ne.symm n1)];exact haA,ea,eH,em⟩ (λi σ' H' _ ⟨kvs',β,eb,r',hb,e1,e2,e3⟩=>SqL.of e2) ?_ ?_⟩
    ·have e1:(U.rho.set ix none)[idd]?=some (some (.dic kvs)):=by rw[List.getElem?_set_ne n2];exact ed
     show U.rho.set ix none=_;apply List.ext_getElem?;intro m;by_cases hm:idd=m
     ·subst hm;rw[List.getElem?_set_self (List.getElem?_eq_some_iff.mp e1).1,e1]
     ·rw[List.getElem?_set_ne hm]
    ·rintro i v σ' H' hi ⟨kvs',β,eβ,r',hbA,e1,e2,e3⟩;have l1:β.rho[il]?=some (some (.own xs)):=by
      rw[eβ,List.getElem?_set_ne (Ne.symm n3),List.getElem?_set_ne n1];exact el
     obtain⟨a',vs',g1,ga,g2,g3⟩:=r'.at_ il _ l1;rw[e1]at g1;cases g1;rw[e2]at g2;cases g2;obtain⟨x0,hx0,hv0⟩:=g3.get' hi;have hlt:i<xs.length:=(List.getElem?_eq_some_iff.mp hx0).1;have edr:xs.drop i=x0::xs.drop (i+1):=by
      rw[List.drop_eq_getElem_cons hlt];have:=(List.getElem?_eq_some_iff.mp hx0).2;rw[this]
     rw[edr]at e3;unfold rK at e3;split at e3
     ·rename_i kk ekk;split at e3
      ·rename_i hlen;have rs:=r'.setShr (i:=ix) hv0;have ed':(β.put ix (.shr x0) []).rho[idd]?=some (some (.dic kvs')):=by
        show(β.rho.set ix _)[idd]?=_;rw[List.getElem?_set_ne n2,eβ,List.getElem?_set_self (by simpa using hdl)]
       obtain⟨b,eb,hbb,ys,eY,nd,hpd⟩:=rs.at_ idd _ ed';rw[mh (Ne.symm n2)]at hbb;obtain⟨kb,rfl,hkey⟩:=qe ekk hv0;have hxl:ix<σ'.length:=by have:=r'.len;rw[eβ]at this;simp at this;omega
       have ex2:(σ'.set ix (some (V.ref kb)))[ix]?=some (some (.ref kb)):=List.getElem?_set_self hxl;have hkey2:KeyIn (msk (β.put ix (.shr x0) []) (σ'.set ix (some (V.ref kb))) H') kk kb:=hkey.mono pY;refine⟨_,eb,_,ex2,b,ys,kb,kk,rfl,rfl,eY,λz hz=>(iF hpd z hz).mono msk_sub,nd,hkey.mono msk_sub,by rw[<- mS hpd];exact hlen,λu ru nd'=>?_⟩;have r2:=(rs.putDic ed' eb nd' (u3 ru (.bl true) hkey2 hpd)).forget ix;refine⟨nq kvs' kk (.bl true),_,?_,r2,?_,?_,?_,e3⟩
       ·show(((β.rho.set ix (some (.shr x0))).set idd (some (.dic (nq kvs' kk (.bl true))))).set ix none)=_;rw[eβ];apply List.ext_getElem?;intro m;simp only[List.getElem?_set,List.length_set];by_cases h1:ix=m
        ·subst h1;simp[Ne.symm n2]
        ·by_cases h2:idd=m
         ·subst h2;simp[h1]
         ·simp[h1,h2]
       ·rw[my (Ne.symm n1),mh n3,mh (Ne.symm n1)];exact hbA
       ·rw[List.getElem?_set_ne n1];exact e1
       ·have:a≠b:=λz=>n3 (r'.inj il idd a hbA (z▸hbb));rw[aE this];exact e2
      ·cases e3
     ·cases e3
    ·rintro σ' H' ⟨kvs',β,eβ,r',_,e1,e2,e3⟩;have:vs.length=xs.length:=hL.len;rw[this,List.drop_length]at e3;cases e3;exact q _ _ ⟨β,eβ,r'⟩
   ·exact q.elim
  ·exact q.elim
end
section
variable {K:Frag} {C:Addr} {H:Hp} {x C' dx:Addr} {fs:List (Str×V)} {o':HO}
theorem kz {o:HO} (hx:H x=some (.ins C' dx fs)) (h:H a=some o) (ho:∀c d f,o=.ins c d f->f.length=3) (hl:fs.length<3):a≠x:=λz=>by
 subst z;rw[hx]at h;cases h;have:=ho _ _ _ rfl;omega
mutual
theorem Has.upd_ins (hx:H x=some (.ins C' dx fs)) (hl:fs.length<3):∀{v:V} {d:D},Has K C H v d->Has K C (upd H x o') v d
 | _,_,.non=>.non
 | _,_,.bl b=>.bl b
 | _,_,.int i=>.int i
 | _,_,.lst q h=>.lst (by rw[aE (kz hx q (λ_ _ _ z=>by cases z) hl)];exact q) (HasL.upd_ins hx hl h)
 | _,_,.tup q h=>.tup (by rw[aE (kz hx q (λ_ _ _ z=>by cases z) hl)];exact q) (HasL.upd_ins hx hl h)
 | _,_,.scr q=>.scr (by
   rcases q with(h|⟨o,h⟩)|h
   ·exact .inl (.inl (by rw[aE (kz hx h (λ_ _ _ z=>by cases z) hl)];exact h))
   ·exact .inl (.inr ⟨o,by rw[aE (kz hx h (λ_ _ _ z=>by cases z) hl)];exact h⟩)
   ·exact .inr h)
 | _,_,.exn q=>.exn (by rw[aE (kz hx q (λ_ _ _ z=>by cases z) hl)];exact q)
 | _,_,.ob q a b c=>.ob (by rw[aE (kz hx q (λ_ _ _ z=>by cases z;rfl) hl)];exact q) (Has.upd_ins hx hl a) (Has.upd_ins hx hl b) (Has.upd_ins hx hl c)
theorem HasL.upd_ins (hx:H x=some (.ins C' dx fs)) (hl:fs.length<3):∀{vs:List V} {ds:List D},HasL K C H vs ds->HasL K C (upd H x o') vs ds
 | _,_,.nil=>.nil
 | _,_,.cons a b=>.cons (Has.upd_ins hx hl a) (HasL.upd_ins hx hl b)
end
end
theorem rN (f:Str) (v:V):∀fs:List (Str×V),(gZ f v fs).length<=fs.length+1
 | []=>Nat.le_refl _
 | (g,x)::r=>by
  unfold gZ;split
  ·simp
  ·simpa using rN f v r
def wq:List (Rho->R D)->Rho->R Unit
 | [],_=>.val ()
 | c::cs,U=>(c U).bind λ_=>wq cs U
def Af (cs:List (Rho->R D)) (f1 f2 f3:Rho->R (List D)):Rho->R D:=λU=>(wq cs U).bind λ_=>(f1 U).bind λes=>(f2 U).bind λrs=>(f3 U).bind λts=>.val (.ob (.lst es) (.lst rs) (.lst ts))
def jc (e r t:D):Rho:=[none,some (.shr e),some (.shr r),some (.shr t)]
def spI (K:Frag) (C:Addr) (den:Rho->R D):Sp:=λvs H Q _=>∃x dx ve vr vt e r t,vs=[.ref x,ve,vr,vt]/\H x=some (.ins C dx [])/\Has K C H ve e/\Has K C H vr r/\Has K C H vt t/\match den (jc e r t)with
 | .val d=>∀H',(∀b o,H b=some o->b≠x->H' b=some o)->Has K C H' (.ref x) d->Q .non H'
 | _=>False
variable {o:Expr} {F:Rho->R D}
section
variable {C:Addr} {X:Cx}
variable (C X) in
def tCk:List (Rho->R D)->TS->TS
 | [],t=>t
 | c::cs,t=>yP (lg (teB C X c)) (tCk cs t)
theorem jq {rest:List Stmt} {c:Rho->R D} {cs:List (Rho->R D)} {t:TS} (h1:PS X st (lg (teB C X c))) (h2:PSs X rest (tCk C X cs t)):PSs X (st::rest) (tCk C X (c::cs) t):=fL h1 h2
theorem mP {e:Expr} (he:EB C X e F) (hs:swapsWith e none pos.line X.env=pure false:=by rfl):PS X (.Expr e pos) (lg (teB C X F)):=i4 he hs
theorem vn {U:RB} {t:TS} {Dn:jC} {O:St}:∀{cs:List (Rho->R D)} {H H0:Hp},cN C X H0 U O H->wq cs U=.val ()->(∀H1,Same H H1->t Dn O H1)->tCk C X cs t Dn O H
 | [],H,H0,r,_,k=>k H (Same.refl _)
 | c::cs,H,H0,r,e,k=>by
  unfold wq at e;cases ec:c U with
  | val d =>
   rw[ec]at e;show teB C X c O H _;refine⟨U,⟨H0,r⟩,?_⟩;rw[ec];exact λv H1 s1 _=>vn (r.mono s1) e λH2 s2=>k H2 (s1.trans s2)
  | exc c=>rw[ec]at e;cases e
  | bad=>rw[ec]at e;cases e
variable (C X) in
def tI (f1 f2 f3:Rho->R (List D)):TS:=yP (pD X.K (dD 0) (teF C X f1) "ends") (yP (pD X.K (dD 0) (teF C X f2) "rests") (pD X.K (dD 0) (teF C X f3) "table"))
theorem C_ {s1 s2 s3:Stmt} {f1 f2 f3:Rho->R (List D)} (h1:PS X s1 (pD X.K (dD 0) (teF C X f1) "ends")) (h2:PS X s2 (pD X.K (dD 0) (teF C X f2) "rests")) (h3:PS X s3 (pD X.K (dD 0) (teF C X f3) "table")):PSs X [s1,s2,s3] (tCk C X [] (tI C X f1 f2 f3)):=by
 have h:=fL h1 (fL h2 (gj h3));exact h
theorem wX {value:Expr} {f:Str} {pos':Pos} {F:Rho->R (List D)} (ho:PE X o (dD i)) (hv:FD C X value F) (hs:swapsWith value (some (.Attribute o f pos')) pos.line X.env=pure false:=by rfl):PS X (.Assign [.Attribute o f pos'] value pos) (pD X.K (dD i) (teF C X F) f):=Bs ho hv hs
def rb3 (e r t:D):RB:=⟨jc e r t,λ_=>[]⟩
theorem CW {K:Frag} {x:Addr} {ve vr vt:V} {e r t:D} (h1:Has K C H ve e) (h2:Has K C H vr r) (h3:Has K C H vt t):Rel K C H (rb3 e r t) [some (.ref x),some ve,some vr,some vt] H:=by
 have sub:Same H (msk (rb3 e r t) [some (.ref x),some ve,some vr,some vt] H):=λb o eb=>msk_some.mpr ⟨λ⟨_,z⟩=>(List.not_mem_nil z).elim,eb⟩;refine⟨rfl,sub,λi sl h=>?_,λi j a z=>(List.not_mem_nil z).elim,λi a z=>(List.not_mem_nil z).elim,λi a z=>(List.not_mem_nil z).elim⟩
 match i,h with
 | 0,h=>cases h
 | 1,h=>cases h;exact⟨ve,rfl,h1.mono sub⟩
 | 2,h=>cases h;exact⟨vr,rfl,h2.mono sub⟩
 | 3,h=>cases h;exact⟨vt,rfl,h3.mono sub⟩
 | n+4,h=>unfold rb3 jc at h;simp at h
theorem nH {F:Rho->R (List D)} {f:Str} {Dn:jC} {x dx:Addr} {fs:List (Str×V)} {ve vr vt:V} {e r t:D} (hx:H x=some (.ins C dx fs)) (hl:fs.length<3) (c:Cls X.K C) (n:NoAttr X.K C f) (h1:Has X.K C H ve e) (h2:Has X.K C H vr r) (h3:Has X.K C H vt t)
  (eF:F (jc e r t)=.val xs)
  (k:∀l H',H' x=some (.ins C dx (gZ f (.ref l) fs))->(∀b o,H b=some o->b≠x->H' b=some o)->(∀v d,Has X.K C H v d->Has X.K C H' v d)->Has X.K C H' (.ref l) (.lst xs)->Dn.nx [some (.ref x),some ve,some vr,some vt] H') :
  pD X.K (dD 0) (teF C X F) f Dn [some (.ref x),some ve,some vr,some vt] H:=by
 refine⟨rb3 e r t,⟨H,CW h1 h2 h3⟩,?_⟩;show pF _ (F (jc e r t)) _ _ _;rw[eF];intro l vs H1 s1 hn hv;have hv':HasL X.K C H1 vs xs:=hv.mono msk_sub;have nx:l≠x:=λz=>by subst z;rw[s1 _ _ hx]at hn;cases hn
 have hx2:(upd H1 l (.lst vs)) x=some (.ins C dx fs):=by rw[aE (Ne.symm nx)];exact s1 _ _ hx
 refine⟨_,rfl,x,C,dx,fs,rfl,hx2,c,n,by omega,k l _ aO (λb o eb nb=>?_) (λv d hd=>?_) ?_⟩
 ·rw[aE nb];exact aL hn _ _ (s1 _ _ eb)
 ·exact((hd.mono s1).mono (aL hn)).upd_ins hx2 hl
 ·exact Has.upd_ins hx2 hl (.lst aO (hv'.mono (aL hn)))
end
section
variable {P:Program} {w:World} {K:Frag} {mg:Str->Option Value} {base:Heap} {C:Addr}
theorem zJ {cs:List (Rho->R D)} {f1 f2 f3:Rho->R (List D)} (F:Fun K "__init__" "Hall.__init__" st f fd) (sc:aF ["self","ends","rests","table"] ["self","ends","rests","table"] (ar st))
  (cl:Cls K C) (nE:NoAttr K C "ends") (nR:NoAttr K C "rests") (nT:NoAttr K C "table")
  (hb:∀(cdv:Value) (A:Around) (outer:List Env) (s:Shared) (H:Hp) (E:XK),Room k (A.deeper (envOfC "Hall.__init__" (ar st) s.heap.objs.size f cdv)) ->
   PSs (ii CX0 P w K mg base ["self","ends","rests","table"] "Hall.__init__" (ar st) f cdv A outer s H E).nox (cJ st) (tCk C (ii CX0 P w K mg base ["self","ends","rests","table"] "Hall.__init__" (ar st) f cdv A outer s H E).nox cs (tI C (ii CX0 P w K mg base ["self","ends","rests","table"] "Hall.__init__" (ar st) f cdv A outer s H E).nox f1 f2 f3))) :
  FnOk P w K mg base CX0 (k+1) f fd ["self","ends","rests","table"] (spI K C (Af cs f1 f2 f3)):=by
 refine F.ok sc (λvs H Q E h=>?_) (λcdv A outer s H vs Q E hr h=>⟨_,hb cdv A outer s H E hr,?_⟩)
 ·obtain⟨x,dx,ve,vr,vt,e,r,t,rfl,_⟩:=h;rfl
 obtain⟨x,dx,ve,vr,vt,e,r,t,rfl,hx,h1,h2,h3,q⟩:=h;unfold Af at q;cases ec:wq cs (jc e r t)with
 | exc c=>rw[ec]at q;exact q.elim
 | bad=>rw[ec]at q;exact q.elim
 | val u =>
  rw[ec]at q;cases e1:f1 (jc e r t)with
  | exc c=>dsimp only[DL.R.bind]at q;rw[e1]at q;exact q.elim
  | bad=>dsimp only[DL.R.bind]at q;rw[e1]at q;exact q.elim
  | val es =>
   cases e2:f2 (jc e r t)with
   | exc c=>dsimp only[DL.R.bind]at q;rw[e1,e2]at q;exact q.elim
   | bad=>dsimp only[DL.R.bind]at q;rw[e1,e2]at q;exact q.elim
   | val rs =>
    cases e3:f3 (jc e r t)with
    | exc c=>dsimp only[DL.R.bind]at q;rw[e1,e2,e3]at q;exact q.elim
    | bad=>dsimp only[DL.R.bind]at q;rw[e1,e2,e3]at q;exact q.elim
    | val ts =>
     dsimp only[DL.R.bind]at q;rw[e1,e2,e3]at q;dsimp only[DL.R.bind]at q;refine vn (H0:=H) (U:=rb3 e r t) (CW h1 h2 h3) ec λH1 s1=>?_;refine nH (s1 _ _ hx) (by decide) cl nE (h1.mono s1) (h2.mono s1) (h3.mono s1) e1 λl1 Ha xa fa ka ha=>?_;refine nH xa (by show 1<3;decide) cl nR (ka _ _ (h1.mono s1)) (ka _ _ (h2.mono s1)) (ka _ _ (h3.mono s1)) e2 λl2 Hb xb fb kb hb2=>?_;refine nH xb (Nat.lt_of_le_of_lt (rN _ _ _) (by show 2<3;decide)) cl nT (kb _ _ (ka _ _ (h1.mono s1))) (kb _ _ (ka _ _ (h2.mono s1))) (kb _ _ (ka _ _ (h3.mono s1))) e3 λl3 Hc xc fc kc hc=>?_;refine q Hc (λb o eb nb=>fc _ _ (fb _ _ (fa _ _ (s1 _ _ eb) nb) nb) nb) ?_;exact .ob (dx:=dx) (ve:=.ref l1) (vr:=.ref l2) (vt:=.ref l3) xc (kc _ _ (kb _ _ ha)) (kc _ _ hb2) hc
end
def FnH (P:Program) (w:World) (K:Frag) (mg:Str->Option Value) (base:Heap) (C:Addr) (k:Nat) (den:Rho->R D):Prop :=
 ∃f fd,Mk K C f/\FnOk P w K mg base CX0 k f fd ["self","ends","rests","table"] (spI K C den)/\mg "Hall"=some (.ref C)/\Binds K fd ["self","ends","rests","table"] []
variable {es:List Expr} {Fa:Rho->R (List D)}
section
variable {C:Addr} {X:Cx}
def mkH (den:Rho->R D) (Fa:Rho->R (List D)):Rho->R D:=λU=>(Fa U).bind λds=>match ds with
 | [e,r,t]=>noex (den (jc e r t))
 | _=>.bad
theorem u7 {den:Rho->R D} {e:Expr} (F:FnH X.prog X.w X.K X.mg X.base C k den) (hr:Room (k+1) X.A) (hg:Gl X "Hall") (ha:AD C X (e::es) Fa) (hx:X.xe=λ_ _=>False)
  (he:starEach (e::es) X.env=(false,eval e X.env)::starEach es X.env:=by rfl) (hpl:(backTo pos (starEach es X.env)).any (·.1)=false:=by rfl):ED C X (.Call (.Name "Hall" p) (e::es) [] pos) (mkH den Fa):=by
 obtain⟨f,fd,hM,hF,hm,hb⟩:=F;rintro pins s O H Q I ⟨U,⟨H0,r0⟩,q⟩;refine wpAny_Call_Name_kw (gl I hg hm ?_ (by decide));refine callWith_K (h₀:=X.base) I.ok.mod.kin hM.kp (thn (ha pos pins s O H (λvs H1=>∃a b c d,Same H H1/\iW C X U O H1 vs [a,b,c]/\den (jc a b c)=.val d/\∀v H',Same H H'->dJ C X U O H' v d->Q v H') I
  ⟨U,⟨H0,r0⟩,dB (P:=λz H=>pV X (dJ C X U O) z O H Q) (λ_ h=>h) (λh=>h) q λds vs H1 s1 h1 q1=>?_⟩) λus s1 ⟨vs,H1,I1,rv,a,b,c,d,s1',h1,e1,q1⟩=>⟨I1.kIn,?_⟩) he hpl
 ·split at q1
  ·rename_i a b c;cases e1:den (jc a b c)with
   | val d=>rw[e1]at q1;exact⟨a,b,c,d,s1,h1,e1,q1⟩
   | exc c=>rw[e1]at q1;exact q1.elim
   | bad=>rw[e1]at q1;exact q1.elim
  ·exact q1.elim
 ·have r1:=r0.mono s1';have Z:=Rel.hid r1 I1;have J:=I1.hide Z;refine thn (wM (E:=E0) (Q:=λv M'=>Same (cut (cu U O) H1) M'/\Has X.K C M' v d) hM hF hr hb .nil mR J rv λx dx nx ndx nex=>?_) λu s2 ⟨v,M',J2,ru,sm,hv⟩=>?_
  ·rw[List.append_nil];have h1:HasL X.K C (msk U O H1) vs [a,b,c]:=h1;rw[fB r0.bnd]at h1;have s0:Same (cut (cu U O) H1) (upd (upd (cut (cu U O) H1) dx (.own x)) x (.ins C dx [])):=λb o eb=>by
    rw[aE (bx eb nx),aE (bx eb ndx)];exact eb
   cases h1 with
   | @cons va _ _ _ ga h1=>cases h1 with
    | @cons vb _ _ _ gb h1=>cases h1 with
     | @cons vc _ _ _ gc h1 =>
      cases h1;refine⟨x,dx,va,vb,vc,a,b,c,rfl,aO,ga.mono s0,gb.mono s0,gc.mono s0,?_⟩;rw[e1];exact λH' fr hH=>⟨rfl,λb o eb=>fr b o (s0 _ _ eb) (bx eb nx),hH⟩
  ·obtain⟨I2,mz⟩:=I1.show' Z J2;have sj:Same H1 (jn (cu U O) H1 M'):=λb o eb=>by
    by_cases hb:b∈cu U O
    ·rw[iw hb];exact eb
    ·rw[bM hb];exact sm b o (cut_some.mpr ⟨hb,eb⟩)
   have em:msk U O (jn (cu U O) H1 M')=M':=by
    rw[fB r0.bnd]
    funext b
    by_cases hb:b∈cu U O
    ·rw[fq hb,mz b hb]
    ·unfold cut;rw[if_neg hb,bM hb]
   exact⟨v,_,I2,ru,q1 v _ (s1'.trans sj) (by show Has _ _ (msk U O _) v d;rw[em];exact hv)⟩
structure IsH (K:Frag) (C:Addr):Prop where
 cl:Cls K C
 ha:findIn K (.ref C) "__class__"=some (some (.builtin "object.__class__"))
 hn:PySem.W.specialIn K (.builtin "object.__class__") "__get__"=some (some (.builtin "getset_descriptor.__get__"))
 htk:PySem.W.takesIn K (.builtin "object.__class__")=some true
 hm:PySem.W.mroIn K C (.type "object")=some true
end
section
variable {P:Program} {w:World} {K:Frag} {mg:Str->Option Value} {base:Heap} {C:Addr}
end
section
variable {C:Addr} {X:Cx}
end
section
variable {C:Addr} {X:Cx}
end
section
variable {prog:Program} {w:World} {A:Around} {E:Value->Shared->Prop} {K:Frag} {h:Heap} {g:Array GenState} {d:Drawn} {t:Nat} {os:OsState} {x Cc:Addr} {ox:Obj}
end
section
variable {C:Addr} {X:Cx}
theorem BB {e:Expr} {T:Str} {T':String} {p2:Pos} {te:TE} (hg:Gl X "isinstance") (hm:X.mg "isinstance"=none) (hgT:Gl X T) (hmT:X.mg T=none) (hbT:bootBuiltins T=some (.type T')) (he:PE X e te) (hst:starEach [e,.Name T p2] X.env=(false,eval e X.env)::starEach [.Name T p2] X.env)
  (hn:T ≠ "__name__":=by decide) (hdb:(T==("__debug__":Str))=false:=by decide) :
  PE X (.Call (.Name "isinstance" p) [e,.Name T p2] [] pos) (λO H Q=>te O H λv H1=>∃b,(∀(pins:List (Addr×Obj)) (s:Shared) (u:Value) (Q':Value->Shared->Prop) (E':Value->Shared->Prop),Inv X pins O H1 s->RelV v u->(∀tk,Q' (.bool b) { s with toks:=tk })->wpAny (model X.prog X.w) X.A (call (.builtin "isinstance") [u,.type T']) Q' E' s)/\Q (.bl b) H1):=by
 intro pins s O H Q I h;refine wpAny_Call_Name_kw (jr I hg hm boot_isinstance ?_);refine PyProof.Rows.callWith_builtin1 ?_ hst (aq ae ax);rw[hst];refine Calls.spliced_cons (thn (he pins s O H _ I h) λu s1 zz0=>?_);obtain⟨v,H1,I1,rv,b,hb,q⟩:=zz0;rw[ae];refine Calls.spliced_cons (jr I1 hgT hmT hbT ?_ hn hdb);refine Calls.spliced_nil ?_;exact hb pins s1 u _ _ I1 rv λtk=>⟨.bl b,H1,I1.tok _,rfl,q⟩
def iQ:List D->Option (List Bool)
 | []=>some []
 | .bl b::r=>(iQ r).map (b :: ·)
 | _=>none
theorem nu {K:Frag} {M:Hp}:∀{xs:List D} {l:List Bool} {vs:List V},iQ xs=some l->HasL K C M vs xs->vs=l.map V.bl
 | [],l,vs,e,h=>by cases e;cases h;rfl
 | x::r,l,vs,e,h=>by
  cases x with
  | bl i =>
   rw[iQ]at e;cases z:iQ r with
   | none=>rw[z]at e;cases e
   | some l' =>
    rw[z]at e;cases e;cases h with
    | cons a b=>cases a;rw[nu z b];rfl
  | _=>cases e
theorem mE:∀{bs:List Bool} {us:List Value},Vals (bs.map V.bl) us->us=bs.map Value.bool
 | [],_,.nil=>rfl
 | b::bs,_,.cons r t=>by rw[mE t];cases(show _=Value.bool b from r);rfl
end
section
variable {X:Cx} {pins pins':List (Addr×Obj)} {O:St} {H:Hp} {s:Shared} {A:Around} {cm:Bool} {xe:Value->Shared->Prop}
end
section
variable {P:Program} {w:World} {K:Frag} {mg:Str->Option Value} {base:Heap} {C:Addr}
end
section
variable {C:Addr} {X:Cx}
end
structure KTy (K:Frag) (T:String):Prop where
 i:kitOne K (.type "int") (.type T)=some (decide (T="int"))
 b:kitOne K (.type "bool") (.type T)=some (decide (T="int")||decide (T="bool"))
 n:kitOne K (.type "NoneType") (.type T)=some false
 l:kitOne K (.type "list") (.type T)=some (decide (T="list"))
 t:kitOne K (.type "tuple") (.type T)=some (decide (T="tuple"))
def jY (T:String):D->R D
 | .int _=>.val (.bl (decide (T="int")))
 | .bl _=>.val (.bl (decide (T="int")||decide (T="bool")))
 | .non=>.val (.bl false)
 | .lst _=>.val (.bl (decide (T="list")))
 | .tup _=>.val (.bl (decide (T="tuple")))
 | _=>.bad
section
variable {C:Addr} {X:Cx}
theorem kQ {e:Expr} {T:Str} {T':String} {p2:Pos} (KT:KTy X.K T') (hg:Gl X "isinstance") (hm:X.mg "isinstance"=none) (hgT:Gl X T) (hmT:X.mg T=none) (hbT:bootBuiltins T=some (.type T')) (he:EB C X e F) (hst:starEach [e,.Name T p2] X.env=(false,eval e X.env)::starEach [.Name T p2] X.env)
    (hn:T ≠ "__name__":=by decide) (hdb:(T==("__debug__":Str))=false:=by decide):ED C X (.Call (.Name "isinstance" p) [e,.Name T p2] [] pos) (una (jY T') F) :=
  aJ (BB hg hm hgT hmT hbT he hst hn hdb) λO H Q yy1=>by
   obtain⟨U,r0,q⟩:=yy1;exact⟨U,r0,aR (P:=λz H=>pV X (dJ C X U O) z O H Q) (λ_ h=>h) (λh=>h) q λy v H1 s1 h1 q1=>by
    have go:∀{t:Value} {b:Bool},kY X.K H1 v t->kitOne X.K t (.type T')=some b->(∀v H',Same H H'->dJ C X U O H' v (.bl b)->Q v H')->∃b,(∀(pins:List (Addr×Obj)) (s:Shared) (u:Value) (Q':Value->Shared->Prop) (E':Value->Shared->Prop),Inv X pins O H1 s->RelV v u->(∀tk,Q' (.bool b) { s with toks:=tk })->wpAny (model X.prog X.w) X.A (call (.builtin "isinstance") [u,.type T']) Q' E' s)/\Q (.bl b) H1 :=
      λ{t b} ty ek kq=>⟨b,λpins s u Q' E' I rv hQ=>vY I rv ty ek hQ,kq _ H1 s1 (.bl b)⟩
    cases y with
    | int i=>obtain rfl:=h1.int;exact go (.int i) KT.i q1
    | bl i=>obtain rfl:=h1.bl;exact go (.bl i) KT.b q1
    | non =>
      have hv:v=.non:=by cases h1 with|cl h=>cases h;rfl
      subst hv;exact go .non KT.n q1
    | lst xs =>
      obtain⟨a,vs,rfl,e1,_⟩:=h1.lst msk_sub;exact go (.lst e1) KT.l q1
    | tup xs =>
      obtain⟨a,vs,rfl,e1,_⟩:=h1.tup msk_sub;exact go (.tup e1) KT.t q1
    | _=>exact q1.elim⟩
theorem yx:bootBuiltins "list"=some (.type "list"):=by decide +kernel
theorem wm:bootBuiltins "tuple"=some (.type "tuple"):=by decide +kernel
end
def qp:D->R D
 | .lst xs=>match iQ xs with
  | some bs=>.val (.bl (bs.all id))
  | none=>.bad
 | _=>.bad
section
variable {C:Addr} {X:Cx}
def D1:List V->Hp->VK->Prop:=λvs H Q=>∃(l:Addr) (bs:List Bool),vs=[.ref l]/\H l=some (.lst (bs.map V.bl))/\Q (.bl (bs.all id)) H
theorem wp (bs:List Bool):(List.range bs.length).all (λi=>bs.getD i false)=bs.all id:=by
 rw[Bool.eq_iff_iff,List.all_eq_true,List.all_eq_true];constructor
 ·intro h b hb;obtain⟨i,hi,rfl⟩:=List.mem_iff_getElem.mp hb;have:=h i (List.mem_range.mpr hi);rw[List.getD_eq_getElem?_getD,List.getElem?_eq_getElem hi]at this;exact this
 ·intro h i hi;have hi:=List.mem_range.mp hi;rw[List.getD_eq_getElem?_getD,List.getElem?_eq_getElem hi];exact h _ (List.getElem_mem hi)
theorem yu (hc:X.calm=true):kh X (.builtin "all") D1:=by
 intro pins s O H xs us Q I rv h;obtain⟨l,bs,rfl,e,q⟩:=h;obtain⟨u,rfl,ru⟩:=oH rv;obtain rfl:=(show u=Value.ref l from ru);obtain⟨z,its,m,r,hl,eo⟩:=I.lstM e;obtain rfl:=mE r;have hL:s.heap.IsList l (bs.map Value.bool).toArray:=⟨_,eo,rfl,m,rfl⟩;have hne:l≠s.heap.objs.size:=Nat.ne_of_lt (Heap.lt_size eo);have W:=Walks.list (prog:=X.prog) (w:=X.w) (A:=X.A.in1) (I.ok.hd hc) s.heap.objs.size l hne (bs.map Value.bool).toArray;refine call_all_walk (wpAny_pyIter_list hL ⟨_,_,_,_,_,_,λi=>bs.getD i false,rfl,W,⟨⟨_,Heap.get?_push_size _ rfl,rfl,rfl⟩,hL.push _⟩,λi v s2 Q2 E2 hP hQ=>?_,λh' tk hk=>?_⟩)
 ·have hP':(bs.map Value.bool)[i]?=some v:=by simpa using hP
  rw[List.getElem?_map]at hP';cases z2:bs[i]? with
  | none=>rw[z2]at hP';cases hP'
  | some b =>
   rw[z2]at hP';cases hP';have hb:bs.getD i false=b:=by rw[List.getD_eq_getElem?_getD,z2];rfl
   dsimp only at hQ;rw[hb]at hQ;exact wpAny_truthy_bool hQ
 ·have hz:(bs.map Value.bool).toArray.size=bs.length:=by simp
  rw[hz,wp];refine⟨.bl (bs.all id),H,I.kept λb o eo2=>hk b o (λhm=>?_) (Heap.get?_push_of_some _ eo2),rfl,q⟩;have:=Heap.lt_size eo2;rw[List.mem_singleton.mp hm]at this;exact Nat.lt_irrefl _ this
theorem yk {e:Expr} (hc:X.calm=true) (hg:Gl X "all") (hm:X.mg "all"=none) (hst:starEach [e] X.env=(false,eval e X.env)::starEach [] X.env) (he:EB C X e F) :
    ED C X (.Call (.Name "all" p) [e] [] pos) (una qp F) :=
  aJ (fM (yu hc) hg hm boot_all (bN he cR hst) (he:=hst) (hpl:=ax)) λO H Q yy0=>by
   obtain⟨U,r0,q⟩:=yy0;exact⟨U,r0,aR (P:=λz H=>pV X (dJ C X U O) z O H Q) (λ_ h=>h) (λh=>h) q λy v H1 s1 h1 q1=>by
    cases y with
    | lst xs =>
      unfold qp at q1;dsimp only at q1;cases eb:iQ xs with
      | none=>rw[eb]at q1;exact q1.elim
      | some bs =>
        rw[eb]at q1;obtain⟨a,vs,rfl,e1,h2⟩:=h1.lst msk_sub;obtain rfl:=nu eb h2;exact⟨a,bs,rfl,e1,q1 _ H1 s1 (.bl _)⟩
    | _=>exact q1.elim⟩
end
section
variable (C:Addr) (X:Cx)
abbrev CG (H:Hp) (v:V) (d:D):Prop:=Has X.K C H v d
abbrev sW (H:Hp) (v:List V) (d:List D):Prop:=HasL X.K C H v d
def teR (F:Rho->R D):TE:=λO H Q=>∃U:RB,(∃H0,cN C X H0 U O H)/\pV X (CG C X) (F U) O H Q
def taR (F:Rho->R (List D)):TA:=λO H Q=>∃U:RB,(∃H0,cN C X H0 U O H)/\pL X (sW C X) (F U) O H Q
def ER (e:Expr) (F:Rho->R D):Prop:=PE X e (teR C X F)
def AR (es:List Expr) (F:Rho->R (List D)):Prop:=PA X es (taR C X F)
end
variable {n:Nat}
section
variable {C:Addr} {X:Cx} {U:RB} {O:St} {H H':Hp}
theorem ly {e:Expr} (h:EB C X e F):ER C X e F:=aJ h λO H Q ⟨U,r,q⟩=>⟨U,r,by
 cases z:F U with
 | val d=>rw[z]at q;exact λv H' s h=>q v H' s (h.has msk_sub)
 | exc c=>rw[z]at q;exact q
 | bad=>rw[z]at q;exact q⟩
def va (i:Nat):Rho->R D:=λU=>match U[i]? with
 | some (some (.shr d))=>.val d
 | some (some (.own xs))=>.val (.lst xs)
 | some (some (.tre _ d))=>.val d
 | _=>.bad
theorem qt (h:PE X (.Name x pos) (dD i)):ER C X (.Name x pos) (va i):=by
 refine aJ h λO H Q zz1=>?_;obtain⟨U,⟨H0,r⟩,q⟩:=zz1;unfold va at q;split at q
 ·rename_i d e;obtain⟨v,e1,h1⟩:=r.at_ i _ e;exact⟨v,e1,q v H (Same.refl _) (h1.mono msk_sub)⟩
 ·rename_i xs e;obtain⟨a,vs,e1,_,h1,h2⟩:=r.at_ i _ e;exact⟨_,e1,q _ H (Same.refl _) (.lst h1 (h2.mono msk_sub))⟩
 ·rename_i k d e;obtain⟨v,B,e1,_,h1⟩:=r.at_ i _ e;exact⟨_,e1,q _ H (Same.refl _) (h1.has msk_sub)⟩
 ·exact q.elim
def flF (F:Rho->R D):Rho->R D:=λU=>(F U).bind λd=>match d with
 | .int i=>.val (.int i)
 | .bl b=>.val (.bl b)
 | .non=>.val .non
 | _=>.bad
theorem u8 {e:Expr} (h:ER C X e F):ED C X e (flF F):=aJ h λO H Q ⟨U,r,q⟩=>⟨U,r,by
 unfold flF at q;cases z:F U with
 | val d =>
  rw[z]at q;intro v H' s h;cases d with
  | int i=>cases h;exact q _ H' s (.int i)
  | bl i=>cases h;exact q _ H' s (.bl i)
  | non=>cases h;exact q _ H' s .non
  | _=>exact q.elim
 | exc c=>rw[z]at q;exact q
 | bad=>rw[z]at q;exact q⟩
theorem ue:AR C X [] aN:=mn cR λO H Q ⟨U,r0,q⟩=>q [] H (Same.refl _) .nil
theorem fE {e:Expr} {Fa:Rho->R D} {Fr:Rho->R (List D)} (ha:ER C X e Fa) (hr:AR C X es Fr) (hs:starEach (e::es) X.env=(false,eval e X.env)::starEach es X.env:=by rfl):AR C X (e::es) (aC Fa Fr) :=
 mn (bN ha hr hs) λO H Q ⟨U,⟨H0,r0⟩,q⟩=>⟨U,⟨H0,r0⟩,aR (P:=λz H=>pL X (sW C X) z O H Q) (λ_ h=>h) (λh=>h) q λx v H1 s1 h1 q1 =>
  ⟨U,⟨H0,r0.mono s1⟩,dB (P:=λz H=>pL X (sW C X) z O H Q) (λ_ h=>h) (λh=>h) (q1.mono s1) λxs vs H2 s2 h2 q2=>q2 _ H2 s2 (.cons (h1.mono s2) h2)⟩⟩
theorem AN {e:Expr} (F:Fn X.prog X.w X.K X.mg X.base C k x n den) (hr:Room k X.A) (hg:Gl X x) (ha:AR C X (e::es) Fa)
  (hdb:(x==("__debug__":Str))=false:=by decide) (he:starEach (e::es) X.env=(false,eval e X.env)::starEach es X.env:=by rfl) (hpl:(backTo pos (starEach es X.env)).any (·.1)=false:=by rfl) :
  ER C X (.Call (.Name x p) (e::es) [] pos) (cal n den Fa):=by
 obtain⟨f,fd,ps,F,hm,hk,hb⟩:=F;rintro pins s O H Q I ⟨U,⟨H0,r0⟩,q⟩;refine wpAny_Call_Name_kw (gl I hg hm ?_ hdb);refine callWith_K (h₀:=X.base) I.ok.mod.kin hk (thn (ha pos pins s O H (λvs H1=>∃ds d,ds.length=n/\Same H H1/\sW C X H1 vs ds/\den ds=.val d/\∀v H',Same H H'->CG C X H' v d->Q v H') I
  ⟨U,⟨H0,r0⟩,dB (P:=λz H=>pV X (CG C X) z O H Q) (λ_ h=>h) (λh=>h) q λds vs H1 s1 h1 q1=>?_⟩) λus s1 ⟨vs,H1,I1,rv,ds,d,hl,s1',h1,e1,q1⟩=>⟨I1.kIn,?_⟩) he hpl
 ·split at q1
  ·rename_i hl;cases e1:den ds with
   | val d=>rw[e1]at q1;exact⟨ds,d,hl,s1,h1,e1,q1⟩
   | exc c=>rw[e1]at q1;exact q1.elim
   | bad=>rw[e1]at q1;exact q1.elim
  ·exact q1.elim
 ·refine thn (kt (E:=E0) (Q:=λv M'=>Same H1 M'/\Has X.K C M' v d) F hr hb .nil mR I1 rv ?_) λu s2 ⟨v,M',J2,ru,sm,hv⟩=>⟨v,M',J2,ru,q1 v M' (s1'.trans sm) hv⟩;rw[List.append_nil];refine⟨h1.len.trans hl,ds,h1,?_⟩;rw[e1];exact λv H' s2 h2=>⟨s2,h2⟩
end
def spK (K:Frag) (C:Addr) (n:Nat) (kr:OK) (den:List D->R D):Sp:=λvs H Q _=>vs.length=n/\∃ds,HasL K C H vs ds/\match den ds with
 | .val d=>∀v H' A,Same H H'->(∀a∈A,H a=none)->Tre K C (cut A H') H' kr v d A->Q v H'
 | _=>False
def FnK (P:Program) (w:World) (K:Frag) (mg:Str->Option Value) (base:Heap) (C:Addr) (k:Nat) (x:Str) (n:Nat) (kr:OK) (den:List D->R D):Prop :=
 ∃f fd ps,FnOk P w K mg base CX0 k f fd ps (spK K C n kr den)/\mg x=some (.ref f)/\keepIn K (.ref f)=true/\Binds K fd ps []
section
variable (C:Addr) (X:Cx)
def pR (kr:OK) (r:R D) (H0:Hp) (Q:VK):Prop:=match r with
 | .val d=>∀v H' A,Same H0 H'->(∀a∈A,H0 a=none)->Tre X.K C (cut A H') H' kr v d A->Q v H'
 | _=>False
def tsK (kr:OK) (F:Rho->R D):TS:=λDn O H=>∃U H0,oa C X H0 U O H/\pR C X kr (F U) H0 Dn.rt
def yG (kr:OK) (st:List Stmt) (F:Rho->R D):Prop:=PSs X st (tsK C X kr F)
end
def sqK (F:Rho->R Out) (G:Rho->R D):Rho->R D:=λU=>match F U with
 | .val (.nx U')=>G U'
 | _=>.bad
def rtK (i:Nat) (kr:OK):Rho->R D:=λU=>match U[i]? with
 | some (some (.tre k d))=>if k=kr then .val d else .bad
 | _=>.bad
variable {kr:OK}
section
variable {C:Addr} {X:Cx}
theorem jD {rest:List Stmt} {F:Rho->R Out} {G:Rho->R D} (h1:SD C X st F) (h2:yG C X kr rest G):yG C X kr (st::rest) (sqK F G) :=
 dQ (fL h1 h2) λD O H ⟨U,H0,r,q⟩=>by
  refine⟨U,H0,r,?_⟩;unfold sqK at q;cases e:F U with
  | val o =>
   rw[e]at q;cases o with
   | nx U'=>exact λσ' H' r'=>⟨U',H0,r',q⟩
   | rt d=>exact q.elim
   | bk U'=>exact q.elim
   | ct U'=>exact q.elim
  | exc c=>rw[e]at q;exact q.elim
  | bad=>rw[e]at q;exact q.elim
theorem qT (hv:PE X (.Name x p) (dD i)):yG C X kr [.Return (some (.Name x p)) pos] (rtK i kr) :=
 dQ (gj (pM hv)) λD O H ⟨_,H0,⟨U,er,r⟩,q⟩=>by
  subst er;unfold rtK at q;split at q
  ·rename_i k d e;split at q
   ·rename_i ek;subst ek;obtain⟨v,B,e1,hB,h⟩:=r.at_ i _ e;refine⟨v,e1,q v H B (r.keep.trans msk_sub) (λa ha=>?_) (h.stay (λb o eb=>cut_some.mpr ⟨λhb=>(msk_some.mp eb).1 ⟨i,hB b hb⟩,(msk_some.mp eb).2⟩) (.of (Same.refl _)))⟩;cases z:H0 a with
    | none=>rfl
    | some o=>exact absurd ⟨i,hB a ha⟩ (msk_some.mp (r.keep a o z)).1
   ·exact q.elim
  ·exact q.elim
theorem Dm {e:Expr} (F:FnK X.prog X.w X.K X.mg X.base C k x n kr den) (hr:Room k X.A) (hg:Gl X x) (ha:AD C X (e::es) Fa)
  (hdb:(x==("__debug__":Str))=false:=by decide) (he:starEach (e::es) X.env=(false,eval e X.env)::starEach es X.env:=by rfl) (hpl:(backTo pos (starEach es X.env)).any (·.1)=false:=by rfl) :
  KD C X kr (.Call (.Name x p) (e::es) [] pos) (cal n den Fa):=by
 obtain⟨f,fd,ps,F,hm,hk,hb⟩:=F;rintro pins s O H Q I ⟨U,⟨H0,r0⟩,q⟩;refine wpAny_Call_Name_kw (gl I hg hm ?_ hdb);refine callWith_K (h₀:=X.base) I.ok.mod.kin hk (thn (ha pos pins s O H (λvs H1=>∃ds d,ds.length=n/\Same H H1/\iW C X U O H1 vs ds/\den ds=.val d/\∀v H' A,Same H H'->(∀a∈A,H a=none)->Tre X.K C (cut A (msk U O H')) H' kr v d A->Q v H') I
  ⟨U,⟨H0,r0⟩,dB (P:=λz H=>pK C X kr U z O H Q) (λ_ h=>h) (λh=>h) q λds vs H1 s1 h1 q1=>?_⟩) λus s1 ⟨vs,H1,I1,rv,ds,d,hl,s1',h1,e1,q1⟩=>⟨I1.kIn,?_⟩) he hpl
 ·split at q1
  ·rename_i hl;cases e1:den ds with
   | val d=>rw[e1]at q1;exact⟨ds,d,hl,s1,h1,e1,q1⟩
   | exc c=>rw[e1]at q1;exact q1.elim
   | bad=>rw[e1]at q1;exact q1.elim
  ·exact q1.elim
 ·have r1:=r0.mono s1';have Z:=Rel.hid r1 I1;have J:=I1.hide Z;refine thn (kt (E:=E0) (Q:=λv M'=>∃A,Same (cut (cu U O) H1) M'/\(∀a∈A,cut (cu U O) H1 a=none)/\Tre X.K C (cut A M') M' kr v d A) F hr hb .nil mR J rv ?_) λu s2 ⟨v,M',J2,ru,A,sm,hA,hv⟩=>?_
  ·rw[List.append_nil];refine⟨h1.len.trans hl,ds,by rw[<- fB r0.bnd];exact h1,?_⟩;rw[e1];exact λv H' A s2 hA h2=>⟨A,s2,hA,h2⟩
  ·obtain⟨I2,mz⟩:=I1.show' Z J2;have sj:Same H1 (jn (cu U O) H1 M'):=λb o eb=>by
    by_cases hb:b∈cu U O
    ·rw[iw hb];exact eb
    ·rw[bM hb];exact sm b o (cut_some.mpr ⟨hb,eb⟩)
   have em:msk U O (jn (cu U O) H1 M')=M':=by
    rw[fB r0.bnd]
    funext b
    by_cases hb:b∈cu U O
    ·rw[fq hb,mz b hb]
    ·unfold cut;rw[if_neg hb,bM hb]
   have nz:∀b o,M' b=some o->jn (cu U O) H1 M' b=some o:=λb o eb=>by
    rw[bM λhb=>by rw[mz b hb]at eb;cases eb];exact eb
   refine⟨v,_,I2,ru,q1 v _ A (s1'.trans sj) (λa ha=>?_) (by rw[em];exact hv.stay (Same.refl _) (.of nz))⟩;obtain⟨us,ea⟩:=hv.lists a ha;have na:a∉cu U O:=λhb=>by rw[mz a hb]at ea;cases ea
   have:=hA a ha;unfold cut at this;rw[if_neg na]at this;exact dF s1' this
def oX:D->Bool
 | .int _=>true
 | .bl _=>true
 | .non=>true
 | _=>false
def bZ:OK->D->Bool
 | .s,d=>oX d
 | .l k,.lst xs=>xs.all (bZ k)
 | .p j k,.tup [a,b]=>bZ j a&&bZ k b
 | _,_=>false
def se:List OK->List D->Bool
 | k::ks,d::ds=>bZ k d&&se ks ds
 | [],[]=>true
 | _,_=>false
theorem oW {k:OK} {Y:Type}:∀{vs:List Y} {ds:List D},vs.length=ds.length->ds.all (bZ k)=true->se (vs.map λ_=>k) ds=true
 | [],[],_,_=>rfl
 | _::vs,d::ds,hl,h=>by
  rw[List.all_cons,Bool.and_eq_true]at h;show(bZ k d&&se _ ds)=true;rw[h.1,oW (Nat.succ.inj hl) h.2];rfl
 | [],_::_,hl,_=>by cases hl
 | _::_,[],hl,_=>by cases hl
mutual
theorem Tre.remask {K:Frag} {M M' H:Hp}:∀{k:OK} {v:V} {d:D} {A:List Addr},Tre K C M H k v d A->bZ k d=true->Tre K C M' H k v d A
 | _,_,d,_,.s h,f=>by
  unfold bZ at f;cases h with
  | int i=>exact .s (.int i)
  | bl i=>exact .s (.bl i)
  | non=>exact .s .non
  | _=>cases f
 | _,_,_,_,.l (k:=k) e h n,f=>by
  unfold bZ at f;exact .l e (TreP.remask h (oW h.len.1 f)) n
 | _,_,_,_,.p (j:=j) (k:=k) e h,f=>by
  refine .p e (TreP.remask h ?_);cases h with
  | cons h1 t _=>cases t with
   | cons h2 t _=>cases t with
    | nil =>
     unfold bZ at f;rw[Bool.and_eq_true]at f;show(bZ j _&&(bZ k _&&true))=true;rw[f.1,f.2];rfl
theorem TreP.remask {K:Frag} {M M' H:Hp}:∀{ks:List OK} {vs:List V} {ds:List D} {A:List Addr},TreP K C M H ks vs ds A->se ks ds=true->TreP K C M' H ks vs ds A
 | _,_,_,_,.nil,_=>.nil
 | _,_,_,_,.cons h t n,f=>by
  have f:(bZ _ _&&se _ _)=true:=f;rw[Bool.and_eq_true]at f;exact .cons (Tre.remask h f.1) (TreP.remask t f.2) n
end
def flK (k:OK) (F:Rho->R D):Rho->R D:=λU=>(F U).bind λd=>if bZ k d=true then .val d else .bad
theorem B4 {e:Expr} (F:FnK X.prog X.w X.K X.mg X.base C k x n kr den) (hr:Room k X.A) (hg:Gl X x) (ha:AR C X (e::es) Fa)
  (hdb:(x==("__debug__":Str))=false:=by decide) (he:starEach (e::es) X.env=(false,eval e X.env)::starEach es X.env:=by rfl) (hpl:(backTo pos (starEach es X.env)).any (·.1)=false:=by rfl) :
  KD C X kr (.Call (.Name x p) (e::es) [] pos) (flK kr (cal n den Fa)):=by
 obtain⟨f,fd,ps,F,hm,hk,hb⟩:=F;rintro pins s O H Q I ⟨U,⟨H0,r0⟩,q⟩;refine wpAny_Call_Name_kw (gl I hg hm ?_ hdb);refine callWith_K (h₀:=X.base) I.ok.mod.kin hk (thn (ha pos pins s O H (λvs H1=>∃ds d,ds.length=n/\Same H H1/\sW C X H1 vs ds/\den ds=.val d/\bZ kr d=true/\∀v H' A,Same H H'->(∀a∈A,H a=none)->Tre X.K C (cut A (msk U O H')) H' kr v d A->Q v H') I
  ⟨U,⟨H0,r0⟩,?_⟩) λus s1 ⟨vs,H1,I1,rv,ds,d,hl,s1',h1,e1,hf,q1⟩=>⟨I1.kIn,?_⟩) he hpl
 ·unfold flK cal at q;cases ea:Fa U with
  | exc c=>rw[ea]at q;exact q
  | bad=>rw[ea]at q;exact q
  | val ds =>
   rw[ea]at q;dsimp only[DL.R.bind]at q;intro vs H1 s1 h1;by_cases hl:ds.length=n
   ·rw[if_pos hl]at q;cases e1:den ds with
    | val d =>
     rw[e1]at q;dsimp only[noex,DL.R.bind]at q;by_cases hf:bZ kr d=true
     ·rw[if_pos hf]at q;exact⟨ds,d,hl,s1,h1,e1,hf,q⟩
     ·rw[if_neg hf]at q;exact q.elim
    | exc c=>rw[e1]at q;exact q.elim
    | bad=>rw[e1]at q;exact q.elim
   ·rw[if_neg hl]at q;exact q.elim
 ·refine thn (kt (E:=E0) (Q:=λv M'=>∃A,Same H1 M'/\(∀a∈A,H1 a=none)/\Tre X.K C (cut A M') M' kr v d A) F hr hb .nil mR I1 rv ?_) λu s2 ⟨v,M',J2,ru,A,sm,hA,hv⟩=>⟨v,M',J2,ru,q1 v M' A (s1'.trans sm) (λa ha=>dF s1' (hA a ha)) (hv.remask hf)⟩;rw[List.append_nil];refine⟨h1.len.trans hl,ds,h1,?_⟩;rw[e1];exact λv H' A s2 hA h2=>⟨A,s2,hA,h2⟩
end
section
variable {P:Program} {w:World} {K:Frag} {mg:Str->Option Value} {base:Heap} {C:Addr}
theorem vk {qual:Str} {ps:List Str} {den:Rho->R D} (F:Fun K x qual st f fd) (sc:aF N ps (ar st))
  (hb:∀(cdv:Value) (A:Around) (outer:List Env) (s:Shared) (H:Hp) (E:XK),Room k (A.deeper (envOfC qual (ar st) s.heap.objs.size f cdv)) ->
   yG C (ii CX0 P w K mg base N qual (ar st) f cdv A outer s H E).nox kr (cJ st) den) :
  FnOk P w K mg base CX0 (k+1) f fd ps (spK K C ps.length kr λds=>den (st0 N ds)):=by
 refine F.ok sc (λvs H Q E h=>h.1) (λcdv A outer s H vs Q E hr h=>⟨_,hb cdv A outer s H E hr,?_⟩);obtain⟨_,ds,h,q⟩:=h;exact⟨st0 N ds,H,ku h,q⟩
end
def mG:D->List Nat->Option D
 | d,[]=>some d
 | .lst xs,j::p=>match xs[j]? with
  | some d=>mG d p
  | none=>none
 | .tup xs,j::p=>match xs[j]? with
  | some d=>mG d p
  | none=>none
 | _,_::_=>none
def lJ:D->List Nat->D->D
 | _,[],e=>e
 | .lst xs,j::p,e=>match xs[j]? with
  | some d=>.lst (xs.set j (lJ d p e))
  | none=>.lst xs
 | .tup xs,j::p,e=>match xs[j]? with
  | some d=>.tup (xs.set j (lJ d p e))
  | none=>.tup xs
 | d,_::_,_=>d
def ia:OK->List Nat->Option OK
 | k,[]=>some k
 | .l k,_::p=>ia k p
 | .p j _,0::p=>ia j p
 | .p _ k,1::p=>ia k p
 | _,_::_=>none
inductive Reach (H:Hp):V->List Nat->V->Prop where
 | nil {v:V}:Reach H v [] v
 | lst {a:Addr} {vs:List V} {j:Nat} {p:List Nat} {v w:V}:H a=some (.lst vs)->vs[j]?=some v->Reach H v p w->Reach H (.ref a) (j::p) w
 | tup {a:Addr} {vs:List V} {j:Nat} {p:List Nat} {v w:V}:H a=some (.tup vs)->vs[j]?=some v->Reach H v p w->Reach H (.ref a) (j::p) w
variable {v w:V} {k':OK}
section
variable {K:Frag} {C:Addr} {M M' H H':Hp}
theorem Reach.mono (s:Same H H') {p:List Nat} (h:Reach H v p w):Reach H' v p w:=by
 induction h with
 | nil=>exact .nil
 | lst e q _ ih=>exact .lst (s _ _ e) q ih
 | tup e q _ ih=>exact .tup (s _ _ e) q ih
structure DF (A B:List Addr) (H H':Hp):Prop where
 at_:∀a∈A,a∉B->∀o,H a=some o->H' a=some o
 tup:∀a vs,H a=some (.tup vs)->H' a=some (.tup vs)
theorem TreP.pick:∀{ks:List OK} {vs:List V} {ds:List D} {A:List Addr} {j:Nat} {d:D},TreP K C M H ks vs ds A->ds[j]?=some d->∃k v A1,ks[j]?=some k/\vs[j]?=some v/\Tre K C M H k v d A1/\(∀a∈A1,a∈A) /\
  ∀{M' H':Hp} {d':D} {A2:List Addr},Same M M'->DF A A1 H H'->Tre K C M' H' k v d' A2->(∀a∈A2,a∈A1\/a∉A)->∃A',TreP K C M' H' ks vs (ds.set j d') A'/\∀a∈A',a∈A\/a∈A2
 | _,_,_,_,_,_,.nil,e=>by simp at e
 | _,_,_,_,0,d,.cons (k:=k) (v:=v) (A:=A1) (B:=A3) h t n,e=>by
  rw[List.getElem?_cons_zero]at e;cases e;refine⟨k,v,A1,rfl,rfl,h,λa ha=>List.mem_append_left _ ha,λ{M' H' d' A2} s w h2 f=>⟨A2++A3,.cons h2 (t.stay s ⟨λa ha o q=>w.at_ a (List.mem_append_right _ ha) (λz=>n a z ha) o q,w.tup⟩) λa ha hb=>?_,λa ha=>?_⟩⟩
  ·rcases f a ha with z|z
   ·exact n a z hb
   ·exact z (List.mem_append_right _ hb)
  ·rcases List.mem_append.mp ha with z|z
   ·exact .inr z
   ·exact .inl (List.mem_append_right _ z)
 | _,_,_,_,j+1,d,.cons (k:=k0) (v:=v0) (d:=d0) (A:=A0) (B:=A3) h t n,e=>by
  rw[List.getElem?_cons_succ]at e;obtain⟨k,v,A1,e1,e2,h1,s1,up⟩:=TreP.pick t e;refine⟨k,v,A1,e1,e2,h1,λa ha=>List.mem_append_right _ (s1 a ha),λ{M' H' d' A2} s w h2 f=>?_⟩;obtain⟨A',h3,s3⟩:=up (M':=M') (H':=H') s ⟨λa ha na o q=>w.at_ a (List.mem_append_right _ ha) na o q,w.tup⟩ h2 λa ha=>(f a ha).imp id λz y=>z (List.mem_append_right _ y);refine⟨A0++A',.cons (h.stay s ⟨λa ha o q=>w.at_ a (List.mem_append_left _ ha) (λz=>n a ha (s1 a z)) o q,w.tup⟩) h3 λa ha hb=>?_,λa ha=>?_⟩
  ·rcases s3 a hb with z|z
   ·exact n a ha z
   ·rcases f a z with y|y
    ·exact n a ha (s1 a y)
    ·exact y (List.mem_append_left _ ha)
  ·rcases List.mem_append.mp ha with z|z
   ·exact .inl (List.mem_append_left _ z)
   ·exact(s3 a z).imp (λy=>List.mem_append_right _ y) id
theorem zD {Y:Type} {k:OK} {vs:List Y} (h:(vs.map λ_=>k)[j]?=some k'):k'=k:=by
 rw[List.getElem?_map]at h;cases e:vs[j]? with
 | none=>rw[e]at h;cases h
 | some v=>rw[e]at h;exact(Option.some.inj h).symm
theorem Tre.path:∀{pp:List Nat} {k k':OK} {v:V} {d d':D} {A:List Addr},Tre K C M H k v d A->mG d pp=some d'->ia k pp=some k'->∃v' A1,Tre K C M H k' v' d' A1/\(∀a∈A1,a∈A)/\Reach H v pp v' /\
  ∀{M' H':Hp} {e:D} {A2:List Addr},Same M M'->DF A A1 H H'->Tre K C M' H' k' v' e A2->(∀a∈A2,a∈A1\/a∉A)->∃A',Tre K C M' H' k v (lJ d pp e) A'/\∀a∈A',a∈A\/a∈A2
 | [],k,k',v,d,d',A,h,ed,ek=>by
  unfold mG at ed;unfold ia at ek;cases ed;cases ek;exact⟨v,A,h,λa ha=>ha,.nil,λ{M' H' e A2} _ _ h2 _=>⟨A2,by unfold lJ;exact h2,λa ha=>.inr ha⟩⟩
 | j::pp,_,k',_,_,d',_,.s h,ed,ek=>by unfold ia at ek;cases ek
 | j::pp,_,k',_,_,d',_,.l (k:=k) (a:=a) (vs:=vs) (xs:=xs) (A:=A) ha hp hn,ed,ek=>by
  unfold mG at ed;unfold ia at ek;split at ed
  ·rename_i d0 e0;obtain⟨k0,v0,A0,q1,q2,h0,s0,up0⟩:=hp.pick e0;have:=zD q1;subst this;obtain⟨v',A1,h1,s1,rc,up1⟩:=Tre.path h0 ed ek;refine⟨v',A1,h1,λb hb=>List.mem_cons_of_mem _ (s0 b (s1 b hb)),.lst ha q2 rc,λ{M' H' e A2} s w h2 f=>?_⟩;obtain⟨A3,h3,s3⟩:=up1 (M':=M') (H':=H') s ⟨λb hb nb o q=>w.at_ b (List.mem_cons_of_mem _ (s0 b hb)) nb o q,w.tup⟩ h2 λb hb=>(f b hb).imp id λz y=>z (List.mem_cons_of_mem _ (s0 b y));have f3:∀b∈A3,b∈A0\/b∉A:=λb hb=>by
    rcases s3 b hb with z|z
    ·exact .inl z
    ·rcases f b z with y|y
     ·exact .inl (s1 b y)
     ·exact .inr λx=>y (List.mem_cons_of_mem _ x)
   obtain⟨A4,h4,s4⟩:=up0 (M':=M') (H':=H') s ⟨λb hb nb o q=>w.at_ b (List.mem_cons_of_mem _ hb) (λz=>nb (s1 b z)) o q,w.tup⟩ h3 f3;have na:a∉A2:=λz=>by
    rcases f a z with y|y
    ·exact hn (s0 a (s1 a y))
    ·exact y List.mem_cons_self
   refine⟨a::A4,?_,λb hb=>?_⟩
   ·unfold lJ;rw[e0];refine .l (w.at_ a List.mem_cons_self (λz=>hn (s0 a (s1 a z))) _ ha) h4 λz=>?_;rcases s4 a z with y|y
    ·exact hn y
    ·rcases s3 a y with x|x
     ·exact hn (s0 a x)
     ·exact na x
   ·rcases List.mem_cons.mp hb with rfl|hb
    ·exact .inl List.mem_cons_self
    ·rcases s4 b hb with y|y
     ·exact .inl (List.mem_cons_of_mem _ y)
     ·exact(s3 b y).imp (λx=>List.mem_cons_of_mem _ (s0 b x)) id
  ·cases ed
 | j::pp,_,k',_,_,d',_,.p (j:=k1) (k:=k2) (a:=a) (vs:=vs) (xs:=xs) (A:=A) ha hp,ed,ek=>by
  unfold mG at ed;split at ed
  ·rename_i d0 e0;obtain⟨k0,v0,A0,q1,q2,h0,s0,up0⟩:=hp.pick e0;have ek0:ia k0 pp=some k':=by
    match j,q1,ek with
    | 0,q1,ek=>cases q1;unfold ia at ek;exact ek
    | 1,q1,ek=>cases q1;unfold ia at ek;exact ek
    | n+2,q1,ek=>cases q1
   obtain⟨v',A1,h1,s1,rc,up1⟩:=Tre.path h0 ed ek0;refine⟨v',A1,h1,λb hb=>s0 b (s1 b hb),.tup ha q2 rc,λ{M' H' e A2} s w h2 f=>?_⟩;obtain⟨A3,h3,s3⟩:=up1 (M':=M') (H':=H') s ⟨λb hb nb o q=>w.at_ b (s0 b hb) nb o q,w.tup⟩ h2 λb hb=>(f b hb).imp id λz y=>z (s0 b y);have f3:∀b∈A3,b∈A0\/b∉A:=λb hb=>by
    rcases s3 b hb with z|z
    ·exact .inl z
    ·rcases f b z with y|y
     ·exact .inl (s1 b y)
     ·exact .inr y
   obtain⟨A4,h4,s4⟩:=up0 (M':=M') (H':=H') s ⟨λb hb nb o q=>w.at_ b hb (λz=>nb (s1 b z)) o q,w.tup⟩ h3 f3;refine⟨A4,?_,λb hb=>?_⟩
   ·unfold lJ;rw[e0];exact .p (w.tup _ _ ha) h4
   ·rcases s4 b hb with y|y
    ·exact .inl y
    ·exact(s3 b y).imp (λx=>s0 b x) id
  ·cases ed
end
variable {pp:List Nat} {vs:List V}
section
variable {K:Frag} {C:Addr} {H0 H:Hp} {U:RB} {O:St}
theorem Rel.node (r:Rel K C H0 U O H) {k:OK} {d:D} (e:U.rho[i]?=some (some (.tre k d))) (ek:ia k pp=some (.l k')) (ed:mG d pp=some (.lst xs)) :
  ∃v a vs A0,O[i]?=some (some v)/\Reach H v pp (.ref a)/\H a=some (.lst vs)/\TreP K C (msk U O H) H (vs.map λ_=>k') vs xs A0/\a∉A0 /\
   ∀{H2:Hp} {ws:List V} {ys:List D} {N B:List Addr},Same H H2->(∀b∈N,H b=none)->TreP K C (cut N (msk U O H2)) (upd H2 a (.lst ws)) (ws.map λ_=>k') ws ys B->(∀b∈B,b∈A0\/b∈N) ->
    Rel K C H0 (U.put i (.tre k (lJ d pp (.lst ys))) (U.ad i++B)) O (upd H2 a (.lst ws)):=by
 obtain⟨v,Bt,e1,hB,h⟩:=r.at_ i _ e;obtain⟨v',A1,h1,s1,rc,up⟩:=h.path ed ek;cases h1 with
 | @l _ a vs _ A0 ha hp hn =>
  have aI:a∈U.ad i:=hB a (s1 a List.mem_cons_self);have A0I:∀b∈A0,b∈U.ad i:=λb hb=>hB b (s1 b (List.mem_cons_of_mem _ hb));refine⟨v,a,vs,A0,e1,rc,ha,hp,hn,λ{H2 ws ys N B} s hN ht hs=>?_⟩;have nN:∀b,b∈U.ad i->b∉N:=λb hb z=>by
   have:=r.ownAt (O:=O) ⟨i,hb⟩;exact this (hN b z)
  have ne:∀b vs',H b=some (.tup vs')->b≠a:=λb vs' q z=>by rw[z,ha]at q;cases q
  refine r.put rfl (λj _=>rfl) (λb hb=>?_) (λj hj=>⟨λb hb o q=>?_,λb vs' q=>?_⟩) (λb o q=>?_) (λb hb=>?_) λhi sub=>?_
  ·rcases List.mem_append.mp hb with hb|hb
   ·exact .inl hb
   ·rcases hs b hb with z|z
    ·exact .inl (A0I b z)
    ·exact .inr (hN b z)
  ·rw[aE λ(z:b=a)=>hj (r.inj j i b hb (z▸aI))];exact s b o q
  ·rw[aE (ne b vs' q)];exact s b _ q
  ·obtain⟨g1,g2⟩:=msk_some.mp q;rw[aE λ(z:b=a)=>g1 ⟨i,z▸aI⟩];exact s b o g2
  ·by_cases z:b=a
   ·exact .inl ⟨ws,by rw[z];exact aO⟩
   ·rcases List.mem_append.mp hb with hb|hb
    ·rw[aE z];exact(r.kin i b hb).imp (λ⟨us,q⟩=>⟨us,s _ _ q⟩) λ⟨us,q⟩=>⟨us,s _ _ q⟩
    ·exact .inl (ht.lists b hb)
  ·have aB:a∉B:=λz=>by
    rcases hs a z with y|y
    ·exact hn y
    ·exact nN a aI y
   obtain⟨A',h3,s3⟩:=up (M':=msk (U.put i (.tre k (lJ d pp (.lst ys))) (U.ad i++B)) O (upd H2 a (.lst ws))) (H':=upd H2 a (.lst ws)) sub ⟨λb hb nb o q=>by rw[aE λ(z:b=a)=>nb (z▸List.mem_cons_self)];exact s b o q,λb vs' q=>by rw[aE (ne b vs' q)];exact s b _ q⟩
    (.l (k:=k') aO (ht.stay (λb o q=>by
     obtain⟨g1,g2⟩:=cut_some.mp q;obtain⟨g3,g4⟩:=msk_some.mp g2;refine msk_some.mpr ⟨λ⟨j,z⟩=>?_,by rw[aE λ(z:b=a)=>g3 ⟨i,z▸aI⟩];exact g4⟩;rcases d5 z with⟨_,_,z⟩|⟨_,z⟩
     ·rcases List.mem_append.mp z with z|z
      ·exact g3 ⟨i,z⟩
      ·rcases hs b z with y|y
       ·exact g3 ⟨i,A0I b y⟩
       ·exact g1 y
     ·exact g3 ⟨j,z⟩) (.of (Same.refl _))) aB) (λb hb=>by
     rcases List.mem_cons.mp hb with z|z
     ·exact .inl (z▸List.mem_cons_self)
     ·rcases hs b z with y|y
      ·exact .inl (List.mem_cons_of_mem _ y)
      ·exact .inr λx=>nN b (hB b x) y)
   refine⟨v,A',e1,λb hb=>?_,h3⟩;rcases s3 b hb with z|z
   ·exact List.mem_append_left _ (hB b z)
   ·rcases List.mem_cons.mp z with z|z
    ·exact List.mem_append_left _ (z▸aI)
    ·exact List.mem_append_right _ z
theorem Reach.det {w':V} (h:Reach H v pp w) (h':Reach H v pp w'):w=w':=by
 induction h with
 | nil=>cases h';rfl
 | lst e q _ ih =>
  cases h' with
  | lst e' q' h'=>rw[e]at e';cases e';rw[q]at q';cases q';exact ih h'
  | tup e' q' h'=>rw[e]at e';cases e'
 | tup e q _ ih =>
  cases h' with
  | lst e' q' h'=>rw[e]at e';cases e'
  | tup e' q' h'=>rw[e]at e';cases e';rw[q]at q';cases q';exact ih h'
theorem Reach.snocL {u:V} (h:Reach H v pp w) (ew:w=.ref a) (e:H a=some (.lst vs)) (q:vs[j]?=some u):Reach H v (pp++[j]) u:=by
 induction h with
 | nil=>subst ew;exact .lst e q .nil
 | lst e' q' _ ih=>exact .lst e' q' (ih ew)
 | tup e' q' _ ih=>exact .tup e' q' (ih ew)
theorem Reach.snocT {u:V} (h:Reach H v pp w) (ew:w=.ref a) (e:H a=some (.tup vs)) (q:vs[j]?=some u):Reach H v (pp++[j]) u:=by
 induction h with
 | nil=>subst ew;exact .tup e q .nil
 | lst e' q' _ ih=>exact .lst e' q' (ih ew)
 | tup e' q' _ ih=>exact .tup e' q' (ih ew)
end
variable {P:Rho->R (List Nat)}
section
variable {C:Addr} {X:Cx}
def pN0 (i:Nat):Rho->R (List Nat):=λU=>match U[i]? with
 | some (some (.tre _ _))=>.val []
 | _=>.bad
def pIx (k:OK) (d:D) (pp:List Nat) (n:Int):R (List Nat):=match ia k pp,mG d pp with
 | some (.l _),some (.lst xs)=>match ixN xs.length n with
  | some j=>.val (pp++[j])
  | none=>.bad
 | some (.p _ _),some (.tup xs)=>match ixN xs.length n with
  | some j=>.val (pp++[j])
  | none=>.bad
 | _,_=>.bad
def pN (i:Nat) (P:Rho->R (List Nat)) (b:Rho->R D):Rho->R (List Nat):=λU=>(P U).bind λpp=>(b U).bind λn=>match U[i]?,n with
 | some (some (.tre k d)),.int n=>pIx k d pp n
 | _,_=>.bad
variable (C X) in
def teN (i:Nat) (P:Rho->R (List Nat)):TE:=λO H Q=>∃U:RB,(∃H0,cN C X H0 U O H)/\match P U with
 | .val pp=>∀v w H',O[i]?=some (some v)->Same H H'->Reach H' v pp w->Q w H'
 | .exc c=>XE X c O H
 | .bad=>False
variable (C X) in
def ND (i:Nat) (o:Expr) (P:Rho->R (List Nat)):Prop:=PE X o (teN C X i P)
theorem uK (h:PE X (.Name x pos) (dD i)):ND C X i (.Name x pos) (pN0 i):=by
 refine aJ h λO H Q ⟨U,⟨H0,r⟩,q⟩=>?_;unfold pN0 at q;split at q
 ·rename_i e;split at e
  ·rename_i k d e0;cases e;obtain⟨v,B,e1,_,_⟩:=r.at_ i _ e0;exact⟨v,e1,q v v H e1 (Same.refl _) .nil⟩
  ·cases e
 ·rename_i e;split at e<;>cases e
 ·exact q.elim
theorem yB {Y:Type} {vs:List Y} {n:Int} (e:ixN vs.length n=some j):atI vs n=vs[j]?:=by
 unfold atI;rw[e];rfl
theorem xL {m:Nat} {n:Int} (e:ixN m n=some j):j<m:=by
 unfold ixN at e;split at e
 ·split at e
  ·cases e;omega
  ·cases e
 ·split at e
  ·cases e;omega
  ·cases e
theorem Dg {b:Expr} {Fb:Rho->R D} (ho:ND C X i o P) (hb:ED C X b Fb) (hs:j_ b:=by exact λ_ _=>rfl):ND C X i (.Subscript o b pos) (pN i P Fb) :=
 aJ (xh xK ho hb hs) λO H Q ⟨U,⟨H0,r⟩,q⟩=>by
  refine⟨U,⟨H0,r⟩,?_⟩;unfold pN at q;cases eP:P U with
  | exc c=>rw[eP]at q;exact q
  | bad=>rw[eP]at q;exact q
  | val pp =>
   rw[eP]at q;dsimp only[DL.R.bind]at q;intro v w H1 e1 s1 rc;refine⟨U,⟨H0,r.mono s1⟩,?_⟩;cases eb:Fb U with
   | exc c=>rw[eb]at q;exact XE.mono s1 q
   | bad=>rw[eb]at q;exact q
   | val n =>
    rw[eb]at q;dsimp only at q;intro y H2 s2 hy;split at q
    ·rename_i pq e0;split at e0
     ·rename_i k d n' er;cases hy;unfold pIx at e0;obtain⟨v0,B,e2,_,h⟩:=r.at_ i _ er;rw[e1]at e2;cases e2;split at e0
      ·rename_i k1 xs ek ed;split at e0
       ·rename_i j ej;cases e0;obtain⟨v',A1,h1,_,rc',_⟩:=h.path ed ek;have:=Reach.det (rc'.mono s1) rc;subst this;cases h1 with
        | @l _ a vs _ A0 ha hp hn =>
         have ha2:=s2 _ _ (s1 _ _ ha);have hl:vs.length=xs.length:=hp.len.1;have hj:j<vs.length:=by rw[hl];exact xL ej
         exact .inl ⟨a,vs,n',vs[j],rfl,rfl,SqL.of ha2,by rw[yB (j:=j) (by rw[hl];exact ej)];exact List.getElem?_eq_getElem hj,q v _ H2 e1 (s1.trans s2) ((rc.mono s2).snocL rfl ha2 (List.getElem?_eq_getElem hj))⟩
       ·cases e0
      ·rename_i k1 k2 xs ek ed;split at e0
       ·rename_i j ej;cases e0;obtain⟨v',A1,h1,_,rc',_⟩:=h.path ed ek;have:=Reach.det (rc'.mono s1) rc;subst this;cases h1 with
        | @p _ _ a vs _ A0 ha hp =>
         have ha2:=s2 _ _ (s1 _ _ ha);have hl:vs.length=xs.length:=hp.len.1;have hj:j<vs.length:=by rw[hl];exact xL ej
         exact .inr (.inl ⟨a,vs,n',vs[j],rfl,rfl,SqT.of ha2,by rw[yB (j:=j) (by rw[hl];exact ej)];exact List.getElem?_eq_getElem hj,q v _ H2 e1 (s1.trans s2) ((rc.mono s2).snocT rfl ha2 (List.getElem?_eq_getElem hj))⟩)
       ·cases e0
      ·cases e0
     ·cases e0
    ·rename_i c e0;exfalso;split at e0
     ·unfold pIx at e0;split at e0
      ·split at e0<;>cases e0
      ·split at e0<;>cases e0
      ·cases e0
     ·cases e0
    ·exact q.elim
end
section
variable (C:Addr) (X:Cx)
def pI (O:St) (z:R Rho) (H0:Hp) (Dn:jC):Prop:=match z with
 | .val U'=>∀H',oa C X H0 U' O H'->Dn.nx O H'
 | .exc c=>XS X c H0
 | .bad=>False
def tsI (F:Rho->R Rho):TS:=λDn O H=>∃U H0,oa C X H0 U O H/\pI C X O (F U) H0 Dn
def SDi (st:Stmt) (F:Rho->R Rho):Prop:=PS X st (tsI C X F)
end
section
variable {K:Frag} {C:Addr} {M H:Hp}
end
def yM (i:Nat) (k':OK) (pp:List Nat) (f:List D->R (List D)):Rho->R Rho:=λU=>match U[i]? with
 | some (some (.tre k d))=>if ia k pp=some (.l k')then(match mG d pp with
  | some (.lst xs)=>(f xs).bind λys=>.val (U.set i (some (.tre k (lJ d pp (.lst ys)))))
  | _=>.bad)else .bad
 | _=>.bad
def apF (x:D) (xs:List D):R (List D):=if xs.length<LIM then .val (xs++[x])else .bad
theorem CC {x:D}:∀xs c,apF x xs ≠ .exc c:=λxs c e=>by unfold apF at e;split at e<;>cases e
def apP (i:Nat) (k':OK) (P:Rho->R (List Nat)) (e:Rho->R D):Rho->R Rho:=λU=>(P U).bind λpp=>(noE (e U)).bind λx=>yM i k' pp (apF x) U
variable {H0:Hp} {U:RB} {O:St}
section
variable {C:Addr} {X:Cx}
def asO (F:Rho->R Rho):Rho->R Out:=λU=>(F U).bind λU'=>.val (.nx U')
theorem CT {F:Rho->R Rho} (h:SDi C X st F):SD C X st (asO F):=bq h λD O H ⟨U,H0,r,q⟩=>⟨U,H0,r,by
 unfold asO at q;cases e:F U with
 | val U'=>rw[e]at q;exact λH' r'=>q O H' r'
 | exc c=>rw[e]at q;exact q
 | bad=>rw[e]at q;exact q⟩
theorem xl {Dn:jC} {c:Nat} (r:cN C X H0 U O H) (h:pI C X O (.exc c) H0 Dn):XE X c O H:=XS.xe (r.keep.trans msk_sub) h
theorem wA {f:List D->R (List D)} {D:jC} (hf:∀xs c,f xs ≠ .exc c) (r:cN C X H0 U O H) (q:pI C X O (yM i k' pp f U) H0 D) :
  ∃xs ys v a vs A0,f xs=.val ys/\O[i]?=some (some v)/\Reach H v pp (.ref a)/\H a=some (.lst vs)/\TreP X.K C (msk U O H) H (vs.map λ_=>k') vs xs A0/\a∉A0 /\
   ∀{H2:Hp} {ws:List V} {N B:List Addr},Same H H2->(∀b∈N,H b=none)->TreP X.K C (cut N (msk U O H2)) (upd H2 a (.lst ws)) (ws.map λ_=>k') ws ys B->(∀b∈B,b∈A0\/b∈N)->D.nx O (upd H2 a (.lst ws)):=by
 unfold yM at q;split at q
 ·rename_i k d er;by_cases ek:ia k pp=some (.l k')
  ·rw[if_pos ek]at q;split at q
   ·rename_i xs ed;cases ef:f xs with
    | val ys =>
     rw[ef]at q;obtain⟨v,a,vs,A0,e1,rc,ha,hp,hn,up⟩:=r.node er ek ed;exact⟨xs,ys,v,a,vs,A0,ef,e1,rc,ha,hp,hn,λ{H2 ws N B} s hN ht hs=>q _ ⟨_,rfl,up s hN ht hs⟩⟩
    | exc c=>exact(hf xs c ef).elim
    | bad=>rw[ef]at q;exact q.elim
   ·exact q.elim
  ·rw[if_neg ek]at q;exact q.elim
 ·exact q.elim
theorem vO {H2:Hp} {ws:List V} {A0 N:List Addr} (r:cN C X H0 U O H) (s:Same H H2) (ha:H a=some (.lst vs)) (hn:a∉A0) (hN:∀b∈N,H b=none) (hp:TreP X.K C (msk U O H) H (vs.map λ_=>k') vs xs A0) :
  TreP X.K C (cut N (msk U O H2)) (upd H2 a (.lst ws)) (vs.map λ_=>k') vs xs A0 :=
 hp.stay (λb o e=>cut_some.mpr ⟨λz=>Option.some_ne_none _ ((msk_some.mp e).2.symm.trans (hN b z)),aZ s b o e⟩)
  ⟨λb hb o e=>by rw[aE λ(z:b=a)=>hn (z▸hb)];exact s b o e,λb us e=>by rw[aE λ(z:b=a)=>by rw[z,ha]at e;cases e];exact s b _ e⟩
theorem xu {H1 H2:Hp} {ws:List V} {y:V} {x:D} {N:List Addr} (ha:H a=some (.lst vs)) (s1:Same H H1) (s2:Same H1 H2) (hN:∀b∈N,H b=none) (h:Tre X.K C (cut N (msk U O H1)) H1 k' y x N) :
  Tre X.K C (cut N (msk U O H2)) (upd H2 a (.lst ws)) k' y x N :=
 h.stay (λb o e=>cut_some.mpr ⟨(cut_some.mp e).1,aZ s2 b o (cut_some.mp e).2⟩)
  ⟨λb hb o e=>by rw[aE λ(z:b=a)=>Option.some_ne_none _ (ha.symm.trans (z▸hN b hb))];exact s2 b o e,λb us e=>by rw[aE λ(z:b=a)=>by rw[z,s1 _ _ ha]at e;cases e];exact s2 b _ e⟩
theorem wn {A0 N:List Addr} (hN:∀b∈N,H b=none) (hp:TreP X.K C (msk U O H) H (vs.map λ_=>k') vs xs A0):∀b∈A0,b∉N:=λb hb z=>by
 obtain⟨us,e⟩:=hp.lists b hb;rw[hN b z]at e;cases e
theorem wH {e:Expr} {ap:Pos} (ho:ND C X i o P) (he:KD C X k' e F)
  (hs:∀{to:TE} {t:TA},PE X o to->PA X [e] t->PS X (.Expr (.Call (.Attribute o "append" ap) [e] [] cp) pos) (lg (tBM X.K "list" mf to t)):=by
   exact λho ha=>i4 (oP PySem.F.plainAttrs_list PySem.F.slot_list_append PySem.F.type_list_append i7 ho ha))
  (hst:starEach [e] X.env=(false,eval e X.env)::starEach [] X.env:=by rfl) :
  SDi C X (.Expr (.Call (.Attribute o "append" ap) [e] [] cp) pos) (apP i k' P F) :=
 bq (hs ho (bN he cR hst)) λD O H ⟨_,H0,⟨U,er,r⟩,q⟩=>by
  subst er;refine⟨U,⟨H0,r⟩,?_⟩;unfold apP at q;cases eP:P U with
  | exc c=>rw[eP]at q;exact xl r q
  | bad=>rw[eP]at q;exact q.elim
  | val pp =>
   rw[eP]at q;dsimp only[DL.R.bind]at q;intro v w H1 e1 s1 rc;cases eF:F U with
   | exc c=>rw[eF]at q;exact q.elim
   | bad=>rw[eF]at q;exact q.elim
   | val x =>
    rw[eF]at q;obtain⟨xs,ys,v0,a,vs,A0,ef,e2,rc0,ha,hp,hn,up⟩:=wA CC r q;rw[e1]at e2;cases e2;have:=Reach.det (rc0.mono s1) rc;subst this;unfold apF at ef;by_cases hl:xs.length<LIM
    ·rw[if_pos hl]at ef;cases ef;refine⟨.inl ⟨rfl,_,SqL.of (s1 _ _ ha)⟩,U,⟨H0,r.mono s1⟩,?_⟩;rw[eF];intro y H2 N s2 hN hy;have hN':∀b∈N,H b=none:=λb hb=>dF s1 (hN b hb);refine⟨a,vs,y,rfl,rfl,s2 _ _ (s1 _ _ ha),by rw[hp.len.1];exact Nat.lt_of_lt_of_le hl (by decide),?_⟩;obtain⟨B,hB,h3⟩:=TreP.app (xu (ws:=vs++[y]) ha (s1.trans s2) (Same.refl _) hN' hy) (vO (ws:=vs++[y]) r (s1.trans s2) ha hn hN' hp) (wn hN' hp);exact up (s1.trans s2) hN' (by rw[List.map_append];exact h3) λb hb=>(hB b).mp hb
    ·rw[if_neg hl]at ef;cases ef
end
section
variable {K:Frag} {C:Addr} {M M' H:Hp}
end
section
variable (C:Addr) (X:Cx)
end
section
variable {C:Addr} {X:Cx} {m:Nat}
end
section
variable {P:Program} {w:World} {K:Frag} {mg:Str->Option Value} {base:Heap} {C:Addr}
end
section
variable {C:Addr} {X:Cx}
end
section
variable {C:Addr} {X:Cx}
theorem kZ:∀{is:List Int} {us:List Value} {m:Nat} {y:Value},Vals (is.map V.int) us->us[m]?=some y->∃i t,is[m]?=some i/\y=.int i t
 | [],_,_,_,.nil,e=>by simp at e
 | i::is,_,0,y,.cons r t,e=>by
  rw[List.getElem?_cons_zero]at e;cases e;obtain⟨tk,rfl⟩:=(show ∃t,_=Value.int i t from r);exact⟨i,tk,rfl,rfl⟩
 | i::is,_,m+1,y,.cons r t,e=>by
  rw[List.getElem?_cons_succ]at e;obtain⟨i',t',e1,e2⟩:=kZ t e;exact⟨i',t',by rw[List.getElem?_cons_succ];exact e1,e2⟩
end
section
variable {C:Addr} {X:Cx}
def pFR (C:Addr) (X:Cx) (r:R (List D)) (O:St) (H:Hp) (Q:VK):Prop:=match r with
 | .val xs=>∀a vs H1,Same H H1->H1 a=none->HasL X.K C H1 vs xs->Q (.ref a) (upd H1 a (.lst vs))
 | .exc c=>XE X c O H
 | .bad=>False
variable (C X) in
def DM (F:Rho->R (List D)):TE:=λO H Q=>∃U:RB,(∃H0,cN C X H0 U O H)/\pFR C X (F U) O H Q
variable (C X) in
def FR (e:Expr) (F:Rho->R (List D)):Prop:=PE X e (DM C X F)
theorem sd {K:Frag} {H H':Hp}:∀{vs:List V} {xs:List D},xs.all oX=true->HasL K C H vs xs->HasL K C H' vs xs
 | _,_,_,.nil=>.nil
 | _,_,f,.cons a b=>by
  rw[List.all_cons,Bool.and_eq_true]at f;refine .cons ?_ (sd f.2 b);cases a with
  | int i=>exact .int i
  | bl i=>exact .bl i
  | non=>exact .non
  | _=>cases f.1
def flL (F:Rho->R (List D)):Rho->R (List D):=λU=>(F U).bind λxs=>if xs.all oX=true then .val xs else .bad
theorem Dw {e:Expr} {F:Rho->R (List D)} (h:FR C X e F):FD C X e (flL F):=aJ h λO H Q ⟨U,r0,q⟩=>⟨U,r0,by
 unfold flL at q;cases z:F U with
 | val xs =>
  rw[z]at q;dsimp only[DL.R.bind]at q;by_cases hf:xs.all oX=true
  ·rw[if_pos hf]at q;exact λa vs H1 s1 hn h1=>q a vs H1 s1 hn (sd hf h1)
  ·rw[if_neg hf]at q;exact q.elim
 | exc c=>rw[z]at q;exact q
 | bad=>rw[z]at q;exact q⟩
def wa (Fa Fb:Rho->R D):Rho->R (List D):=λU=>(Fa U).bind λx=>(Fb U).bind λy=>match x,y with
 | .lst xs,.lst ys=>if xs.length+ys.length<=LIM then .val (xs++ys)else .bad
 | _,_=>.bad
theorem Cb {a b:Expr} {Fa Fb:Rho->R D} (ha:ER C X a Fa) (hb:ER C X b Fb):FR C X (.BinOp a .Add b pos) (wa Fa Fb) :=
 aJ (AF xr ha hb) λO H Q ⟨U,⟨H0,r0⟩,q⟩=>⟨U,⟨H0,r0⟩,aR (P:=λz H=>pFR C X z O H Q) (λ_ h=>h) (λh=>h) q λx v H1 s1 h1 q1=>by
  refine⟨U,⟨H0,r0.mono s1⟩,?_⟩;cases z:Fb U with
  | exc c=>rw[z]at q1;exact XE.mono s1 q1
  | bad=>rw[z]at q1;exact q1
  | val y =>
   rw[z]at q1;dsimp only[DL.R.bind]at q1;intro w H2 s2 h2;cases h1 with
   | lst e1 g1 =>
    cases h2 with
    | lst e2 g2 =>
     dsimp only at q1;split at q1
     ·rename_i hl;exact⟨_,_,_,_,rfl,rfl,s2 _ _ e1,e2,by rw[g1.len,g2.len];exact no hl,λp hp=>q1 p _ H2 (s1.trans s2) hp ((g1.mono s2).app g2)⟩
     ·exact q1.elim
    | _=>exact q1.elim
   | _=>cases h2<;>exact q1.elim⟩
end
theorem vu:bootBuiltins "int"=some (.type "int"):=by decide +kernel
theorem sK:bootBuiltins "bool"=some (.type "bool"):=by decide +kernel
section
variable {C:Addr} {X:Cx}
def eL1 (F:Rho->R D):Rho->R D:=λU=>(F U).bind λd=>.val (.lst [d])
theorem zE {k:OK} {e:Expr} (h:KD C X k e F) (hst:starEach [e] X.env=(false,eval e X.env)::starEach [] X.env:=by rfl):KD C X (.l k) (.List [e] pos) (eL1 F) :=
 aJ (pU (bN h cR hst)) λO H Q yy=>by
  obtain⟨U,⟨H0,r0⟩,q⟩:=yy;refine⟨U,⟨H0,r0⟩,?_⟩;unfold eL1 at q;cases z:F U with
  | exc c=>rw[z]at q;exact q
  | bad=>rw[z]at q;exact q
  | val d =>
   rw[z]at q;intro v H1 A s1 hA ht;refine⟨(show 1<=sizeLine by decide),λp hp=>?_⟩;have np:p∉A:=λhm=>by
    obtain⟨us,e⟩:=ht.lists p hm;rw[hp]at e;cases e
   refine q (.ref p) (upd H1 p (.lst [v])) (p::(A++[])) (s1.trans (aL hp)) (λb hb=>?_) (.l aO (.cons (ht.stay (λb o e=>?_) (.of (aL hp))) .nil λa _=>List.not_mem_nil) (by rw[List.append_nil];exact np))
   ·rcases List.mem_cons.mp hb with rfl|hb
    ·exact dF s1 hp
    ·rw[List.append_nil]at hb;exact hA b hb
   ·obtain⟨e1,e2⟩:=cut_some.mp e;refine cut_some.mpr ⟨λhb=>?_,aZ (aL hp) b o e2⟩;rcases List.mem_cons.mp hb with rfl|hb
    ·rw[(msk_some.mp e2).2]at hp;cases hp
    ·rw[List.append_nil]at hb;exact e1 hb
end
section
variable {K:Frag} {C:Addr} {H0 H M:Hp} {U:RB} {O:St}
theorem SlotOk.wide {A B:List Addr} {o:Option (Option V)} (s:∀a∈A,a∈B) (h:SlotOk K C M H A sl o):SlotOk K C M H B sl o:=by
 cases sl with
 | shr d=>exact h
 | own xs=>obtain⟨a,vs,e,n,q,h⟩:=h;exact⟨a,vs,e,s a n,q,h⟩
 | dic kvs=>obtain⟨a,e,n,h⟩:=h;exact⟨a,e,s a n,h⟩
 | tre k d=>obtain⟨v,B',e,n,h⟩:=h;exact⟨v,B',e,λb hb=>s b (n b hb),h⟩
def RB.give (U:RB) (i j:Nat):RB:=⟨U.rho.set j none,λm=>if m=i then U.ad i++U.ad j else if m=j then[]else U.ad m⟩
theorem g_ {m:Nat} (h:a∈(U.give i j).ad m):(m=i/\(a∈U.ad i\/a∈U.ad j))\/(m≠i/\m≠j/\a∈U.ad m):=by
 have h:a∈(if m=i then U.ad i++U.ad j else if m=j then[]else U.ad m):=h;by_cases e:m=i
 ·rw[if_pos e]at h;exact .inl ⟨e,List.mem_append.mp h⟩
 ·rw[if_neg e]at h;by_cases e2:m=j
  ·rw[if_pos e2]at h;cases h
  ·rw[if_neg e2]at h;exact .inr ⟨e,e2,h⟩
theorem nC (hij:i≠j) {b:Addr}:Own (U.give i j) O b↔Own U O b:=by
 constructor
 ·rintro⟨m,z⟩;rcases g_ z with⟨_,z|z⟩|⟨_,_,z⟩
  ·exact⟨i,z⟩
  ·exact⟨j,z⟩
  ·exact⟨m,z⟩
 ·rintro⟨m,z⟩;by_cases e:m=i
  ·subst e;exact⟨m,by show b∈(if m=m then _ else _);rw[if_pos rfl];exact List.mem_append_left _ z⟩
  ·by_cases e2:m=j
   ·subst e2;exact⟨i,by show b∈(if i=i then _ else _);rw[if_pos rfl];exact List.mem_append_right _ z⟩
   ·exact⟨m,by show b∈(if m=i then _ else _);rw[if_neg e,if_neg e2];exact z⟩
theorem jW (hij:i≠j):msk (U.give i j) O H=msk U O H:=by
 funext b
 unfold msk;by_cases h:Own U O b
 ·rw[if_pos h,if_pos ((nC hij).mpr h)]
 ·rw[if_neg h,if_neg λz=>h ((nC hij).mp z)]
theorem Rel.give (r:Rel K C H0 U O H) (hij:i≠j) (hi:i<U.rho.length):Rel K C H0 (U.give i j) O H:=by
 refine⟨?_,by rw[jW hij];exact r.keep,λm sl e=>?_,λm n a x y=>?_,λm a x=>?_,λm a x=>?_⟩
 ·show(U.rho.set j none).length=_;rw[List.length_set];exact r.len
 ·have e:(U.rho.set j none)[m]?=some (some sl):=e;rw[jW hij];by_cases ej:j=m
  ·subst ej;rw[List.getElem?_set]at e;simp only[if_true]at e;split at e<;>cases e
  ·rw[List.getElem?_set_ne ej]at e;refine(r.at_ m sl e).wide λa ha=>?_;show a∈(if m=i then _ else _);by_cases e1:m=i
   ·subst e1;rw[if_pos rfl];exact List.mem_append_left _ ha
   ·rw[if_neg e1,if_neg λz=>ej z.symm];exact ha
 ·rcases g_ x with⟨em,u⟩|⟨x1,x2,u⟩
  ·rcases g_ y with⟨en,_⟩|⟨y1,y2,w⟩
   ·rw[em,en]
   ·rcases u with u|u
    ·rw[em];exact r.inj _ _ a u w
    ·exact absurd (r.inj _ _ a u w).symm y2
  ·rcases g_ y with⟨en,w|w⟩|⟨y1,y2,w⟩
   ·rw[en];exact r.inj _ _ a u w
   ·exact absurd (r.inj _ _ a u w) x2
   ·exact r.inj _ _ a u w
 ·rcases g_ x with⟨_,x|x⟩|⟨_,_,x⟩
  ·exact r.kin _ a x
  ·exact r.kin _ a x
  ·exact r.kin _ a x
 ·show m<(U.rho.set j none).length;rw[List.length_set];rcases g_ x with⟨rfl,_⟩|⟨_,_,x⟩
  ·exact hi
  ·exact r.bnd _ a x
end
section
variable {K:Frag} {C:Addr} {H0 H M:Hp} {U:RB} {O:St}
theorem Ca:(U.give i j).ad i=U.ad i++U.ad j:=if_pos rfl
theorem Rel.nodeM (r:Rel K C H0 U O H) (hij:i≠j) {k:OK} {d:D} (e:U.rho[i]?=some (some (.tre k d))) (ek:ia k pp=some (.l k')) (ed:mG d pp=some (.lst xs)) :
  ∃v a vs A0,O[i]?=some (some v)/\Reach H v pp (.ref a)/\H a=some (.lst vs)/\TreP K C (msk U O H) H (vs.map λ_=>k') vs xs A0/\a∉A0/\a∈U.ad i/\(∀b∈A0,b∈U.ad i) /\
   ∀{H2:Hp} {ws:List V} {ys:List D} {B:List Addr},Same H H2->TreP K C (msk U O H2) (upd H2 a (.lst ws)) (ws.map λ_=>k') ws ys B->(∀b∈B,b∈A0\/b∈U.ad j) ->
    Rel K C H0 ((U.give i j).put i (.tre k (lJ d pp (.lst ys))) (U.ad i++U.ad j)) O (upd H2 a (.lst ws)):=by
 obtain⟨v,Bt,e1,hB,h⟩:=r.at_ i _ e;obtain⟨v',A1,h1,s1,rc,up⟩:=h.path ed ek;have hi:i<U.rho.length:=(List.getElem?_eq_some_iff.mp e).1;have r':=r.give hij hi;cases h1 with
 | @l _ a vs _ A0 ha hp hn =>
  have aI:a∈U.ad i:=hB a (s1 a List.mem_cons_self);have A0I:∀b∈A0,b∈U.ad i:=λb hb=>hB b (s1 b (List.mem_cons_of_mem _ hb));refine⟨v,a,vs,A0,e1,rc,ha,hp,hn,aI,A0I,λ{H2 ws ys B} s ht hs=>?_⟩;have ne:∀b vs',H b=some (.tup vs')->b≠a:=λb vs' q z=>by rw[z,ha]at q;cases q
  have nj:∀b,b∈U.ad i->b∉U.ad j:=λb hb z=>hij (r.inj _ _ b hb z);refine r'.put rfl (λm _=>rfl) (λb hb=>?_) (λm hm=>⟨λb hb o q=>?_,λb vs' q=>?_⟩) (λb o q=>?_) (λb hb=>?_) λhi' sub=>?_
  ·exact .inl (by rw[Ca];exact hb)
  ·rcases g_ hb with⟨z,_⟩|⟨_,_,z⟩
   ·exact absurd z hm
   ·rw[aE λ(y:b=a)=>hm (r.inj m i b z (y▸aI))];exact s b o q
  ·rw[aE (ne b vs' q)];exact s b _ q
  ·rw[jW hij]at q;obtain⟨g1,g2⟩:=msk_some.mp q;rw[aE λ(z:b=a)=>g1 ⟨i,z▸aI⟩];exact s b o g2
  ·by_cases z:b=a
   ·exact .inl ⟨ws,by rw[z];exact aO⟩
   ·rw[aE z];rcases List.mem_append.mp hb with hb|hb
    ·exact(r.kin i b hb).imp (λ⟨us,q⟩=>⟨us,s _ _ q⟩) λ⟨us,q⟩=>⟨us,s _ _ q⟩
    ·exact(r.kin j b hb).imp (λ⟨us,q⟩=>⟨us,s _ _ q⟩) λ⟨us,q⟩=>⟨us,s _ _ q⟩
  ·have aB:a∉B:=λz=>by
    rcases hs a z with y|y
    ·exact hn y
    ·exact nj a aI y
   rw[jW hij]at sub;obtain⟨A',h3,s3⟩:=up (M':=msk ((U.give i j).put i (.tre k (lJ d pp (.lst ys))) (U.ad i++U.ad j)) O (upd H2 a (.lst ws))) (H':=upd H2 a (.lst ws)) sub ⟨λb hb nb o q=>by rw[aE λ(z:b=a)=>nb (z▸List.mem_cons_self)];exact s b o q,λb vs' q=>by rw[aE (ne b vs' q)];exact s b _ q⟩
    (.l (k:=k') aO (ht.stay (λb o q=>by
     obtain⟨g3,g4⟩:=msk_some.mp q;refine msk_some.mpr ⟨λ⟨m,z⟩=>?_,by rw[aE λ(z:b=a)=>g3 ⟨i,z▸aI⟩];exact g4⟩;rcases d5 z with⟨_,_,z⟩|⟨_,z⟩
     ·rcases List.mem_append.mp z with z|z
      ·exact g3 ⟨i,z⟩
      ·exact g3 ⟨j,z⟩
     ·exact g3 ((nC hij).mp ⟨m,z⟩)) (.of (Same.refl _))) aB) (λb hb=>by
     rcases List.mem_cons.mp hb with z|z
     ·exact .inl (z▸List.mem_cons_self)
     ·rcases hs b z with y|y
      ·exact .inl (List.mem_cons_of_mem _ y)
      ·exact .inr λw=>nj b (hB b w) y)
   refine⟨v,A',e1,λb hb=>?_,h3⟩;rcases s3 b hb with z|z
   ·exact List.mem_append_left _ (hB b z)
   ·rcases List.mem_cons.mp z with z|z
    ·exact List.mem_append_left _ (z▸aI)
    ·rcases hs b z with y|y
     ·exact List.mem_append_left _ (A0I b y)
     ·exact List.mem_append_right _ y
end
section
variable {C:Addr} {X:Cx}
def apM (i j:Nat) (k':OK) (P:Rho->R (List Nat)):Rho->R Rho:=λU=>(P U).bind λpp=>match U[i]?,U[j]? with
 | some (some (.tre k d)),some (some (.tre kj dj))=>if i≠j/\kj=k'/\ia k pp=some (.l k')then(match mG d pp with
  | some (.lst xs)=>if xs.length<LIM then .val ((U.set j none).set i (some (.tre k (lJ d pp (.lst (xs++[dj]))))))else .bad
  | _=>.bad)else .bad
 | _,_=>.bad
theorem wI {ap:Pos} (ho:ND C X i o P) (hy:PE X (.Name y p) (dD j))
  (hs:∀{to:TE} {t:TA},PE X o to->PA X [.Name y p] t->PS X (.Expr (.Call (.Attribute o "append" ap) [.Name y p] [] cp) pos) (lg (tBM X.K "list" mf to t)):=by
   exact λho ha=>i4 (oP PySem.F.plainAttrs_list PySem.F.slot_list_append PySem.F.type_list_append i7 ho ha))
  (hst:starEach [.Name y p] X.env=(false,eval (.Name y p) X.env)::starEach [] X.env:=by rfl) :
  SDi C X (.Expr (.Call (.Attribute o "append" ap) [.Name y p] [] cp) pos) (apM i j k' P) :=
 bq (hs ho (bN hy cR hst)) λD O H ⟨_,H0,⟨U,er,r⟩,q⟩=>by
  subst er;refine⟨U,⟨H0,r⟩,?_⟩;unfold apM at q;cases eP:P U with
  | exc c=>rw[eP]at q;exact xl r q
  | bad=>rw[eP]at q;exact q.elim
  | val pp =>
   rw[eP]at q;dsimp only[DL.R.bind]at q;intro v w H1 e1 s1 rc;split at q
   ·rename_i k d kj dj ei ej;by_cases hc:i≠j/\kj=k'/\ia k pp=some (.l k')
    ·rw[if_pos hc]at q;obtain⟨hij,ekj,ek⟩:=hc;subst ekj;split at q
     ·rename_i xs ed;by_cases hl:xs.length<LIM
      ·rw[if_pos hl]at q;obtain⟨v0,a,vs,A0,e2,rc0,ha,hp,hn,aI,A0I,up⟩:=r.nodeM hij ei ek ed;rw[e1]at e2;cases e2;have:=Reach.det (rc0.mono s1) rc;subst this;obtain⟨u,Bj,eu,hBj,htj⟩:=r.at_ j _ ej;refine⟨.inl ⟨rfl,_,SqL.of (s1 _ _ ha)⟩,u,eu,?_⟩;refine⟨a,vs,u,rfl,rfl,s1 _ _ ha,by rw[hp.len.1];exact Nat.lt_of_lt_of_le hl (by decide),?_⟩;have ne:∀b us,H b=some (.tup us)->b≠a:=λb us q z=>by rw[z,ha]at q;cases q
       have st:∀A:List Addr,(∀b∈A,b≠a)->Stay A H (upd H1 a (.lst (vs++[u]))):=λA hA=>⟨λb hb o q=>by rw[aE (hA b hb)];exact s1 b o q,λb us q=>by rw[aE (ne b us q)];exact s1 b _ q⟩;obtain⟨B,hB,h3⟩:=TreP.app (htj.stay (aZ s1) (st Bj λb hb z=>hij (r.inj _ _ a aI (z▸hBj b hb)))) (hp.stay (aZ s1) (st A0 λb hb z=>hn (z▸hb))) λb hb z=>hij (r.inj _ _ b (A0I b hb) (hBj b z));exact q _ ⟨_,rfl,up s1 (by rw[List.map_append];exact h3) λb hb=>((hB b).mp hb).imp id (hBj b)⟩
      ·rw[if_neg hl]at q;exact q.elim
     ·exact q.elim
    ·rw[if_neg hc]at q;exact q.elim
   ·exact q.elim
end
section
variable {C:Addr} {X:Cx}
theorem B3 {k:OK}:KD C X (.l k) (.List [] pos) (eLs (fS aN)) :=
 aJ (pU cR) λO H Q yy=>by
  obtain⟨U,⟨H0,r0⟩,q⟩:=yy;exact⟨(show 0<=sizeLine by decide),λp hp=>q (.ref p) (upd H p (.lst [])) [p] (aL hp) (λb hb=>by cases List.mem_singleton.mp hb;exact hp) (.l aO .nil List.not_mem_nil)⟩
end
end DL
namespace DL
def cw:List Int->List Int->Bool
 | [],[]=>false
 | [],_::_=>true
 | _::_,[]=>false
 | a::x,b::y=>if a=b then cw x y else decide (a<b)
theorem jU:∀x:List Int,cw x x=false
 | []=>rfl
 | a::x=>by unfold cw;rw[if_pos rfl];exact jU x
theorem g9:∀{x y z:List Int},cw x y=true->cw y z=true->cw x z=true
 | [],[],_,h,_=>by cases h
 | [],_::_,[],_,h=>by cases h
 | [],_::_,_::_,_,_=>rfl
 | _::_,[],_,h,_=>by cases h
 | _::_,_::_,[],_,h=>by cases h
 | a::x,b::y,c::z,h1,h2=>by
  unfold cw at h1 h2 ⊢;by_cases e1:a=b
  ·subst e1;rw[if_pos rfl]at h1;by_cases e2:a=c
   ·subst e2;rw[if_pos rfl]at h2 ⊢;exact g9 h1 h2
   ·rw[if_neg e2]at h2 ⊢;exact h2
  ·rw[if_neg e1]at h1;have h1:=of_decide_eq_true h1;by_cases e2:b=c
   ·subst e2;rw[if_neg e1];exact decide_eq_true h1
   ·rw[if_neg e2]at h2;have h2:=of_decide_eq_true h2;rw[if_neg (by omega)];exact decide_eq_true (by omega)
theorem jT:∀{x y:List Int},cw x y=false->cw y x=false->x=y
 | [],[],_,_=>rfl
 | [],_::_,h,_=>by cases h
 | _::_,[],_,h=>by cases h
 | a::x,b::y,h1,h2=>by
  unfold cw at h1 h2;by_cases e:a=b
  ·subst e;rw[if_pos rfl]at h1 h2;rw[jT h1 h2]
  ·rw[if_neg e]at h1;rw[if_neg (λz=>e z.symm)]at h2;have h1:=of_decide_eq_false h1;have h2:=of_decide_eq_false h2;omega
theorem uR {x y:List Int} (h:cw x y=true):cw y x=false:=by
 cases e:cw y x with
 | false=>rfl
 | true=>have:=g9 h e;rw[jU]at this;cases this
def leL (a b:List Int):Bool:=!cw b a
theorem vW (a b c:List Int) (h1:leL a b=true) (h2:leL b c=true):leL a c=true:=by
 unfold leL at *;simp only[Bool.not_eq_true']at *;cases e:cw c a with
 | false=>rfl
 | true =>
  by_cases q:cw b a=true
  ·rw[q]at h1;cases h1
  ·have q:cw b a=false:=by simpa using q
   by_cases p:cw a b=true
   ·rw[g9 e p]at h2;cases h2
   ·have p:cw a b=false:=by simpa using p
    rw[jT p q,h2]at e;cases e
theorem vX (a b:List Int):(leL a b||leL b a)=true:=by
 unfold leL;cases e:cw b a with
 | false=>rfl
 | true=>rw[uR e];rfl
theorem xE {a b:List Int} (h1:leL a b=true) (h2:leL b a=true):a=b:=by
 unfold leL at *;simp only[Bool.not_eq_true']at *;exact jT h2 h1
def ib (xs:List (List Int)):List (List Int):=xs.mergeSort leL
theorem oN (xs:List (List Int)):(ib xs).Perm xs:=List.mergeSort_perm _ _
theorem iY {xs ys:List (List Int)} (hp:ys.Perm xs) (ho:ys.Pairwise λa b=>leL a b=true):ib xs=ys :=
 List.Perm.eq_of_pairwise (λa b _ _=>xE) (List.pairwise_mergeSort vW vX xs) ho ((oN xs).trans hp.symm)
end DL
namespace DL
open PySem.W PyProof.Rows
def fQ {Y:Type} (ok:Nat->Nat->Prop) (lt:Nat->Nat->Bool):KasT Y->(Y->Prop)->Prop
 | .ret a,Q=>Q a
 | .ask i j k,Q=>ok i j/\fQ ok lt (k (lt i j)) Q
theorem d6 {Y β:Type} {ok:Nat->Nat->Prop} {lt:Nat->Nat->Bool} {f:Y->KasT β} {Q:β->Prop}:∀{t:KasT Y},fQ ok lt t (λa=>fQ ok lt (f a) Q)->fQ ok lt (t.bind f) Q
 | .ret _,h=>h
 | .ask _ _ _,h=>⟨h.1,d6 h.2⟩
theorem ci {Y:Type} {ok:Nat->Nat->Prop} {lt:Nat->Nat->Bool} {Q Q':Y->Prop} (hq:∀a,Q a->Q' a):∀{t:KasT Y},fQ ok lt t Q->fQ ok lt t Q'
 | .ret _,h=>hq _ h
 | .ask _ _ _,h=>⟨h.1,ci hq h.2⟩
variable {p:Array Nat} {i j a:Nat}
section
variable {n:Nat} {r:Nat->Nat}
abbrev okN (n:Nat):Nat->Nat->Prop:=λi j=>i<n/\j<n
abbrev ltR (r:Nat->Nat):Nat->Nat->Bool:=λi j=>decide (r i<r j)
structure PN (n:Nat) (p:Array Nat):Prop where
 pe:p.Perm (List.range n).toArray
def gk (r:Nat->Nat) (p:Array Nat) (k:Nat):Nat:=r (p.getD k 0)
theorem PN.size (h:PN n p):p.size=n:=by rw[h.pe.size_eq];simp
theorem PN.bd (h:PN n p) (hn:0<n) (k:Nat):p.getD k 0<n:=by
 by_cases hk:k<p.size
 ·have:p[k]∈p:=Array.getElem_mem hk;have:=h.pe.mem_iff.mp this;simp at this;rw[Array.getD_eq_getD_getElem?,Array.getElem?_eq_getElem hk];exact this
 ·rw[Array.getD_eq_getD_getElem?,Array.getElem?_eq_none (by omega)];exact hn
theorem PN.mir (h:PN n p) (i j d:Nat):PN n (mirror p i j d):=⟨(mirror_perm _ _ _ _).trans h.pe⟩
theorem PN.bub (h:PN n p) (i d:Nat):PN n (bubble p i d):=⟨(bubble_perm _ _ _).trans h.pe⟩
theorem rV {q:Array Nat} (h:p[i]?=q[j]?):gk r p i=gk r q j:=by
 unfold gk;rw[Array.getD_eq_getD_getElem?,Array.getD_eq_getD_getElem?,h]
theorem nB (hj:j<=p.size) (k:Nat):gk r (kas_rev p i j) k=if i<=k/\k<j then gk r p (i+j-1-k)else gk r p k:=by
 have e:=getElem?_mirror_all (i:=i) hj k;unfold kas_rev;by_cases h1:i<=k/\k<j
 ·rw[if_pos h1]at e ⊢;exact rV e
 ·rw[if_neg h1]at e ⊢;exact rV e
theorem xR {s d:Nat} (hs:s<p.size) (hd:d<=s) (k:Nat):gk r (bubble p s d) k=if k=s-d then gk r p s else if s-d<k/\k<=s then gk r p (k-1)else gk r p k:=by
 have e:=getElem?_bubble hs d hd k;by_cases h1:k=s-d
 ·rw[if_pos h1]at e ⊢;exact rV e
 ·rw[if_neg h1]at e ⊢;by_cases h2:s-d<k/\k<=s
  ·rw[if_pos h2]at e ⊢;exact rV e
  ·rw[if_neg h2]at e ⊢;exact rV e
def Up (r:Nat->Nat) (p:Array Nat) (k:Nat):Prop:=∀i j,i<=j->j<k->gk r p i<=gk r p j
def Dn (r:Nat->Nat) (p:Array Nat) (k:Nat):Prop:=∀i j,i<=j->j<k->gk r p j<=gk r p i
theorem nA (hn:0<n) {p:Array Nat} (h:PN n p):∀(f a:Nat),1<=a->a+f<=n->Up r p a->fQ (okN n) (ltR r) (kas_asc p f a) (λm=>a<=m/\m<=a+f/\Up r p m/\(∀i,m<a+f->i=m->gk r p i<gk r p (i-1)))
 | 0,a,_,_,u=>⟨Nat.le_refl _,Nat.le_refl _,u,λi h=>absurd h (by omega)⟩
 | f+1,a,h1,h2,u=>by
  refine⟨⟨h.bd hn _,h.bd hn _⟩,?_⟩;by_cases c:r (p.getD a 0)<r (p.getD (a-1) 0)
  ·rw[show ltR r (p.getD a 0) (p.getD (a-1) 0)=true from decide_eq_true c];dsimp only;rw[if_pos rfl];exact⟨Nat.le_refl _,by omega,u,λi _ e=>by subst e;exact c⟩
  ·rw[show ltR r (p.getD a 0) (p.getD (a-1) 0)=false from decide_eq_false c];dsimp only;rw[if_neg (by decide)];have u':Up r p (a+1):=λi j hij hj=>by
    by_cases e:j=a
    ·subst e;by_cases e2:i=j
     ·subst e2;exact Nat.le_refl _
     ·have:=u i (j-1) (by omega) (by omega);have c:¬ gk r p j<gk r p (j-1):=c;omega
    ·exact u i j hij (by omega)
   refine ci (λm hm=>⟨by omega,by omega,hm.2.2.1,λi h e=>hm.2.2.2 i (by omega) e⟩) (nA hn h f (a+1) (by omega) (by omega) u')
theorem i9 (hn:0<n):∀(f:Nat) (p:Array Nat) (a q:Nat),PN n p->a+f<=n->q+1<=a->Dn r p a->(∀k,a-(q+1)<=k->k<a->gk r p k=gk r p (a-1)) ->
  fQ (okN n) (ltR r) (kas_desc f p a q) (λz=>PN n z.1/\a<=z.2.1/\z.2.1<=a+f/\z.2.2+1<=z.2.1/\Dn r z.1 z.2.1/\(∀k,z.2.1-(z.2.2+1)<=k->k<z.2.1->gk r z.1 k=gk r z.1 (z.2.1-1)))
 | 0,p,a,q,h,h1,h2,d,e=>⟨h,Nat.le_refl _,Nat.le_refl _,h2,d,e⟩
 | f+1,p,a,q,h,h1,h2,d,e=>by
  have sz:=h.size;refine⟨⟨h.bd hn _,h.bd hn _⟩,?_⟩;by_cases c:r (p.getD a 0)<r (p.getD (a-1) 0)
  ·rw[show ltR r (p.getD a 0) (p.getD (a-1) 0)=true from decide_eq_true c];dsimp only;rw[if_pos rfl];have c:gk r p a<gk r p (a-1):=c;have d':Dn r p (a+1):=λi j hij hj=>by
    by_cases ej:j=a
    ·subst ej;by_cases ei:i=j
     ·subst ei;exact Nat.le_refl _
     ·have:=d i (j-1) (by omega) (by omega);omega
    ·exact d i j hij (by omega)
   by_cases hq:q>0
   ·rw[if_pos hq];have same:∀k,gk r (kas_rev p (a-(q+1)) a) k=gk r p k:=λk=>by
     rw[nB (by omega)];split
     ·rw[e _ (by omega) (by omega),e k (by omega) (by omega)]
     ·rfl
    refine ci (λz hz=>⟨hz.1,by omega,by omega,hz.2.2.2.1,hz.2.2.2.2⟩) (i9 hn f (kas_rev p (a-(q+1)) a) (a+1) 0 (h.mir _ _ _) (by omega) (by omega) (λi j hij hj=>by rw[same,same];exact d' i j hij hj) (λk h1 h2=>by rw[show k=a+1-1 by omega]))
   ·rw[if_neg hq];refine ci (λz hz=>⟨hz.1,by omega,by omega,hz.2.2.2.1,hz.2.2.2.2⟩) (i9 hn f p (a+1) 0 h (by omega) (by omega) d' (λk h1 h2=>by rw[show k=a+1-1 by omega]))
  ·rw[show ltR r (p.getD a 0) (p.getD (a-1) 0)=false from decide_eq_false c];dsimp only;rw[if_neg (by decide)];have c:¬ gk r p a<gk r p (a-1):=c;refine⟨⟨h.bd hn _,h.bd hn _⟩,?_⟩;by_cases c2:r (p.getD (a-1) 0)<r (p.getD a 0)
   ·rw[show ltR r (p.getD (a-1) 0) (p.getD a 0)=true from decide_eq_true c2];dsimp only;rw[if_pos rfl];exact⟨h,Nat.le_refl _,Nat.le_add_right _ _,h2,d,e⟩
   ·rw[show ltR r (p.getD (a-1) 0) (p.getD a 0)=false from decide_eq_false c2];dsimp only;rw[if_neg (by decide)];have c2:¬ gk r p (a-1)<gk r p a:=c2;have ee:gk r p a=gk r p (a-1):=by omega
    refine ci (λz hz=>⟨hz.1,by omega,by omega,hz.2.2.2.1,hz.2.2.2.2⟩) (i9 hn f p (a+1) (q+1) h (by omega) (by omega) (λi j hij hj=>by
     by_cases ej:j=a
     ·subst ej;by_cases ei:i=j
      ·subst ei;exact Nat.le_refl _
      ·have:=d i (j-1) (by omega) (by omega);omega
     ·exact d i j hij (by omega)) (λk h1 h2=>by
     rw[show a+1-1=a by omega];by_cases ek:k=a
     ·rw[ek]
     ·rw[e k (by omega) (by omega),ee]))
def Cnt (n:Nat) (r:Nat->Nat) (z:Nat×Array Nat):Prop:=PN n z.2/\1<=z.1/\z.1<=n/\Up r z.2 z.1
theorem AV (ha:a<=p.size) (d:Dn r p a):Up r (kas_rev p 0 a) a:=λi j hij hj=>by
 rw[nB ha,nB ha,if_pos (by omega),if_pos (by omega)];exact d _ _ (by omega) (by omega)
theorem nv (hn:0<n) (h:PN n p) (h1:1<=a) (h2:a<=n) (d:Dn r p a):fQ (okN n) (ltR r) (kas_tail3 a n p) (Cnt n r):=by
 unfold kas_tail3;refine d6 (ci (λm hm=>?_) (nA hn (h.mir 0 a _) (n-a) a h1 (by omega) (AV (by rw[h.size];exact h2) d)));exact⟨h.mir _ _ _,by omega,by omega,hm.2.2.1⟩
theorem jf (hn:0<n) (h:PN n p) (h1:1<=a) (h2:a<n) (d:Dn r p (a+1)):fQ (okN n) (ltR r) (kas_descPart a n p) (Cnt n r):=by
 unfold kas_descPart;refine d6 (ci (λz hz=>?_) (i9 hn (n-(a+1)) p (a+1) 0 h (by omega) (by omega) d (λk h1 h2=>by rw[show k=a+1-1 by omega])));obtain⟨z1,z2,z3,z4,z5,z6⟩:=hz;have sz:=z1.size;by_cases c:z.2.2>0
 ·rw[if_pos c];have same:∀k,gk r (kas_rev z.1 (z.2.1-(z.2.2+1)) z.2.1) k=gk r z.1 k:=λk=>by
   rw[nB (by omega)];split
   ·rw[z6 _ (by omega) (by omega),z6 k (by omega) (by omega)]
   ·rfl
  exact nv hn (z1.mir _ _ _) (by omega) (by omega) (λi j hij hj=>by
   show gk r (kas_rev _ _ _) j<=gk r (kas_rev _ _ _) i;rw[same,same];exact z5 i j hij hj)
 ·rw[if_neg c];exact nv hn z1 (by omega) (by omega) z5
theorem tS (hn:0<n) (h:PN n p):fQ (okN n) (ltR r) (kas_count n p) (Cnt n r):=by
 unfold kas_count;refine d6 (ci (λm hm=>?_) (nA hn h (n-1) 1 (Nat.le_refl _) (by omega) (λi j hij hj=>by rw[show i=j by omega];exact Nat.le_refl _)));obtain⟨m1,m2,m3,m4⟩:=hm;have sz:=h.size;by_cases c:m=n
 ·rw[if_pos (by simpa using c)];exact⟨h,by omega,by omega,m3⟩
 ·rw[if_neg (by simpa using c)];have lt:=m4 m (by omega) rfl;by_cases c1:m>1
  ·rw[if_pos c1];refine⟨⟨h.bd hn _,h.bd hn _⟩,?_⟩;by_cases c2:r (p.getD 0 0)<r (p.getD (m-1) 0)
   ·rw[show ltR r (p.getD 0 0) (p.getD (m-1) 0)=true from decide_eq_true c2];dsimp only;rw[if_pos rfl];exact⟨h,by omega,by omega,m3⟩
   ·rw[show ltR r (p.getD 0 0) (p.getD (m-1) 0)=false from decide_eq_false c2];dsimp only;rw[if_neg (by decide)];have c2:¬ gk r p 0<gk r p (m-1):=c2;have eq:∀k,k<m->gk r p k=gk r p 0:=λk hk=>by
     have a:=m3 0 k (by omega) hk;have b:=m3 k (m-1) (by omega) (by omega);omega
    have same:∀k,gk r (kas_rev p 0 m) k=gk r p k:=λk=>by
     rw[nB (by omega)];split
     ·rw[eq _ (by omega),eq k (by omega)]
     ·rfl
    exact jf hn (h.mir _ _ _) m1 (by omega) (λi j hij hj=>by
     show gk r (kas_rev _ _ _) j<=gk r (kas_rev _ _ _) i;rw[same,same];by_cases ej:j=m
     ·subst ej;by_cases ei:i=j
      ·subst ei;exact Nat.le_refl _
      ·have:=eq i (by omega);have:=eq (j-1) (by omega);omega
     ·rw[eq i (by omega),eq j (by omega)];exact Nat.le_refl _)
  ·rw[if_neg c1];have em:m=1:=by omega
   subst em;exact jf hn h m1 (by omega) (λi j hij hj=>by
    by_cases ei:i=j
    ·subst ei;exact Nat.le_refl _
    ·have:i=0:=by omega
     have:j=1:=by omega
     subst i;subst j;exact Nat.le_of_lt lt)
theorem js (hn:0<n) {p:Array Nat} (h:PN n p) {k:Nat} (u:Up r p k):∀(f l t:Nat),t<=k->l<=t->t-l<=f->(∀i,i<l->gk r p i<=gk r p k)->(∀i,t<=i->i<k->gk r p k<gk r p i) ->
  fQ (okN n) (ltR r) (kas_place p k f l t) (λm=>m<=k/\(∀i,i<m->gk r p i<=gk r p k)/\(∀i,m<=i->i<k->gk r p k<gk r p i))
 | 0,l,t,h1,h2,h3,a,b=>⟨by omega,a,λi hi hk=>b i (by omega) hk⟩
 | f+1,l,t,h1,h2,h3,a,b=>by
  unfold kas_place;by_cases c:l ≥ t
  ·rw[if_pos c];exact⟨by omega,a,λi hi hk=>b i (by omega) hk⟩
  ·rw[if_neg c];refine⟨⟨h.bd hn _,h.bd hn _⟩,?_⟩;by_cases c2:r (p.getD k 0)<r (p.getD ((l+t)/2) 0)
   ·rw[show ltR r (p.getD k 0) (p.getD ((l+t)/2) 0)=true from decide_eq_true c2];dsimp only;rw[if_pos rfl];have c2:gk r p k<gk r p ((l+t)/2):=c2;exact js hn h u f l _ (by omega) (by omega) (by omega) a (λi hi hk=>by
     have:=u ((l+t)/2) i hi hk;omega)
   ·rw[show ltR r (p.getD k 0) (p.getD ((l+t)/2) 0)=false from decide_eq_false c2];dsimp only;rw[if_neg (by decide)];have c2:¬ gk r p k<gk r p ((l+t)/2):=c2;exact js hn h u f _ t h1 (by omega) (by omega) (λi hi=>by
     have:=u i ((l+t)/2) (by omega) (by omega);omega) b
theorem rT (hn:0<n):∀(f:Nat) (p:Array Nat) (k:Nat),PN n p->k+f=n->Up r p k->fQ (okN n) (ltR r) (kas_bin f p k) (λz=>PN n z/\Up r z n)
 | 0,p,k,h,e,u=>⟨h,(show k=n from e)▸u⟩
 | f+1,p,k,h,e,u=>by
  have sz:=h.size;unfold kas_bin;refine d6 (ci (λm hm=>?_) (js hn h u k 0 k (Nat.le_refl _) (by omega) (by omega) (λi hi=>absurd hi (by omega)) (λi hi hk=>absurd hi (by omega))));obtain⟨m1,m2,m3⟩:=hm;refine rT hn f _ (k+1) (h.bub _ _) (by omega) (λi j hij hj=>?_);rw[xR (by omega) (by omega),xR (by omega) (by omega)];have e1:k-(k-m)=m:=by omega
  rw[e1];by_cases i1:i=m
  ·rw[if_pos i1];by_cases j1:j=m
   ·rw[if_pos j1];exact Nat.le_refl _
   ·rw[if_neg j1,if_pos (by omega)];exact Nat.le_of_lt (m3 (j-1) (by omega) (by omega))
  ·rw[if_neg i1];by_cases i2:m<i/\i<=k
   ·rw[if_pos i2,if_neg (by omega),if_pos (by omega)];exact u _ _ (by omega) (by omega)
   ·rw[if_neg i2];by_cases j1:j=m
    ·rw[if_pos j1];exact m2 i (by omega)
    ·rw[if_neg j1];by_cases j2:m<j/\j<=k
     ·rw[if_pos j2];exact u _ _ (by omega) (by omega)
     ·rw[if_neg j2];exact u _ _ hij (by omega)
theorem v7 (hn:0<n):fQ (okN n) (ltR r) (kas_sort n) (λz=>PN n z/\Up r z n):=by
 unfold kas_sort;refine d6 (ci (λz hz=>?_) (tS hn ⟨Array.Perm.refl _⟩));obtain⟨z1,z2,z3,z4⟩:=hz;by_cases c:z.1<n
 ·rw[if_pos c];have:max z.1 1=z.1:=by omega
  rw[this];exact rT hn _ _ _ z1 (by omega) z4
 ·rw[if_neg c];have:z.1=n:=by omega
  rw[this]at z4;exact⟨z1,z4⟩
end
theorem o0 {p q:Nat->Bool}:∀{l:List Nat},(∀x∈l,p x=true->q x=true)->(∃x∈l,q x=true/\p x=false)->l.countP p<l.countP q
 | [],_,⟨_,h,_⟩=>by cases h
 | a::l,h,⟨x,hx,h1,h2⟩=>by
  rw[List.countP_cons,List.countP_cons];have mono:=List.countP_mono_left (l:=l) λx hx=>h x (List.mem_cons_of_mem _ hx);rcases List.mem_cons.mp hx with rfl|hx
  ·rw[h1,h2];simp;omega
  ·have:=o0 (l:=l) (λx hx=>h x (List.mem_cons_of_mem _ hx)) ⟨x,hx,h1,h2⟩;have:=h a (by simp);split<;>split<;>simp_all<;>omega
def rk (xs:List (List Int)) (i:Nat):Nat:=(List.range xs.length).countP λj=>cw (xs.getD j []) (xs.getD i [])
variable {xs:List (List Int)}
theorem Az (hi:i<xs.length) (h:cw (xs.getD i []) (xs.getD j [])=true):rk xs i<rk xs j :=
 o0 (λk _ hk=>g9 hk h) ⟨i,List.mem_range.mpr hi,h,jU _⟩
theorem wQ (hi:i<xs.length) (hj:j<xs.length):cw (xs.getD i []) (xs.getD j [])=decide (rk xs i<rk xs j):=by
 cases e:cw (xs.getD i []) (xs.getD j [])with
 | true=>exact(decide_eq_true (Az hi e)).symm
 | false =>
  refine(decide_eq_false ?_).symm;cases e2:cw (xs.getD j []) (xs.getD i [])with
  | true=>have:=Az hj e2;omega
  | false =>
   have:xs.getD i []=xs.getD j []:=jT e e2;unfold rk;rw[this];omega
theorem Bb (h:PN xs.length p) (u:Up (rk xs) p xs.length):p.toList.map (λi=>xs.getD i [])=ib xs:=by
 have sz:=h.size;refine(iY ?_ ?_).symm
 ·have e:xs=(List.range xs.length).map λi=>xs.getD i []:=by
   apply List.ext_getElem
   ·simp
   ·intro i h1 h2;simp[h1]
  have:=(Array.perm_iff_toList_perm.mp h.pe).map λi=>xs.getD i [];rw[List.toList_toArray]at this;refine this.trans ?_;rw[<- e]
 ·rw[List.pairwise_map,List.pairwise_iff_getElem];intro i j hi hj hij;have hi':i<p.size:=by simpa using hi
  have hj':j<p.size:=by simpa using hj
  have:=u i j (by omega) (by omega);unfold gk at this;rw[Array.getD_eq_getD_getElem?,Array.getD_eq_getD_getElem?,Array.getElem?_eq_getElem hi',Array.getElem?_eq_getElem hj']at this;have b:∀k (hk:k<p.size),p[k]<xs.length:=λk hk=>by
   have:=h.pe.mem_iff.mp (Array.getElem_mem hk);simpa using this
  unfold leL;rw[Array.getElem_toList,Array.getElem_toList,wQ (b j hj') (b i hi'),decide_eq_false (by simpa using this)];rfl
end DL
namespace DL
open PySem PySem.Spec PyProof.Rows L2
def lh:List D->Option (List (List Int))
 | []=>some []
 | .lst xs::r=>match gJ xs with
  | some l=>(lh r).map (l :: ·)
  | none=>none
 | _=>none
def rwI (l:List Int):D:=.lst (l.map D.int)
def zO:D->R (List D)
 | .lst xs=>match lh xs with
  | some ls=>if ls.length<64 then .val ((ib ls).map rwI)else .bad
  | none=>.bad
 | _=>.bad
def xX (F:Rho->R D):Rho->R (List D):=λU=>(F U).bind zO
def zU:D->D->R D
 | .lst xs,y=>if xs.all (eqb 8)=true/\eqb 8 y=true/\xs.length<=100000 then .val (.int ((xs.countP λx=>pyq 8 x y:Nat):Int))else .bad
 | _,_=>.bad
def wl (Fo F:Rho->R D):Rho->R D:=λU=>(Fo U).bind λx=>match x with
 | .lst xs=>(F U).bind (zU (.lst xs))
 | _=>.bad
theorem rQ {Y:Type} {prog:Program} {w:World} {A:Around} {κ:SortKind} {it:Array Keyed} {ok:Nat->Nat->Prop} {lt:Nat->Nat->Bool} {s:Shared} (hc:∀i j (C:Bool->Shared->Prop),ok i j->C (lt i j) s->PySem.W.kas_cmp prog w A κ it i j C s) {Q:Y->Prop} :
  ∀{t:PySem.W.KasT Y},fQ ok lt t Q->t.kasWp (PySem.W.kas_cmp prog w A κ it) (λa s'=>s'=s/\Q a) s
 | .ret a,h=>⟨rfl,h⟩
 | .ask i j k,h=>hc i j _ h.1 (rQ hc h.2)
variable {xs:List Int} {i:Nat}
theorem AK (h:i<xs.length):xs.getD i 0=xs[i]:=by rw[List.getD_eq_getElem?_getD,List.getElem?_eq_getElem h];rfl
open PySem.MeetsSeq3 in
open PySem.AutoSeq1 (wpAny_loadPart') in
theorem zy (l b:Addr) (items items2:Array Value) (n n2:Nat) (dd dd2:Option Addr) (sl sl2:Array (Option Value)) (xs ys:List Int) (hx:xs.length=items.size) (hy:ys.length=items2.size)
  (ix:∀j,j<items.size->∃t,items[j]?=some (.int (xs.getD j 0) t)) (iy:∀j,j<items2.size->∃t,items2[j]?=some (.int (ys.getD j 0) t)) (k:Nat) :
  ∀i:Nat,items.size-i=k->i<=items.size->i<=items2.size->Meets (Builtin.«list.__eq__.loop» ⟨[.ref l,.ref b,rawInt i,rawInt 0],[]⟩)
   (λA R s=>s.heap.get? l=some { cls:=.type "list",dict:=dd,data:=.seq items n,slots:=sl }/\s.heap.get? b=some { cls:=.type "list",dict:=dd2,data:=.seq items2 n2,slots:=sl2 } /\
    R (.ok (.ret (.bool (cw (xs.drop i) (ys.drop i))))) s):=by
 induction k with
 | zero =>
  intro i hk h1 h2 prog w A R s h;obtain⟨hp,g,d,tk,os⟩:=s;obtain⟨hl,hb,h⟩:=h
  wp_walk using wpAny_loadPart' hl,wpAny_loadPart' hb
  have hi1:items[((i:Nat):Int).toNat]?=none:=by simp;omega
  have e1:xs.drop i=[]:=List.drop_eq_nil_of_le (by omega);rw[hi1]
  wp_walk using wpAny_loadPart' hl,wpAny_loadPart' hb
  show R (.ok (.ret (.bool (decide (items.size<items2.size))))) _;rw[e1]at h;by_cases c:items.size<items2.size
  ·rw[List.drop_eq_getElem_cons (by omega:i<ys.length)]at h;rw[decide_eq_true c];exact h
  ·rw[List.drop_eq_nil_of_le (by omega:ys.length<=i)]at h;rw[decide_eq_false c];exact h
 | succ k ih =>
  intro i hk h1 h2 prog w A R s h;obtain⟨hp,g,d,tk,os⟩:=s;obtain⟨hl,hb,h⟩:=h
  wp_walk using wpAny_loadPart' hl,wpAny_loadPart' hb
  have hlt:i<items.size:=by omega
  obtain⟨t,ht⟩:=ix i hlt;have hi1:items[((i:Nat):Int).toNat]?=some (.int (xs.getD i 0) t):=by rw[Int.toNat_natCast];exact ht
  have gx:xs.drop i=xs.getD i 0::xs.drop (i+1):=by rw[List.drop_eq_getElem_cons (by omega:i<xs.length),AK (by omega:i<xs.length)]
  have hc:((i:Int)+1)=((i+1:Nat):Int):=by push_cast;rfl
  rw[hi1];rw[gx]at h;by_cases c:i<items2.size
  ·obtain⟨u,hu⟩:=iy i c;have hi2:items2[((i:Nat):Int).toNat]?=some (.int (ys.getD i 0) u):=by rw[Int.toNat_natCast];exact hu
   have gy:ys.drop i=ys.getD i 0::ys.drop (i+1):=by rw[List.drop_eq_getElem_cons (by omega:i<ys.length),AK (by omega:i<ys.length)]
   rw[gy]at h;rw[hi2];refine wpAny_bind (PySem.SeqAt.EqAt.int_int (xs.getD i 0) t (ys.getD i 0) u prog w _ _ ?_);by_cases e:xs.getD i 0=ys.getD i 0
   ·rw[show(xs.getD i 0==ys.getD i 0)=true from beq_iff_eq.mpr e]
    wp_walk
    rw[hc];exact⟨plainId_quiet plain_eq_loop _,codeAny_builtin entry_eq_loop (by
     rw[Around.under_plainId plain_eq_loop _];refine ih (i+1) (by omega) (by omega) (by omega) prog w A R _ ⟨hl,hb,?_⟩;have q:cw (xs.getD i 0::xs.drop (i+1)) (ys.getD i 0::ys.drop (i+1))=cw (xs.drop (i+1)) (ys.drop (i+1)):=if_pos e;rw[q]at h;exact h)⟩
   ·rw[show(xs.getD i 0==ys.getD i 0)=false from beq_eq_false_iff_ne.mpr e]
    wp_walk using wpAny_loadPart' hl,wpAny_loadPart' hb
    rw[hi1,hi2];have q:cw (xs.getD i 0::xs.drop (i+1)) (ys.getD i 0::ys.drop (i+1))=decide (xs.getD i 0<ys.getD i 0):=if_neg e;rw[q]at h;dsimp only;refine wpAny_bind (wpAny_lt_int ?_)
    wp_walk
    exact h
  ·have hi2:items2[((i:Nat):Int).toNat]?=none:=by simp;omega
   rw[hi2];rw[List.drop_eq_nil_of_le (by omega:ys.length<=i)]at h
   wp_walk using wpAny_loadPart' hl,wpAny_loadPart' hb
   show R (.ok (.ret (.bool (decide (items.size<items2.size))))) _;rw[decide_eq_false (by omega)];exact h
open PySem.MeetsSeq3 in
open PySem.AutoSeq1 (wpAny_loadPart') in
theorem zz (l b:Addr) (items items2:Array Value) (n n2:Nat) (dd dd2:Option Addr) (sl sl2:Array (Option Value)) (xs ys:List Int) (hx:xs.length=items.size) (hy:ys.length=items2.size)
  (ix:∀j,j<items.size->∃t,items[j]?=some (.int (xs.getD j 0) t)) (iy:∀j,j<items2.size->∃t,items2[j]?=some (.int (ys.getD j 0) t)) :
  Meets (Builtin.«list.__lt__» ⟨[.ref l,.ref b],[]⟩)
   (λA R s=>s.heap.get? l=some { cls:=.type "list",dict:=dd,data:=.seq items n,slots:=sl }/\s.heap.get? b=some { cls:=.type "list",dict:=dd2,data:=.seq items2 n2,slots:=sl2 } /\
    R (.ok (.ret (.bool (cw xs ys)))) s):=by
 intro prog w A R s h;obtain⟨hp,g,d,tk,os⟩:=s;obtain⟨hl,hb,h⟩:=h;have f3:=PySem.AutoSeq1.sub_list_list
 wp_walk using wpAny_loadPart' hl,wpAny_loadPart' hb
 exact⟨plainId_quiet plain_eq_loop _,codeAny_builtin entry_eq_loop (by
  rw[Around.under_plainId plain_eq_loop _];exact zy l b items items2 n n2 dd dd2 sl sl2 xs ys hx hy ix iy _ 0 rfl (Nat.zero_le _) (Nat.zero_le _) prog w A R _ ⟨hl,hb,h⟩)⟩
def RowAt (h:Heap) (v:Value) (xs:List Int):Prop:=∃(l:Addr) (items:Array Value) (n:Nat),v=.ref l/\h.get? l=some { cls:=.type "list",dict:=none,data:=.seq items n,slots:=#[] }/\xs.length=items.size/\∀j,j<items.size->∃t,items[j]?=some (.int (xs.getD j 0) t)
section
variable {prog:Program} {w:World} {A:Around} {E:Value->Shared->Prop} {s:Shared}
theorem BQ {u v:Value} {ys:List Int} {Q:Bool->Shared->Prop} (hu:RowAt s.heap u xs) (hv:RowAt s.heap v ys) (ha:A.units<cLine) (h:Q (cw xs ys) s):wpAny (model prog w) A (oneLt' true u v) Q E s:=by
 obtain⟨l,items,n,rfl,hl,hx,ix⟩:=hu;obtain⟨b,items2,n2,rfl,hb,hy,iy⟩:=hv;rw[oneLt'_eq];simp only[if_true];refine wpAny_bind (wpAny_cRoomFor ha ?_);refine wpAny_bind (wpAny_callSpecialIfBound?_slot (name:="__lt__") ⟨_,hl,rfl⟩ PySem.F.slot_list_lt (call_meets PySem.F.slot_list_lt ⟨_,hl,rfl⟩ PySem.F.entry_list_lt (PySem.F.args_list_lt_2 _ _) (zz l b items items2 n n2 none none #[] #[] xs ys hx hy ix iy) ⟨hl,hb,?_⟩));exact wpAny_truthy_bool h
end
variable {h:Heap} {vs:List Value} {n:Nat}
section
variable {prog:Program} {w:World} {A:Around} {E:Value->Shared->Prop} {s:Shared}
def ug (h:Heap) (vs:List Value) (ls:List (List Int)):Prop:=vs.length=ls.length/\∀i,i<ls.length->RowAt h (vs.getD i Value.none) (ls.getD i [])
theorem RowAt.kept {h':Heap} {v:Value} (r:RowAt h v xs) (k:∀b o,h.get? b=some o->h'.get? b=some o):RowAt h' v xs:=by
 obtain⟨l,items,n,e,hl,hx⟩:=r;exact⟨l,items,n,e,k _ _ hl,hx⟩
theorem xm (vs:List Value):Array.map (λx=>x.2) (vs.toArray.zip vs.toArray)=vs.toArray:=by
 apply Array.toList_inj.mp;rw[Array.toList_map,Array.toList_zip,List.map_snd_zip (by simp)]
theorem tG (vs:List Value):(List.range vs.length).map (λi=>vs.getD i Value.none)=vs:=by
 apply List.ext_getElem
 ·simp
 ·intro i h1 h2;simp[h2]
theorem vI {a:Addr} {ls:List (List Int)} {P:PySem.Fin->Shared->Prop} (ho:s.heap.get? a=some (seqObj "list" vs.toArray n)) (hr:ug s.heap vs ls) (hna:∀i,i<ls.length->vs.getD i Value.none ≠ .ref a) (h64:vs.length<64) (ha:A.units<cLine)
  (h:∀p:List Nat,p.Perm (List.range ls.length)->p.map (λi=>ls.getD i [])=ib ls->P (.done (.ret .none)) { s with heap:=sortedHeap s.heap a vs (p.map λi=>vs.getD i Value.none).toArray }) :
  wpAny (model prog w) A (Builtin.«list.sort» ⟨[.ref a],[]⟩) P E s:=by
 rw[list_sort_plain];have hlt:a<s.heap.objs.size:=Heap.lt_size ho;refine wpAny_bind (listItems_at ho rfl ?_);refine wpAny_bind (listUpdate_at ho rfl ?_ (by rw[List.size_toArray,sizeLine_eq];omega) (Nat.zero_le _));obtain⟨e1,ho1⟩:∃e1,(s.heap.update a (Obj.mapSeq λ_=>#[])).get? a=some (seqObj "list" #[] e1):=⟨_,get?_update_seq ho (λ_=>#[])⟩;refine wpAny_bind (seqEpoch_at ho1 rfl ?_);refine wpAny_bind (wpAny_newTuple ?_ (by show vs.length<=_;rw[sizeLine_eq];omega));refine wpAny_bind (wpAny_newList ?_ (Nat.zero_le _));refine wpAny_holding ?_;have ho6:(((s.heap.update a (Obj.mapSeq λ_=>#[])).push (seqObj "tuple" vs.toArray 0)).push (seqObj "list" #[] 0)).get? a=some (seqObj "list" #[] e1):=by
  rw[Heap.get?_push_ne _ _ _ (by rw[size_push',Heap.size_update];exact Nat.ne_of_lt (Nat.lt_succ_of_lt hlt)),Heap.get?_push_ne _ _ _ (by rw[Heap.size_update];exact Nat.ne_of_lt hlt)];exact ho1
 show wpAny (model prog w) A _ P E { s with heap:=((s.heap.update a (Obj.mapSeq λ_=>#[])).push (seqObj "tuple" vs.toArray 0)).push (seqObj "list" #[] 0) };dsimp only;have keep:∀b o,b≠a->s.heap.get? b=some o->(((s.heap.update a (Obj.mapSeq λ_=>#[])).push (seqObj "tuple" vs.toArray 0)).push (seqObj "list" #[] 0)).get? b=some o:=λb o hb e=>by
  refine Heap.get?_push_of_some _ (Heap.get?_push_of_some _ ?_);rw[Heap.get?_update_ne _ _ _ _ hb];exact e
 have rows:∀i,i<ls.length->RowAt (((s.heap.update a (Obj.mapSeq λ_=>#[])).push (seqObj "tuple" vs.toArray 0)).push (seqObj "list" #[] 0)) (vs.getD i Value.none) (ls.getD i []):=λi hi=>by
  obtain⟨l,items,m,e,hl,hx⟩:=hr.2 i hi;exact⟨l,items,m,e,keep _ _ (λz=>hna i hi (by rw[e,z])) hl,hx⟩
 have hl:=hr.1;by_cases h2:vs.toArray.size<2
 ·rw[if_pos h2,if_pos h2];refine wpAny_bind (wpAny_pure ?_);rw[StateT.run_pure];refine wpAny_bind (wpAny_pure ?_);dsimp only;refine wpAny_bind (seqEpoch_at ho6 rfl ?_);refine wpAny_bind (listUpdate_at ho6 rfl ?_ (hsz2:=by rw[Array.size_map];show(pairsOf vs).size<=_;rw[pairsOf_size,sizeLine_eq];omega));simp only[bne_self_eq_false,Bool.false_eq_true,if_false];refine wpAny_pure ?_;have h2:vs.length<2:=by simpa using h2
  have out:Array.map (λx=>x.2) (arrOf (SortSt.mk' general' (vs.toArray.zip vs.toArray) #[] 7 none))=((List.range ls.length).map λi=>vs.getD i Value.none).toArray:=by
   show Array.map (λx=>x.2) (vs.toArray.zip vs.toArray)=_;rw[xm,<- hl,tG]
  have srt:(List.range ls.length).map (λi=>ls.getD i [])=ib ls:=by
   match ls,hl,h2 with
   | [],_,_=>exact(iY (List.Perm.refl _) List.Pairwise.nil).symm
   | [x],_,_=>exact(iY (xs:=[x]) (ys:=[x]) (List.Perm.refl _) (List.pairwise_singleton _ _)).symm
   | _::_::_,h,h'=>rw[h]at h';simp at h';omega
  have:=h (List.range ls.length) (List.Perm.refl _) srt;rw[<- out]at this;exact this
 ·rw[if_neg h2,if_neg h2];have h2:2<=vs.length:=by simpa using h2
  have mem:∀v∈vs,∃i,i<ls.length/\vs.getD i Value.none=v:=λv hv=>by
   obtain⟨i,hi,e⟩:=List.mem_iff_getElem.mp hv;exact⟨i,by omega,by rw[List.getD_eq_getElem?_getD,List.getElem?_eq_getElem hi,e];rfl⟩
  refine wpAny_bind (PySem.W.kas_kind (T:=.type "list") h2 (λv hv=>?_) rfl rfl ?_)
  ·obtain⟨i,hi,rfl⟩:=mem v hv;obtain⟨l,items,m,e,hg,_⟩:=rows i hi;rw[e];exact λA Q E s' kp q=>wpAny_typeOf (T:="list") ⟨_,kp _ _ hg,rfl⟩ q
  have est:SortSt.mk' oneType' (vs.toArray.zip vs.toArray) #[] 7 none=PySem.W.kas_st oneType' (pairsOf vs) (List.toArray (List.range vs.length)):=by
   have e:=PySem.W.kas_range (pairsOf vs);rw[pairsOf_size]at e;show SortSt.mk' oneType' (pairsOf vs) #[] 7 none=SortSt.mk' oneType' ((List.toArray (List.range vs.length)).map (PySem.W.kas_item (pairsOf vs))) #[] 7 none;rw[e]
  have gs:=v7 (n:=ls.length) (r:=rk ls) (by omega);have ask:=rQ (prog:=prog) (w:=w) (A:=A) (κ:=oneType') (it:=pairsOf vs) (s:={ s with heap:=((s.heap.update a (Obj.mapSeq λ_=>#[])).push (seqObj "tuple" vs.toArray 0)).push (seqObj "list" #[] 0) }) (λi j C hij hC=>by
   unfold PySem.W.kas_cmp;rw[PySem.W.kas_item_eq,PySem.W.kas_item_eq,keyLt'_oneType];refine BQ (rows i hij.1) (rows j hij.2) ha ?_;rw[wQ hij.1 hij.2];exact hC) gs
  rw[<- hl]at ask;have run:=PySem.W.kas_runs (E:=E) (Q:=λ_ st' s'=>∃p:Array Nat,arrOf st'=p.map (PySem.W.kas_item (pairsOf vs))/\failedOf st'=none/\s'={ s with heap:=((s.heap.update a (Obj.mapSeq λ_=>#[])).push (seqObj "tuple" vs.toArray 0)).push (seqObj "list" #[] 0) }/\PN vs.length p/\Up (rk ls) p vs.length)
   h2 h64 (λp' st' s' a1 a2 a3 a4=>⟨p',a2,a3,a4.1,a4.2⟩) ask
  rw[<- est]at run;refine wpAny_bind (wpAny_mono run ?_ λ_ _ e=>e);rintro⟨⟨⟩,st'⟩ s' ⟨p,har,hf,rfl,hpn,hup⟩;rw[hl]at hpn hup;dsimp only;have hout:(arrOf st').map (·.2)=(p.toList.map λi=>vs.getD i Value.none).toArray:=by
   apply Array.toList_inj.mp;rw[har,Array.map_map,Array.toList_map];exact List.map_congr_left λi _=>by show(PySem.W.kas_item (pairsOf vs) i).2=_;rw[PySem.W.kas_item_eq]
  have hsz:(p.toList.map λi=>vs.getD i Value.none).toArray.size=ls.length:=by rw[List.size_toArray,List.length_map,Array.length_toList,hpn.size]
  rw[hout];refine wpAny_bind (seqEpoch_at ho6 rfl ?_);refine wpAny_bind (listUpdate_at ho6 rfl ?_ (Nat.zero_le _) (Nat.le_trans (Nat.le_of_eq hsz) (by rw[sizeLine_eq];omega)));rw[hf];simp only[bne_self_eq_false,Bool.false_eq_true,if_false];refine wpAny_pure (h p.toList ?_ (Bb hpn hup));have:=Array.perm_iff_toList_perm.mp hpn.pe;rwa[List.toList_toArray]at this
theorem qY {l:Addr} {ls:List (List Int)} {Q:Value->Shared->Prop} (hl:s.heap.IsList l vs.toArray) (hr:ug s.heap vs ls) (h64:vs.length<64) (ha:A.units+2<cLine)
  (h:∀p:List Nat,p.Perm (List.range ls.length)->p.map (λi=>ls.getD i [])=ib ls->Q (.ref (s.heap.objs.size+1)) { s with heap:=sortedAll s.heap vs (p.map λi=>vs.getD i Value.none).toArray }) :
  wpAny (model prog w) A (call (.builtin "sorted") [.ref l]) Q E s:=by
 refine Calls.call_function_entry kind_sorted plain_sorted entry_sorted (args_sorted1 _) ?_;unfold Builtin.«sorted»;refine wpAny_bind (m:=checkCount "sorted" 1 1 _) (wpAny_pure ?_);refine wpAny_bind (collect_list hl ?_ (by rw[sizeLine_eq];omega));refine wpAny_bind (wpAny_newList ?_ (by rw[sizeLine_eq];omega));have hsz:((s.heap.push (seqObj "list" #[] 0)).update s.heap.objs.size (Obj.mapSeq (· ++ vs.toArray))).objs.size=s.heap.objs.size+1:=by
  rw[Heap.size_update,size_push']
 have hoL:(((s.heap.push (seqObj "list" #[] 0)).update s.heap.objs.size (Obj.mapSeq (· ++ vs.toArray))).push (seqObj "list" vs.toArray 0)).get? (s.heap.objs.size+1)=some (seqObj "list" vs.toArray 0):=by
  rw[<- hsz];exact Heap.get?_push_size _ rfl
 have keep:∀b o,s.heap.get? b=some o->(((s.heap.push (seqObj "list" #[] 0)).update s.heap.objs.size (Obj.mapSeq (· ++ vs.toArray))).push (seqObj "list" vs.toArray 0)).get? b=some o:=λb o q=>by
  have hlt:b<s.heap.objs.size:=Heap.lt_size q;rw[Heap.get?_push_ne _ _ _ (by rw[hsz];exact Nat.ne_of_lt (Nat.lt_succ_of_lt hlt)),Heap.get?_update_ne _ _ _ _ (Nat.ne_of_lt hlt),Heap.get?_push_ne _ _ _ (Nat.ne_of_lt hlt)];exact q
 show wpAny _ _ _ _ _ { s with heap:=((s.heap.push (seqObj "list" #[] 0)).update s.heap.objs.size (Obj.mapSeq (· ++ vs.toArray))).push (seqObj "list" vs.toArray 0) };rw[hsz];refine wpAny_bind (wpAny_holding (wpAny_call_entry slot_list_sort ⟨_,hoL,rfl⟩ entry_list_sort (vI (ls:=ls) hoL ⟨hr.1,λi hi=>(hr.2 i hi).kept keep⟩ (λi hi e=>?_) h64 ?_ λp a1 a2=>⟨_,rfl,?_⟩) (args_list_sort _)))
 ·obtain⟨b,items,m,e',hg,_⟩:=hr.2 i hi;rw[e']at e;have e2:b=s.heap.objs.size+1:=by injection e
  have e3:=Heap.lt_size hg;rw[e2]at e3;exact absurd e3 (Nat.not_lt_of_ge (Nat.le_succ _))
 ·exact ha
 ·exact wpAny_pure ⟨_,rfl,h p a1 a2⟩
end
variable {H:Hp} {F:Rho->R D} {K:Frag} {p pos:Pos}
section
variable {C:Addr} {X:Cx}
open Classical in
theorem yr {pins:List (Addr×Obj)} {O:St} {s:Shared} (I:Inv X pins O H s) {A:Around} (hu:A.units+9<cLine) {x:D} {v:V} {u:Value} {its:List Value} {vs:List V} {ys:List D} (e1:eqb 8 x=true) (e2:ys.all (eqb 8)=true) (h1:Has X.K C H v x) (rx:RelV v u)
  (h2:HasL X.K C H vs ys) (r:Vals vs its):∃e:Value->Bool,(∀y,y∈its.toArray->SeqAt.EqAt A.in1 s y u (e y))/\its.countP e=ys.countP λy=>pyq 8 y x:=by
 have key:∀(j:Nat) (t:Value) (d:D),its[j]?=some t->ys[j]?=some d->∃w,RelV w t/\Has X.K C H w d:=λj t d q1 q2=>by
  obtain⟨w,g1,g2⟩:=h2.get q2;obtain⟨t',g3,g4⟩:=r.get g1;rw[q1]at g3;cases g3;exact⟨w,g4,g2⟩
 have mem8:∀(j:Nat) d,ys[j]?=some d->eqb 8 d=true:=λj d q=>List.all_eq_true.mp e2 d (List.mem_of_getElem? q);have hl:its.length=ys.length:=by rw[<- r.length,h2.len]
 have pt:∀(j:Nat) (hj:j<its.length),decide (∃(j':Nat) (d:D),its[j']?=some its[j]/\ys[j']?=some d/\pyq 8 d x=true)=pyq 8 (ys[j]'(by omega)) x:=λj hj=>by
  have q1:its[j]?=some its[j]:=by simp[hj]
  have q2:ys[j]?=some (ys[j]'(by omega)):=by simp[show j<ys.length by omega]
  obtain⟨w,g1,g2⟩:=key j _ _ q1 q2;cases hp:pyq 8 (ys[j]'(by omega)) x with
  | true=>exact decide_eq_true ⟨j,_,q1,q2,hp⟩
  | false =>
   refine decide_eq_false λzz2=>?_;obtain⟨j',d,z1,z2,z3⟩:=zz2;obtain⟨w',g1',g2'⟩:=key j' _ _ z1 z2;have ew:w'=w:=RelV.inj g1' g1;subst ew;have:=Has.inj (mem8 j' d z2) (mem8 j _ q2) g2' g2;rw[<- this,z3]at hp;cases hp
 refine⟨λt=>decide (∃(j:Nat) (d:D),its[j]?=some t/\ys[j]?=some d/\pyq 8 d x=true),λt ht=>?_,?_⟩
 ·have ht:t∈its:=by simpa using ht
  obtain⟨j,hj,rfl⟩:=List.mem_iff_getElem.mp ht;have q1:its[j]?=some its[j]:=by simp[hj]
  have q2:ys[j]?=some (ys[j]'(by omega)):=by simp[show j<ys.length by omega]
  obtain⟨w,g1,g2⟩:=key j _ _ q1 q2;have ok:=(ye I 8 (A:=A.in1) (by show A.units+1+8<cLine;omega) (mem8 j _ q2) e1 g2 h1 g1 rx).2;show SeqAt.EqAt A.in1 s its[j] u (decide (∃(j':Nat) (d:D),its[j']?=some its[j]/\ys[j']?=some d/\pyq 8 d x=true));rw[pt j hj];exact ok
 ·have:its.map (λt=>decide (∃(j:Nat) (d:D),its[j]?=some t/\ys[j]?=some d/\pyq 8 d x=true))=ys.map λy=>pyq 8 y x:=by
   apply List.ext_getElem
   ·rw[List.length_map,List.length_map,hl]
   ·intro j q1 q2;rw[List.getElem_map,List.getElem_map];exact pt j (by simpa using q1)
  have c:=congrArg (List.countP id) this;rw[List.countP_map,List.countP_map]at c;exact c
def AB (K:Frag) (C:Addr):V->List V->Hp->VK->Prop:=λx vs H Q=>∃(l:Addr) (v:V) (ws:List V) (d:D) (ys:List D),x=.ref l/\vs=[v]/\H l=some (.lst ws)/\HasL K C H ws ys/\Has K C H v d/\ys.all (eqb 8)=true/\eqb 8 d=true/\Q (.int ((ys.countP λy=>pyq 8 y d:Nat):Int)) H
theorem uM (hu:X.A.units+9<cLine):MtM X "list.count" (AB X.K C):=by
 intro pins s O H x vs v us Q I rx rv h;obtain⟨l,v1,ws,d,ys,rfl,rfl,hH,h2,h1,e2,e1,q⟩:=h;cases rx;obtain⟨u1,rfl,r1⟩:=rv.one;obtain⟨z,its,n,r,hl,e⟩:=I.lstM hH;obtain⟨f,hf,hc⟩:=yr I (A:=X.A) hu e1 e2 h1 r1 h2 r;refine call_meets PySem.F.slot_list_count ⟨_,e,rfl⟩ PySem.F.entry_list_count (PySem.F.args_list_count_2 _ _) (SeqAt.list_countAt l _ n none #[] u1 f) ⟨e,hf,?_⟩;refine⟨.int _,H,I.tok _,⟨_,rfl⟩,?_⟩;simp only[hc];exact q
theorem yi {o e:Expr} {ap cp:Pos} {Fo:Rho->R D} (hu:X.A.units+9<cLine) (ho:EB C X o Fo) (he:ED C X e F) (hst:starEach [e] X.env=(false,eval e X.env)::starEach [] X.env)
  (hs:∀{to:TE} {t:TA},PE X o to->PA X [e] t->PE X (.Call (.Attribute o "count" ap) [e] [] cp) (tBM X.K "list" (AB X.K C) to t):=by
   exact λho ha=>oP PySem.F.plainAttrs_list PySem.F.slot_list_count PySem.F.type_list_count (uM (by assumption)) ho ha) :
  ED C X (.Call (.Attribute o "count" ap) [e] [] cp) (wl Fo F) :=
 aJ (hs ho (bN he cR hst)) λO H Q ⟨U,⟨H0,r0⟩,q⟩=>⟨U,⟨H0,r0⟩,aR (P:=λz H=>pV X (dJ C X U O) z O H Q) (λ_ h=>h) (λh=>h) q λy v H1 s1 h1 q1=>by
  cases y with
  | lst xs =>
   obtain⟨a,vs,rfl,e1,h2⟩:=h1.lst msk_sub;refine⟨.inl ⟨rfl,_,SqL.of e1⟩,U,⟨H0,r0.mono s1⟩,aR (P:=λz H=>pV X (dJ C X U O) z O H Q) (λ_ h=>h) (λh=>h) (q1.mono s1) λy w H2 s2 h3 q2=>?_⟩;unfold zU at q2;dsimp only at q2;by_cases c:xs.all (eqb 8)=true/\eqb 8 y=true/\xs.length<=100000
   ·rw[if_pos c]at q2;exact⟨a,w,vs,y,xs,rfl,rfl,s2 _ _ e1,(h2.mono msk_sub).mono s2,h3.mono msk_sub,c.1,c.2.1,q2 _ H2 s2 (.int _)⟩
   ·rw[if_neg c]at q2;exact q2.elim
  | _=>exact q1.elim⟩
def DY:List V->Hp->VK->Prop:=λvs H Q=>∃(l:Addr) (as:List V) (ls:List (List Int)),vs=[.ref l]/\H l=some (.lst as)/\as.length=ls.length/\(∀i,i<ls.length->∃b,as.getD i .non=.ref b/\H b=some (.lst ((ls.getD i []).map V.int)))/\ls.length<64 /\
 ∀(p:List Nat) (l':Addr),p.Perm (List.range ls.length)->p.map (λi=>ls.getD i [])=ib ls->H l'=none->Q (.ref l') (upd H l' (.lst (p.map λi=>as.getD i .non)))
theorem Vals.of_getD {as:List V} {its:List Value} (r:Vals as its):∀{p:List Nat},(∀i∈p,i<as.length)->Vals (p.map λi=>as.getD i .non) (p.map λi=>its.getD i Value.none)
 | [],_=>.nil
 | i::p,h=>by
  have hi:=h i (by simp);have q:as[i]?=some (as.getD i .non):=by rw[List.getD_eq_getElem?_getD,List.getElem?_eq_getElem hi];rfl
  obtain⟨t,g1,g2⟩:=r.get q;have:its.getD i Value.none=t:=by rw[List.getD_eq_getElem?_getD,g1];rfl
  rw[List.map_cons,List.map_cons,this];exact .cons g2 (Vals.of_getD r λj hj=>h j (by simp[hj]))
theorem yW {pins:List (Addr×Obj)} {O:St} {s:Shared} (I:Inv X pins O H s) {b:Addr} (hH:H b=some (.lst (xs.map V.int))):RowAt s.heap (.ref b) xs:=by
 obtain⟨z,its,n,r,hl,e⟩:=I.lstM hH;have hx:xs.length=its.length:=by rw[<- hl,List.length_map]
 refine⟨b,its.toArray,n,rfl,e,by simpa using hx,λj hj=>?_⟩;have hj:j<its.length:=by simpa using hj
 obtain⟨i,t,e1,e2⟩:=kZ r (List.getElem?_eq_getElem hj);refine⟨t,?_⟩;have:xs.getD j 0=i:=by rw[List.getD_eq_getElem?_getD,e1];rfl
 rw[this];simp[hj,e2]
theorem qR {out:Array Value} (b:Addr) (o:Obj) (q:h.get? b=some o):(sortedAll h vs out).get? b=some o:=by
 have hlt:b<h.objs.size:=Heap.lt_size q;have hsz:((h.push (seqObj "list" #[] 0)).update h.objs.size (Obj.mapSeq (· ++ vs.toArray))).objs.size=h.objs.size+1:=by
  rw[Heap.size_update,size_push']
 have hb:b≠h.objs.size+1:=Nat.ne_of_lt (Nat.lt_succ_of_lt hlt);unfold sortedAll sortedHeap;rw[Heap.get?_update_ne _ _ _ _ hb];refine Heap.get?_push_of_some _ (Heap.get?_push_of_some _ ?_);rw[Heap.get?_update_ne _ _ _ _ hb];refine Heap.get?_push_of_some _ ?_;rw[Heap.get?_update_ne _ _ _ _ (Nat.ne_of_lt hlt)];exact Heap.get?_push_of_some _ q
theorem tq {out:Array Value}:∃c,(sortedAll h vs out).get? (h.objs.size+1)=some (seqObj "list" out c):=by
 have hsz:((h.push (seqObj "list" #[] 0)).update h.objs.size (Obj.mapSeq (· ++ vs.toArray))).objs.size=h.objs.size+1:=by
  rw[Heap.size_update,size_push']
 have hoL:(((h.push (seqObj "list" #[] 0)).update h.objs.size (Obj.mapSeq (· ++ vs.toArray))).push (seqObj "list" vs.toArray 0)).get? (h.objs.size+1)=some (seqObj "list" vs.toArray 0):=by
  rw[<- hsz];exact Heap.get?_push_size _ rfl
 have h1:=get?_update_seq hoL (λ_=>(#[]:Array Value));have h2:=get?_update_seq (Heap.get?_push_of_some (seqObj "list" #[] 0) (Heap.get?_push_of_some (seqObj "tuple" vs.toArray 0) h1)) (λ_=>out);exact⟨_,h2⟩
theorem sH (hu:X.A.units+9<cLine):kh X (.builtin "sorted") DY:=by
 intro pins s O H xs us Q I rv h;obtain⟨l,as,ls,rfl,e,hl,hrow,h64,q⟩:=h;obtain⟨u,rfl,ru⟩:=oH rv;obtain rfl:=(show u=Value.ref l from ru);obtain⟨z,its,m,r,hlen,eo⟩:=I.lstM e;have rows:ug s.heap its ls:=by
  refine⟨by omega,λi hi=>?_⟩;obtain⟨b,g1,g2⟩:=hrow i hi;have q:as[i]?=some (.ref b):=by rw[<- g1,List.getD_eq_getElem?_getD,List.getElem?_eq_getElem (by omega:i<as.length)];rfl
  obtain⟨t,g3,g4⟩:=r.get q;have et:t=Value.ref b:=g4;have:its.getD i Value.none=.ref b:=by rw[List.getD_eq_getElem?_getD,g3,et];rfl
  rw[this];exact yW I g2
 refine qY (s:=s) (l:=l) (vs:=its) ⟨_,eo,rfl,m,rfl⟩ rows (by omega) (by omega) λp hp hsrt=>?_;obtain⟨c,hc⟩:=tq (h:=s.heap) (vs:=its) (out:=(p.map λi=>its.getD i Value.none).toArray);have inr:∀i∈p,i<as.length:=λi hi=>by
  have:=hp.mem_iff.mp hi;rw[List.mem_range]at this;omega
 have rr:=Vals.of_getD r inr;have pl:p.length=ls.length:=by rw[hp.length_eq,List.length_range]
 exact⟨.ref (s.heap.objs.size+1),upd H (s.heap.objs.size+1) (.lst (p.map λi=>as.getD i .non)),I.laid (t':=s.toks) (λb o e=>qR b o e) (Nat.le_succ _) (show ObjOk X.prog X.w _ _ _ (.lst _)from⟨by rw[List.length_map,sizeLine_eq];omega,_,c,rr,hc⟩),rfl,q p _ hp hsrt (I.hok.fresh (Nat.le_succ _))⟩
theorem qZ {K:Frag} {M:Hp}:∀{xs:List D} {ls:List (List Int)} {vs:List V},lh xs=some ls->HasL K C M vs xs->vs.length=ls.length/\∀i,i<ls.length->∃b,vs.getD i .non=.ref b/\M b=some (.lst ((ls.getD i []).map V.int))
 | [],ls,vs,e,h=>by cases e;cases h;exact⟨rfl,λi hi=>by cases hi⟩
 | x::r,ls,vs,e,h=>by
  cases x with
  | lst ys =>
   unfold lh at e;cases z:gJ ys with
   | none=>rw[z]at e;cases e
   | some l =>
    rw[z]at e;dsimp only at e;cases z2:lh r with
    | none=>rw[z2]at e;cases e
    | some l' =>
     rw[z2]at e;cases e;cases h with
     | cons a b =>
      cases a with
      | lst q hh =>
       obtain⟨i1,i2⟩:=qZ z2 b;refine⟨by rw[List.length_cons,List.length_cons,i1],λi hi=>?_⟩;cases i with
       | zero=>exact⟨_,rfl,by rw[q,kM z hh];rfl⟩
       | succ i=>exact i2 i (by simpa using hi)
  | _=>cases e
theorem wN {M:Hp} {b:Addr} {l:List Int} (h:M b=some (.lst (l.map V.int))):Has K C M (.ref b) (rwI l):=.lst h (HasL.ints l)
theorem uo {K:Frag} {M:Hp} {ls:List (List Int)} {vs:List V} (h:∀i,i<ls.length->∃b,vs.getD i .non=.ref b/\M b=some (.lst ((ls.getD i []).map V.int))):∀{p:List Nat},(∀i∈p,i<ls.length)->HasL K C M (p.map λi=>vs.getD i .non) ((p.map λi=>ls.getD i []).map rwI)
 | [],_=>.nil
 | i::p,hp=>by
  obtain⟨b,g1,g2⟩:=h i (hp i (by simp));rw[List.map_cons,List.map_cons,List.map_cons,g1];exact .cons (wN g2) (uo h λj hj=>hp j (by simp[hj]))
theorem v_ {e : Expr} (hu : X.A.units + 9 < cLine) (hg : Gl X "sorted") (hm : X.mg "sorted" = none) (hst : starEach [e] X.env = (false, eval e X.env) :: starEach [] X.env) (he : EB C X e F) :
    FD C X (.Call (.Name "sorted" p) [e] [] pos) (xX F) :=
  aJ (fM (sH hu) hg hm boot_sorted (bN he cR hst) (he := hst) (hpl := ax)) fun O H Q yy5 => by
   obtain ⟨U, r0, q⟩ := yy5
   exact ⟨U, r0, aR (P := fun z H => pF (X := X) (iW C X U O) z O H Q) (fun _ h => h) (fun h => h) q fun x v H1 s1 h1 q1 => by
    cases x with
    | lst xs =>
      obtain ⟨a, vs, rfl, e1, h2⟩ := h1.lst msk_sub
      unfold zO at q1
      dsimp only at q1
      cases z : lh xs with
      | none => rw [z] at q1; exact q1.elim
      | some ls =>
        rw [z] at q1
        dsimp only at q1
        by_cases c : ls.length < 64
        · rw [if_pos c] at q1
          obtain ⟨i1, i2⟩ := qZ z h2
          refine ⟨a, vs, ls, rfl, e1, i1, fun i hi => ?_, c, fun p l hp hs hl => ?_⟩
          · obtain ⟨b, g1, g2⟩ := i2 i hi
            exact ⟨b, g1, msk_sub _ _ g2⟩
          · refine q1 l _ H1 s1 hl ?_
            rw [<- hs]
            exact uo i2 fun i hi => List.mem_range.mp (hp.mem_iff.mp hi)
        · rw [if_neg c] at q1; exact q1.elim
    | _ => exact q1.elim⟩
end
def NL (B:Hp) (Nw:Addr->Prop):Nat->V->Prop
 | 0,_=>True
 | n+1,v=>∃b vs,v=.ref b/\B b=some (.lst vs)/\Nw b/\∀w∈vs,NL B Nw n w
def NR (Nw:Addr->Prop) (H:Hp) (v:V):Prop:=∃t x a us,v=.ref t/\H t=some (.tup [x,.ref a])/\H a=some (.lst us)/\Nw a
def sL (i:Nat):Rho->R (List D):=λU=>match U[i]? with
 | some (some (.shr (.lst xs)))=>.val xs
 | _=>.bad
def sE (i:Nat):Rho->R (List D):=λU=>match U[i]? with
 | some (some (.shr (.lst xs)))=>.val (enu 0 xs)
 | _=>.bad
variable {U:Rho}
theorem CU {zs:List D} (h:sL i U=.val zs):U[i]?=some (some (.shr (.lst zs))):=by
 unfold sL at h;split at h
 ·cases h;assumption
 ·cases h
theorem CV {zs:List D} (h:sE i U=.val zs):∃xs,zs=enu 0 xs/\U[i]?=some (some (.shr (.lst xs))):=by
 unfold sE at h;split at h
 ·cases h;exact⟨_,rfl,‹_›⟩
 ·cases h
variable {x:Str} {j k:Nat} {d:D}
section
variable {C:Addr} {X:Cx}
variable (C X) in
def pQ (Nw:Addr->Prop) (o:R Out) (B:Hp) (Dn:jC):Prop:=match o with
 | .val (.nx U')=>∀σ' H',oa C X B U' σ' H'->Dn.nx σ' H'
 | .val (.bk U')=>∀σ' H',oa C X B U' σ' H'->Dn.bk σ' H'
 | .val (.ct U')=>∀σ' H',oa C X B U' σ' H'->Dn.ct σ' H'
 | .val (.rt d)=>∀v H',Same B H'->Has X.K C H' v d->NR Nw H' v->Dn.rt v H'
 | .exc _=>False
 | .bad=>False
variable (C X) in
def tsQ (B:Hp) (Nw:Addr->Prop) (i n:Nat) (F:Rho->R Out):TS:=λDn O H=>∃U:RB,cN C X B U O H/\(∀v d,O[i]?=some (some v)->U.rho[i]?=some (some (.shr d))->NL B Nw n v/\Has X.K C B v d)/\pQ C X Nw (F U) B Dn
section
variable {B:Hp} {Nw:Addr->Prop} {i n:Nat} {F:Rho->R Out}
theorem Av {c:Expr} {a:List Stmt} {Ft:Rho->R Bool} (hc:TD C X c Ft) (ha:PSs X a (tsQ C X B Nw i n F)):PSs X [.If c a [] pos] (tsQ C X B Nw i n (iff Ft F nxt)) :=
 dQ (gj (AE hc ha uE)) λD O H yy=>by
  obtain⟨U,r,hn,q⟩:=yy;refine⟨U,⟨_,r⟩,?_⟩;unfold iff at q;cases z:Ft U with
  | val c =>
   rw[z]at q;intro H1 s1;cases c with
   | true=>exact zH ⟨U,r.mono s1,hn,q⟩
   | false=>exact zI (q O H1 (r.mono s1).e)
  | exc c=>rw[z]at q;exact q.elim
  | bad=>rw[z]at q;exact q.elim
theorem wz (h:vr j U=.val d):U[j]?=some (some (.shr d)):=by
 unfold vr at h;split at h
 ·cases h;assumption
 ·cases h
theorem A5 {y:Str} {p1 p2 pt:Pos} {x1} (hi:PE X (.Name x p1) (dD j)) (hj:PE X (.Name y p2) (dD i)):PSs X [.Return (some (.Tuple [.Name x p1,.Name y p2] x1 pt)) pos] (tsQ C X B Nw i 1 (ret (eT (aC (vr j) (aC (vr i) aN))))) :=
 dQ (gj (pM (xg (bN hi (bN hj cR ae) ae)))) λD O H yy=>by
  obtain⟨U,r,hn,q⟩:=yy;unfold ret eT aC at q;cases e1:vr j U with
  | exc c=>rw[e1]at q;exact q.elim
  | bad=>rw[e1]at q;exact q.elim
  | val d =>
   cases e2:vr i U with
   | exc c=>rw[e1,e2]at q;exact q.elim
   | bad=>rw[e1,e2]at q;exact q.elim
   | val e =>
    rw[e1,e2]at q;obtain⟨v,s1,h1⟩:=r.at_ j _ (wz e1);obtain⟨w,s2,h2⟩:=r.at_ i _ (wz e2);refine⟨v,s1,w,s2,by show 2<=sizeLine;decide,λp hp=>?_⟩;obtain⟨⟨b,us,rfl,eb,nb,_⟩,_⟩:=hn w e s2 (wz e2);have s3:Same B (upd H p (.tup [v,.ref b])):=(r.keep.trans msk_sub).trans (aL hp);exact q (.ref p) _ s3 (.tup aO (.cons (h1.mono (msk_sub.trans (aL hp))) (.cons (h2.mono (msk_sub.trans (aL hp))) .nil))) ⟨p,v,b,us,rfl,aO,s3 b _ eb,nb⟩
theorem l0 {Y:Type} {l:List (Option Y)} {i:Nat} {a b:Y} (h:(l.set i (some a))[i]?=some (some b)):b=a:=by
 rw[List.getElem?_set]at h;simp only[if_true]at h;split at h
 ·cases h;rfl
 ·cases h
theorem A6 {l:Nat} {a s:Str} {pa ps:Pos} {body:List Stmt} (hp:PassesOwn (model X.prog X.w) X.A X.env X.xe) (hc:X.calm=true) (hl:PE X (.Name s ps) (dD l)) (hg:PG X (.Name a pa) (fR i)) (hb:PSs X body (tsQ C X B Nw i n F))
  (hs:∀x,foldedSetIterable (.Name s ps) X.env x=pure x:=by intro _;rfl):PSs X [.For (.Name a pa) (.Name s ps) body [] pos] (tsQ C X B Nw l (n+1) (bh (sL l) (tgN i) F)) :=
 dQ (gj (pO hp hc (w8 hl) hg hb hs)) λD O H yy=>by
  obtain⟨U,r,hn,q⟩:=yy;unfold bh at q;cases e0:sL l U.rho with
  | exc c=>rw[e0]at q;exact q.elim
  | bad=>rw[e0]at q;exact q.elim
  | val xs =>
    rw[e0]at q;have e:=CU e0;dsimp only[DL.R.bind]at q;obtain⟨v,ev,hv⟩:=r.at_ l _ e;obtain⟨⟨b,vs,rfl,eb,nb,hw⟩,hB⟩:=hn v _ ev e;cases hB with
    | lst e1 h1 =>
     rw[eb]at e1;cases e1;have st:∀{U':RB} {σ':St} {H':Hp},cN C X B U' σ' H'->SqL X.K H' b vs:=λr'=>SqL.of (msk_sub _ _ (r'.keep b _ eb));refine⟨.ref b,ev,b,rfl,.inl ⟨⟨vs,st r⟩,?_⟩⟩;refine rW (λj σ' H'=>∃U':RB,cN C X B U' σ' H'/\pQ C X Nw (bz (tgN i) F (xs.drop j) U') B D) ⟨U,r,q⟩ (λj σ' H' _ z=>st z.choose_spec.1) (λj x σ' H' hx z=>?_) (λσ' H' z=>?_)
     ·obtain⟨U',r',q'⟩:=z;obtain⟨d',ed,hd⟩:=h1.get' hx;have hlt:=(List.getElem?_eq_some_iff.mp ed).1;have eg:xs[j]=d':=(List.getElem?_eq_some_iff.mp ed).2;rw[List.drop_eq_getElem_cons hlt,eg]at q';unfold bz tgN at q';dsimp only at q';refine⟨U'.put i (.shr d') [],r'.setShr (hd.mono r'.keep),λv d z1 z2=>?_,?_⟩
      ·cases l0 z1;cases l0 z2;exact⟨hw _ (List.mem_of_getElem? hx),hd⟩
      ·show pQ C X Nw (F (U'.rho.set i (some (.shr d')))) B _;cases eF:F (U'.rho.set i (some (.shr d')))with
       | exc c=>rw[eF]at q';exact q'.elim
       | bad=>rw[eF]at q';exact q'.elim
       | val o =>
        rw[eF]at q';cases o with
        | nx U2=>exact λO4 H4 z=>by obtain⟨β,e4,r4⟩:=z;exact⟨β,r4,by rw[e4];exact q'⟩
        | ct U2=>exact λO4 H4 z=>by obtain⟨β,e4,r4⟩:=z;exact⟨β,r4,by rw[e4];exact q'⟩
        | bk U2=>exact q'
        | rt d=>exact q'
     ·obtain⟨U',r',q'⟩:=z;rw[h1.len,List.drop_length]at q';exact q' σ' H' r'.e
theorem yN {l:Nat} {y s:Str} {px py pt ps pe:Pos} {body:List Stmt} (hp:PassesOwn (model X.prog X.w) X.A X.env X.xe) (hc:X.calm=true) (hge:Gl X "enumerate") (hme:X.mg "enumerate"=none) (hl:PE X (.Name s ps) (dD l))
  (g1:PG X (.Name x px) (fR j)) (g2:PG X (.Name y py) (fR i)) (hb:PSs X body (tsQ C X B Nw i n F))
  (hs1:(assignEach [.Name x px,.Name y py] X.env).map (·.2)=assign (.Name x px) X.env::(assignEach [.Name y py] X.env).map (·.2):=by rfl)
  (hs2:(assignEach [.Name y py] X.env).map (·.2)=assign (.Name y py) X.env::(assignEach [] X.env).map (·.2):=by rfl)
  (hn2:(assignEach [.Name x px,.Name y py] X.env).length=2:=by rfl) (hst:(assignEach [.Name x px,.Name y py] X.env).findIdx? (·.1)=none:=by rfl)
  (hs:∀x,foldedSetIterable (.Call (.Name "enumerate" p) [.Name s ps] [] pe) X.env x=pure x:=by intro _;rfl) :
  PS X (.For (.Tuple [.Name x px,.Name y py] k pt) (.Call (.Name "enumerate" p) [.Name s ps] [] pe) body [] pos) (tsQ C X B Nw l (n+1) (bh (sE l) (tg2 j i) F)) :=
 bq (pO hp hc (uG hge hme (bN hl cR ae) (bf ae)) (w9 hc (jN g1 (jN g2 uH hs2) hs1) hn2 hst) hb hs) λD O H yy=>by
  obtain⟨U,r,hn,q⟩:=yy;unfold bh at q;cases e0:sE l U.rho with
  | exc c=>rw[e0]at q;exact q.elim
  | bad=>rw[e0]at q;exact q.elim
  | val zs =>
    rw[e0]at q;obtain⟨xs,rfl,e⟩:=CV e0;dsimp only[DL.R.bind]at q;obtain⟨v,ev,hv⟩:=r.at_ l _ e;obtain⟨⟨b,vs,rfl,eb,nb,hw⟩,hB⟩:=hn v _ ev e;cases hB with
    | lst e1 h1 =>
     rw[eb]at e1;cases e1;have st:∀{U':RB} {σ':St} {H':Hp},cN C X B U' σ' H'->SqL X.K H' b vs:=λr'=>SqL.of (msk_sub _ _ (r'.keep b _ eb));refine⟨.ref b,ev,b,vs,rfl,st r,?_⟩;refine⟨λm w σ' H'=>w=vs.length-m/\m<=vs.length/\∃U':RB,cN C X B U' σ' H'/\pQ C X Nw (bz (tg2 j i) F ((enu 0 xs).drop m) U') B D,⟨vs.length,rfl,Nat.zero_le _,U,r,q⟩,?_⟩;rintro m w σ' H' ⟨rfl,hm,U',r',q'⟩;by_cases hlt:m<vs.length
     ·have ev:vs[m]?=some vs[m]:=by simp[hlt]
      obtain⟨d',ed,hd⟩:=h1.get' ev;refine .inr ⟨⟨vs,vs[m],st r',ev⟩,λO2 H2=>∃U2:RB,cN C X B U2 O2 H2/\pQ C X Nw (bz (tg2 j i) F ((enu 0 xs).drop (m+1)) U2) B D,λO2 H2 z=>⟨vs.length-(m+1),by omega,rfl,hlt,z⟩,λv H3 y=>?_⟩;obtain⟨p,x',hp,rfl,rfl,y⟩:=y;have e2:=y vs (st r');rw[ev]at e2;cases e2;have hl2:m<(enu 0 xs).length:=by rw[mw,<- h1.len];exact hlt
      have eg:(enu 0 xs)[m]=.tup [.int (m:Int),d']:=by
       obtain⟨x,hx,e⟩:=qu (k:=0) (xs:=xs) (i:=m) (y:=(enu 0 xs)[m]) (by simp[hl2]);rw[ed]at hx;cases hx;rw[e,Nat.zero_add]
      rw[List.drop_eq_getElem_cons hl2,eg]at q';unfold bz tg2 at q';dsimp only at q';have r3:=r'.mono (aL (o:=.tup [.int (m:Int),vs[m]]) hp);have r4:=r3.setShr (i:=j) (.int (m:Int));refine⟨p,_,rfl,SqT.of aO,rfl,.int (m:Int),_,rfl,vs[m],_,rfl,rfl,_,r4.setShr (i:=i) (hd.mono (r3.keep.trans pY)),λv d z1 z2=>?_,?_⟩
      ·cases l0 z1;cases l0 z2;exact⟨hw _ (List.mem_of_getElem? ev),hd⟩
      ·show pQ C X Nw (F ((U'.rho.set j (some (.shr (.int (m:Int))))).set i (some (.shr d')))) B _;cases eF:F ((U'.rho.set j (some (.shr (.int (m:Int))))).set i (some (.shr d')))with
       | exc c=>rw[eF]at q';exact q'.elim
       | bad=>rw[eF]at q';exact q'.elim
       | val o =>
        rw[eF]at q';cases o with
        | nx U2=>exact λO4 H4 z=>by obtain⟨β,e4,r4⟩:=z;exact⟨β,r4,by rw[e4];exact q'⟩
        | ct U2=>exact λO4 H4 z=>by obtain⟨β,e4,r4⟩:=z;exact⟨β,r4,by rw[e4];exact q'⟩
        | bk U2=>exact q'
        | rt d=>exact q'
     ·have ei:m=vs.length:=by omega
      subst ei;rw[h1.len,<- mw 0 xs,List.drop_length]at q';exact .inl ⟨⟨vs,st r',Nat.le_refl _⟩,q' σ' H' r'.e⟩
end
end
def TreO (K:Frag) (C:Addr) (M H:Hp) (k:OK) (v:V) (d:D) (A:List Addr):Prop:=(v=.non/\d=.non/\A=[])\/Tre K C M H k v d A
section
variable {K:Frag} {C:Addr} {M M' H H':Hp} {k:OK} {v:V} {d:D} {A:List Addr}
theorem TreO.stay (m:Same M M') (y:Stay A H H') (h:TreO K C M H k v d A):TreO K C M' H' k v d A:=h.imp (λz=>z) λz=>z.stay m y
theorem TreO.has (m:Same M H) (h:TreO K C M H k v d A):Has K C H v d:=by
 rcases h with⟨rfl,rfl,_⟩|h
 ·exact .non
 ·exact h.has m
theorem TreO.lists (h:TreO K C M H k v d A) (a:Addr) (ha:a∈A):∃vs,H a=some (.lst vs):=by
 rcases h with⟨_,_,rfl⟩|h
 ·cases ha
 ·exact h.lists a ha
end
def spO (K:Frag) (C:Addr) (n:Nat) (kr:OK) (den:List D->R D):Sp:=λvs H Q _=>vs.length=n/\∃ds,HasL K C H vs ds/\match den ds with
 | .val d=>∀v H' A,Same H H'->(∀a∈A,H a=none)->TreO K C (cut A H') H' kr v d A->Q v H'
 | _=>False
def FnO (P:Program) (w:World) (K:Frag) (mg:Str->Option Value) (base:Heap) (C:Addr) (k:Nat) (x:Str) (n:Nat) (kr:OK) (den:List D->R D):Prop :=
 ∃f fd ps,FnOk P w K mg base CX0 k f fd ps (spO K C n kr den)/\mg x=some (.ref f)/\keepIn K (.ref f)=true/\Binds K fd ps []
variable {kr:OK}
theorem FnO.fn {P:Program} {w:World} {mg:Str->Option Value} {base:Heap} {C:Addr} {den:List D->R D} (F:FnO P w K mg base C k x n kr den):Fn P w K mg base C k x n den:=by
 obtain⟨f,fd,ps,h,r⟩:=F;refine⟨f,fd,ps,h.imp λvs H Q E z=>?_,r⟩;obtain⟨hl,ds,h1,q⟩:=z;refine⟨hl,ds,h1,?_⟩;cases e:den ds with
 | val d=>rw[e]at q;exact λv H' A s _ h2=>q v H' s (h2.has qE)
 | exc c=>rw[e]at q;exact q
 | bad=>rw[e]at q;exact q
section
variable (C:Addr) (X:Cx)
def pRO (kr:OK) (r:R D) (H0:Hp) (Q:VK):Prop:=match r with
 | .val d=>∀v H' A,Same H0 H'->(∀a∈A,H0 a=none)->TreO X.K C (cut A H') H' kr v d A->Q v H'
 | _=>False
def tsO (kr:OK) (F:Rho->R D):TS:=λDn O H=>∃U H0,oa C X H0 U O H/\pRO C X kr (F U) H0 Dn.rt
def yF (kr:OK) (st:List Stmt) (F:Rho->R D):Prop:=PSs X st (tsO C X kr F)
end
def foK (kr:OK):R D->R D
 | .val .non=>.val .non
 | .val d=>if bZ kr d=true then .val d else .bad
 | _=>.bad
def srK (i:Nat) (kr:OK) (G:Rho->R Out):Rho->R D:=λU=>match U[i]? with
 | some (some (.tre k d))=>if k=.l (.l (.l .s))then foK kr (fin (G (U.set i (some (.shr d)))))else .bad
 | _=>.bad
def lk:Nat->OK
 | 0=>.s
 | n+1=>.l (lk n)
variable {st:Stmt}
section
variable {C:Addr} {X:Cx}
theorem qS {rest:List Stmt} {F:Rho->R Out} {G:Rho->R D} (h1:SD C X st F) (h2:yF C X kr rest G):yF C X kr (st::rest) (sqK F G) :=
 dQ (fL h1 h2) λD O H yy=>by
  obtain⟨U,H0,r,q⟩:=yy;refine⟨U,H0,r,?_⟩;unfold sqK at q;cases e:F U with
  | val o =>
   rw[e]at q;cases o with
   | nx U'=>exact λσ' H' r'=>⟨U',H0,r',q⟩
   | rt d=>exact q.elim
   | bk U'=>exact q.elim
   | ct U'=>exact q.elim
  | exc c=>rw[e]at q;exact q.elim
  | bad=>rw[e]at q;exact q.elim
theorem TreP.all {K:Frag} {M H:Hp} {k:OK}:∀{us vs:List V} {ds:List D} {A:List Addr},TreP K C M H (us.map λ_=>k) vs ds A->∀w∈vs,∃d B,(∀a∈B,a∈A)/\Tre K C M H k w d B
 | [],_,_,_,h,w,hw=>by
  cases h;cases hw
 | _::us,_,_,_,h,w,hw=>by
  cases h with
  | cons h t _ =>
   rcases List.mem_cons.mp hw with rfl|hw
   ·exact⟨_,_,λa ha=>List.mem_append_left _ ha,h⟩
   ·obtain⟨d,B,hB,q⟩:=TreP.all t w hw;exact⟨d,B,λa ha=>List.mem_append_right _ (hB a ha),q⟩
theorem NL.of {K:Frag} {M H B:Hp} {Nw:Addr->Prop}:∀{n:Nat} {v:V} {d:D} {A:List Addr},(∀a∈A,Nw a/\∀o,H a=some o->B a=some o)->Tre K C M H (lk n) v d A->NL B Nw n v
 | 0,_,_,_,_,_=>trivial
 | n+1,_,_,_,hA,h=>by
  have h:Tre K C M H (.l (lk n)) _ _ _:=h;cases h with
  | l e t _ =>
   refine⟨_,_,rfl,(hA _ List.mem_cons_self).2 _ e,(hA _ List.mem_cons_self).1,λw hw=>?_⟩;obtain⟨d,A',hs,q⟩:=t.all w hw;exact NL.of (λa ha=>hA a (List.mem_cons_of_mem _ (hs a ha))) q
theorem zP {r:R D} (h:foK kr r=.val d):r=.val d/\(d=.non\/bZ kr d=true):=by
 unfold foK at h;split at h
 ·cases h;exact⟨rfl,.inl rfl⟩
 ·split at h
  ·cases h;exact⟨rfl,.inr ‹_›⟩
  ·cases h
 ·cases h
theorem r_ {H':Hp} {v:V} (h:Has K C H v d) (f:oX d=true):Has K C H' v d:=by
 cases h with
 | int i=>exact .int i
 | bl i=>exact .bl i
 | non=>exact .non
 | _=>cases f
theorem oV {K:Frag} {H H':Hp}:∀{vs:List V} {ds:List D},HasL K C H vs ds->ds.all (bZ .s)=true->HasL K C H' vs ds
 | _,_,.nil,_=>.nil
 | _,_,.cons h t,f=>by
  rw[List.all_cons,Bool.and_eq_true]at f;exact .cons (r_ h f.1) (oV t f.2)
theorem NR.tre {Nw:Addr->Prop} {v:V} (h:NR Nw H v) (hd:Has X.K C H v d) (f:bZ (.p .s (.l .s)) d=true):∃a,Nw a/\Tre X.K C (cut [a] H) H (.p .s (.l .s)) v d [a]:=by
 obtain⟨t,x,a,us,rfl,e1,e2,n⟩:=h;refine⟨a,n,?_⟩;cases hd with
 | tup q hl =>
  rw[e1]at q;cases q;cases hl with
  | cons h1 hl=>cases hl with
   | cons h2 hl =>
    cases hl;cases h2 with
    | lst e3 g =>
     rw[e2]at e3;cases e3;have f:(bZ .s _&&bZ (.l .s) (.lst _))=true:=f;rw[Bool.and_eq_true]at f;exact .p (A:=[]++([a]++[])) e1 (.cons (.s (r_ h1 f.1)) (.cons (.l e2 (TreP.of (oV g f.2)) List.not_mem_nil) .nil λ_ _=>List.not_mem_nil) λ_ z=>by cases z)
    | _ =>
     have f:(bZ .s _&&bZ (.l .s) _)=true:=f;rw[Bool.and_eq_true]at f;cases f.2
 | _=>cases f
theorem tx {e:Expr} {F:Rho->R Out} (h:∀B Nw,PS X st (tsQ C X B Nw i 3 F)) (he:ED C X e (kd .non)):yF C X (.p .s (.l .s)) [st,.Return (some e) pos] (srK i (.p .s (.l .s)) (sq F (ret (kd .non)))):=by
 intro pins s O H D I yy;obtain⟨_,H0,⟨U,rfl,r⟩,q⟩:=yy;unfold srK at q;split at q
 ·rename_i k d e1;by_cases ek:k=.l (.l (.l .s))
  ·subst ek;rw[if_pos rfl]at q;obtain⟨v,A,ev,hA,ht⟩:=r.at_ i _ e1;have r1:=r.thaw e1;have r2:=r1.rebase;have nw:∀a∈U.ad i,H0 a=none:=λa ha=>by
    cases z:H0 a with
    | none=>rfl
    | some o=>exact absurd ⟨i,ha⟩ (msk_some.mp (r.keep a o z)).1
   have inB:∀a∈A,∀o,H a=some o->msk (U.put i (.shr d) []) O H a=some o:=λa ha o e=>msk_some.mpr ⟨λz=>by
    obtain⟨j,z⟩:=z;rcases d5 z with⟨_,_,z⟩|⟨hj,z⟩
    ·cases z
    ·exact hj (r.inj j i a z (hA a ha)),e⟩
   refine(fL (h (msk (U.put i (.shr d) []) O H) (λa=>a∈U.ad i)) (gj (pM he))) pins s O H D I ⟨_,r2,λv' d' z1 z2=>?_,?_⟩
   ·rw[ev]at z1;cases z1;rcases wU z2 with⟨_,_,z2⟩|⟨z2,_⟩
    ·cases z2;obtain⟨w,ew,hw⟩:=r1.at_ i (.shr d) (by
      show(U.rho.set i (some (.shr d)))[i]?=_;rw[List.getElem?_set];simp[(List.getElem?_eq_some_iff.mp e1).1])
     rw[ev]at ew;cases ew;exact⟨NL.of (n:=3) (λa ha=>⟨hA a ha,inB a ha⟩) ht,hw⟩
    ·exact absurd rfl z2
   ·show pQ C X _ (F (U.rho.set i (some (.shr d)))) _ _;unfold sq at q;cases eF:F (U.rho.set i (some (.shr d)))with
    | exc c=>rw[eF]at q;exact q.elim
    | bad=>rw[eF]at q;exact q.elim
    | val o =>
     rw[eF]at q;cases o with
     | bk U'=>exact q.elim
     | ct U'=>exact q.elim
     | nx U' =>
      intro σ' H' r';obtain⟨β,_,r'⟩:=r';refine⟨β,⟨_,r'⟩,λv2 H2 s2 h2=>?_⟩;cases h2;exact q .non H2 [] (((r1.keep.trans r'.keep).trans msk_sub).trans s2) (λa ha=>by cases ha) (.inl ⟨rfl,rfl,rfl⟩)
     | rt d' =>
      intro v2 H2 s2 h2 hn;dsimp only[DL.R.bind,fin]at q;cases ez:foK (.p .s (.l .s)) (.val d')with
      | exc c=>rw[ez]at q;exact q.elim
      | bad=>rw[ez]at q;exact q.elim
      | val d2 =>
       rw[ez]at q;obtain⟨e3,f⟩:=zP ez;cases e3;rcases f with rfl|f
       ·obtain⟨t,x,a,us,rfl,_⟩:=hn;cases h2
       ·obtain⟨a,na,tr⟩:=hn.tre h2 f;exact q v2 H2 [a] (r1.keep.trans s2) (λb hb=>by cases List.mem_singleton.mp hb;exact nw a na) (.inr tr)
  ·rw[if_neg ek]at q;exact q.elim
 ·exact q.elim
end
section
variable {P:Program} {w:World} {K:Frag} {mg:Str->Option Value} {base:Heap} {C:Addr}
theorem Ag {qual:Str} {f:Addr} {fd:FuncData} {N ps:List Str} {den:Rho->R D} (F:Fun K x qual st f fd) (sc:aF N ps (ar st))
  (hb:∀(cdv:Value) (A:Around) (outer:List Env) (s:Shared) (H:Hp) (E:XK),Room k (A.deeper (envOfC qual (ar st) s.heap.objs.size f cdv)) ->
   yF C (ii CX0 P w K mg base N qual (ar st) f cdv A outer s H E).nox kr (cJ st) den) :
  FnOk P w K mg base CX0 (k+1) f fd ps (spO K C ps.length kr λds=>den (st0 N ds)):=by
 refine F.ok sc (λvs H Q E h=>h.1) (λcdv A outer s H vs Q E hr h=>⟨_,hb cdv A outer s H E hr,?_⟩);obtain⟨_,ds,h,q⟩:=h;exact⟨st0 N ds,H,ku h,q⟩
end
section
variable {C:Addr} {X:Cx}
def pKO (C:Addr) (X:Cx) (k:OK) (U:RB) (r:R D) (O:St) (H:Hp) (Q:VK):Prop:=match r with
 | .val d=>∀v H' A,Same H H'->(∀a∈A,H a=none)->TreO X.K C (cut A (msk U O H')) H' k v d A->Q v H'
 | .exc c=>XE X c O H
 | .bad=>False
variable (C X) in
def KOp (k:OK) (e:Expr) (F:Rho->R D):Prop:=PE X e (λO H Q=>∃U:RB,(∃H0,cN C X H0 U O H)/\pKO C X k U (F U) O H Q)
theorem Dl {den:List D->R D} {e:Expr} {es:List Expr} {Fa:Rho->R (List D)} (F:FnO X.prog X.w X.K X.mg X.base C k x n kr den) (hr:Room k X.A) (hg:Gl X x) (ha:AD C X (e::es) Fa)
  (hdb:(x==("__debug__":Str))=false:=by decide) (he:starEach (e::es) X.env=(false,eval e X.env)::starEach es X.env:=by rfl) (hpl:(backTo pos (starEach es X.env)).any (·.1)=false:=by rfl) :
  KOp C X kr (.Call (.Name x p) (e::es) [] pos) (cal n den Fa):=by
 obtain⟨f,fd,ps,F,hm,hk,hb⟩:=F;rintro pins s O H Q I ⟨U,⟨H0,r0⟩,q⟩;refine wpAny_Call_Name_kw (gl I hg hm ?_ hdb);refine callWith_K (h₀:=X.base) I.ok.mod.kin hk (thn (ha pos pins s O H (λvs H1=>∃ds d,ds.length=n/\Same H H1/\iW C X U O H1 vs ds/\den ds=.val d/\∀v H' A,Same H H'->(∀a∈A,H a=none)->TreO X.K C (cut A (msk U O H')) H' kr v d A->Q v H') I
  ⟨U,⟨H0,r0⟩,dB (P:=λz H=>pKO C X kr U z O H Q) (λ_ h=>h) (λh=>h) q λds vs H1 s1 h1 q1=>?_⟩) λus s1 yy=>?_) he hpl
 ·split at q1
  ·rename_i hl;cases e1:den ds with
   | val d=>rw[e1]at q1;exact⟨ds,d,hl,s1,h1,e1,q1⟩
   | exc c=>rw[e1]at q1;exact q1.elim
   | bad=>rw[e1]at q1;exact q1.elim
  ·exact q1.elim
 ·obtain⟨vs,H1,I1,rv,ds,d,hl,s1',h1,e1,q1⟩:=yy;refine⟨I1.kIn,?_⟩;have r1:=r0.mono s1';have Z:=Rel.hid r1 I1;have J:=I1.hide Z;refine thn (kt (E:=E0) (Q:=λv M'=>∃A,Same (cut (cu U O) H1) M'/\(∀a∈A,cut (cu U O) H1 a=none)/\TreO X.K C (cut A M') M' kr v d A) F hr hb .nil mR J rv ?_) λu s2 yy=>?_
  ·rw[List.append_nil];refine⟨h1.len.trans hl,ds,by rw[<- fB r0.bnd];exact h1,?_⟩;rw[e1];exact λv H' A s2 hA h2=>⟨A,s2,hA,h2⟩
  ·obtain⟨v,M',J2,ru,A,sm,hA,hv⟩:=yy;obtain⟨I2,mz⟩:=I1.show' Z J2;have sj:Same H1 (jn (cu U O) H1 M'):=λb o eb=>by
    by_cases hb:b∈cu U O
    ·rw[iw hb];exact eb
    ·rw[bM hb];exact sm b o (cut_some.mpr ⟨hb,eb⟩)
   have em:msk U O (jn (cu U O) H1 M')=M':=by
    rw[fB r0.bnd]
    funext b
    by_cases hb:b∈cu U O
    ·rw[fq hb,mz b hb]
    ·unfold cut;rw[if_neg hb,bM hb]
   have nz:∀b o,M' b=some o->jn (cu U O) H1 M' b=some o:=λb o eb=>by
    rw[bM λhb=>by rw[mz b hb]at eb;cases eb];exact eb
   refine⟨v,_,I2,ru,q1 v _ A (s1'.trans sj) (λa ha=>?_) (by rw[em];exact hv.stay (Same.refl _) (.of nz))⟩;obtain⟨us,ea⟩:=hv.lists a ha;have na:a∉cu U O:=λhb=>by rw[mz a hb]at ea;cases ea
   have:=hA a ha;unfold cut at this;rw[if_neg na]at this;exact dF s1' this
def trO (i:Nat) (k:OK) (e:Rho->R D):Rho->R Out:=λU=>(e U).bind λd=>match d with
 | .non=>.val (.nx (U.set i (some (.shr .non))))
 | d=>.val (.nx (U.set i (some (.tre k d))))
theorem Bd {k : OK} {e : Expr} {pos' : Pos} (hN : X.N.Nodup) (hi : X.N[i]? = some x) (hx : Loc X.env.scope x) (he : KOp C X k e F) (hs : swapsWith e (some (.Name x pos')) pos.line X.env = pure false := by rfl)
    (hf : X.fn x = true \/ X.env.scope.names.lookup x = some .local := by first | exact .inl rfl | exact .inr rfl | assumption) : SD C X (.Assign [.Name x pos'] e pos) (trO i k F) :=
  bq (ky hN hi hx he hs hf) fun D O H yy => by
   obtain ⟨_, H0, ⟨U, rfl, r⟩, q⟩ := yy
   refine ⟨U, ⟨H0, r⟩, ?_⟩
   unfold trO at q
   cases z : F U with
   | exc c => rw [z] at q; exact cX r q
   | bad => rw [z] at q; exact q
   | val d =>
     rw [z] at q
     dsimp only [DL.R.bind] at q
     intro v H' A s hA h
     rcases h with ⟨rfl, rfl, rfl⟩ | h
     · exact q _ _ ⟨_, rfl, (r.mono s).setShr .non⟩
     · split at q
       · cases h with
         | s h => cases h; exact q _ _ ⟨_, rfl, (r.mono s).setShr .non⟩
       · exact q _ _ ⟨_, rfl, r.setTre s hA h⟩
theorem AZ {a:Expr} {j pos pos'} (h:ER C X a F):TD C X (.Compare a [.Is] [.Constant .none j pos'] pos) (tst (una (λd=>.val (nK d)) F)) :=
 i3 (Br (xk h)) λO H Q zz0=>by
  obtain⟨U,r0,q⟩:=zz0;refine⟨U,r0,?_⟩;cases e:F U with
  | val d =>
   intro v H1 s1 h1;refine⟨_,rfl,?_⟩;have z:tst (una (λd=>.val (nK d)) F) U=.val (decide (v=.non)):=by
    unfold tst una;rw[e];show asB (nK d)=_;rw[((Brw.cl (H:=H1) h1).isN).1];rfl
   rw[z]at q;exact q H1 s1
  | exc c =>
   have z:tst (una (λd=>.val (nK d)) F) U=.exc c:=by unfold tst una;rw[e];rfl
   rw[z]at q;exact q
  | bad =>
   have z:tst (una (λd=>.val (nK d)) F) U=.bad:=by unfold tst una;rw[e];rfl
   rw[z]at q;exact q
end
abbrev sh (d:D):Option Slt:=some (.shr d)
end DL
namespace Ar
abbrev Arr:=Nat×Nat×List Nat
def Ok (sz:List Nat) (x:Arr):Prop:=∃n m,sz[x.1]?=some n/\sz[x.2.1]?=some m/\x.2.2.length=n/\∀y∈x.2.2,y<m
def comp (x y:Arr):Arr:=(x.1,y.2.1,x.2.2.map λi=>y.2.2.getD i 0)
def idm (sz:List Nat) (b:Nat):Arr:=(b,b,List.range (sz.getD b 0))
def funs:Nat->Nat->List (List Nat)
 | 0,_=>[[]]
 | n+1,m=>(List.range m).flatMap λy=>(funs n m).map λl=>y::l
theorem rM:∀{l:List Nat} {m:Nat},(∀y∈l,y<m)->l∈funs l.length m
 | [],m,_=>by simp[funs]
 | y::l,m,h=>by
  have h1:y<m:=h y (by simp);have h2:l∈funs l.length m:=rM λz hz=>h z (by simp[hz]);show y::l∈funs (l.length+1) m;simp only[funs,List.mem_flatMap,List.mem_map,List.mem_range];exact⟨y,h1,l,h2,rfl⟩
def AW (sz:List Nat):List Arr:=(List.range sz.length).flatMap λa=>(List.range sz.length).flatMap λb=>(funs (sz.getD a 0) (sz.getD b 0)).map λf=>(a,b,f)
theorem rL {sz:List Nat} {x:Arr} (h:Ok sz x):x∈AW sz:=by
 obtain⟨a,b,f⟩:=x;obtain⟨n,m,h1,h2,h3,h4⟩:=h;have ha:a<sz.length:=(List.getElem?_eq_some_iff.mp h1).1;have hb:b<sz.length:=(List.getElem?_eq_some_iff.mp h2).1;simp only[AW,List.mem_flatMap,List.mem_map,List.mem_range];refine⟨a,ha,b,hb,f,?_,rfl⟩;have e1:sz.getD a 0=n:=by simp only[List.getD,h1];rfl
 have e2:sz.getD b 0=m:=by simp only[List.getD,h2];rfl
 rw[e1,e2,<- h3];exact rM h4
theorem gu {Y:Type} [DecidableEq Y]:∀{l u:List Y},l.Nodup->(∀x∈l,x∈u)->l.length<=u.length
 | [],_,_,_=>by simp
 | x::l,u,nd,h=>by
  obtain⟨h1,h2⟩:=List.nodup_cons.mp nd;have hx:x∈u:=h x (by simp);have hl:l.length<=(u.erase x).length:=gu h2 λy hy=>by
   have:y≠x:=λe=>h1 (e▸hy);exact(List.mem_erase_of_ne this).mpr (h y (by simp[hy]))
  rw[List.length_erase_of_mem hx]at hl;have:0<u.length:=List.length_pos_of_mem hx;simp only[List.length_cons];omega
def szs:List (List Nat):=[[1],[1,1],[1,1,1],[1,1,1,1],[1,2],[2,1],[2,2],[0,2],[2],[3],[1,1,2],[0,1,2],[1,2,2],[2,1,0]]
theorem qP:∀sz∈szs,(AW sz).length<=27:=by decide +kernel
theorem iX:∀sz∈szs,1<=sz.length/\sz.length<=4/\∀n∈sz,n<=3:=by decide +kernel
def oE (kn:List Arr) (x:Arr):List Arr:=if x∈kn then kn else kn++[x]
def ij (kn:List Arr) (f s:Arr):List Arr:=if f.2.1=s.1 then oE kn (comp f s)else kn
def kl (k:Arr) (kn:List Arr) (o:Arr):List Arr:=ij (ij kn k o) o k
def pW (k:Arr) (kn snap:List Arr):List Arr:=snap.foldl (kl k) kn
theorem sP (kn:List Arr) (x:Arr):kn <+: oE kn x:=by
 unfold oE;split
 ·exact List.prefix_refl _
 ·exact List.prefix_append _ _
theorem yE (kn:List Arr) (x:Arr):x∈oE kn x:=by
 unfold oE;split
 ·assumption
 ·simp
theorem km (kn:List Arr) (f s:Arr):kn <+: ij kn f s:=by
 unfold ij;split
 ·exact sP _ _
 ·exact List.prefix_refl _
theorem qN (k:Arr) (kn:List Arr) (o:Arr):kn <+: kl k kn o:=(km kn k o).trans (km _ o k)
theorem ir (k:Arr):∀(snap kn:List Arr),kn <+: pW k kn snap
 | [],kn=>List.prefix_refl _
 | o::r,kn=>(qN k kn o).trans (ir k r _)
structure Kn (sz:List Nat) (kn:List Arr):Prop where
 nd:kn.Nodup
 ok:∀x∈kn,Ok sz x
theorem Aj {sz:List Nat} {x y:Arr} (hx:Ok sz x) (hy:Ok sz y) (e:x.2.1=y.1):Ok sz (comp x y):=by
 obtain⟨n,m,h1,h2,h3,h4⟩:=hx;obtain⟨n',m',g1,g2,g3,g4⟩:=hy;refine⟨n,m',h1,g2,by simp[comp,h3],λz hz=>?_⟩;simp only[comp,List.mem_map]at hz;obtain⟨i,hi,rfl⟩:=hz;have hm:m=n':=by rw[e]at h2;rw[h2]at g1;exact Option.some.inj g1
 have:i<y.2.2.length:=by rw[g3,<- hm];exact h4 i hi
 have e3:y.2.2.getD i 0=y.2.2[i]:=by simp[List.getD,List.getElem?_eq_getElem this]
 rw[e3];exact g4 _ (List.getElem_mem this)
theorem vv {sz kn x} (h:Kn sz kn) (hx:Ok sz x):Kn sz (oE kn x):=by
 unfold oE;split
 ·exact h
 ·rename_i hn;refine⟨?_,λy hy=>?_⟩
  ·rw[List.nodup_append];refine⟨h.nd,by simp,λa ha b hb=>?_⟩;simp at hb;subst hb;exact λe=>hn (e▸ha)
  ·rcases List.mem_append.mp hy with q|q
   ·exact h.ok y q
   ·simp at q;subst q;exact hx
theorem mH {sz kn f s} (h:Kn sz kn) (hf:Ok sz f) (hs:Ok sz s):Kn sz (ij kn f s):=by
 unfold ij;split
 ·exact vv h (Aj hf hs ‹_›)
 ·exact h
theorem uk {sz k kn o} (h:Kn sz kn) (hk:Ok sz k) (ho:Ok sz o):Kn sz (kl k kn o):=mH (mH h hk ho) ho hk
theorem uJ {sz k} (hk:Ok sz k):∀{snap kn:List Arr},Kn sz kn->(∀o∈snap,Ok sz o)->Kn sz (pW k kn snap)
 | [],kn,h,_=>h
 | o::r,kn,h,hs=>uJ hk (snap:=r) (uk h hk (hs o (by simp))) λq hq=>hs q (by simp[hq])
theorem oM {kn f s} (e:f.2.1=s.1):comp f s∈ij kn f s:=by
 unfold ij;rw[if_pos e];exact yE _ _
theorem wB {k kn o}:(k.2.1=o.1->comp k o∈kl k kn o)/\(o.2.1=k.1->comp o k∈kl k kn o) :=
 ⟨λe=>(km _ o k).subset (oM e),λe=>oM e⟩
theorem mQ {k}:∀{snap kn:List Arr} {o:Arr},o∈snap->(k.2.1=o.1->comp k o∈pW k kn snap)/\(o.2.1=k.1->comp o k∈pW k kn snap)
 | q::r,kn,o,h=>by
  rcases List.mem_cons.mp h with e|h
  ·subst e;have t:=wB (k:=k) (kn:=kn) (o:=o);exact⟨λe=>(ir k r _).subset (t.1 e),λe=>(ir k r _).subset (t.2 e)⟩
  ·exact mQ (snap:=r) (kn:=kl k kn q) h
def Cl (kn:List Arr) (n:Nat):Prop:=∀i j x y,i<n->j<n->kn[i]?=some x->kn[j]?=some y->x.2.1=y.1->comp x y∈kn
theorem uF {Y:Type} {l l':List Y} (h:l <+: l') {i:Nat} {x:Y} (e:l[i]?=some x):l'[i]?=some x:=by
 obtain⟨t,rfl⟩:=h;rw[List.getElem?_append_left (List.getElem?_eq_some_iff.mp e).1];exact e
theorem zk {kn:List Arr} {n:Nat} {k:Arr} (h:Cl kn n) (hk:kn[n]?=some k):Cl (pW k kn kn) (n+1):=by
 have pre:=ir k kn kn;have hn:n<kn.length:=(List.getElem?_eq_some_iff.mp hk).1;have back:∀{i x},i<n+1->(pW k kn kn)[i]?=some x->kn[i]?=some x:=λ{i x} hi e=>by
  have hl:i<kn.length:=by omega
  have:kn[i]?=some kn[i]:=by simp[hl]
  rw[uF pre this]at e;rw[this];exact e
 intro i j x y hi hj hx hy e;have hx':=back hi hx;have hy':=back hj hy;by_cases ei:i=n
 ·subst ei;rw[hk]at hx';cases hx';exact(mQ (List.mem_of_getElem? hy')).1 e
 ·by_cases ej:j=n
  ·subst ej;rw[hk]at hy';cases hy';exact(mQ (List.mem_of_getElem? hx')).2 e
  ·exact pre.subset (h i j x y (by omega) (by omega) hx' hy' e)
theorem Cw {kn:List Arr} (h:Cl kn kn.length):∀x∈kn,∀y∈kn,x.2.1=y.1->comp x y∈kn:=by
 intro x hx y hy e;obtain⟨i,hi,rfl⟩:=List.mem_iff_getElem.mp hx;obtain⟨j,hj,rfl⟩:=List.mem_iff_getElem.mp hy;exact h i j _ _ hi hj (by simp[hi]) (by simp[hj]) e
structure Good (sz:List Nat) (kn:List Arr):Prop where
 szm:sz∈szs
 nd:kn.Nodup
 ok:∀x∈kn,Ok sz x
 rest:∀b,b<sz.length->idm sz b∈kn
 cl:∀x∈kn,∀y∈kn,x.2.1=y.1->comp x y∈kn
theorem Good.few {sz kn} (g:Good sz kn):kn.length<=27 :=
 Nat.le_trans (gu g.nd λx hx=>rL (g.ok x hx)) (qP sz g.szm)
theorem Good.perm {sz kn kn'} (g:Good sz kn) (p:kn'.Perm kn):Good sz kn' :=
 ⟨g.szm,p.nodup_iff.mpr g.nd,λx hx=>g.ok x (p.mem_iff.mp hx),λb hb=>p.mem_iff.mpr (g.rest b hb),λx hx y hy e=>p.mem_iff.mpr (g.cl x (p.mem_iff.mp hx) y (p.mem_iff.mp hy) e)⟩
end Ar
namespace Ar
theorem bc {Y:Type} {l:List Y} {i:Nat} {d:Y} (h:i<l.length):l.getD i d=l[i]:=by
 rw[List.getD_eq_getElem?_getD,List.getElem?_eq_getElem h];rfl
structure bj (en:List (Nat×Nat)) (re:List Nat) (tb:List (List Int)):Prop where
 nb1:1<=re.length
 nb6:re.length<=6
 na1:1<=en.length
 na40:en.length<=40
 eb:∀i,i<en.length->(en.getD i (0,0)).1<re.length/\(en.getD i (0,0)).2<re.length
 rs:∀b,b<re.length->re.getD b 0<en.length/\en.getD (re.getD b 0) (0,0)=(b,b)
 tl:tb.length=en.length
 rl:∀i,i<en.length->(tb.getD i []).length=en.length
 tp:∀i j,i<en.length->j<en.length->(en.getD i (0,0)).2=(en.getD j (0,0)).1 ->
  ∃k,k<en.length/\(tb.getD i []).getD j (-1)=(k:Int)/\en.getD k (0,0)=((en.getD i (0,0)).1,(en.getD j (0,0)).2)
 tn:∀i j,i<en.length->j<en.length->(en.getD i (0,0)).2≠(en.getD j (0,0)).1->(tb.getD i []).getD j (-1)=-1
 ul:∀i,i<en.length->(tb.getD (re.getD (en.getD i (0,0)).1 0) []).getD i (-1)=(i:Int)
 ur:∀i,i<en.length->(tb.getD i []).getD (re.getD (en.getD i (0,0)).2 0) (-1)=(i:Int)
 as:∀i j k x y:Nat,i<en.length->j<en.length->k<en.length->(tb.getD i []).getD j (-1)=(x:Int)->(tb.getD j []).getD k (-1)=(y:Int) ->
  (tb.getD x []).getD k (-1)=(tb.getD i []).getD y (-1)
def ig (kn:List Arr):List (Nat×Nat):=kn.map λx=>(x.1,x.2.1)
def gX (sz:List Nat) (kn:List Arr):List Nat:=(List.range sz.length).map λb=>kn.idxOf (idm sz b)
def mk (kn:List Arr) (x y:Arr):Int:=if x.2.1=y.1 then(kn.idxOf (comp x y):Int)else -1
def gE (kn:List Arr):List (List Int):=kn.map λx=>kn.map λy=>mk kn x y
theorem ua {sz:List Nat} {x y z:Arr} (hx:Ok sz x) (hy:Ok sz y) (hz:Ok sz z) (e:x.2.1=y.1) (e':y.2.1=z.1):comp (comp x y) z=comp x (comp y z):=by
 obtain⟨n,m,h1,h2,h3,h4⟩:=hx;obtain⟨n',m',g1,g2,g3,g4⟩:=hy;have hm:m=n':=by rw[e]at h2;rw[h2]at g1;exact Option.some.inj g1
 simp only[comp,List.map_map,Prod.mk.injEq,true_and];refine List.map_congr_left λi hi=>?_;have hl:i<y.2.2.length:=by rw[g3,<- hm];exact h4 i hi
 simp only[Function.comp,List.getD_eq_getElem?_getD,List.getElem?_map];rw[List.getElem?_eq_getElem hl];simp
theorem nl (l:List Nat):(List.range l.length).map (λi=>l.getD i 0)=l:=by
 apply List.ext_getElem
 ·simp
 ·intro i h1 h2;simp only[List.getElem_map,List.getElem_range];exact bc h2
theorem yq {sz:List Nat} {x:Arr} (hx:Ok sz x):comp (idm sz x.1) x=x:=by
 obtain⟨n,m,h1,h2,h3,h4⟩:=hx;have e:sz.getD x.1 0=x.2.2.length:=by rw[List.getD_eq_getElem?_getD,h1,h3];rfl
 simp only[comp,idm,e,nl]
theorem yp {sz:List Nat} {x:Arr} (hx:Ok sz x):comp x (idm sz x.2.1)=x:=by
 obtain⟨n,m,h1,h2,h3,h4⟩:=hx;have e:sz.getD x.2.1 0=m:=by rw[List.getD_eq_getElem?_getD,h2];rfl
 have:(x.2.2.map λi=>(List.range m).getD i 0)=x.2.2:=by
  conv=>rhs;rw[<- List.map_id x.2.2]
  refine List.map_congr_left λi hi=>?_;have:=h4 i hi;rw[bc (by simpa using this)];simp
 simp only[comp,idm,e,this]
section
variable {sz:List Nat} {kn:List Arr}
theorem dW:(ig kn).length=kn.length:=by simp[ig]
theorem mO:(gX sz kn).length=sz.length:=by simp[gX]
theorem iG {i:Nat} (h:i<kn.length):(ig kn).getD i (0,0)=(kn[i].1,kn[i].2.1):=by
 rw[bc (by rw[dW];exact h)];simp[ig]
theorem wE {i:Nat} (h:i<kn.length):(gE kn).getD i []=kn.map λy=>mk kn kn[i] y:=by
 rw[bc (by simp[gE];exact h)];simp[gE]
theorem ld {i j:Nat} (h:i<kn.length) (h':j<kn.length):((gE kn).getD i []).getD j (-1)=mk kn kn[i] kn[j]:=by
 rw[wE h,bc (by simpa using h')];simp
theorem wR {b:Nat} (h:b<sz.length):(gX sz kn).getD b 0=kn.idxOf (idm sz b):=by
 rw[bc (by rw[mO];exact h)];simp[gX]
theorem rg {x:Arr} (h:Ok sz x):x.1<sz.length/\x.2.1<sz.length:=by
 obtain⟨n,m,h1,h2,_⟩:=h;exact⟨(List.getElem?_eq_some_iff.mp h1).1,(List.getElem?_eq_some_iff.mp h2).1⟩
theorem kL {x:Arr} (h:x∈kn):∃hl:kn.idxOf x<kn.length,kn[kn.idxOf x]=x :=
 ⟨List.idxOf_lt_length_of_mem h,List.getElem_idxOf _⟩
theorem xz {x y:Arr} {k:Nat} (h:mk kn x y=(k:Int)):x.2.1=y.1/\k=kn.idxOf (comp x y):=by
 unfold mk at h;split at h
 ·exact⟨‹_›,by omega⟩
 ·omega
theorem uT (g:Good sz kn):bj (ig kn) (gX sz kn) (gE kn):=by
 have few:=g.few;obtain⟨s1,s4,_⟩:=iX sz g.szm;have okat:∀{i} (h:i<kn.length),Ok sz kn[i]:=λh=>g.ok _ (List.getElem_mem h);have n1:1<=kn.length:=List.length_pos_of_mem (g.rest 0 (by omega));have idn:∀{i} (h:i<kn.length),kn.idxOf kn[i]=i:=λ{i} h=>g.nd.idxOf_getElem i h;refine⟨by rw[mO];exact s1,by rw[mO];omega,by rw[dW];exact n1,by rw[dW];omega,?_,?_,?_,?_,?_,?_,?_,?_,?_⟩
 ·intro i h;rw[dW]at h;rw[iG h,mO];exact rg (okat h)
 ·intro b h;rw[mO]at h;obtain⟨hl,e⟩:=kL (g.rest b h);rw[wR h,dW,iG hl,e];exact⟨hl,rfl⟩
 ·simp[gE,dW]
 ·intro i h;rw[dW]at h;rw[wE h,dW];simp
 ·intro i j hi hj e;rw[dW]at hi hj;rw[iG hi,iG hj]at e;obtain⟨hl,ek⟩:=kL (g.cl _ (List.getElem_mem hi) _ (List.getElem_mem hj) e);refine⟨kn.idxOf (comp kn[i] kn[j]),by rw[dW];exact hl,?_,?_⟩
  ·rw[ld hi hj,mk,if_pos e]
  ·rw[iG hl,ek,iG hi,iG hj];rfl
 ·intro i j hi hj e;rw[dW]at hi hj;rw[iG hi,iG hj]at e;rw[ld hi hj,mk,if_neg e]
 ·intro i h;rw[dW]at h;have o:=okat h;obtain⟨hl,e⟩:=kL (g.rest _ (rg o).1);rw[iG h,wR (rg o).1,ld hl h,e,mk,if_pos (show(idm sz kn[i].1).2.1=kn[i].1 from rfl),yq o,idn h]
 ·intro i h;rw[dW]at h;have o:=okat h;obtain⟨hl,e⟩:=kL (g.rest _ (rg o).2);rw[iG h,wR (rg o).2,ld h hl,e,mk,if_pos (show kn[i].2.1=(idm sz kn[i].2.1).1 from rfl),yp o,idn h]
 ·intro i j k x y hi hj hk hx hy;rw[dW]at hi hj hk;rw[ld hi hj]at hx;rw[ld hj hk]at hy;obtain⟨e1,rfl⟩:=xz hx;obtain⟨e2,rfl⟩:=xz hy;obtain⟨l1,q1⟩:=kL (g.cl _ (List.getElem_mem hi) _ (List.getElem_mem hj) e1);obtain⟨l2,q2⟩:=kL (g.cl _ (List.getElem_mem hj) _ (List.getElem_mem hk) e2);rw[ld l1 hk,ld hi l2,q1,q2];have a1:(comp kn[i] kn[j]).2.1=kn[k].1:=e2;have a2:kn[i].2.1=(comp kn[j] kn[k]).1:=e1;rw[mk,mk,if_pos a1,if_pos a2,ua (okat hi) (okat hj) (okat hk) e1 e2]
end
end Ar
namespace Ar
section
variable {en:List (Nat×Nat)} {re:List Nat} {tb:List (List Int)}
end
end Ar
namespace DL
open L2
section
variable {Y β:Type}
@[simp] theorem ag (a:Y) (f:Y->R β):(R.val a).bind f=f a:=Eq.trans rfl rfl
@[simp] theorem mo (a:Y):noE (R.val a)=.val a:=Eq.trans rfl rfl
@[simp] theorem De (a:D):noex (R.val a)=.val a:=Eq.trans rfl rfl
end
variable {i j:Int}
section
variable (U:Rho)
@[simp] theorem aX (a b:Rho->R Out):sq a b U=(a U).bind λo=>match o with
 | .nx U'=>b U'
 | o=>.val o:=Eq.trans rfl rfl
@[simp] theorem iu:nxt U=.val (.nx U):=Eq.trans rfl rfl
@[simp] theorem eB (i:Nat) (e:Rho->R D):asg i e U=(e U).bind λd=>.val (.nx (U.set i (some (.shr d)))):=Eq.trans rfl rfl
@[simp] theorem BG (i:Nat) (e:Rho->R (List D)):own i e U=(e U).bind λd=>.val (.nx (U.set i (some (.own d)))):=Eq.trans rfl rfl
@[simp] theorem dE (e:Rho->R D):ret e U=(e U).bind λd=>.val (.rt d):=Eq.trans rfl rfl
@[simp] theorem Cv (e:Rho->R D):drp e U=(e U).bind λ_=>.val (.nx U):=Eq.trans rfl rfl
@[simp] theorem cx (t:Rho->R Bool) (a b:Rho->R Out):DL.iff t a b U=(t U).bind λc=>if c=true then a U else b U:=Eq.trans rfl rfl
@[simp] theorem bv (F:Rho->R D):tst F U=(F U).bind asB:=Eq.trans rfl rfl
@[simp] theorem iR (b:Bool):asB (.bl b)=.val b:=Eq.trans rfl rfl
@[simp] theorem DK (a b:Rho->R Bool):CD a b U=(a U).bind λx=>if x=true then b U else .val false:=Eq.trans rfl rfl
@[simp] theorem gq (a b:Rho->R Bool):orB a b U=(a U).bind λx=>if x=true then .val true else b U:=Eq.trans rfl rfl
@[simp] theorem eO (a:Rho->R Bool):eV a U=(a U).bind λx=>.val (!x):=Eq.trans rfl rfl
@[simp] theorem En (i:Nat):vr i U=match U[i]? with
 | some (some (.shr d))=>.val d
 | _=>.bad:=Eq.trans rfl rfl
@[simp] theorem uh (i:Nat):vb i U=match U[i]? with
 | some (some (.shr d))=>.val d
 | some (some (.own xs))=>.val (.lst xs)
 | some (some (.tre (.l .s) (.lst xs)))=>.val (.lst xs)
 | _=>.bad:=Eq.trans rfl rfl
@[simp] theorem ft (d:D):kd d U=.val d:=Eq.trans rfl rfl
@[simp] theorem aH (f:D->D->R D) (a b:Rho->R D):bin f a b U=(a U).bind λx=>(b U).bind λy=>f x y:=Eq.trans rfl rfl
@[simp] theorem e9 (f:D->R D) (a:Rho->R D):una f a U=(a U).bind f:=Eq.trans rfl rfl
@[simp] theorem j9:aN U=.val []:=Eq.trans rfl rfl
@[simp] theorem cM (a:Rho->R D) (r:Rho->R (List D)):aC a r U=(a U).bind λx=>(r U).bind λxs=>.val (x::xs):=Eq.trans rfl rfl
@[simp] theorem nV (a:Rho->R (List D)):eT a U=(a U).bind mkT:=Eq.trans rfl rfl
@[simp] theorem DB (a:Rho->R (List D)):eL a U=(a U).bind mkL:=Eq.trans rfl rfl
@[simp] theorem Es (a b:D):mkT [a,b]=.val (.tup [a,b]):=Eq.trans rfl rfl
@[simp] theorem Er (a b c:D):mkT [a,b,c]=.val (.tup [a,b,c]):=Eq.trans rfl rfl
@[simp] theorem Ep (a b c d e:D):mkT [a,b,c,d,e]=.val (.tup [a,b,c,d,e]):=Eq.trans rfl rfl
@[simp] theorem Et (a b:D):mkL [a,b]=.val (.lst [a,b]):=Eq.trans rfl rfl
@[simp] theorem bB (F:Rho->R (List D)):eLs F U=(F U).bind λxs=>.val (.lst xs):=Eq.trans rfl rfl
@[simp] theorem Dx:fS aN U=.val []:=Eq.trans rfl rfl
@[simp] theorem kO (F:Rho->R D):fIt F U=(F U).bind itD:=Eq.trans rfl rfl
@[simp] theorem DH (xs:List D):itD (.lst xs)=.val xs:=Eq.trans rfl rfl
@[simp] theorem DG (xs:List D):itD (.tup xs)=.val xs:=Eq.trans rfl rfl
@[simp] theorem yw (n:Nat) (den:List D->R D) (a:Rho->R (List D)):cal n den a U=(a U).bind λds=>if ds.length=n then noex (den ds)else .bad:=Eq.trans rfl rfl
@[simp] theorem AL (i:Nat) (F:Rho->R Out):fz i F U=F (frz i U):=Eq.trans rfl rfl
@[simp] theorem cU (src:Rho->R (List D)) (T:D->Rho->Option Rho) (F:Rho->R Out):bh src T F U=(src U).bind λxs=>bz T F xs U:=Eq.trans rfl rfl
@[simp] theorem hG (F:Rho->R (List D)):bF F U=(F U).bind on:=Eq.trans rfl rfl
@[simp] theorem DJ (F:Rho->R (List D)):eX F U=(F U).bind Cm:=Eq.trans rfl rfl
@[simp] theorem CK (F:Rho->R (List D)):iJ F U=(F U).bind rgT:=Eq.trans rfl rfl
@[simp] theorem vd (F:Rho->R (List D)):qz F U=(F U).bind zR:=Eq.trans rfl rfl
@[simp] theorem uV (i j:Int):zR [.int i,.int j]=.val (.int (if j>i then j else i)):=Eq.trans rfl rfl
@[simp] theorem Ch (d:D):fin (.val (.rt d))=.val d:=Eq.trans rfl rfl
@[simp] theorem Eg (U:Rho):fin (.val (.nx U))=.val .non:=Eq.trans rfl rfl
@[simp] theorem BU (den:Rho->R D) (Fa:Rho->R (List D)):mkH den Fa U=(Fa U).bind λds=>match ds with
 | [e,r,t]=>noex (den (jc e r t))
 | _=>.bad:=Eq.trans rfl rfl
@[simp] theorem Ec (e r t:D):dI 0 (.ob e r t)=.val e:=Eq.trans rfl rfl
@[simp] theorem Eb (e r t:D):dI 1 (.ob e r t)=.val r:=Eq.trans rfl rfl
@[simp] theorem Ea (e r t:D):dI 2 (.ob e r t)=.val t:=Eq.trans rfl rfl
@[simp] theorem nG (xs:List D):aA (.lst xs)=.val (.int xs.length):=Eq.trans rfl rfl
@[simp] theorem D7 (xs:List D):je (.lst xs)=.val (.tup xs):=Eq.trans rfl rfl
@[simp] theorem DI (i:Int):qj (.int i)=.val (.int (-i)):=Eq.trans rfl rfl
@[simp] theorem gK (f:Int->Int->R D) (i j:Int):iI f (.int i) (.int j)=f i j:=Eq.trans rfl rfl
@[simp] theorem D_ (i j:Int):flt i j=.val (.bl (decide (i<j))):=Eq.trans rfl rfl
@[simp] theorem Eh (i j:Int):fgt i j=.val (.bl (decide (j<i))):=Eq.trans rfl rfl
@[simp] theorem mv (i j:Int):ba (.int i) (.int j)=.val (.int (i+j)):=Eq.trans rfl rfl
theorem eR (h:0<j):a_ i j=.val (.int (i%j)):=if_pos h
theorem qo (h:0<j/\j<1073741824):dq i j=.val (.int (i/j)):=if_pos h
theorem jX (h:-(2 ^ 64)<j/\j<2 ^ 64):cY i j=.val (.int (i*j)):=if_pos (.inr h)
@[simp] theorem Ej (f g:Int->Int->Bool) (a b c:Rho->R D):chn f g a b c U=(a U).bind λx=>(b U).bind λy=>match x,y with
 | .int i,.int j=>if f i j=true then(c U).bind λz=>match z with
   | .int k=>.val (.bl (g j k))
   | _=>.bad
  else .val (.bl false)
 | _,_=>.bad:=Eq.trans rfl rfl
end
theorem qK {Y:Type} (xs:List Y) (i:Nat):atI xs (i:Int)=xs[i]?:=by
 unfold atI ixN;rw[if_pos (Int.natCast_nonneg i)];by_cases h:i<xs.length
 ·rw[if_pos (by exact_mod_cast h)];simp
 ·rw[if_neg (by intro z;exact h (by exact_mod_cast z))];simp at h;simp[List.getElem?_eq_none h]
variable {xs:List D}
theorem iC {i:Nat} {d:D} (h:xs[i]?=some d):fix (.lst xs) (.int (i:Int))=.val d:=by
 show(match atI xs (i:Int)with|some d=>R.val d|none=>.bad)=_;rw[qK,h]
theorem uW {i:Nat} {d:D} (h:xs[i]?=some d):fix (.tup xs) (.int (i:Int))=.val d:=by
 show(match atI xs (i:Int)with|some d=>R.val d|none=>.bad)=_;rw[qK,h]
theorem AM {xs:List Int} {i:Nat} {d:Int} (h:xs[i]?=some d):fix (.scr xs) (.int (i:Int))=.val (.int d):=by
 show(match atI xs (i:Int)with|some d=>R.val (D.int d)|none=>R.bad)=_;rw[qK,h]
@[simp] theorem jt (a:D) (r:List D):fix (.tup (a::r)) (.int 0)=.val a:=uW (i:=0) rfl
@[simp] theorem iB (a b:D) (r:List D):fix (.tup (a::b::r)) (.int 1)=.val b:=uW (i:=1) rfl
@[simp] theorem nJ (a b c:D) (r:List D):fix (.tup (a::b::c::r)) (.int 2)=.val c:=uW (i:=2) rfl
theorem sD {T:D->Rho->Option Rho} {e:Rho->R D} {g:D->D} {U:Rho}:∀{xs:List D},(∀x∈xs,∃U1,T x U=some U1/\e U1=.val (g x))->iN T tT e xs U=.val (xs.map g)
 | [],_=>rfl
 | x::r,h=>by
  obtain⟨U1,h1,h2⟩:=h x (by simp);have ih:=sD (T:=T) (e:=e) (g:=g) (U:=U) (xs:=r) λy hy=>h y (by simp[hy]);unfold iN;rw[h1];show(noE (tT U1)).bind _=_;simp[tT,h2,ih]
theorem gG {T:D->Rho->Option Rho} {F:Rho->R Out} (I:Nat->Rho->Prop) (step:∀(i:Nat) x U,xs[i]?=some x->I i U->∃U1 U2,T x U=some U1/\F U1=.val (.nx U2)/\I (i+1) U2) {U:Rho} (h:I 0 U):∃U',bz T F xs U=.val (.nx U')/\I xs.length U':=by
 suffices ∀(n k:Nat) (U:Rho),k+n=xs.length->I k U->∃U',bz T F (xs.drop k) U=.val (.nx U')/\I xs.length U' by
  have:=this xs.length 0 U (by omega) h;rwa[List.drop_zero]at this
 intro n
 induction n with
 | zero =>
  intro k U hk hI;have hk:k=xs.length:=by omega
  subst hk;rw[List.drop_length];exact⟨U,rfl,hI⟩
 | succ n ih =>
  intro k U hk hI;have hlt:k<xs.length:=by omega
  obtain⟨U1,U2,h1,h2,h3⟩:=step k xs[k] U (by simp[hlt]) hI;rw[List.drop_eq_getElem_cons hlt];unfold bz;rw[h1];show ∃U',(F U1).bind _=_/\_;rw[h2];exact ih (k+1) U2 (by omega) h3
end DL
namespace DL
open L2 Ar
def pln:Nat->D->Bool
 | _,.non=>true
 | _,.int _=>true
 | n+1,.lst xs=>xs.all (pln n)
 | n+1,.tup xs=>xs.all (pln n)
 | _,_=>false
theorem dA:∀{n:Nat} {x:D},pln n x=true->eqb n x=true:=by
 intro n
 induction n with
 | zero =>
  intro x h;cases x with
  | non=>rfl
  | int _=>rfl
  | _=>cases h
 | succ n ih =>
  intro x h;cases x with
  | non=>rfl
  | int _=>rfl
  | lst xs=>exact List.all_eq_true.mpr λy hy=>ih (List.all_eq_true.mp h y hy)
  | tup xs=>exact List.all_eq_true.mpr λy hy=>ih (List.all_eq_true.mp h y hy)
  | _=>cases h
variable {n:Nat} {xs:List D}
theorem q_ (ih:∀{x y:D},pln n x=true->pln n y=true->(pyq n x y=true↔x=y)) {ys:List D} (hx:xs.all (pln n)=true) (hy:ys.all (pln n)=true) :
  (decide (xs.length=ys.length)&&(List.range xs.length).all λj=>pyq n (xs.getD j .non) (ys.getD j .non))=true↔xs=ys:=by
 rw[Bool.and_eq_true,decide_eq_true_iff,List.all_eq_true];rw[List.all_eq_true]at hx hy;constructor
 ·rintro⟨hl,h⟩;apply List.ext_getElem hl;intro j h1 h2;have:=h j (List.mem_range.mpr h1);rw[bc h1,bc h2]at this;exact(ih (hx _ (List.getElem_mem h1)) (hy _ (List.getElem_mem h2))).mp this
 ·rintro rfl;refine⟨rfl,λj hj=>?_⟩;have h1:=List.mem_range.mp hj;rw[bc h1];exact(ih (hx _ (List.getElem_mem h1)) (hx _ (List.getElem_mem h1))).mpr rfl
theorem dR {p q:Prop} (h:¬ p) (g:¬ q):p↔q:=⟨λx=>absurd x h,λx=>absurd x g⟩
theorem uS {a b:Int}:(a==b)=true↔D.int a=D.int b:=beq_iff_eq.trans ⟨congrArg D.int,λh=>by cases h;rfl⟩
theorem gY:∀(n:Nat) {x y:D},pln n x=true->pln n y=true->(pyq n x y=true↔x=y):=by
 intro n
 induction n with
 | zero =>
  intro x y hx hy;cases x with
  | non =>
   cases y with
   | non=>exact⟨λ_=>rfl,λ_=>rfl⟩
   | int b=>exact dR Bool.false_ne_true (λh=>by cases h)
   | _=>cases hy
  | int a =>
   cases y with
   | int b=>exact uS
   | non=>exact dR Bool.false_ne_true (λh=>by cases h)
   | _=>cases hy
  | _=>cases hx
 | succ n ih =>
  intro x y hx hy;cases x with
  | lst xs =>
   cases y with
   | lst ys=>rw[pH,q_ ih hx hy];exact⟨congrArg D.lst,λh=>by cases h;rfl⟩
   | non=>exact dR Bool.false_ne_true (λh=>by cases h)
   | int _=>exact dR Bool.false_ne_true (λh=>by cases h)
   | tup _=>exact dR Bool.false_ne_true (λh=>by cases h)
   | _=>cases hy
  | tup xs =>
   cases y with
   | tup ys=>rw[pG,q_ ih hx hy];exact⟨congrArg D.tup,λh=>by cases h;rfl⟩
   | non=>exact dR Bool.false_ne_true (λh=>by cases h)
   | int _=>exact dR Bool.false_ne_true (λh=>by cases h)
   | lst _=>exact dR Bool.false_ne_true (λh=>by cases h)
   | _=>cases hy
  | non =>
   cases y with
   | non=>exact⟨λ_=>rfl,λ_=>rfl⟩
   | int b=>exact dR Bool.false_ne_true (λh=>by cases h)
   | lst _=>exact dR Bool.false_ne_true (λh=>by cases h)
   | tup _=>exact dR Bool.false_ne_true (λh=>by cases h)
   | _=>cases hy
  | int a =>
   cases y with
   | int b=>exact uS
   | non=>exact dR Bool.false_ne_true (λh=>by cases h)
   | lst _=>exact dR Bool.false_ne_true (λh=>by cases h)
   | tup _=>exact dR Bool.false_ne_true (λh=>by cases h)
   | _=>cases hy
  | _=>cases hx
variable {x:D}
theorem sk (h:pln 9 x=true):feq x x=.val (.bl true):=by
 unfold feq;rw[if_pos ⟨dA h,dA h⟩,(gY 9 h h).mpr rfl]
theorem so {y:D} (h:pln 9 x=true) (h':pln 9 y=true) (e:x≠y):feq x y=.val (.bl false):=by
 unfold feq;rw[if_pos ⟨dA h,dA h'⟩];cases q:pyq 9 x y with
 | false=>rfl
 | true=>exact absurd ((gY 9 h h').mp q) e
theorem iA (h:pln 9 x=true):fne x x=.val (.bl false):=by
 unfold fne;rw[if_pos ⟨dA h,dA h⟩,(gY 9 h h).mpr rfl];rfl
theorem rX {y:D} (h:pln 9 x=true) (h':pln 9 y=true) (e:x≠y):fne x y=.val (.bl true):=by
 unfold fne;rw[if_pos ⟨dA h,dA h'⟩];cases q:pyq 9 x y with
 | false=>rfl
 | true=>exact absurd ((gY 9 h h').mp q) e
@[simp] theorem ju (a b:Int):feq (.int a) (.int b)=.val (.bl (decide (a=b))):=by
 by_cases h:a=b
 ·subst h;rw[sk rfl];simp
 ·rw[so rfl rfl (by simpa using h)];simp[h]
@[simp] theorem kN (a b:Int):fne (.int a) (.int b)=.val (.bl (decide (a≠b))):=by
 by_cases h:a=b
 ·subst h;rw[iA rfl];simp
 ·rw[rX rfl rfl (by simpa using h)];simp[h]
abbrev nD (n:Nat):D:=.int (n:Int)
def aw (x:Arr):D:=.tup [nD x.1,nD x.2.1,.tup (x.2.2.map nD)]
def dv (p:Nat×Nat):D:=.tup [nD p.1,nD p.2]
def bP (en:List (Nat×Nat)):D:=.lst (en.map dv)
def ak (re:List Nat):D:=.lst (re.map nD)
def aQ (r:List Int):D:=.lst (r.map D.int)
def aS (tb:List (List Int)):D:=.lst (tb.map aQ)
theorem nD_inj {a b:Nat}:nD a=nD b↔a=b:=by
 simp only[nD,D.int.injEq];omega
theorem endD_inj {p q:Nat×Nat}:dv p=dv q↔p=q:=by
 obtain⟨a,b⟩:=p;obtain⟨c,d⟩:=q;simp only[dv,nD,D.tup.injEq,List.cons.injEq,D.int.injEq,and_true,Prod.mk.injEq];omega
theorem mq {Y:Type} {f:Y->D} (hf:∀a b,f a=f b->a=b):∀{l m:List Y},l.map f=m.map f->l=m
 | [],[],_=>rfl
 | [],_::_,h=>by simp at h
 | _::_,[],h=>by simp at h
 | a::l,b::m,h=>by
  simp only[List.map_cons,List.cons.injEq]at h;rw[hf _ _ h.1,mq hf h.2]
theorem arrD_inj {x y:Arr}:aw x=aw y↔x=y:=by
 obtain⟨a,b,l⟩:=x;obtain⟨c,d,m⟩:=y;constructor
 ·intro h;simp only[aw,nD,D.tup.injEq,List.cons.injEq,D.int.injEq,Int.natCast_inj,and_true]at h;obtain⟨h1,h2,h3⟩:=h;rw[h1,h2,mq (λa b e=>nD_inj.mp e) h3]
 ·rintro h;rw[h]
variable {Y:Type}
theorem all_map {f:Y->D} (h:∀a,pln n (f a)=true) (l:List Y):(l.map f).all (pln n)=true:=by
 rw[List.all_eq_true];intro y hy;obtain⟨a,_,rfl⟩:=List.mem_map.mp hy;exact h a
variable {k:Nat}
theorem rb (n:Nat):pln k (nD n)=true:=by unfold nD pln;rfl
theorem Da (n:Int):pln k (.int n)=true:=by cases k<;>rfl
theorem mi (h:xs.all (pln k)=true):pln (k+1) (.tup xs)=true:=h
theorem mj (h:xs.all (pln k)=true):pln (k+1) (.lst xs)=true:=h
theorem jM (p:Nat×Nat):pln (k+1) (dv p)=true:=mi (by simp[rb])
theorem i5 (x:Arr):pln (k+2) (aw x)=true:=mi (by simp[rb];exact mi (all_map (λa=>rb a) _))
theorem zd (re:List Nat):pln (k+1) (ak re)=true:=mj (all_map (λp=>rb p) _)
theorem jL (r:List Int):pln (k+1) (aQ r)=true:=mj (all_map (λp=>Da p) _)
theorem pP (tb:List (List Int)):pln (k+2) (aS tb)=true:=mj (all_map (λp=>jL p) _)
variable {i:Nat}
theorem fP {f:Y->D} {l:List Y} {d:Y} (h:i<l.length):(l.map f)[i]?=some (f (l.getD i d)):=by
 rw[bc h];simp[h]
theorem gm {en:List (Nat×Nat)} (h:i<en.length):fix (bP en) (.int (i:Int))=.val (dv (en.getD i (0,0))):=iC (fP h)
theorem dC {re:List Nat} (h:i<re.length):fix (ak re) (.int (i:Int))=.val (nD (re.getD i 0)):=iC (fP h)
theorem eS {tb:List (List Int)} (h:i<tb.length):fix (aS tb) (.int (i:Int))=.val (aQ (tb.getD i [])):=iC (fP h)
theorem dS {r:List Int} (h:i<r.length):fix (aQ r) (.int (i:Int))=.val (.int (r.getD i (-1))):=iC (fP h)
@[simp] theorem Cg (p:Nat×Nat):fix (dv p) (.int 0)=.val (nD p.1):=jt _ _
@[simp] theorem Cf (p:Nat×Nat):fix (dv p) (.int 1)=.val (nD p.2):=iB _ _ _
@[simp] theorem Ef (x:Arr):fix (aw x) (.int 0)=.val (nD x.1):=jt _ _
@[simp] theorem Ee (x:Arr):fix (aw x) (.int 1)=.val (nD x.2.1):=iB _ _ _
@[simp] theorem Ed (x:Arr):fix (aw x) (.int 2)=.val (.tup (x.2.2.map nD)):=nJ _ _ _ _
@[simp] theorem rZ (en:List (Nat×Nat)):aA (bP en)=.val (.int en.length):=by unfold bP;simp
@[simp] theorem cZ (re:List Nat):aA (ak re)=.val (.int re.length):=by unfold ak;simp
@[simp] theorem Dt (r:List Int):aA (aQ r)=.val (.int r.length):=by unfold aQ;simp
@[simp] theorem rY (r:List (List Int)):aA (aS r)=.val (.int r.length):=by unfold aS;simp
@[simp] theorem Du (p:Nat×Nat):aA (dv p)=.val (.int 2):=Eq.trans rfl rfl
variable {U:Rho}
theorem nn {F:Rho->R Out} {j:Nat} (I:Rho->Prop) (step:∀(k:Nat) x U,xs[k]?=some x->I U->∃U2,F ((U.set i (some (.shr (.int (k:Int))))).set j (some (.shr x)))=.val (.nx U2)/\I U2) (h:I U) :
  ∃U',bz (tg2 i j) F (enu 0 xs) U=.val (.nx U')/\I U':=by
 refine gG (λ_=>I) (λk y U e hI=>?_) h;obtain⟨x,e1,rfl⟩:=qu e;rw[Nat.zero_add];obtain⟨U2,h1,h2⟩:=step k x U e1 hI;exact⟨_,U2,rfl,h1,h2⟩
theorem jS {F:Rho->R Out} (I:Nat->Rho->Prop) (step:∀(k:Nat) U,k<n->I k U->∃U2,F (U.set i (some (.shr (.int (k:Int)))))=.val (.nx U2)/\I (k+1) U2) (h:I 0 U) :
  ∃U',bz (tgN i) F (rng 0 n) U=.val (.nx U')/\I n U':=by
 have hl:(rng 0 n).length=n:=by unfold rng;simp
 obtain⟨U',h1,h2⟩:=gG (T:=tgN i) (F:=F) I (xs:=rng 0 n) (λk y U e hI=>by
  have hk:k<n:=by rw[<- hl];exact(List.getElem?_eq_some_iff.mp e).1
  have:y=.int (k:Int):=by
   unfold rng at e;rw[List.getElem?_map,List.getElem?_range hk]at e;simp at e;exact e.symm
  subst this;obtain⟨U2,h1,h2⟩:=step k U hk hI;exact⟨_,U2,rfl,h1,h2⟩) h
 exact⟨U',h1,by rw[hl]at h2;exact h2⟩
theorem cK (h:n<=100000):on [.int (n:Int)]=.val (rng 0 n):=by
 have:-(2 ^ 62)<=(n:Int)/\(n:Int)<2 ^ 62:=by constructor<;>omega
 unfold on;dsimp only;rw[if_pos this,Int.toNat_natCast]
theorem wP {z:Int} (h:0<=z) (h':z<=100000):on [.int z]=.val (rng 0 z.toNat):=by
 have:-(2 ^ 62)<=z/\z<2 ^ 62:=by constructor<;>omega
 unfold on;dsimp only;rw[if_pos this]
theorem y4 (n:Nat):(rng 0 n).length=n:=by unfold rng;simp
theorem zx (h:x∈rng 0 n):∃k:Nat,k<n/\x=.int (k:Int):=by
 unfold rng at h;obtain⟨k,hk,rfl⟩:=List.mem_map.mp h;exact⟨k,List.mem_range.mp hk,by simp⟩
theorem dU {src:Rho->R (List D)} {m:Nat} {e:Rho->R D} {g:Nat->D} (hs:src U=.val (rng 0 m)) (hl:m<=100000) (h:∀k:Nat,k<m->e ((U++List.replicate n none).set i (some (.shr (.int (k:Int)))))=.val (g k)) :
  aW src n (tgN i) tT e U=.val ((List.range m).map g):=by
 unfold aW;rw[hs,ag,if_pos (show(rng 0 m).length<=LIM by rw[y4];exact hl)];have:iN (tgN i) tT e (rng 0 m) (U++List.replicate n none)=.val ((rng 0 m).map λx=>match x with | .int z=>g z.toNat|_=>.non):=sD λx hx=>by
  obtain⟨k,hk,rfl⟩:=zx hx;exact⟨_,rfl,by rw[h k hk];simp⟩
 rw[this,mo];unfold rng;rw[List.map_map]
 congr 1
 apply List.map_congr_left;intro k hk;simp
theorem cy {src:Rho->R (List D)} {e:Rho->R D} {f g:Y->D} {l:List Y} (hs:src U=.val (l.map f)) (hl:l.length<=100000) (h:∀a∈l,e ((U++List.replicate n none).set i (some (.shr (f a))))=.val (g a)) :
  aW src n (tgN i) tT e U=.val (l.map g):=by
 unfold aW;rw[hs,ag,if_pos (show(l.map f).length<=LIM by rw[List.length_map];exact hl)]
 suffices ∀l:List Y,(∀a∈l,e ((U++List.replicate n none).set i (some (.shr (f a))))=.val (g a))->iN (tgN i) tT e (l.map f) (U++List.replicate n none)=.val (l.map g) by
  rw[this l h];rfl
 intro l
 induction l with
 | nil=>intro _;rfl
 | cons a r ih =>
  intro h;have h1:=h a (by simp);have h2:=ih λb hb=>h b (by simp[hb]);rw[List.map_cons];unfold iN;show(noE (tT _)).bind _=_;rw[h2];simp only[tT,mo,ag,if_true];rw[h1];rfl
end DL
namespace DL
open PySem PySem.Spec PyProof.Rows L2
structure Txt (K:Frag) (mg:Str->Option Value) (C:Addr):Prop where
 cl:Cls K C
 nE:NoAttr K C "ends"
 nR:NoAttr K C "rests"
 nT:NoAttr K C "table"
 len:mg "len"=none
 list:mg "list"=none
 tuple:mg "tuple"=none
 range:mg "range"=none
 enumerate:mg "enumerate"=none
 max:mg "max"=none
 isinstance:mg "isinstance"=none
 all:mg "all"=none
 sorted:mg "sorted"=none
 int:mg "int"=none
 bool:mg "bool"=none
 ih:IsH K C
 hall:mg "Hall"=some (.ref C)
 most_boxes:∃t,mg "MOST_BOXES"=some (.int 6 t)
 most_arrows:∃t,mg "MOST_ARROWS"=some (.int 40 t)
 most_places:∃t,mg "MOST_PLACES"=some (.int 3 t)
 most_ties:∃t,mg "MOST_TIES"=some (.int 4 t)
 kt_int:KTy K "int"
 kt_bool:KTy K "bool"
 kt_list:KTy K "list"
 kt_tuple:KTy K "tuple"
abbrev sAt (i:Nat):Stmt:=PySem.Challenge.pw_arrowhall_k07_whole_best_views.main.body.getD i (.Pass ⟨0,0,0,0⟩)
section
variable {C:Addr} {X:Cx} {e:Expr} {p pos:Pos} {F:Rho->R D}
theorem edl (h:EB C X e F) (hg:Gl X "len") (hm:X.mg "len"=none) (hst:starEach [e] X.env=(false,eval e X.env)::starEach [] X.env):ED C X (.Call (.Name "len" p) [e] [] pos) (una aA F):=Cr h hg hm hst (λt ha=>fM j8 hg hm PySem.boot_len ha (he:=hst) (hpl:=ax))
theorem fdl (h:EB C X e F) (hg:Gl X "list") (hm:X.mg "list"=none) (hst:starEach [e] X.env=(false,eval e X.env)::starEach [] X.env):FD C X (.Call (.Name "list" p) [e] [] pos) (fIt F):=zT h hg hm hst (λt ha=>cO j7 hg hm boot_list ha (he:=hst) (hpl:=ax))
end
section
variable {C:Addr} {X:Cx} {x:Str} {p pos pos':Pos} {e:Expr} {es:List Expr} {k n m:Nat} {kr:OK} {den:List D->R D} {F:Rho->R D} {Fa:Rho->R (List D)}
theorem vB (i:Nat) (hN:X.N[i]?=some x:=by rfl) (hv:Vis X.env.scope x:=by first|exact Or.inl rfl|exact Or.inr (Or.inl rfl)|exact Or.inr (Or.inr rfl)) (hd:(x==("__debug__":Str))=false:=by decide) (hcd:(x==("__classdict__":Str))=false:=by decide):EB C X (.Name x pos) (vb i):=Cu (pv i hN hv hd hcd)
theorem vE (i:Nat) (hN:X.N[i]?=some x:=by rfl) (hv:Vis X.env.scope x:=by first|exact Or.inl rfl|exact Or.inr (Or.inl rfl)|exact Or.inr (Or.inr rfl)) (hd:(x==("__debug__":Str))=false:=by decide) (hcd:(x==("__classdict__":Str))=false:=by decide):ED C X (.Name x pos) (vr i):=Co (pv i hN hv hd hcd)
theorem bI {i j}:EB C X (.Constant (.int i) j pos) (kd (.int i)):=EB.of bg
theorem sS (i:Nat) (hN:X.N.Nodup) (he:ED C X e F) (hi:X.N[i]?=some x:=by rfl) (hx:Loc X.env.scope x:=by first|exact Or.inl rfl|exact Or.inr rfl) (hs:swapsWith e (some (.Name x pos')) pos.line X.env=pure false:=by rfl) (hf:X.fn x=true\/X.env.scope.names.lookup x=some .local:=by first|exact .inl rfl|exact .inr rfl):SD C X (.Assign [.Name x pos'] e pos) (asg i F):=Bc hN hi hx he hs hf
theorem gN (i:Nat) (hN:X.N.Nodup) (hi:X.N[i]?=some x:=by rfl) (hx:Loc X.env.scope x:=by first|exact Or.inl rfl|exact Or.inr rfl) (hf:X.fn x=true\/X.env.scope.names.lookup x=some .local:=by first|exact .inl rfl|exact .inr rfl):GD C X (.Name x pos) [i] (tgN i):=zN hN hi hx hf
theorem eF (F:Fn X.prog X.w X.K X.mg X.base C k x n den) (hr:Room m X.A) (ha:AD C X (e::es) Fa) (he:starEach (e::es) X.env=(false,eval e X.env)::starEach es X.env) (hpl:(backTo pos (starEach es X.env)).any (·.1)=false) (hk:k<=m:=by decide) (hg:Gl X x:=by exact rfl) (hx:X.xe=λ_ _=>False:=by rfl) (hdb:(x==("__debug__":Str))=false:=by decide):ED C X (.Call (.Name x p) (e::es) [] pos) (cal n den Fa):=DA F (hr.mono hk) hg ha hx hdb he hpl
end
seal ED EB TD AD FD ID GD WD sV SD SDs ER AR FR KD ND SDi yG yF KOp
variable {P:Program} {w:World} {K:Frag} {mg:Str->Option Value} {base:Heap} {C:Addr}
variable {f a:Addr} {fd:FuncData} (cdv:Value) (A:Around) (outer:List Env) (s:Shared) (H:Hp) (E:XK) (T:Txt K mg C)
abbrev gU:Stmt:=sAt 8
abbrev om:List Str:=["number","count"]
theorem qX:aF om ["number","count"] (ar gU):=by constructor<;>first|rfl|decide +kernel
def h6:Rho->R Out:=(ret (chn (λi j=>decide (i<=j)) (λi j=>decide (i<j)) (kd (.int 0)) (vb 0) (vb 1)))
def aT (ds:List D):R D:=fin (h6 (st0 om ds))
include T in
theorem rJ (F:Fun K "is_below" "is_below" gU a fd) (hm:mg "is_below"=some (.ref a)) (hb:Binds K fd ["number","count"] []):Fn P w K mg base C 1 "is_below" 2 aT :=
 ⟨a,fd,_,be (den:=h6) F qX (λ_ _ _ _ _ _ hr=>(al (aU (yj (f:=λi j=>decide (i<=j)) (g:=λi j=>decide (i<j)) rd AH bI (vB 0) (vB 1))))),hm,F.kp,hb⟩
abbrev dP:Stmt:=sAt 9
abbrev iV:List Str:=["ends","rests"]
theorem lI:aF iV ["ends","rests"] (ar dP):=by constructor<;>first|rfl|decide +kernel
def d_:Rho->R Out:=(sq (iff (eV (tst (chn (λi j=>decide (i<=j)) (λi j=>decide (i<=j)) (kd (.int 1)) (una aA (vb 1)) (kd (.int 6)))))
 bad
 nxt)
 (iff (eV (tst (chn (λi j=>decide (i<=j)) (λi j=>decide (i<=j)) (kd (.int 1)) (una aA (vb 0)) (kd (.int 40)))))
 bad
 nxt))
def bW (ds:List D):R D:=fin (d_ (st0 iV ds))
include T in
theorem lR (F:Fun K "check_counts" "check_counts" dP a fd) (hm:mg "check_counts"=some (.ref a)) (hb:Binds K fd ["ends","rests"] []):Fn P w K mg base C 1 "check_counts" 2 bW :=
 ⟨a,fd,_,be (den:=d_) F lI (λ_ _ _ _ _ _ hr=>(ao (bo (cW (qO (f:=λi j=>decide (i<=j)) (g:=λi j=>decide (i<=j)) rd rd bI (EB.of (edl (vB 1) rfl T.len ae)) (EB.of (j5 rfl T.most_boxes.choose_spec))))
 (al dL)
 aK)
 (al (bo (cW (qO (f:=λi j=>decide (i<=j)) (g:=λi j=>decide (i<=j)) rd rd bI (EB.of (edl (vB 0) rfl T.len ae)) (EB.of (j5 rfl T.most_arrows.choose_spec))))
 (al dL)
 aK)))),hm,F.kp,hb⟩
abbrev fA:Stmt:=sAt 10
abbrev kg:List Str:=["ends","boxes","arrow","pair"]
theorem Ew:aF kg ["ends","boxes"] (ar fA):=by constructor<;>first|rfl|decide +kernel
def fX:Rho->R Out:=(bh (eX (aC (vr 0) aN)) (tg2 2 3)
 (iff (orB (tst (bin fne (una aA (vb 3)) (kd (.int 2)))) (orB (eV (tst (cal 2 aT (aC (bin fix (vb 3) (kd (.int 0))) (aC (vr 1) aN))))) (eV (tst (cal 2 aT (aC (bin fix (vb 3) (kd (.int 1))) (aC (vr 1) aN)))))))
 bad
 nxt))
def cQ (ds:List D):R D:=fin (fX (st0 kg ds))
variable (f17:Fn P w K mg base C 1 "is_below" 2 aT)
include T f17 in
theorem oy (F:Fun K "check_ends" "check_ends" fA a fd) (hm:mg "check_ends"=some (.ref a)) (hb:Binds K fd ["ends","boxes"] []):Fn P w K mg base C 2 "check_ends" 2 cQ :=
 ⟨a,fd,_,be (den:=fX) F Ew (λ_ _ _ _ _ _ hr=>(al (bp PassesOwn.never rfl (cG rfl T.enumerate (ah (vE 0) aj ae) (bf ae)) (cS rfl (aD (i:=2) Ew.nd rfl (Or.inl rfl)) (aD (i:=3) Ew.nd rfl (Or.inl rfl)))
 (al (bo (lH (fI (dn (br hr) (EB.of (edl (vB 3) rfl T.len ae)) bI) (fI (cW (cr (eF f17 hr (ah (au (vB 3) bI) (ah (vE 1) aj ae) ai) ai (aq ae ax)))) (fH (cW (cr (eF f17 hr (ah (au (vB 3) bI) (ah (vE 1) aj ae) ai) ai (aq ae ax))))))))
 (al dL)
 aK))))),hm,F.kp,hb⟩
abbrev eM:Stmt:=sAt 11
abbrev jm:List Str:=["ends","rests","box","rest"]
theorem Ez:aF jm ["ends","rests"] (ar eM):=by constructor<;>first|rfl|decide +kernel
def fm:Rho->R Out:=(bh (eX (aC (vr 1) aN)) (tg2 2 3)
 (iff (orB (eV (tst (cal 2 aT (aC (vr 3) (aC (una aA (vb 0)) aN))))) (tst (bin fne (bin fix (vb 0) (vb 3)) (eT (aC (vr 2) (aC (vr 2) aN))))))
 bad
 nxt))
def cC (ds:List D):R D:=fin (fm (st0 jm ds))
include T f17 in
theorem ng (F:Fun K "check_rests" "check_rests" eM a fd) (hm:mg "check_rests"=some (.ref a)) (hb:Binds K fd ["ends","rests"] []):Fn P w K mg base C 2 "check_rests" 2 cC :=
 ⟨a,fd,_,be (den:=fm) F Ez (λ_ _ _ _ _ _ hr=>(al (bp PassesOwn.never rfl (cG rfl T.enumerate (ah (vE 1) aj ae) (bf ae)) (cS rfl (aD (i:=2) Ez.nd rfl (Or.inl rfl)) (aD (i:=3) Ez.nd rfl (Or.inl rfl)))
 (al (bo (lH (fI (cW (cr (eF f17 hr (ah (vE 3) (ah (edl (vB 0) rfl T.len ae) aj az) ae) ae (aq az ax)))) (fH (dn (br hr) (EB.of (au (vB 0) (vB 3))) (EB.of (cj (ah (vE 2) (ah (vE 2) aj ae) ae)))))))
 (al dL)
 aK))))),hm,F.kp,hb⟩
abbrev fy:Stmt:=sAt 12
abbrev h8:List Str:=["table","arrows","one","row"]
theorem Ex:aF h8 ["table","arrows"] (ar fy):=by constructor<;>first|rfl|decide +kernel
def fW:Rho->R Out:=(sq (iff (tst (bin fne (una aA (vb 0)) (vb 1)))
 bad
 nxt)
 (bh (eX (aC (vr 0) aN)) (tg2 2 3)
 (iff (tst (bin fne (una aA (vb 3)) (vb 1)))
 bad
 nxt)))
def cP (ds:List D):R D:=fin (fW (st0 h8 ds))
include T in
theorem ow (F:Fun K "check_form" "check_form" fy a fd) (hm:mg "check_form"=some (.ref a)) (hb:Binds K fd ["table","arrows"] []):Fn P w K mg base C 1 "check_form" 2 cP :=
 ⟨a,fd,_,be (den:=fW) F Ex (λ_ _ _ _ _ _ hr=>(ao (bo (dn (br hr) (EB.of (edl (vB 0) rfl T.len ae)) (vB 1))
 (al dL)
 aK)
 (al (bp PassesOwn.never rfl (cG rfl T.enumerate (ah (vE 0) aj ae) (bf ae)) (cS rfl (aD (i:=2) Ex.nd rfl (Or.inl rfl)) (aD (i:=3) Ex.nd rfl (Or.inl rfl)))
 (al (bo (dn (br hr) (EB.of (edl (vB 3) rfl T.len ae)) (vB 1))
 (al dL)
 aK)))))),hm,F.kp,hb⟩
abbrev eN:Stmt:=sAt 14
abbrev jo:List Str:=["ends","one","other","made"]
theorem mL:aF jo ["ends","one","other","made"] (ar eN):=by constructor<;>first|rfl|decide +kernel
def fo:Rho->R Out:=(iff (tst (bin fne (bin fix (bin fix (vb 0) (vb 1)) (kd (.int 1))) (bin fix (bin fix (vb 0) (vb 2)) (kd (.int 0)))))
 (iff (tst (bin fne (vb 3) (una qj (kd (.int 1)))))
 bad
 nxt)
 (iff (orB (eV (tst (cal 2 aT (aC (vr 3) (aC (una aA (vb 0)) aN))))) (tst (bin fne (bin fix (vb 0) (vb 3)) (eT (aC (bin fix (bin fix (vb 0) (vb 1)) (kd (.int 0))) (aC (bin fix (bin fix (vb 0) (vb 2)) (kd (.int 1))) aN))))))
 bad
 nxt))
def cD (ds:List D):R D:=fin (fo (st0 jo ds))
include T f17 in
theorem nh (F:Fun K "check_entry" "check_entry" eN a fd) (hm:mg "check_entry"=some (.ref a)) (hb:Binds K fd ["ends","one","other","made"] []):Fn P w K mg base C 2 "check_entry" 4 cD :=
 ⟨a,fd,_,be (den:=fo) F mL (λ_ _ _ _ _ _ hr=>(al (bo (dn (br hr) (EB.of (au (EB.of (au (vB 0) (vB 1))) bI)) (EB.of (au (EB.of (au (vB 0) (vB 2))) bI)))
 (al (bo (dn (br hr) (vB 3) (EB.of (qy bI)))
 (al dL)
 aK))
 (al (bo (lH (fI (cW (cr (eF f17 hr (ah (vE 3) (ah (edl (vB 0) rfl T.len ae) aj az) ae) ae (aq az ax)))) (fH (dn (br hr) (EB.of (au (vB 0) (vB 3))) (EB.of (cj (ah (au (EB.of (au (vB 0) (vB 1))) bI) (ah (au (EB.of (au (vB 0) (vB 2))) bI) aj ai) ai)))))))
 (al dL)
 aK))))),hm,F.kp,hb⟩
abbrev eK:Stmt:=sAt 13
abbrev jl:List Str:=["ends","table","one","row","other","made"]
theorem EA:aF jl ["ends","table"] (ar eK):=by constructor<;>first|rfl|decide +kernel
def fk:Rho->R Out:=(bh (eX (aC (vr 1) aN)) (tg2 2 3)
 (bh (eX (aC (vr 3) aN)) (tg2 4 5)
 (drp (cal 4 cD (aC (vr 0) (aC (vr 2) (aC (vr 4) (aC (vr 5) aN))))))))
def cB (ds:List D):R D:=fin (fk (st0 jl ds))
variable (f7:Fn P w K mg base C 2 "check_entry" 4 cD)
include T f7 in
theorem nc (F:Fun K "check_table" "check_table" eK a fd) (hm:mg "check_table"=some (.ref a)) (hb:Binds K fd ["ends","table"] []):Fn P w K mg base C 3 "check_table" 2 cB :=
 ⟨a,fd,_,be (den:=fk) F EA (λ_ _ _ _ _ _ hr=>(al (bp PassesOwn.never rfl (cG rfl T.enumerate (ah (vE 1) aj ae) (bf ae)) (cS rfl (aD (i:=2) EA.nd rfl (Or.inl rfl)) (aD (i:=3) EA.nd rfl (Or.inl rfl)))
 (al (bp PassesOwn.never rfl (cG rfl T.enumerate (ah (vE 3) aj ae) (bf ae)) (cS rfl (aD (i:=4) EA.nd rfl (Or.inl rfl)) (aD (i:=5) EA.nd rfl (Or.inl rfl)))
 (al (jE (EB.of (eF f7 hr (ah (vE 0) (ah (vE 2) (ah (vE 4) (ah (vE 5) aj ae) ae) ae) ae) ae (aq ae (aq ae (aq ae ax)))))))))))),hm,F.kp,hb⟩
abbrev bX:Stmt:=sAt 15
abbrev e8:List Str:=["ends","rests","table","arrow","pair"]
theorem Ev:aF e8 ["ends","rests","table"] (ar bX):=by constructor<;>first|rfl|decide +kernel
def cI:Rho->R Out:=(bh (eX (aC (vr 0) aN)) (tg2 3 4)
 (iff (orB (tst (bin fne (bin fix (bin fix (vb 2) (bin fix (vb 1) (bin fix (vb 4) (kd (.int 0))))) (vb 3)) (vb 3))) (tst (bin fne (bin fix (bin fix (vb 2) (vb 3)) (bin fix (vb 1) (bin fix (vb 4) (kd (.int 1))))) (vb 3))))
 bad
 nxt))
def bn (ds:List D):R D:=fin (cI (st0 e8 ds))
include T in
theorem ic (F:Fun K "check_beside_rests" "check_beside_rests" bX a fd) (hm:mg "check_beside_rests"=some (.ref a)) (hb:Binds K fd ["ends","rests","table"] []):Fn P w K mg base C 1 "check_beside_rests" 3 bn :=
 ⟨a,fd,_,be (den:=cI) F Ev (λ_ _ _ _ _ _ hr=>(al (bp PassesOwn.never rfl (cG rfl T.enumerate (ah (vE 0) aj ae) (bf ae)) (cS rfl (aD (i:=3) Ev.nd rfl (Or.inl rfl)) (aD (i:=4) Ev.nd rfl (Or.inl rfl)))
 (al (bo (lH (fI (dn (br hr) (EB.of (au (EB.of (au (vB 2) (EB.of (au (vB 1) (EB.of (au (vB 4) bI)))))) (vB 3))) (vB 3)) (fH (dn (br hr) (EB.of (au (EB.of (au (vB 2) (vB 3))) (EB.of (au (vB 1) (EB.of (au (vB 4) bI)))))) (vB 3)))))
 (al dL)
 aK))))),hm,F.kp,hb⟩
abbrev dO:Stmt:=sAt 17
abbrev fY:List Str:=["table","one","other","made","third","later"]
theorem EC:aF fY ["table","one","other","made"] (ar dO):=by constructor<;>first|rfl|decide +kernel
def d9:Rho->R Out:=(bh (eX (aC (bin fix (vb 0) (vb 2)) aN)) (tg2 4 5)
 (iff (CD (tst (bin fne (vb 5) (una qj (kd (.int 1))))) (tst (bin fne (bin fix (bin fix (vb 0) (vb 3)) (vb 4)) (bin fix (bin fix (vb 0) (vb 1)) (vb 5)))))
 bad
 nxt))
def bV (ds:List D):R D:=fin (d9 (st0 fY ds))
include T in
theorem lQ (F:Fun K "check_thirds" "check_thirds" dO a fd) (hm:mg "check_thirds"=some (.ref a)) (hb:Binds K fd ["table","one","other","made"] []):Fn P w K mg base C 1 "check_thirds" 4 bV :=
 ⟨a,fd,_,be (den:=d9) F EC (λ_ _ _ _ _ _ hr=>(al (bp PassesOwn.never rfl (cG rfl T.enumerate (ah (au (vB 0) (vB 2)) aj ai) (bf ai)) (cS rfl (aD (i:=4) EC.nd rfl (Or.inl rfl)) (aD (i:=5) EC.nd rfl (Or.inl rfl)))
 (al (bo (lH (AT (dn (br hr) (vB 5) (EB.of (qy bI))) (yK (dn (br hr) (EB.of (au (EB.of (au (vB 0) (vB 3))) (vB 4))) (EB.of (au (EB.of (au (vB 0) (vB 1))) (vB 5)))))))
 (al dL)
 aK))))),hm,F.kp,hb⟩
abbrev dN:Stmt:=sAt 16
abbrev iU:List Str:=["table","one","row","other","made"]
theorem EE:aF iU ["table"] (ar dN):=by constructor<;>first|rfl|decide +kernel
def d8:Rho->R Out:=(bh (eX (aC (vr 0) aN)) (tg2 1 2)
 (bh (eX (aC (vr 2) aN)) (tg2 3 4)
 (iff (tst (bin fne (vb 4) (una qj (kd (.int 1)))))
 (drp (cal 4 bV (aC (vr 0) (aC (vr 1) (aC (vr 3) (aC (vr 4) aN))))))
 nxt)))
def bU (ds:List D):R D:=fin (d8 (st0 iU ds))
variable (f12:Fn P w K mg base C 1 "check_thirds" 4 bV)
include T f12 in
theorem lP (F:Fun K "check_threes" "check_threes" dN a fd) (hm:mg "check_threes"=some (.ref a)) (hb:Binds K fd ["table"] []):Fn P w K mg base C 2 "check_threes" 1 bU :=
 ⟨a,fd,_,be (den:=d8) F EE (λ_ _ _ _ _ _ hr=>(al (bp PassesOwn.never rfl (cG rfl T.enumerate (ah (vE 0) aj ae) (bf ae)) (cS rfl (aD (i:=1) EE.nd rfl (Or.inl rfl)) (aD (i:=2) EE.nd rfl (Or.inl rfl)))
 (al (bp PassesOwn.never rfl (cG rfl T.enumerate (ah (vE 2) aj ae) (bf ae)) (cS rfl (aD (i:=3) EE.nd rfl (Or.inl rfl)) (aD (i:=4) EE.nd rfl (Or.inl rfl)))
 (al (bo (dn (br hr) (vB 4) (EB.of (qy bI)))
 (al (jE (EB.of (eF f12 hr (ah (vE 0) (ah (vE 1) (ah (vE 3) (ah (vE 4) aj ae) ae) ae) ae) ae (aq ae (aq ae (aq ae ax)))))))
 aK))))))),hm,F.kp,hb⟩
abbrev bE:Stmt:=zL (sAt 18) 0
abbrev eU:List Str:=["self","ends","rests","table"]
theorem mM:aF eU ["self","ends","rests","table"] (ar bE):=by constructor<;>first|rfl|decide +kernel
abbrev Nc_Hall___init_0:List Str:=["self","ends","rests","table","row"]
theorem kG:Nc_Hall___init_0.Nodup:=by decide +kernel
def gO:Rho->R D:=Af [(cal 2 bW (aC (vr 1) (aC (vr 2) aN))),(cal 2 cQ (aC (vr 1) (aC (una aA (vb 2)) aN))),(cal 2 cC (aC (vr 1) (aC (vr 2) aN))),(cal 2 cP (aC (vr 3) (aC (una aA (vb 1)) aN))),(cal 2 cB (aC (vr 1) (aC (vr 3) aN))),(cal 3 bn (aC (vr 1) (aC (vr 2) (aC (vr 3) aN)))),(cal 1 bU (aC (vr 3) aN))] (fIt (vb 1)) (fIt (vb 2)) (aW (fIt (vr 3)) 1 (tgN 4) tT (eLs (fIt (vb 4))))
variable (f3:Fn P w K mg base C 1 "check_beside_rests" 3 bn)
variable (f5:Fn P w K mg base C 1 "check_counts" 2 bW)
variable (f6:Fn P w K mg base C 2 "check_ends" 2 cQ)
variable (f8:Fn P w K mg base C 1 "check_form" 2 cP)
variable (f10:Fn P w K mg base C 2 "check_rests" 2 cC)
variable (f11:Fn P w K mg base C 3 "check_table" 2 cB)
variable (f13:Fn P w K mg base C 2 "check_threes" 1 bU)
include T f3 f5 f6 f8 f10 f11 f13 in
theorem kX (hr:Room 3 (A.deeper (envOfC "Hall.__init__" (ar bE) s.heap.objs.size f cdv))) :
  PSs (ii CX0 P w K mg base eU "Hall.__init__" (ar bE) f cdv A outer s H E).nox (cJ bE) (tCk C (ii CX0 P w K mg base eU "Hall.__init__" (ar bE) f cdv A outer s H E).nox [(cal 2 bW (aC (vr 1) (aC (vr 2) aN))),(cal 2 cQ (aC (vr 1) (aC (una aA (vb 2)) aN))),(cal 2 cC (aC (vr 1) (aC (vr 2) aN))),(cal 2 cP (aC (vr 3) (aC (una aA (vb 1)) aN))),(cal 2 cB (aC (vr 1) (aC (vr 3) aN))),(cal 3 bn (aC (vr 1) (aC (vr 2) (aC (vr 3) aN)))),(cal 1 bU (aC (vr 3) aN))] (tI C (ii CX0 P w K mg base eU "Hall.__init__" (ar bE) f cdv A outer s H E).nox (fIt (vb 1)) (fIt (vb 2)) (aW (fIt (vr 3)) 1 (tgN 4) tT (eLs (fIt (vb 4)))))) :=
 (jq (mP (EB.of (eF f5 hr (ah (vE 1) (ah (vE 2) aj ae) ae) ae (aq ae ax))))
 (jq (mP (EB.of (eF f6 hr (ah (vE 1) (ah (edl (vB 2) rfl T.len ae) aj az) ae) ae (aq az ax))))
 (jq (mP (EB.of (eF f10 hr (ah (vE 1) (ah (vE 2) aj ae) ae) ae (aq ae ax))))
 (jq (mP (EB.of (eF f8 hr (ah (vE 3) (ah (edl (vB 1) rfl T.len ae) aj az) ae) ae (aq az ax))))
 (jq (mP (EB.of (eF f11 hr (ah (vE 1) (ah (vE 3) aj ae) ae) ae (aq ae ax))))
 (jq (mP (EB.of (eF f3 hr (ah (vE 1) (ah (vE 2) (ah (vE 3) aj ae) ae) ae) ae (aq ae (aq ae ax)))))
 (jq (mP (EB.of (eF f13 hr (ah (vE 3) aj ae) ae ax)))
 (C_ (wX (pv 0) (fdl (vB 1) rfl T.list ae)) (wX (pv 0) (fdl (vB 2) rfl T.list ae)) (wX (pv 0) (b_ (N':=Nc_Hall___init_0) (n:=1) rfl rfl rfl (eW 4) bL (bA (vE 3)) (λL cs s H fp=>(gN 4 kG)) (λL cs s H fp=>bu) (λL cs s H fp=>(cV (fdl (vB 4) rfl T.list ae)))))))))))))
include T f3 f5 f6 f8 f10 f11 f13 in
theorem ni (F:Fun K "__init__" "Hall.__init__" bE a fd) (M:Mk K C a) (hb:Binds K fd ["self","ends","rests","table"] []):FnH P w K mg base C 4 gO :=
 ⟨a,fd,M,zJ F mM T.cl T.nE T.nR T.nT (λcdv A outer s H E hr=>kX cdv A outer s H E T f3 f5 f6 f8 f10 f11 f13 hr),T.hall,hb⟩
abbrev gi:Stmt:=sAt 19
abbrev lG:List Str:=["hall","box"]
theorem pA:aF lG ["hall","box"] (ar gi):=by constructor<;>first|rfl|decide +kernel
def gD:Rho->R Out:=(iff (eV (tst (cal 2 aT (aC (vr 1) (aC (una aA (una (dI 1) (vb 0))) aN)))))
 bad
 nxt)
def ce (ds:List D):R D:=fin (gD (st0 lG ds))
include T f17 in
theorem qa (F:Fun K "check_box" "check_box" gi a fd) (hm:mg "check_box"=some (.ref a)) (hb:Binds K fd ["hall","box"] []):Fn P w K mg base C 2 "check_box" 2 ce :=
 ⟨a,fd,_,be (den:=gD) F pA (λ_ _ _ _ _ _ hr=>(al (bo (cW (cr (eF f17 hr (ah (vE 1) (ah (edl (EB.of (e_ (k:=1) (vB 0) T.cl T.nR rfl (λ_ _ _=>rfl))) rfl T.len bw) aj az) ae) ae (aq az ax))))
 (al dL)
 aK))),hm,F.kp,hb⟩
abbrev jI:Stmt:=sAt 21
abbrev sU:List Str:=["table","other"]
theorem vH:aF sU ["table","other"] (ar jI):=by constructor<;>first|rfl|decide +kernel
abbrev Nc_column_0:List Str:=["table","other","row"]
theorem rB:Nc_column_0.Nodup:=by decide +kernel
def jz:Rho->R Out:=(ret (eLs (aW (fIt (vr 0)) 1 (tgN 2) tT (bin fix (vb 2) (vb 1)))))
def fG (ds:List D):R D:=fin (jz (st0 sU ds))
include T in
theorem vT (F:Fun K "column" "column" jI a fd) (hm:mg "column"=some (.ref a)) (hb:Binds K fd ["table","other"] []):Fn P w K mg base C 1 "column" 2 fG :=
 ⟨a,fd,_,be (den:=jz) F vH (λ_ _ _ _ _ _ hr=>(al (aU (cV (b_ (N':=Nc_column_0) (n:=1) rfl rfl rfl (eW 2) bL (bA (vE 0)) (λL cs s H fp=>(gN 2 rB)) (λL cs s H fp=>bu) (λL cs s H fp=>(au (vB 2) (vB 1)))))))),hm,F.kp,hb⟩
abbrev jF:Stmt:=sAt 20
abbrev sR:List Str:=["hall","ends","table"]
theorem EV:aF sR ["hall"] (ar jF):=by constructor<;>first|rfl|decide +kernel
abbrev Nc_turned_0:List Str:=["hall","ends","table","pair"]
theorem rq:Nc_turned_0.Nodup:=by decide +kernel
abbrev Nc_turned_1:List Str:=["hall","ends","table","arrow"]
theorem rm:Nc_turned_1.Nodup:=by decide +kernel
def jx:Rho->R Out:=(sq (asg 1 (eLs (aW (fIt (una (dI 0) (vb 0))) 1 (tgN 3) tT (eT (aC (bin fix (vb 3) (kd (.int 1))) (aC (bin fix (vb 3) (kd (.int 0))) aN))))))
 (sq (asg 2 (eLs (aW (bF (aC (una aA (una (dI 0) (vb 0))) aN)) 1 (tgN 3) tT (cal 2 fG (aC (una (dI 2) (vb 0)) (aC (vr 3) aN))))))
 (ret (mkH gO (aC (vr 1) (aC (una (dI 1) (vb 0)) (aC (vr 2) aN)))))))
def gM (ds:List D):R D:=fin (jx (st0 sR ds))
variable (f0:FnH P w K mg base C 4 gO)
variable (f14:Fn P w K mg base C 1 "column" 2 fG)
include T f0 f14 in
theorem vR (F:Fun K "turned" "turned" jF a fd) (hm:mg "turned"=some (.ref a)) (hb:Binds K fd ["hall"] []):Fn P w K mg base C 6 "turned" 1 gM :=
 ⟨a,fd,_,be (den:=jx) F EV (λ_ _ _ _ _ _ hr=>(ao (fv (cg (i:=1) (aD (i:=1) EV.nd rfl (Or.inl rfl)) (N':=Nc_turned_0) (n:=1) rfl rfl rfl (eW 3) bL (bA (e_ (k:=0) (vB 0) T.cl T.nE rfl (λ_ _ _=>rfl))) (λL cs s H fp=>(gN 3 rq)) (λL cs s H fp=>bu) (λL cs s H fp=>(cj (ah (au (vB 3) bI) (ah (au (vB 3) bI) aj ai) ai))) rfl))
 (ao (fv (cg (i:=2) (aD (i:=2) EV.nd rfl (Or.inl rfl)) (N':=Nc_turned_1) (n:=1) rfl rfl rfl (eW 3) bL (bH rfl T.range (ah (edl (EB.of (e_ (k:=0) (vB 0) T.cl T.nE rfl (λ_ _ _=>rfl))) rfl T.len bw) aj az) (bf az)) (λL cs s H fp=>(gN 3 rm)) (λL cs s H fp=>bu) (λL cs s H fp=>(eF f14 hr (ah (e_ (k:=2) (vB 0) T.cl T.nT rfl (λ_ _ _=>rfl)) (ah (vE 3) aj ae) bw) bw (aq ae ax))) rfl))
 (al (aU (u7 f0 (hr.mono (by decide)) rfl (ah (vE 1) (ah (e_ (k:=1) (vB 0) T.cl T.nR rfl (λ_ _ _=>rfl)) (ah (vE 2) aj ae) bw) ae) rfl (he:=ae) (hpl:=(aq bw (aq ae ax))))))))),hm,F.kp,hb⟩
abbrev i0:Stmt:=sAt 22
abbrev pf:List Str:=["hall","box","other"]
theorem tz:aF pf ["hall","box","other"] (ar i0):=by constructor<;>first|rfl|decide +kernel
abbrev Nc_between_0:List Str:=["hall","box","other","arrow","pair"]
theorem jQ:Nc_between_0.Nodup:=by decide +kernel
def iL:Rho->R Out:=(sq (drp (cal 2 ce (aC (vr 0) (aC (vr 1) aN))))
 (sq (drp (cal 2 ce (aC (vr 0) (aC (vr 2) aN))))
 (ret (eLs (aW (eX (aC (una (dI 0) (vb 0)) aN)) 2 (tg2 3 4) (tst (bin feq (vb 4) (eT (aC (vr 1) (aC (vr 2) aN))))) (vr 3))))))
def bm (ds:List D):R D:=fin (iL (st0 pf ds))
variable (f4:Fn P w K mg base C 2 "check_box" 2 ce)
include T f4 in
theorem tN (F:Fun K "between" "between" i0 a fd) (hm:mg "between"=some (.ref a)) (hb:Binds K fd ["hall","box","other"] []):Fn P w K mg base C 3 "between" 3 bm :=
 ⟨a,fd,_,be (den:=iL) F tz (λ_ _ _ _ _ _ hr=>(ao (jE (EB.of (eF f4 hr (ah (vE 0) (ah (vE 1) aj ae) ae) ae (aq ae ax))))
 (ao (jE (EB.of (eF f4 hr (ah (vE 0) (ah (vE 2) aj ae) ae) ae (aq ae ax))))
 (al (aU (cV (b_ (N':=Nc_between_0) (n:=2) rfl rfl rfl (Dq 3) wD (cG rfl T.enumerate (ah (e_ (k:=0) (vB 0) T.cl T.nE rfl (λ_ _ _=>rfl)) aj bw) (bf bw)) (λL cs s H fp=>(cS rfl (aD (i:=3) jQ rfl (Or.inl rfl)) (aD (i:=4) jQ rfl (Or.inl rfl)))) (λL cs s H fp=>(ms (h9 (br hr) (vB 4) (EB.of (cj (ah (vE 1) (ah (vE 2) aj ae) ae)))))) (λL cs s H fp=>(vE 3))))))))),hm,F.kp,hb⟩
abbrev jH:Stmt:=sAt 27
abbrev sT:List Str:=["hall","places","tie"]
theorem vG:aF sT ["hall","places","tie"] (ar jH):=by constructor<;>first|rfl|decide +kernel
def jy:Rho->R Out:=(sq (iff (orB (tst (bin fne (una aA (vb 2)) (kd (.int 3)))) (orB (eV (tst (cal 2 aT (aC (bin fix (vb 2) (kd (.int 0))) (aC (una aA (vb 1)) aN))))) (eV (tst (cal 2 aT (aC (bin fix (vb 2) (kd (.int 1))) (aC (una aA (vb 1)) aN)))))))
 (ret (kd (.bl false)))
 nxt)
 (ret (yC (cal 2 aT (aC (bin fix (vb 2) (kd (.int 2))) (aC (una aA (una (dI 0) (vb 0))) aN))) (bin feq (bin fix (una (dI 0) (vb 0)) (bin fix (vb 2) (kd (.int 2)))) (eT (aC (bin fix (vb 1) (bin fix (vb 2) (kd (.int 0)))) (aC (bin fix (vb 1) (bin fix (vb 2) (kd (.int 1)))) aN)))))))
def fF (ds:List D):R D:=fin (jy (st0 sT ds))
include T f17 in
theorem vS (F:Fun K "is_tie" "is_tie" jH a fd) (hm:mg "is_tie"=some (.ref a)) (hb:Binds K fd ["hall","places","tie"] []):Fn P w K mg base C 2 "is_tie" 3 fF :=
 ⟨a,fd,_,be (den:=jy) F vG (λ_ _ _ _ _ _ hr=>(ao (bo (lH (fI (dn (br hr) (EB.of (edl (vB 2) rfl T.len ae)) bI) (fI (cW (cr (eF f17 hr (ah (au (vB 2) bI) (ah (edl (vB 1) rfl T.len ae) aj az) ai) ai (aq az ax)))) (fH (cW (cr (eF f17 hr (ah (au (vB 2) bI) (ah (edl (vB 1) rfl T.len ae) aj az) ai) ai (aq az ax))))))))
 (al (aU gn))
 aK)
 (al (aU (t7 (eF f17 hr (ah (au (vB 2) bI) (ah (edl (EB.of (e_ (k:=0) (vB 0) T.cl T.nE rfl (λ_ _ _=>rfl))) rfl T.len bw) aj az) ai) ai (aq az ax)) (t6 (u9 (br hr) (EB.of (au (EB.of (e_ (k:=0) (vB 0) T.cl T.nE rfl (λ_ _ _=>rfl))) (EB.of (au (vB 2) bI)))) (EB.of (cj (ah (au (vB 1) (EB.of (au (vB 2) bI))) (ah (au (vB 1) (EB.of (au (vB 2) bI))) aj ai) ai)))))))))),hm,F.kp,hb⟩
abbrev dz:Stmt:=sAt 26
abbrev h_:List Str:=["hall","places","ties","place","box","number","tie"]
theorem Ey:aF h_ ["hall","places","ties"] (ar dz):=by constructor<;>first|rfl|decide +kernel
def dY:Rho->R Out:=(sq (iff (orB (tst (bin (iI fgt) (una aA (vb 1)) (kd (.int 3)))) (tst (bin (iI fgt) (una aA (vb 2)) (kd (.int 4)))))
 bad
 nxt)
 (sq (bh (eX (aC (vr 1) aN)) (tg2 3 4)
 (iff (eV (tst (cal 2 aT (aC (vr 4) (aC (una aA (una (dI 1) (vb 0))) aN)))))
 bad
 nxt))
 (bh (eX (aC (vr 2) aN)) (tg2 5 6)
 (iff (eV (tst (cal 3 fF (aC (vr 0) (aC (vr 1) (aC (vr 6) aN))))))
 bad
 nxt))))
def bQ (ds:List D):R D:=fin (dY (st0 h_ ds))
variable (f19:Fn P w K mg base C 2 "is_tie" 3 fF)
include T f17 f19 in
theorem kH (F:Fun K "check_picture" "check_picture" dz a fd) (hm:mg "check_picture"=some (.ref a)) (hb:Binds K fd ["hall","places","ties"] []):Fn P w K mg base C 3 "check_picture" 3 bQ :=
 ⟨a,fd,_,be (den:=dY) F Ey (λ_ _ _ _ _ _ hr=>(ao (bo (lH (fI (oJ (EB.of (edl (vB 1) rfl T.len ae)) (EB.of (j5 rfl T.most_places.choose_spec))) (fH (oJ (EB.of (edl (vB 2) rfl T.len ae)) (EB.of (j5 rfl T.most_ties.choose_spec))))))
 (al dL)
 aK)
 (ao (bp PassesOwn.never rfl (cG rfl T.enumerate (ah (vE 1) aj ae) (bf ae)) (cS rfl (aD (i:=3) Ey.nd rfl (Or.inl rfl)) (aD (i:=4) Ey.nd rfl (Or.inl rfl)))
 (al (bo (cW (cr (eF f17 hr (ah (vE 4) (ah (edl (EB.of (e_ (k:=1) (vB 0) T.cl T.nR rfl (λ_ _ _=>rfl))) rfl T.len bw) aj az) ae) ae (aq az ax))))
 (al dL)
 aK)))
 (al (bp PassesOwn.never rfl (cG rfl T.enumerate (ah (vE 2) aj ae) (bf ae)) (cS rfl (aD (i:=5) Ey.nd rfl (Or.inl rfl)) (aD (i:=6) Ey.nd rfl (Or.inl rfl)))
 (al (bo (cW (cr (eF f19 hr (ah (vE 0) (ah (vE 1) (ah (vE 6) aj ae) ae) ae) ae (aq ae (aq ae ax)))))
 (al dL)
 aK))))))),hm,F.kp,hb⟩
abbrev gh:Stmt:=sAt 28
abbrev lF:List Str:=["hall","arrows","tie"]
theorem pz:aF lF ["hall","arrows","tie"] (ar gh):=by constructor<;>first|rfl|decide +kernel
def gC:Rho->R Out:=(ret (bin feq (bin fix (bin fix (una (dI 2) (vb 0)) (bin fix (vb 1) (bin fix (vb 2) (kd (.int 0))))) (bin fix (vb 2) (kd (.int 2)))) (bin fix (vb 1) (bin fix (vb 2) (kd (.int 1))))))
def bO (ds:List D):R D:=fin (gC (st0 lF ds))
include T in
theorem p_ (F:Fun K "keeps_tie" "keeps_tie" gh a fd) (hm:mg "keeps_tie"=some (.ref a)) (hb:Binds K fd ["hall","arrows","tie"] []):Fn P w K mg base C 1 "keeps_tie" 3 bO :=
 ⟨a,fd,_,be (den:=gC) F pz (λ_ _ _ _ _ _ hr=>(al (aU (u9 (br hr) (EB.of (au (EB.of (au (EB.of (e_ (k:=2) (vB 0) T.cl T.nT rfl (λ_ _ _=>rfl))) (EB.of (au (vB 1) (EB.of (au (vB 2) bI)))))) (EB.of (au (vB 2) bI)))) (EB.of (au (vB 1) (EB.of (au (vB 2) bI)))))))),hm,F.kp,hb⟩
abbrev me:Stmt:=sAt 30
abbrev vw:List Str:=["hall","begun","arrows","due","longer","told","arrow","more"]
theorem EF:aF vw ["hall","begun","arrows","due"] (ar me):=by constructor<;>first|rfl|decide +kernel
abbrev Nc_grown_0:List Str:=["hall","begun","arrows","due","longer","told","arrow","more","tie"]
theorem tL:Nc_grown_0.Nodup:=by decide +kernel
def kR:Rho->R D:=(sqK (trS 4 (.l (.l .s)) (eLs (fS aN)))
 (sqK (bh (fIt (vr 1)) (tgN 5)
 (bh (fIt (vr 2)) (tgN 6)
 (sq (trS 7 (.l .s) (eLs (flL (wa (vb 5) (eL (aC (vr 6) aN))))))
 (iff (tst (una qp (eLs (aW (fIt (vr 3)) 1 (tgN 8) tT (flF (cal 3 bO (aC (vb 0) (aC (va 7) (aC (vb 8) aN)))))))))
 (asO (apM 4 7 (.l .s) (pN0 4)))
 nxt))))
 (rtK 4 (.l (.l .s)))))
def e7 (ds:List D):R D:=kR (st0 vw ds)
variable (f20:Fn P w K mg base C 1 "keeps_tie" 3 bO)
include T f20 in
theorem xA (F:Fun K "grown" "grown" me a fd) (hm:mg "grown"=some (.ref a)) (hb:Binds K fd ["hall","begun","arrows","due"] []):FnK P w K mg base C 2 "grown" 4 (.l (.l .s)) e7 :=
 ⟨a,fd,_,vk (den:=kR) F EF (λ_ _ _ _ _ _ hr=>(jD (pu (i:=4) EF.nd rfl (Or.inl rfl) B3)
 (jD (bp PassesOwn.never rfl (bA (vE 1)) (gN 5 EF.nd)
 (al (bp PassesOwn.never rfl (bA (vE 2)) (gN 6 EF.nd)
 (ao (pu (i:=7) EF.nd rfl (Or.inr rfl) (AJ (Dw (Cb (ly (vB 5)) (ly (EB.of (bT (ah (vE 6) aj ae))))))))
 (al (bo (cr (yk rfl rfl T.all bG (EB.of (cV (b_ (N':=Nc_grown_0) (n:=1) rfl rfl rfl (eW 8) bL (bA (vE 3)) (λL cs s H fp=>(gN 8 tL)) (λL cs s H fp=>bu) (λL cs s H fp=>(u8 (AN f20 (hr.mono (by decide)) rfl (fE (ly (vB 0)) (fE (qt (pv 7)) (fE (ly (vB 8)) ue ae) ae) ae) (he:=ae) (hpl:=(aq ae (aq ae ax)))))))))))
 (al (CT (wI (k':=(.l .s)) (uK (pv 4)) (pv 7) (hst:=ae))))
 aK))))))
 (qT (pv 4))))),hm,F.kp,hb⟩
abbrev fw:Stmt:=sAt 29
abbrev ke:List Str:=["hall","places","ties","box","begun","place","goal","due"]
theorem EW:aF ke ["hall","places","ties","box"] (ar fw):=by constructor<;>first|rfl|decide +kernel
abbrev Nc_views_from_0:List Str:=["hall","places","ties","box","begun","place","goal","due","tie"]
theorem lL:Nc_views_from_0.Nodup:=by decide +kernel
def fT:Rho->R D:=(sqK (trS 4 (.l (.l .s)) (eL1 (eLs (fS aN))))
 (sqK (bh (eX (aC (vr 1) aN)) (tg2 5 6)
 (sq (asg 7 (eLs (aW (fIt (vr 2)) 1 (tgN 8) (tst (bin feq (qz (aC (bin fix (vb 8) (kd (.int 0))) (aC (bin fix (vb 8) (kd (.int 1))) aN))) (vb 5))) (vr 8))))
 (trS 4 (.l (.l .s)) (flK (.l (.l .s)) (cal 4 e7 (aC (vb 0) (aC (va 4) (aC (cal 3 bm (aC (vr 0) (aC (vr 3) (aC (vr 6) aN)))) (aC (vb 7) aN)))))))))
 (rtK 4 (.l (.l .s)))))
def ck (ds:List D):R D:=fT (st0 ke ds)
variable (f2:Fn P w K mg base C 3 "between" 3 bm)
variable (f15:FnK P w K mg base C 2 "grown" 4 (.l (.l .s)) e7)
include T f2 f15 in
theorem oq (F:Fun K "views_from" "views_from" fw a fd) (hm:mg "views_from"=some (.ref a)) (hb:Binds K fd ["hall","places","ties","box"] []):FnK P w K mg base C 4 "views_from" 4 (.l (.l .s)) ck :=
 ⟨a,fd,_,vk (den:=fT) F EW (λ_ _ _ _ _ _ hr=>(jD (pu (i:=4) EW.nd rfl (Or.inl rfl) (zE (AJ (iD aj)) dg))
 (jD (bp PassesOwn.never rfl (cG rfl T.enumerate (ah (vE 1) aj ae) (bf ae)) (cS rfl (aD (i:=5) EW.nd rfl (Or.inr rfl)) (aD (i:=6) EW.nd rfl (Or.inl rfl)))
 (ao (fv (cg (i:=7) (aD (i:=7) EW.nd rfl (Or.inl rfl)) (N':=Nc_views_from_0) (n:=1) rfl rfl rfl (eW 8) bL (bA (vE 2)) (λL cs s H fp=>(gN 8 lL)) (λL cs s H fp=>(ms (h9 (br hr) (EB.of (yh rfl (ah (au (vB 8) bI) (ah (au (vB 8) bI) aj ai) ai) rfl T.max (λt ha=>fM (kW rfl) rfl T.max boot_max ha (he:=ai) (hpl:=(aq ai ax))))) (vB 5)))) (λL cs s H fp=>(vE 8)) rfl))
 (al (pu (i:=4) EW.nd rfl (Or.inl rfl) (B4 f15 (hr.mono (by decide)) rfl (fE (ly (vB 0)) (fE (qt (pv 4)) (fE (ly (EB.of (eF f2 hr (ah (vE 0) (ah (vE 3) (ah (vE 6) aj ae) ae) ae) ae (aq ae (aq ae ax))))) (fE (ly (vB 7)) ue ae) az) ae) ae) (he:=ae) (hpl:=(aq ae (aq az (aq ae ax)))))))))
 (qT (pv 4))))),hm,F.kp,hb⟩
abbrev eC:Stmt:=sAt 31
abbrev jg:List Str:=["hall","arrow","arrows"]
theorem mI:aF jg ["hall","arrow","arrows"] (ar eC):=by constructor<;>first|rfl|decide +kernel
abbrev Nc_made_behind_0:List Str:=["hall","arrow","arrows","other"]
theorem kB:Nc_made_behind_0.Nodup:=by decide +kernel
def ff:Rho->R Out:=(ret (eLs (aW (fIt (vr 2)) 1 (tgN 3) tT (bin fix (bin fix (una (dI 2) (vb 0)) (vb 1)) (vb 3)))))
def bJ (ds:List D):R D:=fin (ff (st0 jg ds))
include T in
theorem m6 (F:Fun K "made_behind" "made_behind" eC a fd) (hm:mg "made_behind"=some (.ref a)) (hb:Binds K fd ["hall","arrow","arrows"] []):Fn P w K mg base C 1 "made_behind" 3 bJ :=
 ⟨a,fd,_,be (den:=ff) F mI (λ_ _ _ _ _ _ hr=>(al (aU (cV (b_ (N':=Nc_made_behind_0) (n:=1) rfl rfl rfl (eW 3) bL (bA (vE 2)) (λL cs s H fp=>(gN 3 kB)) (λL cs s H fp=>bu) (λL cs s H fp=>(au (EB.of (au (EB.of (e_ (k:=2) (vB 0) T.cl T.nT rfl (λ_ _ _=>rfl))) (vB 1))) (vB 3)))))))),hm,F.kp,hb⟩
abbrev eI:Stmt:=sAt 32
abbrev jk:List Str:=["hall","seen","box"]
theorem mK:aF jk ["hall","seen","box"] (ar eI):=by constructor<;>first|rfl|decide +kernel
abbrev Nc_has_as_many_0:List Str:=["hall","seen","box","start","lists"]
theorem gF:Nc_has_as_many_0.Nodup:=by decide +kernel
def fj:Rho->R Out:=(ret (una qp (eLs (aW (eX (aC (vr 1) aN)) 2 (tg2 3 4) tT (bin feq (una aA (cal 3 bm (aC (vr 0) (aC (vr 3) (aC (vr 2) aN))))) (una aA (vb 4)))))))
def bS (ds:List D):R D:=fin (fj (st0 jk ds))
include T f2 in
theorem m_ (F:Fun K "has_as_many" "has_as_many" eI a fd) (hm:mg "has_as_many"=some (.ref a)) (hb:Binds K fd ["hall","seen","box"] []):Fn P w K mg base C 4 "has_as_many" 3 bS :=
 ⟨a,fd,_,be (den:=fj) F mK (λ_ _ _ _ _ _ hr=>(al (aU (yk rfl rfl T.all bG (EB.of (cV (b_ (N':=Nc_has_as_many_0) (n:=2) rfl rfl rfl (Dq 3) wD (cG rfl T.enumerate (ah (vE 1) aj ae) (bf ae)) (λL cs s H fp=>(cS rfl (aD (i:=3) gF rfl (Or.inl rfl)) (aD (i:=4) gF rfl (Or.inl rfl)))) (λL cs s H fp=>bu) (λL cs s H fp=>(u9 (br hr) (EB.of (edl (EB.of (eF f2 hr (ah (vE 0) (ah (vE 3) (ah (vE 2) aj ae) ae) ae) ae (aq ae (aq ae ax)))) rfl T.len az)) (EB.of (edl (vB 4) rfl T.len ae))))))))))),hm,F.kp,hb⟩
abbrev iZ:Stmt:=sAt 33
abbrev pc:List Str:=["hall","seen","box","arrows","start","lists","made"]
theorem EG:aF pc ["hall","seen","box","arrows"] (ar iZ):=by constructor<;>first|rfl|decide +kernel
abbrev Nc_is_best_0:List Str:=["hall","seen","box","arrows","start","lists","made","arrow"]
theorem pX:Nc_is_best_0.Nodup:=by decide +kernel
def iK:Rho->R Out:=(sq (bh (eX (aC (vr 1) aN)) (tg2 4 5)
 (sq (asg 6 (eLs (aW (fIt (cal 3 bm (aC (vr 0) (aC (vr 4) (aC (vr 2) aN))))) 1 (tgN 7) tT (cal 3 bJ (aC (vr 0) (aC (vr 7) (aC (vr 3) aN)))))))
 (iff (tst (bin fne (eLs (xX (vb 6))) (vb 5)))
 (ret (kd (.bl false)))
 nxt)))
 (ret (kd (.bl true))))
def da (ds:List D):R D:=fin (iK (st0 pc ds))
variable (f36:Fn P w K mg base C 1 "made_behind" 3 bJ)
include T f2 f36 in
theorem tM (F:Fun K "is_best" "is_best" iZ a fd) (hm:mg "is_best"=some (.ref a)) (hb:Binds K fd ["hall","seen","box","arrows"] []):Fn P w K mg base C 4 "is_best" 4 da :=
 ⟨a,fd,_,be (den:=iK) F EG (λ_ _ _ _ _ _ hr=>(ao (bp PassesOwn.never rfl (cG rfl T.enumerate (ah (vE 1) aj ae) (bf ae)) (cS rfl (aD (i:=4) EG.nd rfl (Or.inl rfl)) (aD (i:=5) EG.nd rfl (Or.inl rfl)))
 (ao (fv (cg (i:=6) (aD (i:=6) EG.nd rfl (Or.inl rfl)) (N':=Nc_is_best_0) (n:=1) rfl rfl rfl (eW 7) bL (bA (eF f2 hr (ah (vE 0) (ah (vE 4) (ah (vE 2) aj ae) ae) ae) ae (aq ae (aq ae ax)))) (λL cs s H fp=>(gN 7 pX)) (λL cs s H fp=>bu) (λL cs s H fp=>(eF f36 hr (ah (vE 0) (ah (vE 7) (ah (vE 3) aj ae) ae) ae) ae (aq ae (aq ae ax)))) rfl))
 (al (bo (dn (br hr) (EB.of (cV (v_ (br hr) rfl T.sorted ae (vB 6)))) (vB 5))
 (al (aU gn))
 aK))))
 (al (aU gn)))),hm,F.kp,hb⟩
abbrev pC:Stmt:=sAt 34
abbrev yI:List Str:=["hall","places","ties","seen","box","lists","arrows"]
theorem Eu:aF yI ["hall","places","ties"] (ar pC):=by constructor<;>first|rfl|decide +kernel
abbrev Nc_best_0:List Str:=["hall","places","ties","seen","4.","lists","arrows","box"]
theorem vP:Nc_best_0.Nodup:=by decide +kernel
def nX:Rho->R D:=(sqK (drp (cal 3 bQ (aC (vr 0) (aC (vr 1) (aC (vr 2) aN)))))
 (sqK (trS 3 (.l (.l (.l .s))) (eLs (aW (bF (aC (una aA (una (dI 1) (vb 0))) aN)) 1 (tgN 7) tT (cal 4 ck (aC (vr 0) (aC (vr 1) (aC (vr 2) (aC (vr 7) aN))))))))
 (srK 3 (.p .s (.l .s)) (sq (bh (sE 3) (tg2 4 5)
 (iff (tst (cal 3 bS (aC (vr 0) (aC (vr 3) (aC (vr 4) aN)))))
 (bh (sL 5) (tgN 6)
 (iff (tst (cal 4 da (aC (vr 0) (aC (vr 3) (aC (vr 4) (aC (vr 6) aN))))))
 (ret (eT (aC (vr 4) (aC (vr 6) aN))))
 nxt))
 nxt))
 (ret (kd .non))))))
def hJ (ds:List D):R D:=nX (st0 yI ds)
variable (f9:Fn P w K mg base C 3 "check_picture" 3 bQ)
variable (f16:Fn P w K mg base C 4 "has_as_many" 3 bS)
variable (f18:Fn P w K mg base C 4 "is_best" 4 da)
variable (f38:FnK P w K mg base C 4 "views_from" 4 (.l (.l .s)) ck)
include T f9 f16 f18 f38 in
theorem zv (F:Fun K "best" "best" pC a fd) (hm:mg "best"=some (.ref a)) (hb:Binds K fd ["hall","places","ties"] []):FnO P w K mg base C 5 "best" 3 (.p .s (.l .s)) hJ :=
 ⟨a,fd,_,Ag (den:=nX) F Eu (λ_ _ _ _ _ _ hr=>(qS (jE (EB.of (eF f9 hr (ah (vE 0) (ah (vE 1) (ah (vE 2) aj ae) ae) ae) ae (aq ae (aq ae ax)))))
 (qS (yT (li (i:=3) (aD (i:=3) Eu.nd rfl (Or.inl rfl)) (N':=Nc_best_0) (n:=1) rfl rfl rfl (eW 7) (bH rfl T.range (ah (edl (EB.of (e_ (k:=1) (vB 0) T.cl T.nR rfl (λ_ _ _=>rfl))) rfl T.len bw) aj az) (bf az)) (λL cs s H fp=>(gN 7 vP)) (λL cs s H fp=>bu) (λL cs s H fp=>(Dm f38 (hr.mono (by decide)) rfl (ah (vE 0) (ah (vE 1) (ah (vE 2) (ah (vE 7) aj ae) ae) ae) ae) (he:=ae) (hpl:=(aq ae (aq ae (aq ae ax)))))) rfl))
 (tx (i:=3) (λB Nw=>yN PassesOwn.never rfl rfl T.enumerate (pv 3) (aD (i:=4) Eu.nd rfl (Or.inl rfl)) (aD (i:=5) Eu.nd rfl (Or.inl rfl))
 (Av (cr (eF f16 hr (ah (vE 0) (ah (vE 3) (ah (vE 4) aj ae) ae) ae) ae (aq ae (aq ae ax))))
 (A6 PassesOwn.never rfl (pv 5) (aD (i:=6) Eu.nd rfl (Or.inl rfl))
 (Av (cr (eF f18 hr (ah (vE 0) (ah (vE 3) (ah (vE 4) (ah (vE 6) aj ae) ae) ae) ae) ae (aq ae (aq ae (aq ae ax))))) (A5 (pv 4) (pv 6)))))) Cq)))),hm,F.kp,hb⟩
abbrev gT:Stmt:=sAt 36
abbrev ol:List Str:=["script","k","base"]
theorem EK:aF ol ["script","k"] (ar gT):=by constructor<;>first|rfl|decide +kernel
def hZ:Rho->R Out:=(sq (iff (tst (bin (iI flt) (vb 1) (una aA (vb 0))))
 (ret (bin fix (vb 0) (vb 1)))
 nxt)
 (sq (asg 2 (kd (.int 0)))
 (sq (iff (tst (bin (iI fgt) (una aA (vb 0)) (kd (.int 0))))
 (asg 2 (bin fix (vb 0) (kd (.int 0))))
 nxt)
 (ret (bin (iI a_) (bin ba (bin (iI cY) (bin (iI a_) (vb 2) (kd (.int 65521))) (kd (.int 48271))) (bin (iI cY) (vb 1) (kd (.int 30103)))) (kd (.int 65521)))))))
def av (ds:List D):R D:=fin (hZ (st0 ol ds))
include T in
theorem rH (F:Fun K "_law_cell" "_law_cell" gT a fd) (hm:mg "_law_cell"=some (.ref a)) (hb:Binds K fd ["script","k"] []):Fn P w K mg base C 1 "_law_cell" 2 av :=
 ⟨a,fd,_,be (den:=hZ) F EK (λ_ _ _ _ _ _ hr=>(ao (bo (Ax (vB 1) (EB.of (edl (vB 0) rfl T.len ae)))
 (al (aU (au (vB 0) (vB 1))))
 aK)
 (ao (sS 2 EK.nd bg)
 (ao (bo (oJ (EB.of (edl (vB 0) rfl T.len ae)) bI)
 (al (sS 2 EK.nd (au (vB 0) bI)))
 aK)
 (al (aU (cz (EB.of (cH (EB.of (jw (EB.of (cz (vB 2) bI)) bI)) (EB.of (jw (vB 1) bI)))) bI))))))),hm,F.kp,hb⟩
abbrev fZ:Stmt:=sAt 37
abbrev lz:List Str:=["found"]
theorem pw:aF lz ["found"] (ar fZ):=by constructor<;>first|rfl|decide +kernel
def gv:Rho->R Out:=(ret (yC (una (jY "int") (vb 0)) (Dd (una (jY "bool") (vb 0)))))
def dX (ds:List D):R D:=fin (gv (st0 lz ds))
include T in
theorem p4 (F:Fun K "_law_whole" "_law_whole" fZ a fd) (hm:mg "_law_whole"=some (.ref a)) (hb:Binds K fd ["found"] []):Fn P w K mg base C 1 "_law_whole" 1 dX :=
 ⟨a,fd,_,be (den:=gv) F pw (λ_ _ _ _ _ _ hr=>(al (aU (t7 (kQ T.kt_int rfl T.isinstance rfl T.int vu (vB 0) ae) (t6 (Cp (kQ T.kt_bool rfl T.isinstance rfl T.bool sK (vB 0) ae))))))),hm,F.kp,hb⟩
abbrev gR:Stmt:=sAt 38
abbrev oi:List Str:=["found","due","k"]
theorem EM:aF oi ["found","due"] (ar gR):=by constructor<;>first|rfl|decide +kernel
def hW:Rho->R Out:=(sq (iff (orB (eV (tst (una (jY "list") (vb 0)))) (tst (bin fne (una aA (vb 0)) (una aA (vb 1)))))
 (ret (kd (.bl false)))
 nxt)
 (sq (bh (bF (aC (una aA (vb 1)) aN)) (tgN 2)
 (iff (orB (eV (tst (una (jY "int") (bin fix (vb 0) (vb 2))))) (orB (tst (una (jY "bool") (bin fix (vb 0) (vb 2)))) (tst (bin fne (bin fix (vb 0) (vb 2)) (bin fix (vb 1) (vb 2))))))
 (ret (kd (.bl false)))
 nxt))
 (ret (kd (.bl true)))))
def eZ (ds:List D):R D:=fin (hW (st0 oi ds))
include T in
theorem rF (F:Fun K "_law_ints" "_law_ints" gR a fd) (hm:mg "_law_ints"=some (.ref a)) (hb:Binds K fd ["found","due"] []):Fn P w K mg base C 1 "_law_ints" 2 eZ :=
 ⟨a,fd,_,be (den:=hW) F EM (λ_ _ _ _ _ _ hr=>(ao (bo (lH (fI (cW (cr (kQ T.kt_list rfl T.isinstance rfl T.list yx (vB 0) ae))) (fH (dn (br hr) (EB.of (edl (vB 0) rfl T.len ae)) (EB.of (edl (vB 1) rfl T.len ae))))))
 (al (aU gn))
 aK)
 (ao (bp PassesOwn.never rfl (bH rfl T.range (ah (edl (vB 1) rfl T.len ae) aj az) (bf az)) (gN 2 EM.nd)
 (al (bo (lH (fI (cW (cr (kQ T.kt_int rfl T.isinstance rfl T.int vu (EB.of (au (vB 0) (vB 2))) ai))) (fI (cr (kQ T.kt_bool rfl T.isinstance rfl T.bool sK (EB.of (au (vB 0) (vB 2))) ai)) (fH (dn (br hr) (EB.of (au (vB 0) (vB 2))) (EB.of (au (vB 1) (vB 2))))))))
 (al (aU gn))
 aK)))
 (al (aU gn))))),hm,F.kp,hb⟩
abbrev gQ:Stmt:=sAt 39
abbrev oh:List Str:=["step"]
theorem qV:aF oh ["step"] (ar gQ):=by constructor<;>first|rfl|decide +kernel
def hV:Rho->R Out:=(ret (bin (iI a_) (bin ba (bin (iI cY) (vb 0) (kd (.int 48271))) (kd (.int 11))) (kd (.int 2147483647))))
def aM (ds:List D):R D:=fin (hV (st0 oh ds))
include T in
theorem rE (F:Fun K "_law_next" "_law_next" gQ a fd) (hm:mg "_law_next"=some (.ref a)) (hb:Binds K fd ["step"] []):Fn P w K mg base C 1 "_law_next" 1 aM :=
 ⟨a,fd,_,be (den:=hV) F qV (λ_ _ _ _ _ _ hr=>(al (aU (cz (EB.of (cH (EB.of (jw (vB 0) bI)) bI)) bI)))),hm,F.kp,hb⟩
abbrev gd:Stmt:=sAt 40
abbrev lC:List Str:=["script","k","cell","way"]
theorem ET:aF lC ["script","k"] (ar gd):=by constructor<;>first|rfl|decide +kernel
abbrev Nc_law_sizes_0:List Str:=["script","k","cell","way","box"]
theorem mW:Nc_law_sizes_0.Nodup:=by decide +kernel
def gz:Rho->R Out:=(sq (asg 2 (cal 2 av (aC (vr 0) (aC (vr 1) aN))))
 (sq (asg 3 (bin (iI a_) (vb 2) (kd (.int 4))))
 (sq (iff (tst (bin feq (vb 3) (kd (.int 0))))
 (ret (eLs (aW (bF (aC (bin ba (kd (.int 1)) (bin (iI a_) (bin (iI dq) (vb 2) (kd (.int 4))) (kd (.int 4)))) aN)) 1 (tgN 4) tT (kd (.int 1)))))
 nxt)
 (sq (iff (tst (bin feq (vb 3) (kd (.int 1))))
 (ret (bin fix (eL (aC (eL (aC (kd (.int 1)) (aC (kd (.int 2)) aN))) (aC (eL (aC (kd (.int 2)) (aC (kd (.int 1)) aN))) (aC (eL (aC (kd (.int 2)) (aC (kd (.int 2)) aN))) (aC (eL (aC (kd (.int 0)) (aC (kd (.int 2)) aN))) (aC (eL (aC (kd (.int 2)) aN)) (aC (eL (aC (kd (.int 1)) aN)) aN))))))) (bin (iI a_) (bin (iI dq) (vb 2) (kd (.int 4))) (kd (.int 6)))))
 nxt)
 (sq (iff (tst (bin feq (vb 3) (kd (.int 2))))
 (ret (eL (aC (kd (.int 3)) aN)))
 nxt)
 (ret (bin fix (eL (aC (eL (aC (kd (.int 1)) (aC (kd (.int 1)) (aC (kd (.int 2)) aN)))) (aC (eL (aC (kd (.int 0)) (aC (kd (.int 1)) (aC (kd (.int 2)) aN)))) (aC (eL (aC (kd (.int 1)) (aC (kd (.int 2)) (aC (kd (.int 2)) aN)))) (aC (eL (aC (kd (.int 2)) (aC (kd (.int 1)) (aC (kd (.int 0)) aN)))) (aC (eL (aC (kd (.int 2)) (aC (kd (.int 2)) aN))) aN)))))) (bin (iI a_) (bin (iI dq) (vb 2) (kd (.int 4))) (kd (.int 5))))))))))
def dh (ds:List D):R D:=fin (gz (st0 lC ds))
variable (f24:Fn P w K mg base C 1 "_law_cell" 2 av)
include T f24 in
theorem p7 (F:Fun K "_law_sizes" "_law_sizes" gd a fd) (hm:mg "_law_sizes"=some (.ref a)) (hb:Binds K fd ["script","k"] []):Fn P w K mg base C 2 "_law_sizes" 2 dh :=
 ⟨a,fd,_,be (den:=gz) F ET (λ_ _ _ _ _ _ hr=>(ao (sS 2 ET.nd (eF f24 hr (ah (vE 0) (ah (vE 1) aj ae) ae) ae (aq ae ax)))
 (ao (sS 3 ET.nd (cz (vB 2) bI))
 (ao (bo (h9 (br hr) (vB 3) bI)
 (al (aU (cV (b_ (N':=Nc_law_sizes_0) (n:=1) rfl rfl rfl (eW 4) bL (bH rfl T.range (ah (cH bI (EB.of (cz (EB.of (fC (vB 2) bI)) bI))) aj bb) (bf bb)) (λL cs s H fp=>(gN 4 mW)) (λL cs s H fp=>bu) (λL cs s H fp=>bg)))))
 aK)
 (ao (bo (h9 (br hr) (vB 3) bI)
 (al (aU (au (EB.of (bT (ah (bT (ah bg (ah bg aj ay) ay)) (ah (bT (ah bg (ah bg aj ay) ay)) (ah (bT (ah bg (ah bg aj ay) ay)) (ah (bT (ah bg (ah bg aj ay) ay)) (ah (bT (ah bg aj ay)) (ah (bT (ah bg aj ay)) aj dg) dg) dg) dg) dg) dg))) (EB.of (cz (EB.of (fC (vB 2) bI)) bI)))))
 aK)
 (ao (bo (h9 (br hr) (vB 3) bI)
 (al (aU (bT (ah bg aj ay))))
 aK)
 (al (aU (au (EB.of (bT (ah (bT (ah bg (ah bg (ah bg aj ay) ay) ay)) (ah (bT (ah bg (ah bg (ah bg aj ay) ay) ay)) (ah (bT (ah bg (ah bg (ah bg aj ay) ay) ay)) (ah (bT (ah bg (ah bg (ah bg aj ay) ay) ay)) (ah (bT (ah bg (ah bg aj ay) ay)) aj dg) dg) dg) dg) dg))) (EB.of (cz (EB.of (fC (vB 2) bI)) bI))))))))))),hm,F.kp,hb⟩
abbrev cE:Stmt:=sAt 41
abbrev h7:List Str:=["known","met","arrow","at","other","first","second","made"]
theorem EL:aF h7 ["known"] (ar cE):=by constructor<;>first|rfl|decide +kernel
abbrev Nc_law_closed_0:List Str:=["known","met","arrow","at","other","first","second","made","x"]
theorem lM:Nc_law_closed_0.Nodup:=by decide +kernel
def fU:Rho->R Out:=(sq (ym 1)
 (sq (nF 0 2 1)
 (sq (asg 3 (kd (.int 0)))
 (sq (whD (tst (bin (iI flt) (vb 3) (una aA (vb 0))))
 (sq (bh (fIt (eLs (fIt (vb 0)))) (tgN 4)
 (bh (fIt (eL (aC (eT (aC (bin fix (vb 0) (vb 3)) (aC (vr 4) aN))) (aC (eT (aC (vr 4) (aC (bin fix (vb 0) (vb 3)) aN))) aN)))) (tg2 5 6)
 (iff (tst (bin feq (bin fix (vb 5) (kd (.int 1))) (bin fix (vb 6) (kd (.int 0)))))
 (sq (asg 7 (eT (aC (bin fix (vb 5) (kd (.int 0))) (aC (bin fix (vb 6) (kd (.int 1))) (aC (una je (eLs (aW (fIt (bin fix (vb 5) (kd (.int 2)))) 1 (tgN 8) tT (bin fix (bin fix (vb 6) (kd (.int 2))) (vb 8))))) aN)))))
 (iff (yl 1 (vr 7))
 (sq (qA 1 (vr 7) (kd (.bl true)))
 (app 0 (vr 7)))
 nxt))
 nxt)))
 (asg 3 (bin ba (vb 3) (kd (.int 1))))) 30)
 (fz 0 (ret (vr 0)))))))
def cq (xs:List D):R D:=fin (fU (st1 h7 xs))
include T in
theorem lX (hr:Room 0 (A.deeper (envOfC "_law_closed" (ar cE) s.heap.objs.size f cdv))) :
  SDs C (ii CX0 P w K mg base h7 "_law_closed" (ar cE) f cdv A outer s H E).nox (cJ cE) fU :=
 (ao (uw (i:=1) EL.nd rfl (Or.inl rfl))
 (ao (vD (oO hr) PassesOwn.never rfl (pv 0) (aD (i:=2) EL.nd rfl (Or.inl rfl)) (pv 1) (pv 2))
 (ao (sS 3 EL.nd bg)
 (ao (wJ 30 PassesOwn.never (Ax (vB 3) (EB.of (edl (vB 0) rfl T.len ae)))
 (ao (bp PassesOwn.never rfl (bA (cV (fdl (vB 0) rfl T.list ae))) (gN 4 EL.nd)
 (al (bp PassesOwn.never rfl (bA (bT (ah (cj (ah (au (vB 0) (vB 3)) (ah (vE 4) aj ae) ai)) (ah (cj (ah (vE 4) (ah (au (vB 0) (vB 3)) aj ai) ae)) aj ik) ik))) (cS rfl (aD (i:=5) EL.nd rfl (Or.inl rfl)) (aD (i:=6) EL.nd rfl (Or.inr rfl)))
 (al (bo (h9 (br hr) (EB.of (au (vB 5) bI)) (EB.of (au (vB 6) bI)))
 (ao (sS 7 EL.nd (cj (ah (au (vB 5) bI) (ah (au (vB 6) bI) (ah (j4 (EB.of (cV (b_ (N':=Nc_law_closed_0) (n:=1) rfl rfl rfl (eW 8) bL (bA (au (vB 5) bI)) (λL cs s H fp=>(gN 8 lM)) (λL cs s H fp=>bu) (λL cs s H fp=>(au (EB.of (au (vB 6) bI)) (vB 8)))))) rfl T.tuple bG (λt ha=>cO dw rfl T.tuple boot_tuple ha (he:=bG) (hpl:=ax))) aj az) ai) ai)))
 (al (bo (yO (oO hr) (pv 1) (vE 7))
 (ao (uv (oO hr) (pv 1) (vE 7) gn)
 (al (io (pv 0) (vE 7) (hst:=ae))))
 aK)))
 aK)))))
 (al (sS 3 EL.nd (cH (vB 3) bI)))))
 (im 0 (al (aU (vE 0))))))))
include T in
theorem ot (F:Fun K "_law_closed" "_law_closed" cE a fd) (hm:mg "_law_closed"=some (.ref a)) (hb:Binds K fd ["known"] []):Mv P w K mg base C 1 "_law_closed" cq :=
 ⟨a,fd,_,Dh F EL (λcdv A outer s H E hr=>lX cdv A outer s H E T hr),hm,F.kp,hb⟩
abbrev fx:Stmt:=sAt 42
abbrev kf:List Str:=["script","k","sizes","known","step","turn","one","other","row","x","mixed","arrow"]
theorem EJ:aF kf ["script","k","sizes"] (ar fx):=by constructor<;>first|rfl|decide +kernel
abbrev Nc_law_arrows_0:List Str:=["script","k","sizes","known","step","turn","one","other","row","x","mixed","arrow","box"]
theorem lN:Nc_law_arrows_0.Nodup:=by decide +kernel
def fV:Rho->R Out:=(sq (own 3 (aW (bF (aC (una aA (vb 2)) aN)) 1 (tgN 12) tT (eT (aC (vr 12) (aC (vr 12) (aC (iJ (aC (bin fix (vb 2) (vb 12)) aN)) aN))))))
 (sq (asg 4 (cal 1 aM (aC (bin ba (bin (iI a_) (bin (iI cY) (cal 2 av (aC (vr 0) (aC (vr 1) aN))) (kd (.int 1000003))) (kd (.int 2147483647))) (kd (.int 17))) aN)))
 (sq (bh (bF (aC (bin (iI a_) (cal 2 av (aC (vr 0) (aC (bin ba (vb 1) (kd (.int 1))) aN))) (kd (.int 5))) aN)) (tgN 5)
 (sq (asg 4 (cal 1 aM (aC (vr 4) aN)))
 (sq (asg 6 (bin (iI a_) (bin (iI dq) (vb 4) (kd (.int 64))) (una aA (vb 2))))
 (sq (asg 4 (cal 1 aM (aC (vr 4) aN)))
 (sq (asg 7 (bin (iI a_) (bin (iI dq) (vb 4) (kd (.int 64))) (una aA (vb 2))))
 (sq (own 8 (fS aN))
 (sq (bh (bF (aC (bin fix (vb 2) (vb 6)) aN)) (tgN 9)
 (sq (asg 4 (cal 1 aM (aC (vr 4) aN)))
 (iff (tst (bin feq (bin fix (vb 2) (vb 6)) (kd (.int 3))))
 (ins 8 (bin (iI a_) (bin (iI dq) (vb 4) (kd (.int 64))) (bin ba (vb 9) (kd (.int 1)))) (vr 9))
 (app 8 (bin (iI a_) (bin (iI dq) (vb 4) (kd (.int 64))) (qz (aC (kd (.int 1)) (aC (bin fix (vb 2) (vb 7)) aN))))))))
 (iff (orB (tst (bin feq (bin fix (vb 2) (vb 6)) (kd (.int 0)))) (tst (bin (iI fgt) (bin fix (vb 2) (vb 7)) (kd (.int 0)))))
 (iff (tst (bin (lT true) (eT (aC (vr 6) (aC (vr 7) (aC (una je (vb 8)) aN)))) (vb 3)))
 (app 3 (eT (aC (vr 6) (aC (vr 7) (aC (una je (vb 8)) aN)))))
 nxt)
 nxt))))))))
 (sq (zu 3 cq)
 (sq (own 10 (fS aN))
 (fz 3 (sq (bh (fIt (vr 3)) (tgN 11)
 (sq (asg 4 (cal 1 aM (aC (vr 4) aN)))
 (ins 10 (bin (iI a_) (bin (iI dq) (vb 4) (kd (.int 64))) (bin ba (una aA (vb 10)) (kd (.int 1)))) (vr 11))))
 (fz 10 (ret (vr 10))))))))))
def cn (ds:List D):R D:=fin (fV (st0 kf ds))
variable (f39:Mv P w K mg base C 1 "_law_closed" cq)
variable (f28:Fn P w K mg base C 1 "_law_next" 1 aM)
include T f24 f39 f28 in
theorem ou (F:Fun K "_law_arrows" "_law_arrows" fx a fd) (hm:mg "_law_arrows"=some (.ref a)) (hb:Binds K fd ["script","k","sizes"] []):Fn P w K mg base C 2 "_law_arrows" 3 cn :=
 ⟨a,fd,_,be (den:=fV) F EJ (λ_ _ _ _ _ _ hr=>(ao (yU (cg (i:=3) (aD (i:=3) EJ.nd rfl (Or.inl rfl)) (N':=Nc_law_arrows_0) (n:=1) rfl rfl rfl (eW 12) bL (bH rfl T.range (ah (edl (vB 2) rfl T.len ae) aj az) (bf az)) (λL cs s H fp=>(gN 12 lN)) (λL cs s H fp=>bu) (λL cs s H fp=>(cj (ah (vE 12) (ah (vE 12) (ah (sA rfl (ah (au (vB 2) (vB 12)) aj ai) rfl T.range rfl T.tuple (bf ai) az (λt ha=>cO (iO rfl) rfl T.tuple boot_tuple ha (he:=az) (hpl:=ax))) aj az) ae) ae))) rfl))
 (ao (sS 4 EJ.nd (eF f28 hr (ah (cH (EB.of (cz (EB.of (jw (EB.of (eF f24 hr (ah (vE 0) (ah (vE 1) aj ae) ae) ae (aq ae ax))) bI)) bI)) bI) aj bb) bb ax))
 (ao (bp PassesOwn.never rfl (bH rfl T.range (ah (cz (EB.of (eF f24 hr (ah (vE 0) (ah (cH (vB 1) bI) aj bb) ae) ae (aq bb ax))) bI) aj bb) (bf bb)) (gN 5 EJ.nd)
 (ao (sS 4 EJ.nd (eF f28 hr (ah (vE 4) aj ae) ae ax))
 (ao (sS 6 EJ.nd (cz (EB.of (fC (vB 4) bI)) (EB.of (edl (vB 2) rfl T.len ae))))
 (ao (sS 4 EJ.nd (eF f28 hr (ah (vE 4) aj ae) ae ax))
 (ao (sS 7 EJ.nd (cz (EB.of (fC (vB 4) bI)) (EB.of (edl (vB 2) rfl T.len ae))))
 (ao (jp (i:=8) EJ.nd rfl (Or.inl rfl) (iD aj))
 (ao (bp PassesOwn.never rfl (bH rfl T.range (ah (au (vB 2) (vB 6)) aj ai) (bf ai)) (gN 9 EJ.nd)
 (ao (sS 4 EJ.nd (eF f28 hr (ah (vE 4) aj ae) ae ax))
 (al (bo (h9 (br hr) (EB.of (au (vB 2) (vB 6))) bI)
 (al (wK (pv 8) (cz (EB.of (fC (vB 4) bI)) (EB.of (cH (vB 9) bI))) (vE 9) (hst:=bb) (hst2:=ae)))
 (al (io (pv 8) (cz (EB.of (fC (vB 4) bI)) (EB.of (yh rfl (ah bg (ah (au (vB 2) (vB 7)) aj ai) ay) rfl T.max (λt ha=>fM (kW rfl) rfl T.max boot_max ha (he:=ay) (hpl:=(aq ai ax)))))) (hst:=bb)))))))
 (al (bo (lH (fI (h9 (br hr) (EB.of (au (vB 2) (vB 6))) bI) (fH (oJ (EB.of (au (vB 2) (vB 7))) bI))))
 (al (bo (A7 (br hr) (EB.of (cj (ah (vE 6) (ah (vE 7) (ah (j4 (vB 8) rfl T.tuple ae (λt ha=>cO dw rfl T.tuple boot_tuple ha (he:=ae) (hpl:=ax))) aj az) ae) ae))) (vB 3))
 (al (io (pv 3) (cj (ah (vE 6) (ah (vE 7) (ah (j4 (vB 8) rfl T.tuple ae (λt ha=>cO dw rfl T.tuple boot_tuple ha (he:=ae) (hpl:=ax))) aj az) ae) ae)) (hst:=ik)))
 aK))
 aK)))))))))
 (ao (yV f39 (hr.mono (by decide)) rfl (pv 3) (i:=3) EJ.nd rfl (Or.inl rfl) rfl)
 (ao (jp (i:=10) EJ.nd rfl (Or.inl rfl) (iD aj))
 (im 3 (ao (bp PassesOwn.never rfl (bA (vE 3)) (gN 11 EJ.nd)
 (ao (sS 4 EJ.nd (eF f28 hr (ah (vE 4) aj ae) ae ax))
 (al (wK (pv 10) (cz (EB.of (fC (vB 4) bI)) (EB.of (cH (EB.of (edl (vB 10) rfl T.len ae)) bI))) (vE 11) (hst:=bb) (hst2:=ae)))))
 (im 10 (al (aU (vE 10)))))))))))),hm,F.kp,hb⟩
abbrev gf:Stmt:=sAt 43
abbrev lE:List Str:=["script","k","sizes","known","place","at","table","first","row","second","made","rests"]
theorem EO:aF lE ["script","k"] (ar gf):=by constructor<;>first|rfl|decide +kernel
abbrev Nc_law_parts_0:List Str:=["script","k","sizes","known","place","at","table","first","row","second","made","rests","x"]
theorem mZ:Nc_law_parts_0.Nodup:=by decide +kernel
abbrev Nc_law_parts_1:List Str:=["script","k","sizes","known","place","at","table","first","row","second","made","rests","box"]
theorem mY:Nc_law_parts_1.Nodup:=by decide +kernel
abbrev Nc_law_parts_2:List Str:=["script","k","sizes","known","place","at","table","first","row","second","made","rests","arrow"]
theorem mX:Nc_law_parts_2.Nodup:=by decide +kernel
def gB:Rho->R Out:=(sq (asg 2 (cal 2 dh (aC (vr 0) (aC (vr 1) aN))))
 (sq (asg 3 (cal 3 cn (aC (vr 0) (aC (bin ba (vb 1) (kd (.int 1))) (aC (vr 2) aN)))))
 (sq (ym 4)
 (sq (bh (bF (aC (una aA (vb 3)) aN)) (tgN 5)
 (qA 4 (bin fix (vb 3) (vb 5)) (vr 5)))
 (sq (own 6 (fS aN))
 (sq (bh (fIt (vr 3)) (tgN 7)
 (sq (own 8 (fS aN))
 (sq (bh (fIt (vr 3)) (tgN 9)
 (sq (asg 10 (una qj (kd (.int 1))))
 (sq (iff (tst (bin feq (bin fix (vb 7) (kd (.int 1))) (bin fix (vb 9) (kd (.int 0)))))
 (asg 10 (qC 4 (eT (aC (bin fix (vb 7) (kd (.int 0))) (aC (bin fix (vb 9) (kd (.int 1))) (aC (una je (eLs (aW (fIt (bin fix (vb 7) (kd (.int 2)))) 1 (tgN 12) tT (bin fix (bin fix (vb 9) (kd (.int 2))) (vb 12))))) aN))))))
 nxt)
 (app 8 (vr 10)))))
 (fz 8 (app 6 (vr 8))))))
 (sq (asg 11 (eLs (aW (bF (aC (una aA (vb 2)) aN)) 1 (tgN 12) tT (qC 4 (eT (aC (vr 12) (aC (vr 12) (aC (iJ (aC (bin fix (vb 2) (vb 12)) aN)) aN))))))))
 (fz 6 (ret (eT (aC (eLs (aW (fIt (vr 3)) 1 (tgN 12) tT (eT (aC (bin fix (vb 12) (kd (.int 0))) (aC (bin fix (vb 12) (kd (.int 1))) aN))))) (aC (vr 11) (aC (vr 6) (aC (vr 3) (aC (vr 2) aN)))))))))))))))
def dk (ds:List D):R D:=fin (gB (st0 lE ds))
variable (f22:Fn P w K mg base C 2 "_law_arrows" 3 cn)
variable (f32:Fn P w K mg base C 2 "_law_sizes" 2 dh)
include T f22 f32 in
theorem p9 (F:Fun K "_law_parts" "_law_parts" gf a fd) (hm:mg "_law_parts"=some (.ref a)) (hb:Binds K fd ["script","k"] []):Fn P w K mg base C 3 "_law_parts" 2 dk :=
 ⟨a,fd,_,be (den:=gB) F EO (λ_ _ _ _ _ _ hr=>(ao (sS 2 EO.nd (eF f32 hr (ah (vE 0) (ah (vE 1) aj ae) ae) ae (aq ae ax)))
 (ao (sS 3 EO.nd (eF f22 hr (ah (vE 0) (ah (cH (vB 1) bI) (ah (vE 2) aj ae) bb) ae) ae (aq bb (aq ae ax))))
 (ao (uw (i:=4) EO.nd rfl (Or.inr rfl))
 (ao (bp PassesOwn.never rfl (bH rfl T.range (ah (edl (vB 3) rfl T.len ae) aj az) (bf az)) (gN 5 EO.nd)
 (al (uv (oO hr) (pv 4) (au (vB 3) (vB 5)) (vE 5))))
 (ao (jp (i:=6) EO.nd rfl (Or.inl rfl) (iD aj))
 (ao (bp PassesOwn.never rfl (bA (vE 3)) (gN 7 EO.nd)
 (ao (jp (i:=8) EO.nd rfl (Or.inl rfl) (iD aj))
 (ao (bp PassesOwn.never rfl (bA (vE 3)) (gN 9 EO.nd)
 (ao (sS 10 EO.nd (qy bI))
 (ao (bo (h9 (br hr) (EB.of (au (vB 7) bI)) (EB.of (au (vB 9) bI)))
 (al (sS 10 EO.nd (u_ (oO hr) (pv 4) (cj (ah (au (vB 7) bI) (ah (au (vB 9) bI) (ah (j4 (EB.of (cV (b_ (N':=Nc_law_parts_0) (n:=1) rfl rfl rfl (eW 12) bL (bA (au (vB 7) bI)) (λL cs s H fp=>(gN 12 mZ)) (λL cs s H fp=>bu) (λL cs s H fp=>(au (EB.of (au (vB 9) bI)) (vB 12)))))) rfl T.tuple bG (λt ha=>cO dw rfl T.tuple boot_tuple ha (he:=bG) (hpl:=ax))) aj az) ai) ai)))))
 aK)
 (al (io (pv 8) (vE 10) (hst:=ae))))))
 (im 8 (al (io (pv 6) (vE 8) (hst:=ae)))))))
 (ao (fv (cg (i:=11) (aD (i:=11) EO.nd rfl (Or.inl rfl)) (N':=Nc_law_parts_1) (n:=1) rfl rfl rfl (eW 12) bL (bH rfl T.range (ah (edl (vB 2) rfl T.len ae) aj az) (bf az)) (λL cs s H fp=>(gN 12 mY)) (λL cs s H fp=>bu) (λL cs s H fp=>(u_ (oO hr) (pv 4) (cj (ah (vE 12) (ah (vE 12) (ah (sA rfl (ah (au (vB 2) (vB 12)) aj ai) rfl T.range rfl T.tuple (bf ai) az (λt ha=>cO (iO rfl) rfl T.tuple boot_tuple ha (he:=az) (hpl:=ax))) aj az) ae) ae)))) rfl))
 (im 6 (al (aU (cj (ah (cV (b_ (N':=Nc_law_parts_2) (n:=1) rfl rfl rfl (eW 12) bL (bA (vE 3)) (λL cs s H fp=>(gN 12 mX)) (λL cs s H fp=>bu) (λL cs s H fp=>(cj (ah (au (vB 12) bI) (ah (au (vB 12) bI) aj ai) ai))))) (ah (vE 11) (ah (vE 6) (ah (vE 3) (ah (vE 2) aj ae) ae) ae) ae) bG))))))))))))),hm,F.kp,hb⟩
abbrev gS:Stmt:=sAt 44
abbrev oj:List Str:=["parts"]
theorem qW:aF oj ["parts"] (ar gS):=by constructor<;>first|rfl|decide +kernel
abbrev Nc_law_hall_0:List Str:=["parts","row"]
theorem oo:Nc_law_hall_0.Nodup:=by decide +kernel
def hX:Rho->R Out:=(ret (mkH gO (aC (eLs (fIt (bin fix (vb 0) (kd (.int 0))))) (aC (eLs (fIt (bin fix (vb 0) (kd (.int 1))))) (aC (eLs (aW (fIt (bin fix (vb 0) (kd (.int 2)))) 1 (tgN 1) tT (eLs (fIt (vb 1))))) aN)))))
def dG (ds:List D):R D:=fin (hX (st0 oj ds))
include T f0 in
theorem rG (F:Fun K "_law_hall" "_law_hall" gS a fd) (hm:mg "_law_hall"=some (.ref a)) (hb:Binds K fd ["parts"] []):Fn P w K mg base C 6 "_law_hall" 1 dG :=
 ⟨a,fd,_,be (den:=hX) F qW (λ_ _ _ _ _ _ hr=>(al (aU (u7 f0 (hr.mono (by decide)) rfl (ah (cV (fdl (EB.of (au (vB 0) bI)) rfl T.list ai)) (ah (cV (fdl (EB.of (au (vB 0) bI)) rfl T.list ai)) (ah (cV (b_ (N':=Nc_law_hall_0) (n:=1) rfl rfl rfl (eW 1) bL (bA (au (vB 0) bI)) (λL cs s H fp=>(gN 1 oo)) (λL cs s H fp=>bu) (λL cs s H fp=>(cV (fdl (vB 1) rfl T.list ae))))) aj bG) az) az) rfl (he:=az) (hpl:=(aq az (aq bG ax))))))),hm,F.kp,hb⟩
abbrev eG:Stmt:=sAt 45
abbrev jj:List Str:=["parts","box","other"]
theorem mJ:aF jj ["parts","box","other"] (ar eG):=by constructor<;>first|rfl|decide +kernel
abbrev Nc_law_between_0:List Str:=["parts","box","other","arrow"]
theorem kF:Nc_law_between_0.Nodup:=by decide +kernel
def fi:Rho->R Out:=(ret (eLs (aW (bF (aC (una aA (bin fix (vb 0) (kd (.int 0)))) aN)) 1 (tgN 3) (tst (bin feq (bin fix (bin fix (vb 0) (kd (.int 0))) (vb 3)) (eT (aC (vr 1) (aC (vr 2) aN))))) (vr 3))))
def aG (ds:List D):R D:=fin (fi (st0 jj ds))
include T in
theorem m9 (F:Fun K "_law_between" "_law_between" eG a fd) (hm:mg "_law_between"=some (.ref a)) (hb:Binds K fd ["parts","box","other"] []):Fn P w K mg base C 1 "_law_between" 3 aG :=
 ⟨a,fd,_,be (den:=fi) F mJ (λ_ _ _ _ _ _ hr=>(al (aU (cV (b_ (N':=Nc_law_between_0) (n:=1) rfl rfl rfl (eW 3) bL (bH rfl T.range (ah (edl (EB.of (au (vB 0) bI)) rfl T.len ai) aj az) (bf az)) (λL cs s H fp=>(gN 3 kF)) (λL cs s H fp=>(ms (h9 (br hr) (EB.of (au (EB.of (au (vB 0) bI)) (vB 3))) (EB.of (cj (ah (vE 1) (ah (vE 2) aj ae) ae)))))) (λL cs s H fp=>(vE 3))))))),hm,F.kp,hb⟩
abbrev eD:Stmt:=sAt 46
abbrev jh:List Str:=["script","k","parts","places","ties","j","one","other","some"]
theorem EQ:aF jh ["script","k","parts"] (ar eD):=by constructor<;>first|rfl|decide +kernel
abbrev Nc_law_picture_0:List Str:=["script","k","parts","places","ties","5.","one","other","some","j"]
theorem kC:Nc_law_picture_0.Nodup:=by decide +kernel
def fg:Rho->R Out:=(sq (asg 3 (eLs (aW (bF (aC (bin (iI a_) (cal 2 av (aC (vr 0) (aC (vr 1) aN))) (kd (.int 4))) aN)) 1 (tgN 9) tT (bin (iI a_) (cal 2 av (aC (vr 0) (aC (bin ba (bin ba (vb 1) (kd (.int 1))) (vb 9)) aN))) (una aA (bin fix (vb 2) (kd (.int 1))))))))
 (sq (own 4 (fS aN))
 (sq (iff (tst (bin (iI fgt) (una aA (vb 3)) (kd (.int 0))))
 (bh (bF (aC (bin (iI a_) (bin (iI dq) (cal 2 av (aC (vr 0) (aC (vr 1) aN))) (kd (.int 4))) (kd (.int 5))) aN)) (tgN 5)
 (sq (asg 6 (bin (iI a_) (cal 2 av (aC (vr 0) (aC (bin ba (bin ba (vb 1) (kd (.int 5))) (bin (iI cY) (kd (.int 3)) (vb 5))) aN))) (una aA (vb 3))))
 (sq (asg 7 (bin (iI a_) (cal 2 av (aC (vr 0) (aC (bin ba (bin ba (vb 1) (kd (.int 6))) (bin (iI cY) (kd (.int 3)) (vb 5))) aN))) (una aA (vb 3))))
 (sq (asg 8 (cal 3 aG (aC (vr 2) (aC (bin fix (vb 3) (vb 6)) (aC (bin fix (vb 3) (vb 7)) aN)))))
 (iff (tst (bin (iI fgt) (una aA (vb 8)) (kd (.int 0))))
 (app 4 (eT (aC (vr 6) (aC (vr 7) (aC (bin fix (vb 8) (bin (iI a_) (cal 2 av (aC (vr 0) (aC (bin ba (bin ba (vb 1) (kd (.int 7))) (bin (iI cY) (kd (.int 3)) (vb 5))) aN))) (una aA (vb 8)))) aN)))))
 nxt)))))
 nxt)
 (fz 4 (ret (eT (aC (vr 3) (aC (vr 4) aN))))))))
def cA (ds:List D):R D:=fin (fg (st0 jh ds))
variable (f23:Fn P w K mg base C 1 "_law_between" 3 aG)
include T f24 f23 in
theorem m7 (F:Fun K "_law_picture" "_law_picture" eD a fd) (hm:mg "_law_picture"=some (.ref a)) (hb:Binds K fd ["script","k","parts"] []):Fn P w K mg base C 2 "_law_picture" 3 cA :=
 ⟨a,fd,_,be (den:=fg) F EQ (λ_ _ _ _ _ _ hr=>(ao (fv (cg (i:=3) (aD (i:=3) EQ.nd rfl (Or.inl rfl)) (N':=Nc_law_picture_0) (n:=1) rfl rfl rfl (eW 9) bL (bH rfl T.range (ah (cz (EB.of (eF f24 hr (ah (vE 0) (ah (vE 1) aj ae) ae) ae (aq ae ax))) bI) aj bb) (bf bb)) (λL cs s H fp=>(gN 9 kC)) (λL cs s H fp=>bu) (λL cs s H fp=>(cz (EB.of (eF f24 hr (ah (vE 0) (ah (cH (EB.of (cH (vB 1) bI)) (vB 9)) aj bb) ae) ae (aq bb ax))) (EB.of (edl (EB.of (au (vB 2) bI)) rfl T.len ai)))) rfl))
 (ao (jp (i:=4) EQ.nd rfl (Or.inl rfl) (iD aj))
 (ao (bo (oJ (EB.of (edl (vB 3) rfl T.len ae)) bI)
 (al (bp PassesOwn.never rfl (bH rfl T.range (ah (cz (EB.of (fC (EB.of (eF f24 hr (ah (vE 0) (ah (vE 1) aj ae) ae) ae (aq ae ax))) bI)) bI) aj bb) (bf bb)) (gN 5 EQ.nd)
 (ao (sS 6 EQ.nd (cz (EB.of (eF f24 hr (ah (vE 0) (ah (cH (EB.of (cH (vB 1) bI)) (EB.of (jw bI (vB 5)))) aj bb) ae) ae (aq bb ax))) (EB.of (edl (vB 3) rfl T.len ae))))
 (ao (sS 7 EQ.nd (cz (EB.of (eF f24 hr (ah (vE 0) (ah (cH (EB.of (cH (vB 1) bI)) (EB.of (jw bI (vB 5)))) aj bb) ae) ae (aq bb ax))) (EB.of (edl (vB 3) rfl T.len ae))))
 (ao (sS 8 EQ.nd (eF f23 hr (ah (vE 2) (ah (au (vB 3) (vB 6)) (ah (au (vB 3) (vB 7)) aj ai) ai) ae) ae (aq ai (aq ai ax))))
 (al (bo (oJ (EB.of (edl (vB 8) rfl T.len ae)) bI)
 (al (io (pv 4) (cj (ah (vE 6) (ah (vE 7) (ah (au (vB 8) (EB.of (cz (EB.of (eF f24 hr (ah (vE 0) (ah (cH (EB.of (cH (vB 1) bI)) (EB.of (jw bI (vB 5)))) aj bb) ae) ae (aq bb ax))) (EB.of (edl (vB 8) rfl T.len ae))))) aj ai) ae) ae)) (hst:=ik)))
 aK)))))))
 aK)
 (im 4 (al (aU (cj (ah (vE 3) (ah (vE 4) aj ae) ae))))))))),hm,F.kp,hb⟩
abbrev f_:Stmt:=sAt 47
abbrev lA:List Str:=["parts","places","ties","box","rows","place","longer","row","found"]
theorem EU:aF lA ["parts","places","ties","box"] (ar f_):=by constructor<;>first|rfl|decide +kernel
abbrev Nc_law_views_0:List Str:=["parts","places","ties","box","rows","place","longer","row","found","arrow"]
theorem mV:Nc_law_views_0.Nodup:=by decide +kernel
abbrev Nc_law_views_1:List Str:=["parts","places","ties","box","rows","place","longer","row","found","tie"]
theorem mU:Nc_law_views_1.Nodup:=by decide +kernel
def gw:Rho->R Out:=(sq (asg 4 (eL (aC (eL aN) aN)))
 (sq (bh (fIt (vr 1)) (tgN 5)
 (sq (asg 6 (eL aN))
 (sq (bh (fIt (vr 4)) (tgN 7)
 (asg 6 (bin ba (vb 6) (eLs (aW (fIt (cal 3 aG (aC (vr 0) (aC (vr 3) (aC (vr 5) aN))))) 1 (tgN 9) tT (bin ba (vb 7) (eL (aC (vr 9) aN))))))))
 (asg 4 (vr 6)))))
 (sq (own 8 (fS aN))
 (sq (bh (fIt (vr 4)) (tgN 7)
 (iff (tst (bin feq (una aA (eLs (aW (fIt (vr 2)) 1 (tgN 9) (tst (bin fne (bin fix (bin fix (bin fix (vb 0) (kd (.int 2))) (bin fix (vb 7) (bin fix (vb 9) (kd (.int 0))))) (bin fix (vb 9) (kd (.int 2)))) (bin fix (vb 7) (bin fix (vb 9) (kd (.int 1)))))) (vr 9)))) (kd (.int 0))))
 (app 8 (vr 7))
 nxt))
 (fz 8 (ret (vr 8)))))))
def ca (ds:List D):R D:=fin (gw (st0 lA ds))
include T f23 in
theorem p5 (F:Fun K "_law_views" "_law_views" f_ a fd) (hm:mg "_law_views"=some (.ref a)) (hb:Binds K fd ["parts","places","ties","box"] []):Fn P w K mg base C 2 "_law_views" 4 ca :=
 ⟨a,fd,_,be (den:=gw) F EU (λ_ _ _ _ _ _ hr=>(ao (sS 4 EU.nd (bT (ah (bT aj) aj dg)))
 (ao (bp PassesOwn.never rfl (bA (vE 1)) (gN 5 EU.nd)
 (ao (sS 6 EU.nd (bT aj))
 (ao (bp PassesOwn.never rfl (bA (vE 4)) (gN 7 EU.nd)
 (al (sS 6 EU.nd (cH (vB 6) (EB.of (cV (b_ (N':=Nc_law_views_0) (n:=1) rfl rfl rfl (eW 9) bL (bA (eF f23 hr (ah (vE 0) (ah (vE 3) (ah (vE 5) aj ae) ae) ae) ae (aq ae (aq ae ax)))) (λL cs s H fp=>(gN 9 mV)) (λL cs s H fp=>bu) (λL cs s H fp=>(cH (vB 7) (EB.of (bT (ah (vE 9) aj ae))))))))))))
 (al (sS 4 EU.nd (vE 6))))))
 (ao (jp (i:=8) EU.nd rfl (Or.inl rfl) (iD aj))
 (ao (bp PassesOwn.never rfl (bA (vE 4)) (gN 7 EU.nd)
 (al (bo (h9 (br hr) (EB.of (edl (EB.of (cV (b_ (N':=Nc_law_views_1) (n:=1) rfl rfl rfl (eW 9) bL (bA (vE 2)) (λL cs s H fp=>(gN 9 mU)) (λL cs s H fp=>(ms (dn (br hr) (EB.of (au (EB.of (au (EB.of (au (vB 0) bI)) (EB.of (au (vB 7) (EB.of (au (vB 9) bI)))))) (EB.of (au (vB 9) bI)))) (EB.of (au (vB 7) (EB.of (au (vB 9) bI))))))) (λL cs s H fp=>(vE 9))))) rfl T.len bG)) bI)
 (al (io (pv 8) (vE 7) (hst:=ae)))
 aK)))
 (im 8 (al (aU (vE 8))))))))),hm,F.kp,hb⟩
abbrev eE:Stmt:=sAt 49
abbrev ji:List Str:=["parts","box","arrows","known","other","made","view"]
theorem EN:aF ji ["parts","box","arrows","known"] (ar eE):=by constructor<;>first|rfl|decide +kernel
abbrev Nc_law_is_best_0:List Str:=["parts","box","arrows","known","other","made","view","first"]
theorem kE:Nc_law_is_best_0.Nodup:=by decide +kernel
abbrev Nc_law_is_best_1:List Str:=["parts","box","arrows","known","other","made","view","first","arrow"]
theorem kD:Nc_law_is_best_1.Nodup:=by decide +kernel
def fh:Rho->R Out:=(sq (bh (bF (aC (una aA (vb 3)) aN)) (tgN 4)
 (sq (asg 5 (eLs (aW (fIt (cal 3 aG (aC (vr 0) (aC (vr 4) (aC (vr 1) aN))))) 1 (tgN 7) tT (eLs (aW (fIt (vr 2)) 1 (tgN 8) tT (bin fix (bin fix (bin fix (vb 0) (kd (.int 2))) (vb 7)) (vb 8)))))))
 (sq (iff (tst (bin fne (una aA (vb 5)) (una aA (bin fix (vb 3) (vb 4)))))
 (ret (kd (.bl false)))
 nxt)
 (bh (fIt (bin fix (vb 3) (vb 4))) (tgN 6)
 (iff (tst (bin fne (wl (vb 5) (vr 6)) (kd (.int 1))))
 (ret (kd (.bl false)))
 nxt)))))
 (ret (kd (.bl true))))
def bK (ds:List D):R D:=fin (fh (st0 ji ds))
include T f23 in
theorem m8 (F:Fun K "_law_is_best" "_law_is_best" eE a fd) (hm:mg "_law_is_best"=some (.ref a)) (hb:Binds K fd ["parts","box","arrows","known"] []):Fn P w K mg base C 2 "_law_is_best" 4 bK :=
 ⟨a,fd,_,be (den:=fh) F EN (λ_ _ _ _ _ _ hr=>(ao (bp PassesOwn.never rfl (bH rfl T.range (ah (edl (vB 3) rfl T.len ae) aj az) (bf az)) (gN 4 EN.nd)
 (ao (fv (cg (i:=5) (aD (i:=5) EN.nd rfl (Or.inl rfl)) (N':=Nc_law_is_best_0) (n:=1) rfl rfl rfl (eW 7) bL (bA (eF f23 hr (ah (vE 0) (ah (vE 4) (ah (vE 1) aj ae) ae) ae) ae (aq ae (aq ae ax)))) (λL cs s H fp=>(gN 7 kE)) (λL cs s H fp=>bu) (λL cs s H fp=>(cV (b_ (N':=Nc_law_is_best_1) (n:=1) rfl rfl rfl (eW 8) bL (bA (vE 2)) (λL cs s H fp=>(gN 8 kD)) (λL cs s H fp=>bu) (λL cs s H fp=>(au (EB.of (au (EB.of (au (vB 0) bI)) (vB 7))) (vB 8)))))) rfl))
 (ao (bo (dn (br hr) (EB.of (edl (vB 5) rfl T.len ae)) (EB.of (edl (EB.of (au (vB 3) (vB 4))) rfl T.len ai)))
 (al (aU gn))
 aK)
 (al (bp PassesOwn.never rfl (bA (au (vB 3) (vB 4))) (gN 6 EN.nd)
 (al (bo (dn (br hr) (EB.of (yi (br hr) (vB 5) (vE 6) ae (λho ha=>oP PySem.F.plainAttrs_list PySem.F.slot_list_count PySem.F.type_list_count (uM (br hr)) ho ha))) bI)
 (al (aU gn))
 aK)))))))
 (al (aU gn)))),hm,F.kp,hb⟩
abbrev dM:Stmt:=sAt 50
abbrev iT:List Str:=["parts","places","ties","known","found","box","arrows"]
theorem EI:aF iT ["parts","places","ties"] (ar dM):=by constructor<;>first|rfl|decide +kernel
abbrev Nc_law_all_best_0:List Str:=["parts","places","ties","known","found","5.","arrows","box"]
theorem jP:Nc_law_all_best_0.Nodup:=by decide +kernel
def d7:Rho->R Out:=(sq (asg 3 (eLs (aW (bF (aC (una aA (bin fix (vb 0) (kd (.int 1)))) aN)) 1 (tgN 7) tT (cal 4 ca (aC (vr 0) (aC (vr 1) (aC (vr 2) (aC (vr 7) aN))))))))
 (sq (own 4 (fS aN))
 (sq (bh (bF (aC (una aA (vb 3)) aN)) (tgN 5)
 (bh (fIt (bin fix (vb 3) (vb 5))) (tgN 6)
 (iff (tst (cal 4 bK (aC (vr 0) (aC (vr 5) (aC (vr 6) (aC (vr 3) aN))))))
 (app 4 (eT (aC (vr 5) (aC (vr 6) aN))))
 nxt)))
 (fz 4 (ret (vr 4))))))
def cL (ds:List D):R D:=fin (d7 (st0 iT ds))
variable (f27:Fn P w K mg base C 2 "_law_is_best" 4 bK)
variable (f34:Fn P w K mg base C 2 "_law_views" 4 ca)
include T f27 f34 in
theorem lO (F:Fun K "_law_all_best" "_law_all_best" dM a fd) (hm:mg "_law_all_best"=some (.ref a)) (hb:Binds K fd ["parts","places","ties"] []):Fn P w K mg base C 3 "_law_all_best" 3 cL :=
 ⟨a,fd,_,be (den:=d7) F EI (λ_ _ _ _ _ _ hr=>(ao (fv (cg (i:=3) (aD (i:=3) EI.nd rfl (Or.inl rfl)) (N':=Nc_law_all_best_0) (n:=1) rfl rfl rfl (eW 7) bL (bH rfl T.range (ah (edl (EB.of (au (vB 0) bI)) rfl T.len ai) aj az) (bf az)) (λL cs s H fp=>(gN 7 jP)) (λL cs s H fp=>bu) (λL cs s H fp=>(eF f34 hr (ah (vE 0) (ah (vE 1) (ah (vE 2) (ah (vE 7) aj ae) ae) ae) ae) ae (aq ae (aq ae (aq ae ax))))) rfl))
 (ao (jp (i:=4) EI.nd rfl (Or.inl rfl) (iD aj))
 (ao (bp PassesOwn.never rfl (bH rfl T.range (ah (edl (vB 3) rfl T.len ae) aj az) (bf az)) (gN 5 EI.nd)
 (al (bp PassesOwn.never rfl (bA (au (vB 3) (vB 5))) (gN 6 EI.nd)
 (al (bo (cr (eF f27 hr (ah (vE 0) (ah (vE 5) (ah (vE 6) (ah (vE 3) aj ae) ae) ae) ae) ae (aq ae (aq ae (aq ae ax)))))
 (al (io (pv 4) (cj (ah (vE 5) (ah (vE 6) aj ae) ae)) (hst:=ik)))
 aK)))))
 (im 4 (al (aU (vE 4)))))))),hm,F.kp,hb⟩
abbrev gP:Stmt:=sAt 51
abbrev og:List Str:=["found","due"]
theorem qU:aF og ["found","due"] (ar gP):=by constructor<;>first|rfl|decide +kernel
def hU:Rho->R Out:=(sq (iff (tst (bin feq (una aA (vb 1)) (kd (.int 0))))
 (ret (una (λd=>.val (nK d)) (vb 0)))
 nxt)
 (sq (iff (orB (eV (tst (una (jY "tuple") (vb 0)))) (orB (tst (bin fne (una aA (vb 0)) (kd (.int 2)))) (eV (tst (cal 1 dX (aC (bin fix (vb 0) (kd (.int 0))) aN))))))
 (ret (kd (.bl false)))
 nxt)
 (ret (yC (bin feq (bin fix (vb 0) (kd (.int 0))) (bin fix (bin fix (vb 1) (kd (.int 0))) (kd (.int 0)))) (cal 2 eZ (aC (bin fix (vb 0) (kd (.int 1))) (aC (bin fix (bin fix (vb 1) (kd (.int 0))) (kd (.int 1))) aN)))))))
def c_ (ds:List D):R D:=fin (hU (st0 og ds))
variable (f26:Fn P w K mg base C 1 "_law_ints" 2 eZ)
variable (f35:Fn P w K mg base C 1 "_law_whole" 1 dX)
include T f26 f35 in
theorem rD (F:Fun K "_law_told" "_law_told" gP a fd) (hm:mg "_law_told"=some (.ref a)) (hb:Binds K fd ["found","due"] []):Fn P w K mg base C 2 "_law_told" 2 c_ :=
 ⟨a,fd,_,be (den:=hU) F qU (λ_ _ _ _ _ _ hr=>(ao (bo (h9 (br hr) (EB.of (edl (vB 1) rfl T.len ae)) bI)
 (al (aU (Cs (vB 0))))
 aK)
 (ao (bo (lH (fI (cW (cr (kQ T.kt_tuple rfl T.isinstance rfl T.tuple wm (vB 0) ae))) (fI (dn (br hr) (EB.of (edl (vB 0) rfl T.len ae)) bI) (fH (cW (cr (eF f35 hr (ah (au (vB 0) bI) aj ai) ai ax)))))))
 (al (aU gn))
 aK)
 (al (aU (t7 (u9 (br hr) (EB.of (au (vB 0) bI)) (EB.of (au (EB.of (au (vB 1) bI)) bI))) (t6 (eF f26 hr (ah (au (vB 0) bI) (ah (au (EB.of (au (vB 1) bI)) bI) aj ai) ai) ai (aq ai ax))))))))),hm,F.kp,hb⟩
abbrev ge:Stmt:=sAt 52
abbrev lD:List Str:=["hall","parts","places","ties","due","handed","found"]
theorem ES:aF lD ["hall","parts","places","ties"] (ar ge):=by constructor<;>first|rfl|decide +kernel
def gA:Rho->R Out:=(sq (asg 4 (cal 3 cL (aC (vr 1) (aC (vr 2) (aC (vr 3) aN)))))
 (sq (asg 5 (eL (aC (eLs (fIt (vb 2))) (aC (eLs (fIt (vb 3))) aN))))
 (sq (trO 6 (.p .s (.l .s)) (cal 3 hJ (aC (vr 0) (aC (bin fix (vb 5) (kd (.int 0))) (aC (bin fix (vb 5) (kd (.int 1))) aN)))))
 (sq (iff (orB (eV (tst (flF (cal 2 c_ (aC (va 6) (aC (vb 4) aN)))))) (tst (bin fne (vb 5) (eL (aC (vr 2) (aC (vr 3) aN))))))
 (ret (kd (.bl false)))
 nxt)
 (sq (iff (tst (una (λd=>.val (nK d)) (va 6)))
 (ret (kd (.bl true)))
 nxt)
 (sq (asO (apP 6 .s (pN 6 (pN0 6) (kd (.int 1))) (kd (.int 0))))
 (ret (cal 2 c_ (aC (cal 3 hJ (aC (vr 0) (aC (bin fix (vb 5) (kd (.int 0))) (aC (bin fix (vb 5) (kd (.int 1))) aN)))) (aC (vr 4) aN))))))))))
def di (ds:List D):R D:=fin (gA (st0 lD ds))
variable (f21:Fn P w K mg base C 3 "_law_all_best" 3 cL)
variable (f33:Fn P w K mg base C 2 "_law_told" 2 c_)
variable (f1:FnO P w K mg base C 5 "best" 3 (.p .s (.l .s)) hJ)
include T f21 f33 f1 in
theorem p8 (F:Fun K "_law_right" "_law_right" ge a fd) (hm:mg "_law_right"=some (.ref a)) (hb:Binds K fd ["hall","parts","places","ties"] []):Fn P w K mg base C 6 "_law_right" 4 di :=
 ⟨a,fd,_,be (den:=gA) F ES (λ_ _ _ _ _ _ hr=>(ao (sS 4 ES.nd (eF f21 hr (ah (vE 1) (ah (vE 2) (ah (vE 3) aj ae) ae) ae) ae (aq ae (aq ae ax))))
 (ao (sS 5 ES.nd (bT (ah (cV (fdl (vB 2) rfl T.list ae)) (ah (cV (fdl (vB 3) rfl T.list ae)) aj az) az)))
 (ao (Bd (i:=6) ES.nd rfl (Or.inl rfl) (Dl f1 (hr.mono (by decide)) rfl (ah (vE 0) (ah (au (vB 5) bI) (ah (au (vB 5) bI) aj ai) ai) ae) (he:=ae) (hpl:=(aq ai (aq ai ax)))))
 (ao (bo (lH (fI (cW (cr (u8 (AN f33 (hr.mono (by decide)) rfl (fE (qt (pv 6)) (fE (ly (vB 4)) ue ae) ae) (he:=ae) (hpl:=(aq ae ax)))))) (fH (dn (br hr) (vB 5) (EB.of (bT (ah (vE 2) (ah (vE 3) aj ae) ae)))))))
 (al (aU gn))
 aK)
 (ao (bo (AZ (qt (pv 6)))
 (al (aU gn))
 aK)
 (ao (CT (wH (k':=.s) (Dg (uK (pv 6)) bg) (xJ bg) (hst:=ay)))
 (al (aU (eF f33 hr (ah (eF f1.fn hr (ah (vE 0) (ah (au (vB 5) bI) (ah (au (vB 5) bI) aj ai) ai) ae) ae (aq ai (aq ai ax))) (ah (vE 4) aj ae) az) az (aq ae ax))))))))))),hm,F.kp,hb⟩
abbrev jG:Stmt:=sAt 53
abbrev yH:List Str:=["script","parts","hall","places","ties","many","table","over"]
theorem EH:aF yH ["script"] (ar jG):=by constructor<;>first|rfl|decide +kernel
abbrev Nc_law_0:List Str:=["script","parts","hall","places","ties","many","table","over","j"]
theorem xx:Nc_law_0.Nodup:=by decide +kernel
abbrev Nc_law_1:List Str:=["script","parts","hall","places","ties","many","table","over","j","k"]
theorem xw:Nc_law_1.Nodup:=by decide +kernel
abbrev Nc_law_2:List Str:=["script","parts","hall","places","ties","many","table","over","end"]
theorem xv:Nc_law_2.Nodup:=by decide +kernel
def qD:Rho->R Out:=(sq (asg 1 (cal 2 dk (aC (vr 0) (aC (kd (.int 0)) aN))))
 (sq (asg 2 (cal 1 dG (aC (vr 1) aN)))
 (sq (asT (tg2 3 4) (cal 3 cA (aC (vr 0) (aC (kd (.int 4)) (aC (vr 1) aN)))))
 (sq (iff (eV (tst (cal 4 di (aC (vr 2) (aC (vr 1) (aC (vr 3) (aC (vr 4) aN)))))))
 (ret (kd (.bl false)))
 nxt)
 (sq (asg 5 (una aA (bin fix (vb 1) (kd (.int 0)))))
 (sq (asg 6 (eLs (aW (bF (aC (vr 5) aN)) 1 (tgN 8) tT (eLs (aW (bF (aC (vr 5) aN)) 1 (tgN 9) tT (bin fix (bin fix (bin fix (vb 1) (kd (.int 2))) (vb 9)) (vb 8)))))))
 (sq (asg 7 (eT (aC (eLs (aW (fIt (bin fix (vb 1) (kd (.int 0)))) 1 (tgN 8) tT (eT (aC (bin fix (vb 8) (kd (.int 1))) (aC (bin fix (vb 8) (kd (.int 0))) aN))))) (aC (bin fix (vb 1) (kd (.int 1))) (aC (vr 6) aN)))))
 (sq (asT (tg2 3 4) (cal 3 cA (aC (vr 0) (aC (kd (.int 30)) (aC (vr 7) aN)))))
 (ret (cal 4 di (aC (cal 1 gM (aC (vr 2) aN)) (aC (vr 7) (aC (vr 3) (aC (vr 4) aN))))))))))))))
def nW (ds:List D):R D:=fin (qD (st0 yH ds))
variable (f25:Fn P w K mg base C 6 "_law_hall" 1 dG)
variable (f29:Fn P w K mg base C 3 "_law_parts" 2 dk)
variable (f30:Fn P w K mg base C 2 "_law_picture" 3 cA)
variable (f31:Fn P w K mg base C 6 "_law_right" 4 di)
variable (f37:Fn P w K mg base C 6 "turned" 1 gM)
include T f25 f29 f30 f31 f37 in
theorem yz (hr:Room 6 (A.deeper (envOfC "law" (ar jG) s.heap.objs.size f cdv))) :
  SDs C (ii CX0 P w K mg base yH "law" (ar jG) f cdv A outer s H E).nox (cJ jG) qD :=
 (ao (sS 1 EH.nd (eF f29 hr (ah (vE 0) (ah bg aj ay) ae) ae (aq ay ax)))
 (ao (sS 2 EH.nd (eF f25 hr (ah (vE 1) aj ae) ae ax))
 (ao (wL (eF f30 hr (ah (vE 0) (ah bg (ah (vE 1) aj ae) ay) ae) ae (aq ay (aq ae ax))) (cS rfl (aD (i:=3) EH.nd rfl (Or.inl rfl)) (aD (i:=4) EH.nd rfl (Or.inl rfl))))
 (ao (bo (cW (cr (eF f31 hr (ah (vE 2) (ah (vE 1) (ah (vE 3) (ah (vE 4) aj ae) ae) ae) ae) ae (aq ae (aq ae (aq ae ax))))))
 (al (aU gn))
 aK)
 (ao (sS 5 EH.nd (edl (EB.of (au (vB 1) bI)) rfl T.len ai))
 (ao (fv (cg (i:=6) (aD (i:=6) EH.nd rfl (Or.inl rfl)) (N':=Nc_law_0) (n:=1) rfl rfl rfl (eW 8) bL (bH rfl T.range (ah (vE 5) aj ae) (bf ae)) (λL cs s H fp=>(gN 8 xx)) (λL cs s H fp=>bu) (λL cs s H fp=>(cV (b_ (N':=Nc_law_1) (n:=1) rfl rfl rfl (eW 9) bL (bH rfl T.range (ah (vE 5) aj ae) (bf ae)) (λL cs s H fp=>(gN 9 xw)) (λL cs s H fp=>bu) (λL cs s H fp=>(au (EB.of (au (EB.of (au (vB 1) bI)) (vB 9))) (vB 8)))))) rfl))
 (ao (sS 7 EH.nd (cj (ah (cV (b_ (N':=Nc_law_2) (n:=1) rfl rfl rfl (eW 8) bL (bA (au (vB 1) bI)) (λL cs s H fp=>(gN 8 xv)) (λL cs s H fp=>bu) (λL cs s H fp=>(cj (ah (au (vB 8) bI) (ah (au (vB 8) bI) aj ai) ai))))) (ah (au (vB 1) bI) (ah (vE 6) aj ae) ai) bG)))
 (ao (wL (eF f30 hr (ah (vE 0) (ah bg (ah (vE 7) aj ae) ay) ae) ae (aq ay (aq ae ax))) (cS rfl (aD (i:=3) EH.nd rfl (Or.inl rfl)) (aD (i:=4) EH.nd rfl (Or.inl rfl))))
 (al (aU (eF f31 hr (ah (eF f37 hr (ah (vE 2) aj ae) ae ax) (ah (vE 7) (ah (vE 3) (ah (vE 4) aj ae) ae) ae) az) az (aq ae (aq ae (aq ae ax))))))))))))))
end DL
namespace DL
open PySem L2 Ar
theorem sx (a b:Int):aT [.int a,.int b]=.val (.bl (decide (0<=a)&&decide (a<b))):=by
 simp only[aT,h6];show fin (ret _ [sh (.int a),sh (.int b)])=_;by_cases h:(0:Int)<=a<;>simp[h]
variable {a b:Nat}
theorem dl (h:a<b):aT [.int (a:Int),.int (b:Int)]=.val (.bl true):=by
 rw[sx];simp;exact h
variable {k i j:Nat} {x:D} {F:Rho->R Out} {xs:List D} {U:Rho}
section
variable {en:List (Nat×Nat)} {re:List Nat} {tb:List (List Int)}
theorem lW (h:bj en re tb):bW [bP en,ak re]=.val .non:=by
 have h1:=h.nb1;have h2:=h.nb6;have h3:=h.na1;have h4:=h.na40;simp only[bW,d_];show fin (sq _ _ [sh (bP en),sh (ak re)])=_;have a1:(1:Int)<=re.length:=by omega
 have a2:(re.length:Int)<=6:=by omega
 have a3:(1:Int)<=en.length:=by omega
 have a4:(en.length:Int)<=40:=by omega
 simp[a1,a2,a3,a4]
theorem yg (e:(en.map dv)[k]?=some x):k<en.length/\x=dv (en.getD k (0,0)):=by
 have hk:k<en.length:=by have:=(List.getElem?_eq_some_iff.mp e).1;simpa using this
 rw[fP (d:=(0,0)) hk]at e;exact⟨hk,(Option.some.inj e).symm⟩
theorem Bf (e:(re.map nD)[k]?=some x):k<re.length/\x=nD (re.getD k 0):=by
 have hk:k<re.length:=by have:=(List.getElem?_eq_some_iff.mp e).1;simpa using this
 rw[fP (d:=0) hk]at e;exact⟨hk,(Option.some.inj e).symm⟩
theorem td (e:(tb.map aQ)[k]?=some x):k<tb.length/\x=aQ (tb.getD k []):=by
 have hk:k<tb.length:=by have:=(List.getElem?_eq_some_iff.mp e).1;simpa using this
 rw[fP (d:=[]) hk]at e;exact⟨hk,(Option.some.inj e).symm⟩
theorem tE {r:List Int} (e:(r.map D.int)[k]?=some x):k<r.length/\x=.int (r.getD k (-1)):=by
 have hk:k<r.length:=by have:=(List.getElem?_eq_some_iff.mp e).1;simpa using this
 rw[fP (d:=-1) hk]at e;exact⟨hk,(Option.some.inj e).symm⟩
theorem keep {U1:Rho} {I:Rho->Prop} (h:F U1=.val (.nx U1)) (hI:I U1):∃U2,F U1=.val (.nx U2)/\I U2:=⟨U1,h,hI⟩
theorem hE (I:Rho->Prop) (step:∀(k:Nat) x U,xs[k]?=some x->I U->∃U2,F ((U.set i (sh (.int (k:Int)))).set j (sh x))=.val (.nx U2)/\I U2) (h:I U):fin (bz (tg2 i j) F (enu 0 xs) U)=.val .non:=by
 obtain⟨U',e,_⟩:=nn I step h;rw[e];rfl
theorem oC (h:bj en re tb):cQ [bP en,.int re.length]=.val .non:=by
 simp only[cQ,fX];show fin (bz (tg2 2 3) _ (enu 0 (en.map dv)) [sh (bP en),sh (.int re.length),none,none])=_;refine hE (λU=>∃a b,U=[sh (bP en),sh (.int re.length),a,b]) (λk x U ex hI=>?_) ⟨none,none,rfl⟩;obtain⟨a,b,rfl⟩:=hI;obtain⟨hk,rfl⟩:=yg ex;obtain⟨b1,b2⟩:=h.eb k hk;refine keep ?_ ⟨_,_,rfl⟩;simp[-List.getD_eq_getElem?_getD,dl b1,dl b2]
theorem nP (h:bj en re tb):cC [bP en,ak re]=.val .non:=by
 simp only[cC,fm];show fin (bz (tg2 2 3) _ (enu 0 (re.map nD)) [sh (bP en),sh (ak re),none,none])=_;refine hE (λU=>∃a b,U=[sh (bP en),sh (ak re),a,b]) (λk x U ex hI=>?_) ⟨none,none,rfl⟩;obtain⟨a,b,rfl⟩:=hI;obtain⟨hk,rfl⟩:=Bf ex;obtain⟨b1,b2⟩:=h.rs k hk;have e2:fne (dv (en.getD (re.getD k 0) (0,0))) (.tup [.int (k:Int),.int (k:Int)])=.val (.bl false):=by
  rw[b2];exact iA (x:=dv (k,k)) (jM _)
 refine keep ?_ ⟨_,_,rfl⟩;simp[-List.getD_eq_getElem?_getD,dl b1,gm b1,e2]
theorem oB (h:bj en re tb):cP [aS tb,.int en.length]=.val .non:=by
 simp only[cP,fW];have ht:=h.tl;have:sq (DL.iff (tst (bin fne (una aA (vb 0)) (vb 1))) bad nxt) (bh (eX (aC (vr 0) aN)) (tg2 2 3) (DL.iff (tst (bin fne (una aA (vb 3)) (vb 1))) bad nxt)) (st0 h8 [aS tb,.int en.length])=bz (tg2 2 3) (DL.iff (tst (bin fne (una aA (vb 3)) (vb 1))) bad nxt) (enu 0 (tb.map aQ)) [sh (aS tb),sh (.int en.length),none,none]:=by
  show sq _ _ [sh (aS tb),sh (.int en.length),none,none]=_;simp[ht];rfl
 rw[this];refine hE (λU=>∃a b,U=[sh (aS tb),sh (.int en.length),a,b]) (λk x U ex hI=>?_) ⟨none,none,rfl⟩;obtain⟨a,b,rfl⟩:=hI;obtain⟨hk,rfl⟩:=td ex;have b1:=h.rl k (by omega);refine keep ?_ ⟨_,_,rfl⟩;simp[-List.getD_eq_getElem?_getD,b1]
theorem nQ (h:bj en re tb) (hi:i<en.length) (hj:j<en.length):cD [bP en,.int (i:Int),.int (j:Int),.int ((tb.getD i []).getD j (-1))]=.val .non:=by
 simp only[cD,fo];show fin (DL.iff _ _ _ [sh (bP en),sh (.int (i:Int)),sh (.int (j:Int)),sh (.int ((tb.getD i []).getD j (-1)))])=_;by_cases e:(en.getD i (0,0)).2=(en.getD j (0,0)).1
 ·obtain⟨k,k1,k2,k3⟩:=h.tp i j hi hj e;have e2:fne (dv (en.getD k (0,0))) (.tup [nD (en.getD i (0,0)).1,nD (en.getD j (0,0)).2])=.val (.bl false):=by
   rw[k3];exact iA (x:=dv _) (jM _)
  rw[k2];simp[-List.getD_eq_getElem?_getD,gm hi,gm hj,e,dl k1,gm k1,e2]
 ·have e1:=h.tn i j hi hj e;have e':((en.getD i (0,0)).2:Int)≠((en.getD j (0,0)).1:Int):=by omega
  rw[e1];simp[-List.getD_eq_getElem?_getD,gm hi,gm hj,e']
theorem nO (h:bj en re tb):cB [bP en,aS tb]=.val .non:=by
 simp only[cB,fk];show fin (bz (tg2 2 3) _ (enu 0 (tb.map aQ)) [sh (bP en),sh (aS tb),none,none,none,none])=_;refine hE (λU=>∃a b c d,U=[sh (bP en),sh (aS tb),a,b,c,d]) (λk x U ex hI=>?_) ⟨none,none,none,none,rfl⟩;obtain⟨a,b,c,d,rfl⟩:=hI;obtain⟨hk,rfl⟩:=td ex;have hk':k<en.length:=by have:=h.tl;omega
 show ∃U2,bz (tg2 4 5) _ (enu 0 ((tb.getD k []).map D.int)) [sh (bP en),sh (aS tb),sh (.int (k:Int)),sh (aQ (tb.getD k [])),c,d]=_/\_;have:=nn (i:=4) (j:=5) (F:=drp (cal 4 cD (aC (vr 0) (aC (vr 2) (aC (vr 4) (aC (vr 5) aN)))))) (λU=>∃c d,U=[sh (bP en),sh (aS tb),sh (.int (k:Int)),sh (aQ (tb.getD k [])),c,d]) (xs:=(tb.getD k []).map D.int) (λm x U ex hI=>?_) (U:=[sh (bP en),sh (aS tb),sh (.int (k:Int)),sh (aQ (tb.getD k [])),c,d]) ⟨c,d,rfl⟩
 ·obtain⟨U',e,c',d',rfl⟩:=this;exact⟨_,e,_,_,_,_,rfl⟩
 ·obtain⟨c,d,rfl⟩:=hI;obtain⟨hm,rfl⟩:=tE ex;have hm':m<en.length:=by rw[h.rl k hk']at hm;exact hm
  refine keep ?_ ⟨_,_,rfl⟩;simp[-List.getD_eq_getElem?_getD,nQ h hk' hm']
theorem oZ (h:bj en re tb) (hi:i<en.length) (hj:j<en.length):(tb.getD i []).getD j (-1)=-1\/∃k:Nat,k<en.length/\(tb.getD i []).getD j (-1)=(k:Int):=by
 by_cases e:(en.getD i (0,0)).2=(en.getD j (0,0)).1
 ·obtain⟨k,k1,k2,_⟩:=h.tp i j hi hj e;exact .inr ⟨k,k1,k2⟩
 ·exact .inl (h.tn i j hi hj e)
theorem qw (h:bj en re tb) (hi:i<en.length) (hj:j<en.length) (e:(tb.getD i []).getD j (-1)=(k:Int)):(en.getD i (0,0)).2=(en.getD j (0,0)).1/\k<en.length/\en.getD k (0,0)=((en.getD i (0,0)).1,(en.getD j (0,0)).2):=by
 by_cases e0:(en.getD i (0,0)).2=(en.getD j (0,0)).1
 ·obtain⟨k',k1,k2,k3⟩:=h.tp i j hi hj e0;have:k'=k:=by rw[k2]at e;omega
  subst this;exact⟨e0,k1,k3⟩
 ·rw[h.tn i j hi hj e0]at e;omega
theorem ie (h:bj en re tb):bn [bP en,ak re,aS tb]=.val .non:=by
 simp only[bn,cI];show fin (bz (tg2 3 4) _ (enu 0 (en.map dv)) [sh (bP en),sh (ak re),sh (aS tb),none,none])=_;refine hE (λU=>∃a b,U=[sh (bP en),sh (ak re),sh (aS tb),a,b]) (λk x U ex hI=>?_) ⟨none,none,rfl⟩;obtain⟨a,b,rfl⟩:=hI;obtain⟨hk,rfl⟩:=yg ex;obtain⟨b1,b2⟩:=h.eb k hk;have r1:=(h.rs _ b1).1;have r2:=(h.rs _ b2).1;have u1:=h.ul k hk;have u2:=h.ur k hk;have ht:=h.tl;have t1:=eS (tb:=tb) (show re.getD (en.getD k (0,0)).1 0<tb.length by omega);have t2:=eS (tb:=tb) (show k<tb.length by omega);have t3:=dS (r:=tb.getD (re.getD (en.getD k (0,0)).1 0) []) (i:=k) (by rw[h.rl _ r1];exact hk);have t4:=dS (r:=tb.getD k []) (i:=re.getD (en.getD k (0,0)).2 0) (by rw[h.rl _ hk];exact r2);refine keep ?_ ⟨_,_,rfl⟩;simp[-List.getD_eq_getElem?_getD,dC b1,dC b2,t1,t2,t3,t4,u1,u2]
theorem lV (h:bj en re tb) {x:Nat} (hi:i<en.length) (hj:j<en.length) (e:(tb.getD i []).getD j (-1)=(x:Int)):bV [aS tb,.int (i:Int),.int (j:Int),.int (x:Int)]=.val .non:=by
 simp only[bV,d9];have ht:=h.tl;obtain⟨_,hx,_⟩:=qw h hi hj e;have t1:=eS (tb:=tb) (show i<tb.length by omega);have t2:=eS (tb:=tb) (show j<tb.length by omega);have t3:=eS (tb:=tb) (show x<tb.length by omega);have:∀F,bh (eX (aC (bin fix (vb 0) (vb 2)) aN)) (tg2 4 5) F (st0 fY [aS tb,.int (i:Int),.int (j:Int),.int (x:Int)])=bz (tg2 4 5) F (enu 0 ((tb.getD j []).map D.int)) [sh (aS tb),sh (.int (i:Int)),sh (.int (j:Int)),sh (.int (x:Int)),none,none]:=λF=>by
  show bh _ _ F [sh (aS tb),sh (.int (i:Int)),sh (.int (j:Int)),sh (.int (x:Int)),none,none]=_;simp[-List.getD_eq_getElem?_getD,t2];rfl
 rw[this];refine hE (λU=>∃a b,U=[sh (aS tb),sh (.int (i:Int)),sh (.int (j:Int)),sh (.int (x:Int)),a,b]) (λk d U ex hI=>?_) ⟨none,none,rfl⟩;obtain⟨a,b,rfl⟩:=hI;obtain⟨hk,rfl⟩:=tE ex;rw[h.rl j hj]at hk;refine keep ?_ ⟨_,_,rfl⟩;rcases oZ h hj hk with ey|⟨y,hy,ey⟩
 ·rw[ey];simp
 ·rw[ey];have as:=h.as i j k x y hi hj hk e ey;have t4:=dS (r:=tb.getD x []) (i:=k) (by rw[h.rl _ hx];exact hk);have t5:=dS (r:=tb.getD i []) (i:=y) (by rw[h.rl _ hi];exact hy);have ny:(y:Int) ≠ -1:=by omega
  simp[-List.getD_eq_getElem?_getD,t1,t3,t4,t5,as,ny]
theorem lU (h:bj en re tb):bU [aS tb]=.val .non:=by
 simp only[bU,d8];show fin (bz (tg2 1 2) _ (enu 0 (tb.map aQ)) [sh (aS tb),none,none,none,none])=_;refine hE (λU=>∃a b c d,U=[sh (aS tb),a,b,c,d]) (λk x U ex hI=>?_) ⟨none,none,none,none,rfl⟩;obtain⟨a,b,c,d,rfl⟩:=hI;obtain⟨hk,rfl⟩:=td ex;have hk':k<en.length:=by have:=h.tl;omega
 have:=nn (i:=3) (j:=4) (F:=DL.iff (tst (bin fne (vb 4) (una qj (kd (.int 1))))) (drp (cal 4 bV (aC (vr 0) (aC (vr 1) (aC (vr 3) (aC (vr 4) aN)))))) nxt) (λU=>∃c d,U=[sh (aS tb),sh (.int (k:Int)),sh (aQ (tb.getD k [])),c,d]) (xs:=(tb.getD k []).map D.int) (λm x U ex hI=>?_) (U:=[sh (aS tb),sh (.int (k:Int)),sh (aQ (tb.getD k [])),c,d]) ⟨c,d,rfl⟩
 ·obtain⟨U',e,c',d',rfl⟩:=this;exact⟨_,e,_,_,_,_,rfl⟩
 ·obtain⟨c,d,rfl⟩:=hI;obtain⟨hm,rfl⟩:=tE ex;have hm':m<en.length:=by rw[h.rl k hk']at hm;exact hm
  refine keep ?_ ⟨_,_,rfl⟩;rcases oZ h hk' hm' with ey|⟨y,hy,ey⟩
  ·rw[ey];simp
  ·have:=lV h hk' hm' ey;rw[ey];have ny:(y:Int) ≠ -1:=by omega
   simp[-List.getD_eq_getElem?_getD,this,ny]
theorem uZ (h:bj en re tb):gO (jc (bP en) (ak re) (aS tb))=.val (.ob (bP en) (ak re) (aS tb)):=by
 have n1:=h.na40;have n2:=h.tl;have hf:aW (fIt (vr 3)) 1 (tgN 4) tT (eLs (fIt (vb 4))) (jc (bP en) (ak re) (aS tb))=.val (tb.map aQ):=cy (f:=aQ) rfl (by omega) λr _=>rfl;unfold gO Af;rw[hf];unfold jc;simp[-List.getD_eq_getElem?_getD,wq,lW h,oC h,nP h,oB h,nO h,ie h,lU h];rfl
end
theorem j3 (ns:List Int) (k:Nat):∃c:Int,av [.scr ns,.int (k:Int)]=.val (.int c):=by
 simp only[av,hZ];have m1:∀i:Int,a_ i 65521=.val (.int (i%65521)):=λi=>eR (by decide);have m2:∀i:Int,cY i 48271=.val (.int (i*48271)):=λi=>jX (by decide);have m3:∀i:Int,cY i 30103=.val (.int (i*30103)):=λi=>jX (by decide);show ∃c,fin (sq _ _ [sh (.scr ns),sh (.int (k:Int)),none])=_;have t1:tst (bin (iI flt) (vb 1) (una aA (vb 0))) [sh (.scr ns),sh (.int (k:Int)),none]=.val (decide ((k:Int)<(ns.length:Int))):=Eq.trans rfl rfl;rw[aX,cx,t1,ag];by_cases h:k<ns.length
 ·have e:fix (.scr ns) (.int (k:Int))=.val (.int ns[k]):=AM (List.getElem?_eq_getElem h);refine⟨ns[k],?_⟩;rw[if_pos (decide_eq_true (Int.ofNat_lt.mpr h)),dE,aH];show fin (R.bind (R.bind (fix (.scr ns) (.int (k:Int))) _) _)=_;rw[e];rfl
 ·rw[if_neg (by rw[decide_eq_false (λz=>h (Int.ofNat_lt.mp z))];decide),iu,ag];dsimp only;have t2:tst (bin (iI fgt) (una aA (vb 0)) (kd (.int 0))) [sh (.scr ns),sh (.int (k:Int)),sh (.int 0)]=.val (decide ((0:Int)<(ns.length:Int))):=Eq.trans rfl rfl;have last:∀b:Int,ret (bin (iI a_) (bin ba (bin (iI cY) (bin (iI a_) (vb 2) (kd (.int 65521))) (kd (.int 48271))) (bin (iI cY) (vb 1) (kd (.int 30103)))) (kd (.int 65521))) [sh (.scr ns),sh (.int (k:Int)),sh (.int b)]=.val (.rt (.int ((b%65521*48271+k*30103)%65521))):=λb=>by
   have v2:vb 2 [sh (.scr ns),sh (.int (k:Int)),sh (.int b)]=.val (.int b):=Eq.trans rfl rfl;have v1:vb 1 [sh (.scr ns),sh (.int (k:Int)),sh (.int b)]=.val (.int (k:Int)):=Eq.trans rfl rfl;rw[dE,aH _ (iI a_),aH _ ba,aH _ (iI cY),aH _ (iI a_),v2,ag,ft,ag,gK,m1,ag,ft,ag,gK,m2,ag,aH _ (iI cY),v1,ag,ft,ag,gK,m3,ag,mv,ag,ag,gK,m1,ag]
  have a2:asg 2 (kd (.int 0)) [sh (.scr ns),sh (.int (k:Int)),none]=.val (.nx [sh (.scr ns),sh (.int (k:Int)),sh (.int 0)]):=Eq.trans rfl rfl;rw[aX,a2,ag];dsimp only;rw[aX,cx,t2,ag];by_cases h0:0<ns.length
  ·have e:fix (.scr ns) (.int 0)=.val (.int ns[0]):=AM (i:=0) (List.getElem?_eq_getElem h0);refine⟨(ns[0]%65521*48271+k*30103)%65521,?_⟩;rw[if_pos (decide_eq_true (show(0:Int)<(ns.length:Int)from Int.ofNat_lt.mpr h0)),eB,aH];show fin (R.bind (R.bind (fix (.scr ns) (.int 0)) _) _)=_;rw[e];show fin (ret _ [sh (.scr ns),sh (.int (k:Int)),sh (.int ns[0])])=_;rw[last];rfl
  ·refine⟨(0%65521*48271+k*30103)%65521,?_⟩;rw[if_neg (by rw[decide_eq_false (λ(z:(0:Int)<(ns.length:Int))=>h0 (Int.ofNat_lt.mp z))];decide),iu,ag];dsimp only;rw[last];rfl
theorem jZ (s:Int):∃c:Int,aM [.int s]=.val (.int c):=by
 simp only[aM,hV];have m1:∀i:Int,a_ i 2147483647=.val (.int (i%2147483647)):=λi=>eR (by decide);have m2:∀i:Int,cY i 48271=.val (.int (i*48271)):=λi=>jX (by decide);show ∃c,fin (ret _ [sh (.int s)])=_;refine⟨(s*48271+11)%2147483647,?_⟩;simp[m1,m2]
theorem wF (m:Nat) (h:m=1\/m=2\/m=3\/m=4):∃sz∈szs,D.lst ((List.range m).map λ_=>D.int 1)=ak sz:=by
 rcases h with rfl|rfl|rfl|rfl
 ·exact⟨[1],by decide,rfl⟩
 ·exact⟨[1,1],by decide,rfl⟩
 ·exact⟨[1,1,1],by decide,rfl⟩
 ·exact⟨[1,1,1,1],by decide,rfl⟩
def l6:List (List Nat):=[[1,2],[2,1],[2,2],[0,2],[2],[1]]
def l5:List (List Nat):=[[1,1,2],[0,1,2],[1,2,2],[2,1,0],[2,2]]
theorem Dj:∀i,i<6->l6.getD i []∈szs:=by decide
theorem Dk:∀i,i<5->l5.getD i []∈szs:=by decide
theorem iH (c:Int) (m:Nat) (h:0<m):∃i:Nat,i<m/\c%(m:Int)=(i:Int):=by
 have h':(0:Int)<(m:Int):=Int.ofNat_lt.mpr h;obtain⟨i,e⟩:=Int.eq_ofNat_of_zero_le (Int.emod_nonneg c (Int.ne_of_gt h'));refine⟨i,?_,e⟩;have:=Int.emod_lt_of_pos c h';rw[e]at this;exact Int.ofNat_lt.mp this
theorem xZ (ns:List Int) (k:Nat):∃sz∈szs,dh [.scr ns,.int (k:Int)]=.val (ak sz):=by
 simp only[dh,gz];obtain⟨c,hc⟩:=j3 ns k;have d4:dq c 4=.val (.int (c/4)):=qo (by decide);show ∃sz∈szs,fin (sq _ _ [sh (.scr ns),sh (.int (k:Int)),none,none])=_;have x1:asg 2 (cal 2 av (aC (vr 0) (aC (vr 1) aN))) [sh (.scr ns),sh (.int (k:Int)),none,none]=.val (.nx [sh (.scr ns),sh (.int (k:Int)),sh (.int c),none]):=by
  rw[eB,yw];show R.bind (noex (av [.scr ns,.int (k:Int)])) _=_;rw[hc];rfl
 have x2:asg 3 (bin (iI a_) (vb 2) (kd (.int 4))) [sh (.scr ns),sh (.int (k:Int)),sh (.int c),none]=.val (.nx [sh (.scr ns),sh (.int (k:Int)),sh (.int c),sh (.int (c%4))]):=by
  rw[eB,aH];show R.bind (a_ c 4) _=_;rw[eR (by decide)];rfl
 rw[aX,x1,ag];dsimp only;rw[aX,x2,ag];dsimp only;have ix:∀(w:Int) (m:Int),0<m->bin (iI a_) (bin (iI dq) (vb 2) (kd (.int 4))) (kd (.int m)) [sh (.scr ns),sh (.int (k:Int)),sh (.int c),sh (.int w)]=.val (.int (c/4%m)):=λw m hm=>by
  rw[aH,aH];show R.bind (dq c 4) _=_;rw[d4];show a_ (c/4) m=_;exact eR hm
 have ts:∀(w:Int) (m:Int),tst (bin feq (vb 3) (kd (.int m))) [sh (.scr ns),sh (.int (k:Int)),sh (.int c),sh (.int w)]=.val (decide (w=m)):=λw m=>by
  rw[bv,aH];show R.bind (feq (.int w) (.int m)) asB=_;rw[ju];rfl
 obtain⟨i,hi,ei⟩:=iH c 4 (by decide);have ei:c%4=(i:Int):=ei;rw[ei]
 match i,hi with
 | 0,_ =>
  obtain⟨j,hj,ej⟩:=iH (c/4) 4 (by decide);have ej:c/4%4=(j:Int):=ej;have hz:on [.int (1+c/4%4)]=.val (rng 0 (1+j)):=by
   rw[ej];have:=cK (n:=1+j) (Nat.le_trans (Nat.add_le_add_left (Nat.le_of_lt hj) 1) (by decide));rw[Int.natCast_add]at this;exact this
  have hf:aW (bF (aC (bin ba (kd (.int 1)) (bin (iI a_) (bin (iI dq) (vb 2) (kd (.int 4))) (kd (.int 4)))) aN)) 1 (tgN 4) tT (kd (.int 1)) [sh (.scr ns),sh (.int (k:Int)),sh (.int c),sh (.int ((0:Nat):Int))]=.val ((List.range (1+j)).map λ_=>D.int 1):=by
   refine dU ?_ (Nat.le_trans (Nat.add_le_add_left (Nat.le_of_lt hj) 1) (by decide)) λk _=>rfl;rw[hG,cM,aH,ft,ag,ix _ 4 (by decide),ag,mv,ag,j9,ag,ag,hz]
  obtain⟨sz,hs,e⟩:=wF (1+j) (by
   match j,hj with
   | 0,_=>exact .inl rfl
   | 1,_=>exact .inr (.inl rfl)
   | 2,_=>exact .inr (.inr (.inl rfl))
   | 3,_=>exact .inr (.inr (.inr rfl)))
  refine⟨sz,hs,?_⟩;rw[aX,cx,ts,ag,if_pos (by decide),dE,bB,hf,ag,ag,ag];exact congrArg R.val e
 | 1,_ =>
  obtain⟨j,hj,ej⟩:=iH (c/4) 6 (by decide);have ej:c/4%6=(j:Int):=ej;refine⟨_,Dj j hj,?_⟩;have el:eL (aC (eL (aC (kd (.int 1)) (aC (kd (.int 2)) aN))) (aC (eL (aC (kd (.int 2)) (aC (kd (.int 1)) aN))) (aC (eL (aC (kd (.int 2)) (aC (kd (.int 2)) aN))) (aC (eL (aC (kd (.int 0)) (aC (kd (.int 2)) aN))) (aC (eL (aC (kd (.int 2)) aN)) (aC (eL (aC (kd (.int 1)) aN)) aN)))))) [sh (.scr ns),sh (.int (k:Int)),sh (.int c),sh (.int ((1:Nat):Int))]=.val (.lst (l6.map ak)):=Eq.trans rfl rfl;rw[aX,cx,ts,ag,if_neg (by decide),iu,ag];dsimp only;rw[aX,cx,ts,ag,if_pos (by decide),dE,aH,el,ag,ix _ 6 (by decide),ag,ej,iC (fP (d:=[]) hj)];rfl
 | 2,_ =>
  refine⟨[3],by decide,?_⟩;rw[aX,cx,ts,ag,if_neg (by decide),iu,ag];dsimp only;rw[aX,cx,ts,ag,if_neg (by decide),iu,ag];dsimp only;rw[aX,cx,ts,ag,if_pos (by decide)];exact Eq.trans rfl rfl
 | 3,_ =>
  obtain⟨j,hj,ej⟩:=iH (c/4) 5 (by decide);have ej:c/4%5=(j:Int):=ej;refine⟨_,Dk j hj,?_⟩;have el:eL (aC (eL (aC (kd (.int 1)) (aC (kd (.int 1)) (aC (kd (.int 2)) aN)))) (aC (eL (aC (kd (.int 0)) (aC (kd (.int 1)) (aC (kd (.int 2)) aN)))) (aC (eL (aC (kd (.int 1)) (aC (kd (.int 2)) (aC (kd (.int 2)) aN)))) (aC (eL (aC (kd (.int 2)) (aC (kd (.int 1)) (aC (kd (.int 0)) aN)))) (aC (eL (aC (kd (.int 2)) (aC (kd (.int 2)) aN))) aN))))) [sh (.scr ns),sh (.int (k:Int)),sh (.int c),sh (.int ((3:Nat):Int))]=.val (.lst (l5.map ak)):=Eq.trans rfl rfl;rw[aX,cx,ts,ag,if_neg (by decide),iu,ag];dsimp only;rw[aX,cx,ts,ag,if_neg (by decide),iu,ag];dsimp only;rw[aX,cx,ts,ag,if_neg (by decide),iu,ag];dsimp only;rw[dE,aH,el,ag,ix _ 5 (by decide),ag,ej,iC (fP (d:=[]) hj)];rfl
def gI (x:Arr):KA:=((x.1:Int),(x.2.1:Int),x.2.2.map λ(n:Nat)=>(n:Int))
theorem oS:∀l:List Nat,gJ (l.map nD)=some (l.map λ(n:Nat)=>(n:Int))
 | []=>rfl
 | a::l=>by
  show(gJ (l.map nD)).map _=_;rw[oS l];rfl
theorem gH (x:Arr):oz (aw x)=some (gI x):=by
 show(gJ (x.2.2.map nD)).map _=_;rw[oS];rfl
theorem nr {x y:Arr} (h:gI x=gI y):x=y:=by
 obtain⟨a,b,l⟩:=x;obtain⟨c,d,m⟩:=y;simp only[gI,Prod.mk.injEq]at h;obtain⟨h1,h2,h3⟩:=h;have e3:l=m:=by
  have:∀{l m:List Nat},(l.map λ(n:Nat)=>(n:Int))=(m.map λ(n:Nat)=>(n:Int))->l=m:=by
   intro l
   induction l with
   | nil=>intro m h;cases m with
    | nil=>rfl
    | cons _ _=>simp at h
   | cons a l ih=>intro m h;cases m with
    | nil=>simp at h
    | cons b m =>
     simp only[List.map_cons,List.cons.injEq]at h;rw[ih h.2];congr 1;omega
  exact this h3
 rw[e3,show a=c by omega,show b=d by omega]
def met (kn:List Arr):List (KA×D):=kn.map λx=>(gI x,.bl true)
theorem uP (kn:List Arr) (x:Arr):((met kn).any λp=>decide (p.1=gI x))=decide (x∈kn):=by
 unfold met;rw[List.any_map];by_cases h:x∈kn
 ·rw[decide_eq_true h,List.any_eq_true];exact⟨x,h,by simp⟩
 ·rw[decide_eq_false h,List.any_eq_false];intro y hy;simp only[Function.comp,decide_eq_true_eq];exact λe=>h (nr e▸hy)
variable {kn:List Arr}
theorem uO {x:Arr} (h:x∉kn):nq (met kn) (gI x) (.bl true)=met (kn++[x]):=by
 unfold nq;rw[uP,decide_eq_false h,if_neg (by decide)];unfold met;rw[List.map_append];rfl
theorem uQ:∀(l acc:List Arr),(acc++l).Nodup->(acc++l).length<=100000->rK (l.map aw) (met acc)=some (met (acc++l))
 | [],acc,_,_=>by rw[List.append_nil];rfl
 | x::l,acc,nd,hl=>by
  have hx:x∉acc:=λh=>by
   rw[List.nodup_append]at nd;exact nd.2.2 x h x (by simp) rfl
  have e:acc++x::l=(acc++[x])++l:=by simp
  rw[List.map_cons];unfold rK;rw[gH];dsimp only;have hl1:(met acc).length<=100000:=by unfold met;rw[List.length_map];simp at hl;omega
  rw[if_pos hl1,uO hx,e];exact uQ l (acc++[x]) (by rw[<- e];exact nd) (by rw[<- e];exact hl)
variable {d:D} {n:Nat} {kvs:List (KA×D)} {ka:KA}
section
variable (U:Rho)
@[simp] theorem vh (i:Nat):ym i U=.val (.nx (U.set i (some (.dic [])))):=Eq.trans rfl rfl
theorem iS {e:Rho->R D} (h:U[i]?=some (some (.own xs))) (he:e U=.val d) (hl:xs.length<100000):app i e U=.val (.nx (U.set i (some (.own (xs++[d]))))):=by
 unfold app;rw[h];dsimp only;rw[he,ag,if_pos (show xs.length<LIM from hl)]
theorem xN {k e:Rho->R D} (h:U[i]?=some (some (.own xs))) (hk:k U=.val (.int (n:Int))) (he:e U=.val d) (hn:n<=xs.length) (hl:xs.length<100000):ins i k e U=.val (.nx (U.set i (some (.own (xs.take n++d::xs.drop n))))):=by
 unfold ins;rw[h];dsimp only;rw[hk,ag,he,ag];dsimp only;rw[if_pos ⟨by omega,by omega,(show xs.length<LIM from hl)⟩];rfl
theorem vg {k e:Rho->R D} {kd:D} (h:U[i]?=some (some (.dic kvs))) (hk:k U=.val kd) (he:e U=.val d) (ek:oz kd=some ka) (hl:kvs.length<=100000):qA i k e U=.val (.nx (U.set i (some (.dic (nq kvs ka d))))):=by
 unfold qA;rw[he,ag,hk,mo,ag,ek];dsimp only;rw[h];dsimp only;rw[if_pos hl]
theorem vi {k:Rho->R D} {kd:D} (h:U[i]?=some (some (.dic kvs))) (hk:k U=.val kd) (ek:oz kd=some ka) (hg:tQ kvs ka=some d):qC i k U=.val d:=by
 unfold qC;rw[h];dsimp only;rw[hk,ag,ek];dsimp only;rw[hg]
theorem Ae {k:Rho->R D} {kd:D} (h:U[i]?=some (some (.dic kvs))) (hk:k U=.val kd) (ek:oz kd=some ka):yl i k U=.val (!(kvs.any λp=>decide (p.1=ka))):=by
 unfold yl;rw[hk,ag,h];dsimp only;rw[ek]
end
def rC (kn:List Arr) (a:Nat) (o f s m:Option Slt):Rho:=[some (.own (kn.map aw)),some (.dic (met kn)),none,sh (nD a),o,f,s,m]
abbrev n_:Rho->R Out:=DL.iff (tst (bin feq (bin fix (vb 5) (kd (.int 1))) (bin fix (vb 6) (kd (.int 0)))))
 (sq (asg 7 (eT (aC (bin fix (vb 5) (kd (.int 0))) (aC (bin fix (vb 6) (kd (.int 1))) (aC (una je (eLs (aW (fIt (bin fix (vb 5) (kd (.int 2)))) 1 (tgN 8) tT (bin fix (bin fix (vb 6) (kd (.int 2))) (vb 8))))) aN)))))
 (DL.iff (yl 1 (vr 7))
 (sq (qA 1 (vr 7) (kd (.bl true)))
 (app 0 (vr 7)))
 nxt))
 nxt
variable {f s:Arr}
theorem BS {sz:List Nat} (hf:Ok sz f) (hs:Ok sz s) (e:f.2.1=s.1):∀i∈f.2.2,i<s.2.2.length:=by
 obtain⟨n,m,h1,h2,h3,h4⟩:=hf;obtain⟨n',m',g1,g2,g3,g4⟩:=hs;have hm:m=n':=by rw[e]at h2;rw[h2]at g1;exact Option.some.inj g1
 intro i hi;rw[g3,<- hm];exact h4 i hi
theorem BR {sz:List Nat} (hz:sz∈szs) (hf:Ok sz f):f.2.2.length<=3:=by
 obtain⟨n,m,h1,h2,h3,h4⟩:=hf;rw[h3];exact(iX sz hz).2.2 n (List.mem_of_getElem? h1)
theorem Kn.few {sz kn} (hz:sz∈szs) (g:Kn sz kn):kn.length<=27 :=
 Nat.le_trans (gu g.nd λx hx=>rL (g.ok x hx)) (qP sz hz)
variable {src:Rho->R (List D)}
theorem vl {sz:List Nat} (hz:sz∈szs) (hf:Ok sz f) (hs:Ok sz s) (e:f.2.1=s.1) {el:Rho->R D} (h1:src U=.val (f.2.2.map nD)) (h2:∀k:Nat,el ((U++List.replicate 1 none).set i (sh (nD k)))=fix (.tup (s.2.2.map nD)) (.int (k:Int))) :
  aW src 1 (tgN i) tT el U=.val ((comp f s).2.2.map nD):=by
 have hl:=BR hz hf;have:=cy (f:=nD) (g:=λk=>nD (s.2.2.getD k 0)) (n:=1) (i:=i) (e:=el) h1 (by omega) λk hk=>by
  rw[h2 k];exact uW (fP (BS hf hs e k hk))
 rw[this];simp only[comp,List.map_map];rfl
theorem sy {sz kn:List _} (hz:sz∈szs) (hk:Kn sz kn) (hf:Ok sz f) (hs:Ok sz s) (a:Nat) (o m:Option Slt) :
  ∃m',n_ (rC kn a o (sh (aw f)) (sh (aw s)) m)=.val (.nx (rC (ij kn f s) a o (sh (aw f)) (sh (aw s)) m')):=by
 have few:=Kn.few hz hk;unfold ij;by_cases e:f.2.1=s.1
 ·rw[if_pos e];have hc:=vl hz hf hs e (src:=fIt (bin fix (vb 5) (kd (.int 2)))) (el:=bin fix (bin fix (vb 6) (kd (.int 2))) (vb 8)) (i:=8) (U:=rC kn a o (sh (aw f)) (sh (aw s)) m) (by simp[rC]) (λk=>by simp[rC]);refine⟨sh (aw (comp f s)),?_⟩;have ht:tst (bin feq (bin fix (vb 5) (kd (.int 1))) (bin fix (vb 6) (kd (.int 0)))) (rC kn a o (sh (aw f)) (sh (aw s)) m)=.val true:=by
   unfold rC;simp[e]
  have hv:eT (aC (bin fix (vb 5) (kd (.int 0))) (aC (bin fix (vb 6) (kd (.int 1))) (aC (una je (eLs (aW (fIt (bin fix (vb 5) (kd (.int 2)))) 1 (tgN 8) tT (bin fix (bin fix (vb 6) (kd (.int 2))) (vb 8))))) aN))) (rC kn a o (sh (aw f)) (sh (aw s)) m)=.val (aw (comp f s)):=by
   simp only[nV,cM,e9,bB,hc];unfold rC;simp;rfl
  show DL.iff _ _ _ _=_;rw[cx,ht,ag,if_pos rfl,aX,eB,hv];show DL.iff _ _ _ (rC kn a o (sh (aw f)) (sh (aw s)) (sh (aw (comp f s))))=_;unfold oE;rw[cx,Ae (kvs:=met kn) _ rfl (kd:=aw (comp f s)) rfl (gH _),uP];by_cases hin:comp f s∈kn
  ·rw[if_pos hin,decide_eq_true hin];rfl
  ·rw[if_neg hin,decide_eq_false hin];show sq _ _ _=_;rw[aX,vg (kvs:=met kn) _ rfl (kd:=aw (comp f s)) rfl (d:=.bl true) rfl (gH _) (by unfold met;rw[List.length_map];omega),uO hin];rw[ag];dsimp only;rw[iS (xs:=kn.map aw) _ rfl (d:=aw (comp f s)) rfl (by rw[List.length_map];omega)];unfold rC;rw[List.map_append];rfl
 ·rw[if_neg e];refine⟨m,?_⟩;have e':¬ ((f.2.1:Int)=(s.1:Int)):=by omega
  unfold rC;simp[e']
abbrev wG:Rho->R (List D):=fIt (eL (aC (eT (aC (bin fix (vb 0) (vb 3)) (aC (vr 4) aN))) (aC (eT (aC (vr 4) (aC (bin fix (vb 0) (vb 3)) aN))) aN)))
theorem zV {sz kn:List _} (hz:sz∈szs) (hk:Kn sz kn) {k o:Arr} (ha:kn[a]?=some k) (ho:Ok sz o) (f s m:Option Slt) :
  ∃f' s' m',bh wG (tg2 5 6) n_ (rC kn a (sh (aw o)) f s m)=.val (.nx (rC (kl k kn o) a (sh (aw o)) f' s' m')):=by
 have hkk:Ok sz k:=hk.ok k (List.mem_of_getElem? ha);have hx:fix (.lst (kn.map aw)) (.int (a:Int))=.val (aw k):=iC (by rw[List.getElem?_map,ha];rfl);have hs:wG (rC kn a (sh (aw o)) f s m)=.val [.tup [aw k,aw o],.tup [aw o,aw k]]:=by
  unfold rC;simp[hx]
 obtain⟨m1,e1⟩:=sy hz hk hkk ho a (sh (aw o)) m;obtain⟨m2,e2⟩:=sy hz (mH hk hkk ho) ho hkk a (sh (aw o)) m1;refine⟨sh (aw o),sh (aw k),m2,?_⟩;rw[cU,hs,ag];unfold bz;show(n_ (rC kn a (sh (aw o)) (sh (aw k)) (sh (aw o)) m)).bind _=_;rw[e1,ag];dsimp only;unfold bz;show(n_ (rC (ij kn k o) a (sh (aw o)) (sh (aw o)) (sh (aw k)) m1)).bind _=_;rw[e2,ag];rfl
theorem uY {sz:List Nat} (hz:sz∈szs) {a:Nat} {k:Arr}:∀(snap:List Arr) {kn:List Arr} (hk:Kn sz kn) (ha:kn[a]?=some k) (hs:∀o∈snap,Ok sz o) (o f s m:Option Slt),
  ∃o' f' s' m',bz (tgN 4) (bh wG (tg2 5 6) n_) (snap.map aw) (rC kn a o f s m)=.val (.nx (rC (pW k kn snap) a o' f' s' m'))
 | [],kn,hk,ha,hs,o,f,s,m=>⟨o,f,s,m,rfl⟩
 | q::r,kn,hk,ha,hs,o,f,s,m=>by
  have hq:=hs q (by simp);have hkk:Ok sz k:=hk.ok k (List.mem_of_getElem? ha);obtain⟨f1,s1,m1,e1⟩:=zV hz hk ha hq f s m;obtain⟨o2,f2,s2,m2,e2⟩:=uY hz r (uk hk hkk hq) (uF (qN k kn q) ha) (λx hx=>hs x (by simp[hx])) (sh (aw q)) f1 s1 m1;refine⟨o2,f2,s2,m2,?_⟩;rw[List.map_cons];unfold bz;show(bh wG (tg2 5 6) n_ (rC kn a (sh (aw q)) f s m)).bind _=_;rw[e1,ag];exact e2
abbrev yA:Rho->R Out:=sq (bh (fIt (eLs (fIt (vb 0)))) (tgN 4) (bh wG (tg2 5 6) n_)) (asg 3 (bin ba (vb 3) (kd (.int 1))))
abbrev yo:Rho->R Bool:=tst (bin (iI flt) (vb 3) (una aA (vb 0)))
theorem yc {sz:List Nat} (hz:sz∈szs) {k:Arr} (hk:Kn sz kn) (ha:kn[a]?=some k) (o f s m:Option Slt) :
  ∃o' f' s' m',yA (rC kn a o f s m)=.val (.nx (rC (pW k kn kn) (a+1) o' f' s' m')):=by
 obtain⟨o',f',s',m',e⟩:=uY hz kn hk ha hk.ok o f s m;refine⟨o',f',s',m',?_⟩;show sq _ _ _=_;rw[aX,cU];have:fIt (eLs (fIt (vb 0))) (rC kn a o f s m)=.val (kn.map aw):=by unfold rC;simp
 rw[this,ag,e,ag];show asg 3 _ _=_;unfold rC;simp
theorem su {sz:List Nat} (hz:sz∈szs):∀(n a:Nat) (kn:List Arr) (o f s m:Option Slt),Kn sz kn->Cl kn a->a<=kn.length->28<=n+a ->
  ∃kn' a' o' f' s' m',whD yo yA n (rC kn a o f s m)=.val (.nx (rC kn' a' o' f' s' m'))/\Kn sz kn'/\kn <+: kn'/\Cl kn' kn'.length
 | 0,a,kn,o,f,s,m,hk,hc,hl,hn=>by have:=Kn.few hz hk;omega
 | n+1,a,kn,o,f,s,m,hk,hc,hl,hn=>by
  have hcond:yo (rC kn a o f s m)=.val (decide (a<kn.length)):=by
   unfold rC;simp
  unfold whD;rw[hcond,ag];by_cases h:a<kn.length
  ·rw[decide_eq_true h,if_pos rfl];have ha:kn[a]?=some kn[a]:=by simp[h]
   obtain⟨o',f',s',m',e⟩:=yc hz hk ha o f s m;have hkk:Ok sz kn[a]:=hk.ok _ (List.getElem_mem h);have pre:=ir kn[a] kn kn;obtain⟨kn',a',o2,f2,s2,m2,e2,g1,g2,g3⟩:=su hz n (a+1) (pW kn[a] kn kn) o' f' s' m' (uJ hkk hk hk.ok) (zk hc ha) (Nat.le_trans h pre.length_le) (by omega);rw[e,ag];exact⟨kn',a',o2,f2,s2,m2,e2,g1,pre.trans g2,g3⟩
  ·rw[decide_eq_false h];have:a=kn.length:=by omega
   subst this;exact⟨kn,kn.length,o,f,s,m,rfl,hk,List.prefix_refl _,hc⟩
theorem wf {sz kn:List _} (hz:sz∈szs) (hk:Kn sz kn):∃kn',cq (kn.map aw)=.val (.lst (kn'.map aw))/\Kn sz kn'/\kn <+: kn'/\∀x∈kn',∀y∈kn',x.2.1=y.1->comp x y∈kn':=by
 have few:=Kn.few hz hk;obtain⟨kn',a',o',f',s',m',e,g1,g2,g3⟩:=su hz 30 0 kn none none none none hk (λi j x y hi=>absurd hi (Nat.not_lt_zero _)) (Nat.zero_le _) (by omega);refine⟨kn',?_,g1,g2,Cw g3⟩;have hm:rK (kn.map aw) []=some (met kn):=uQ kn [] (by simpa using hk.nd) (by simp;omega);have h0:nF 0 2 1 [some (.own (kn.map aw)),some (.dic []),none,none,none,none,none,none]=.val (.nx [some (.own (kn.map aw)),some (.dic (met kn)),none,none,none,none,none,none]):=by
  show(match rK (kn.map aw) []with|some kvs'=>_|none=>_)=_;rw[hm];rfl
 simp only[cq,fU];show fin (sq (ym 1) _ [some (.own (kn.map aw)),none,none,none,none,none,none,none])=_;rw[aX,vh,ag];show fin (sq (nF 0 2 1) _ [some (.own (kn.map aw)),some (.dic []),none,none,none,none,none,none])=_;rw[aX,h0,ag];show fin (sq (asg 3 (kd (.int 0))) _ [some (.own (kn.map aw)),some (.dic (met kn)),none,none,none,none,none,none])=_;rw[aX,eB,ft,ag,ag];show fin (sq (whD yo yA 30) _ (rC kn 0 none none none none))=_;rw[aX,e,ag];rfl
theorem yY (n:Nat):rng 0 n=(List.range n).map nD:=by
 unfold rng;apply List.map_congr_left;intro k _;simp[nD]
theorem uz (h:n<=100000):rgT [.int (n:Int)]=.val (.tup ((List.range n).map nD)):=by
 have:-(2 ^ 62)<=(n:Int)/\(n:Int)<=100000:=by constructor<;>omega
 unfold rgT;dsimp only;rw[if_pos this,Int.toNat_natCast,yY]
theorem xT (x:Arr) (kn:List Arr):lT true (aw x) (.lst (kn.map aw))=.val (.bl (!decide (x∈kn))):=by
 have h1:eqb 8 (aw x)=true:=dA (i5 x);have h2:(kn.map aw).all (eqb 8)=true:=by
  rw[List.all_eq_true];intro y hy;obtain⟨a,_,rfl⟩:=List.mem_map.mp hy;exact dA (i5 a)
 unfold lT;dsimp only;rw[if_pos ⟨h1,h2⟩];have:((kn.map aw).any λy=>pyq 8 y (aw x))=decide (x∈kn):=by
  rw[List.any_map];by_cases h:x∈kn
  ·rw[decide_eq_true h,List.any_eq_true];exact⟨x,h,(gY 8 (i5 x) (i5 x)).mpr rfl⟩
  ·rw[decide_eq_false h,List.any_eq_false];intro y hy e;exact h (arrD_inj.mp ((gY 8 (i5 y) (i5 x)).mp e)▸hy)
 rw[this];rfl
theorem vA:∀sz∈szs,∀a,a<sz.length->∀b,b<sz.length->sz.getD a 0=3->sz.getD b 0=3:=by decide +kernel
theorem i_ {sz:List Nat} (h:i<sz.length):fix (ak sz) (.int (i:Int))=.val (.int ((sz.getD i 0:Nat):Int)):=dC h
theorem B9 {sz:List Nat} (h:b<sz.length):Ok sz (idm sz b):=by
 refine⟨sz[b],sz[b],by simp[idm,h],by simp[idm,h],?_,λy hy=>?_⟩
 ·simp[idm,h]
 ·simp[idm,h]at hy;exact hy
theorem B8 (sz:List Nat):Kn sz ((List.range sz.length).map (idm sz)):=by
 refine⟨?_,λx hx=>?_⟩
 ·unfold List.Nodup;rw[List.pairwise_map];exact List.nodup_range.imp λ{a b} h e=>h (by simpa[idm]using congrArg (·.1) e)
 ·obtain⟨b,hb,rfl⟩:=List.mem_map.mp hx;exact B9 (List.mem_range.mp hb)
def rA (ns:List Int) (k:Nat) (sz:List Nat) (known:Slt) (st:Int) (a5 a6 a7 a8 a9 a10 a11:Option Slt):Rho:=[sh (.scr ns),sh (nD k),sh (ak sz),some known,sh (.int st),a5,a6,a7,a8,a9,a10,a11]
variable {o:Nat} {known:Slt} {st s1:Int} {a5 a10 a11 a9 a6 a7 a8:Option Slt}
section
variable {ns:List Int} {k:Nat} {sz:List Nat}
abbrev wO:Rho->R Out:=sq (asg 4 (cal 1 aM (aC (vr 4) aN)))
 (DL.iff (tst (bin feq (bin fix (vb 2) (vb 6)) (kd (.int 3))))
 (ins 8 (bin (iI a_) (bin (iI dq) (vb 4) (kd (.int 64))) (bin ba (vb 9) (kd (.int 1)))) (vr 9))
 (app 8 (bin (iI a_) (bin (iI dq) (vb 4) (kd (.int 64))) (qz (aC (kd (.int 1)) (aC (bin fix (vb 2) (vb 7)) aN))))))
def bnd (s1 s2:Nat):Nat:=if s1=3 then 3 else max 1 s2
theorem d64 (i:Int):dq i 64=.val (.int (i/64)):=qo (by decide)
theorem z7 {o1 o2 x:Nat} {l:List Nat} (h1:o1<sz.length) (h2:o2<sz.length) (hx:x<sz.getD o1 0) (hl:l.length=x) (hx3:sz.getD o1 0<=3) (hb:∀y∈l,y<bnd (sz.getD o1 0) (sz.getD o2 0)) :
  ∃(st':Int) (l':List Nat),wO (rA ns k sz known st a5 (sh (nD o1)) (sh (nD o2)) (some (.own (l.map nD))) (sh (nD x)) a10 a11)=.val (.nx (rA ns k sz known st' a5 (sh (nD o1)) (sh (nD o2)) (some (.own (l'.map nD))) (sh (nD x)) a10 a11))/\l'.length=x+1/\∀y∈l',y<bnd (sz.getD o1 0) (sz.getD o2 0):=by
 obtain⟨st',hst⟩:=jZ st;have f1:=i_ (sz:=sz) h1;have f2:=i_ (sz:=sz) h2;have hA:asg 4 (cal 1 aM (aC (vr 4) aN)) (rA ns k sz known st a5 (sh (nD o1)) (sh (nD o2)) (some (.own (l.map nD))) (sh (nD x)) a10 a11)=.val (.nx (rA ns k sz known st' a5 (sh (nD o1)) (sh (nD o2)) (some (.own (l.map nD))) (sh (nD x)) a10 a11)):=by
  unfold rA;simp[hst]
 have hT:tst (bin feq (bin fix (vb 2) (vb 6)) (kd (.int 3))) (rA ns k sz known st' a5 (sh (nD o1)) (sh (nD o2)) (some (.own (l.map nD))) (sh (nD x)) a10 a11)=.val (decide (((sz.getD o1 0:Nat):Int)=3)):=by
  unfold rA;simp[-List.getD_eq_getElem?_getD,f1]
 show ∃(st':Int) (l':List Nat),sq _ _ _=_/\_;rw[aX,hA,ag];dsimp only;rw[cx,hT,ag];by_cases e3:sz.getD o1 0=3
 ·rw[if_pos (by simp[-List.getD_eq_getElem?_getD,e3])];have hm:a_ (st'/64) ((x:Int)+1)=.val (.int (st'/64%((x:Int)+1))):=eR (by omega);have p0:0<=st'/64%((x:Int)+1):=Int.emod_nonneg _ (by omega);have p1:st'/64%((x:Int)+1)<(x:Int)+1:=Int.emod_lt_of_pos _ (by omega);obtain⟨p,hp⟩:∃p:Nat,st'/64%((x:Int)+1)=(p:Int):=⟨_,(Int.toNat_of_nonneg p0).symm⟩;refine⟨st',l.take p++x::l.drop p,?_,?_,λy hy=>?_⟩
  ·rw[xN (xs:=l.map nD) (n:=p) (d:=nD x) _ rfl (by unfold rA;simp[d64,hm,hp]) rfl (by rw[List.length_map];omega) (by rw[List.length_map];omega)];unfold rA;simp
  ·rw[List.length_append,List.length_cons,List.length_take,List.length_drop];omega
  ·unfold bnd;rw[if_pos e3];rcases List.mem_append.mp hy with q|q
   ·have:=hb y (List.mem_of_mem_take q);unfold bnd at this;rw[if_pos e3]at this;exact this
   ·rcases List.mem_cons.mp q with q|q
    ·rw[q];omega
    ·have:=hb y (List.mem_of_mem_drop q);unfold bnd at this;rw[if_pos e3]at this;exact this
 ·have e3':¬ (((sz.getD o1 0:Nat):Int)=3):=by omega
  rw[if_neg (by simp[-List.getD_eq_getElem?_getD];exact e3')];have hmx:(if((sz.getD o2 0:Nat):Int)>1 then((sz.getD o2 0:Nat):Int)else 1)=((max 1 (sz.getD o2 0):Nat):Int):=by
   split<;>omega
  have hm:a_ (st'/64) ((max 1 (sz.getD o2 0):Nat):Int)=.val (.int (st'/64%((max 1 (sz.getD o2 0):Nat):Int))):=eR (by omega);have p0:0<=st'/64%((max 1 (sz.getD o2 0):Nat):Int):=Int.emod_nonneg _ (by omega);have p1:st'/64%((max 1 (sz.getD o2 0):Nat):Int)<((max 1 (sz.getD o2 0):Nat):Int):=Int.emod_lt_of_pos _ (by omega);obtain⟨p,hp⟩:∃p:Nat,st'/64%((max 1 (sz.getD o2 0):Nat):Int)=(p:Int):=⟨_,(Int.toNat_of_nonneg p0).symm⟩;refine⟨st',l++[p],?_,by rw[List.length_append,hl];rfl,λy hy=>?_⟩
  ·rw[iS (xs:=l.map nD) (d:=nD p) _ rfl (by unfold rA;simp only[aH,e9,uh,ft,ag,vd,cM,j9,gK,List.getElem?_cons_succ,List.getElem?_cons_zero,f2,uV,d64];rw[hmx,hm,hp]) (by rw[List.length_map];omega)];unfold rA;simp
  ·rcases List.mem_append.mp hy with q|q
   ·exact hb y q
   ·rw[List.mem_singleton.mp q];unfold bnd;rw[if_neg e3];omega
theorem zY {o1 o2:Nat} (h1:o1<sz.length) (h2:o2<sz.length) (hx3:sz.getD o1 0<=3) :
  ∃(st':Int) (l:List Nat) (a9':Option Slt),bz (tgN 9) wO (rng 0 (sz.getD o1 0)) (rA ns k sz known st a5 (sh (nD o1)) (sh (nD o2)) (some (.own [])) a9 a10 a11)=.val (.nx (rA ns k sz known st' a5 (sh (nD o1)) (sh (nD o2)) (some (.own (l.map nD))) a9' a10 a11))/\l.length=sz.getD o1 0/\∀y∈l,y<bnd (sz.getD o1 0) (sz.getD o2 0):=by
 obtain⟨U',e,st',l,a9',rfl,g1,g2⟩:=jS (i:=9) (n:=sz.getD o1 0) (F:=wO) (U:=rA ns k sz known st a5 (sh (nD o1)) (sh (nD o2)) (some (.own [])) a9 a10 a11) (λx U=>∃(st:Int) (l:List Nat) (a9:Option Slt),U=rA ns k sz known st a5 (sh (nD o1)) (sh (nD o2)) (some (.own (l.map nD))) a9 a10 a11/\l.length=x/\∀y∈l,y<bnd (sz.getD o1 0) (sz.getD o2 0)) (λx U hx hI=>by
  obtain⟨st,l,a9,rfl,hl,hb⟩:=hI;obtain⟨st',l',e,g1,g2⟩:=z7 (ns:=ns) (k:=k) (known:=known) (st:=st) (a5:=a5) (a10:=a10) (a11:=a11) h1 h2 hx hl hx3 hb;exact⟨_,e,st',l',_,rfl,g1,g2⟩) ⟨st,[],a9,rfl,rfl,λy hy=>by cases hy⟩
 exact⟨st',l,a9',e,g1,g2⟩
abbrev sN:Rho->R Out:=sq (asg 4 (cal 1 aM (aC (vr 4) aN)))
 (sq (asg 6 (bin (iI a_) (bin (iI dq) (vb 4) (kd (.int 64))) (una aA (vb 2))))
 (sq (asg 4 (cal 1 aM (aC (vr 4) aN)))
 (sq (asg 7 (bin (iI a_) (bin (iI dq) (vb 4) (kd (.int 64))) (una aA (vb 2))))
 (sq (own 8 (fS aN))
 (sq (bh (bF (aC (bin fix (vb 2) (vb 6)) aN)) (tgN 9) wO)
 (DL.iff (orB (tst (bin feq (bin fix (vb 2) (vb 6)) (kd (.int 0)))) (tst (bin (iI fgt) (bin fix (vb 2) (vb 7)) (kd (.int 0)))))
 (DL.iff (tst (bin (lT true) (eT (aC (vr 6) (aC (vr 7) (aC (una je (vb 8)) aN)))) (vb 3)))
 (app 3 (eT (aC (vr 6) (aC (vr 7) (aC (una je (vb 8)) aN)))))
 nxt)
 nxt))))))
theorem xU:aA (ak sz)=.val (.int ((sz.length:Nat):Int)):=by
 show R.val (D.int (((sz.map nD).length:Nat):Int))=_;rw[List.length_map]
theorem xt (h:aM [.int st]=.val (.int s1)):asg 4 (cal 1 aM (aC (vr 4) aN)) (rA ns k sz known st a5 a6 a7 a8 a9 a10 a11)=.val (.nx (rA ns k sz known s1 a5 a6 a7 a8 a9 a10 a11)):=by
 rw[eB,yw];show R.bind (noex (aM [.int st])) _=_;rw[h];rfl
theorem w6 (q:a_ (s1/64) (sz.length:Int)=.val (.int (o:Int))):bin (iI a_) (bin (iI dq) (vb 4) (kd (.int 64))) (una aA (vb 2)) (rA ns k sz known s1 a5 a6 a7 a8 a9 a10 a11)=.val (nD o):=by
 rw[aH,aH];show R.bind (dq s1 64) _=_;rw[d64,ag,e9];show R.bind (R.bind (.val (ak sz)) aA) _=_;rw[ag,xU];exact q
theorem zf (q:a_ (s1/64) (sz.length:Int)=.val (.int (o:Int))):asg 6 (bin (iI a_) (bin (iI dq) (vb 4) (kd (.int 64))) (una aA (vb 2))) (rA ns k sz known s1 a5 a6 a7 a8 a9 a10 a11)=.val (.nx (rA ns k sz known s1 a5 (sh (nD o)) a7 a8 a9 a10 a11)):=by
 rw[eB,w6 q];rfl
theorem ze (q:a_ (s1/64) (sz.length:Int)=.val (.int (o:Int))):asg 7 (bin (iI a_) (bin (iI dq) (vb 4) (kd (.int 64))) (una aA (vb 2))) (rA ns k sz known s1 a5 a6 a7 a8 a9 a10 a11)=.val (.nx (rA ns k sz known s1 a5 a6 (sh (nD o)) a8 a9 a10 a11)):=by
 rw[eB,w6 q];rfl
theorem pick (st:Int) (h:1<=n):∃p:Nat,p<n/\a_ (st/64) (n:Int)=.val (.int (p:Int)):=by
 have hm:a_ (st/64) (n:Int)=.val (.int (st/64%(n:Int))):=eR (by omega);have p0:0<=st/64%(n:Int):=Int.emod_nonneg _ (by omega);have p1:st/64%(n:Int)<(n:Int):=Int.emod_lt_of_pos _ (by omega);refine⟨(st/64%(n:Int)).toNat,by omega,?_⟩;rw[hm,Int.toNat_of_nonneg p0]
theorem yd (hz:sz∈szs) (hk:Kn sz kn) (st:Int) (a5 a6 a7 a8 a9 a10 a11:Option Slt) :
  ∃(kn':List Arr) (st':Int) (b6 b7 b8 b9:Option Slt),sN (rA ns k sz (.own (kn.map aw)) st a5 a6 a7 a8 a9 a10 a11)=.val (.nx (rA ns k sz (.own (kn'.map aw)) st' a5 b6 b7 b8 b9 a10 a11))/\Kn sz kn'/\kn <+: kn':=by
 obtain⟨l1,l4,l3⟩:=iX sz hz;have few:=Kn.few hz hk;obtain⟨s1,hs1⟩:=jZ st;obtain⟨o1,ho1,q1⟩:=pick s1 l1;obtain⟨s2,hs2⟩:=jZ s1;obtain⟨o2,ho2,q2⟩:=pick s2 l1;have g3:sz.getD o1 0<=3:=by rw[bc ho1];exact l3 _ (List.getElem_mem ho1)
 obtain⟨s3,l,a9',e,hl,hb⟩:=zY (ns:=ns) (k:=k) (sz:=sz) (known:=.own (kn.map aw)) (st:=s2) (a5:=a5) (a9:=a9) (a10:=a10) (a11:=a11) ho1 ho2 g3;have f1:=i_ (sz:=sz) ho1;have f2:=i_ (sz:=sz) ho2;have hr:on [.int ((sz.getD o1 0:Nat):Int)]=.val (rng 0 (sz.getD o1 0)):=cK (by omega);have start:sN (rA ns k sz (.own (kn.map aw)) st a5 a6 a7 a8 a9 a10 a11)=DL.iff (orB (tst (bin feq (bin fix (vb 2) (vb 6)) (kd (.int 0)))) (tst (bin (iI fgt) (bin fix (vb 2) (vb 7)) (kd (.int 0)))))
   (DL.iff (tst (bin (lT true) (eT (aC (vr 6) (aC (vr 7) (aC (una je (vb 8)) aN)))) (vb 3)))
   (app 3 (eT (aC (vr 6) (aC (vr 7) (aC (una je (vb 8)) aN))))) nxt) nxt (rA ns k sz (.own (kn.map aw)) s3 a5 (sh (nD o1)) (sh (nD o2)) (some (.own (l.map nD))) a9' a10 a11):=by
  have x1:asg 4 (cal 1 aM (aC (vr 4) aN)) (rA ns k sz (.own (kn.map aw)) st a5 a6 a7 a8 a9 a10 a11)=.val (.nx (rA ns k sz (.own (kn.map aw)) s1 a5 a6 a7 a8 a9 a10 a11)):=xt hs1;have x2:asg 6 (bin (iI a_) (bin (iI dq) (vb 4) (kd (.int 64))) (una aA (vb 2))) (rA ns k sz (.own (kn.map aw)) s1 a5 a6 a7 a8 a9 a10 a11)=.val (.nx (rA ns k sz (.own (kn.map aw)) s1 a5 (sh (nD o1)) a7 a8 a9 a10 a11)):=zf q1;have x3:asg 4 (cal 1 aM (aC (vr 4) aN)) (rA ns k sz (.own (kn.map aw)) s1 a5 (sh (nD o1)) a7 a8 a9 a10 a11)=.val (.nx (rA ns k sz (.own (kn.map aw)) s2 a5 (sh (nD o1)) a7 a8 a9 a10 a11)):=xt hs2;have x4:asg 7 (bin (iI a_) (bin (iI dq) (vb 4) (kd (.int 64))) (una aA (vb 2))) (rA ns k sz (.own (kn.map aw)) s2 a5 (sh (nD o1)) a7 a8 a9 a10 a11)=.val (.nx (rA ns k sz (.own (kn.map aw)) s2 a5 (sh (nD o1)) (sh (nD o2)) a8 a9 a10 a11)):=ze q2;have x5:own 8 (fS aN) (rA ns k sz (.own (kn.map aw)) s2 a5 (sh (nD o1)) (sh (nD o2)) a8 a9 a10 a11)=.val (.nx (rA ns k sz (.own (kn.map aw)) s2 a5 (sh (nD o1)) (sh (nD o2)) (some (.own [])) a9 a10 a11)):=Eq.trans rfl rfl;have x6:bh (bF (aC (bin fix (vb 2) (vb 6)) aN)) (tgN 9) wO (rA ns k sz (.own (kn.map aw)) s2 a5 (sh (nD o1)) (sh (nD o2)) (some (.own [])) a9 a10 a11)=.val (.nx (rA ns k sz (.own (kn.map aw)) s3 a5 (sh (nD o1)) (sh (nD o2)) (some (.own (l.map nD))) a9' a10 a11)):=by
   rw[cU];have:bF (aC (bin fix (vb 2) (vb 6)) aN) (rA ns k sz (.own (kn.map aw)) s2 a5 (sh (nD o1)) (sh (nD o2)) (some (.own [])) a9 a10 a11)=.val (rng 0 (sz.getD o1 0)):=by unfold rA;simp[-List.getD_eq_getElem?_getD,f1,hr]
   rw[this,ag,e]
  show sq _ _ _=_;rw[aX,x1,ag];dsimp only;rw[aX,x2,ag];dsimp only;rw[aX,x3,ag];dsimp only;rw[aX,x4,ag];dsimp only;rw[aX,x5,ag];dsimp only;rw[aX,x6,ag]
 rw[start];have hT:orB (tst (bin feq (bin fix (vb 2) (vb 6)) (kd (.int 0)))) (tst (bin (iI fgt) (bin fix (vb 2) (vb 7)) (kd (.int 0)))) (rA ns k sz (.own (kn.map aw)) s3 a5 (sh (nD o1)) (sh (nD o2)) (some (.own (l.map nD))) a9' a10 a11)=.val (decide (sz.getD o1 0=0\/0<sz.getD o2 0)):=by
  unfold rA;by_cases z:sz.getD o1 0=0
  ·simp[-List.getD_eq_getElem?_getD,f1,z]
  ·have z':¬ (((sz.getD o1 0:Nat):Int)=0):=by omega
   simp[-List.getD_eq_getElem?_getD,f1,f2,z,z']
 rw[cx,hT,ag];by_cases hc:sz.getD o1 0=0\/0<sz.getD o2 0
 ·rw[decide_eq_true hc,if_pos rfl];have hok:Ok sz (o1,o2,l):=by
   refine⟨sz.getD o1 0,sz.getD o2 0,by rw[bc ho1];simp[ho1],by rw[bc ho2];simp[ho2],hl,λy hy=>?_⟩;have:=hb y hy;unfold bnd at this;have hy0:sz.getD o1 0≠0:=λz=>by
    rw[z]at hl;have:l=[]:=List.length_eq_zero_iff.mp hl;rw[this]at hy;cases hy
   split at this
   ·rename_i e3;have:=vA sz hz o1 ho1 o2 ho2 e3;omega
   ·rcases hc with hc|hc
    ·exact absurd hc hy0
    ·have:max 1 (sz.getD o2 0)=sz.getD o2 0:=by omega
     omega
  have hv:eT (aC (vr 6) (aC (vr 7) (aC (una je (vb 8)) aN))) (rA ns k sz (.own (kn.map aw)) s3 a5 (sh (nD o1)) (sh (nD o2)) (some (.own (l.map nD))) a9' a10 a11)=.val (aw (o1,o2,l)):=by
   unfold rA;simp;rfl
  have hn:tst (bin (lT true) (eT (aC (vr 6) (aC (vr 7) (aC (una je (vb 8)) aN)))) (vb 3)) (rA ns k sz (.own (kn.map aw)) s3 a5 (sh (nD o1)) (sh (nD o2)) (some (.own (l.map nD))) a9' a10 a11)=.val (!decide ((o1,o2,l)∈kn)):=by
   rw[bv,aH,hv,ag];show((R.val (D.lst (kn.map aw))).bind λy=>lT true (aw (o1,o2,l)) y).bind asB=_;rw[ag,xT];rfl
  rw[cx,hn,ag];refine⟨oE kn (o1,o2,l),s3,sh (nD o1),sh (nD o2),some (.own (l.map nD)),a9',?_,vv hk hok,sP _ _⟩;unfold oE;by_cases hin:(o1,o2,l)∈kn
  ·rw[if_pos hin,decide_eq_true hin];rfl
  ·rw[if_neg hin,decide_eq_false hin];rw[if_pos (show(!false)=true from rfl)];rw[iS (xs:=kn.map aw) _ rfl hv (by rw[List.length_map];omega)];unfold rA;rw[List.map_append];rfl
 ·rw[decide_eq_false hc];exact⟨kn,s3,_,_,_,_,rfl,hk,List.prefix_refl _⟩
end
section
variable {ns:List Int} {k:Nat} {sz:List Nat}
theorem Ck (hz:sz∈szs) (a3 a4 a5 a6 a7 a8 a9 a10 a11:Option Slt):aW (bF (aC (una aA (vb 2)) aN)) 1 (tgN 12) tT (eT (aC (vr 12) (aC (vr 12) (aC (iJ (aC (bin fix (vb 2) (vb 12)) aN)) aN)))) [sh (.scr ns),sh (nD k),sh (ak sz),a3,a4,a5,a6,a7,a8,a9,a10,a11]=.val (((List.range sz.length).map (idm sz)).map aw):=by
 obtain⟨l1,l4,l3⟩:=iX sz hz;have:=dU (src:=bF (aC (una aA (vb 2)) aN)) (m:=sz.length) (n:=1) (i:=12) (e:=eT (aC (vr 12) (aC (vr 12) (aC (iJ (aC (bin fix (vb 2) (vb 12)) aN)) aN)))) (g:=λb=>aw (idm sz b)) (U:=[sh (.scr ns),sh (nD k),sh (ak sz),a3,a4,a5,a6,a7,a8,a9,a10,a11]) (by simp;exact cK (by omega)) (by omega) λb hb=>by
  have f1:=i_ (sz:=sz) hb;have hs:sz.getD b 0<=3:=by rw[bc hb];exact l3 _ (List.getElem_mem hb)
  have:=uz (n:=sz.getD b 0) (by omega);simp[-List.getD_eq_getElem?_getD,f1,this];rfl
 rw[this,List.map_map];rfl
theorem xf {mx:List Arr} {x:Arr} {l:List Arr} (p:Nat) (h:mx.Perm l):(mx.take p++x::mx.drop p).Perm (l++[x]):=by
 have h1:(mx.take p++x::mx.drop p).Perm (x::(mx.take p++mx.drop p)):=List.perm_middle;rw[List.take_append_drop]at h1;exact h1.trans ((h.cons x).trans (List.perm_append_singleton x l).symm)
abbrev zw:Rho->R Out:=sq (asg 4 (cal 1 aM (aC (vr 4) aN)))
 (ins 10 (bin (iI a_) (bin (iI dq) (vb 4) (kd (.int 64))) (bin ba (una aA (vb 10)) (kd (.int 1)))) (vr 11))
theorem z8 {mx:List Arr} {x:Arr} (hl:mx.length<=27) (a5 a6 a7 a8 a9:Option Slt) :
  ∃(st':Int) (p:Nat),zw (rA ns k sz known st a5 a6 a7 a8 a9 (some (.own (mx.map aw))) (sh (aw x)))=.val (.nx (rA ns k sz known st' a5 a6 a7 a8 a9 (some (.own ((mx.take p++x::mx.drop p).map aw))) (sh (aw x)))):=by
 obtain⟨s1,hs1⟩:=jZ st;obtain⟨p,hp,q⟩:=pick s1 (n:=mx.length+1) (by omega);have q':a_ (s1/64) ((mx.length:Int)+1)=.val (.int (p:Int)):=q;refine⟨s1,p,?_⟩;have x1:asg 4 (cal 1 aM (aC (vr 4) aN)) (rA ns k sz known st a5 a6 a7 a8 a9 (some (.own (mx.map aw))) (sh (aw x)))=.val (.nx (rA ns k sz known s1 a5 a6 a7 a8 a9 (some (.own (mx.map aw))) (sh (aw x)))):=by unfold rA;simp[hs1]
 show sq _ _ _=_;rw[aX,x1,ag];dsimp only;rw[xN (xs:=mx.map aw) (n:=p) (d:=aw x) _ rfl (by unfold rA;simp[d64,q']) rfl (by rw[List.length_map];omega) (by rw[List.length_map];omega)];unfold rA;simp
theorem wg (hz:sz∈szs) (ns:List Int) (k:Nat):∃kn,Good sz kn/\cn [.scr ns,.int (k:Int),ak sz]=.val (.lst (kn.map aw)):=by
 obtain⟨l1,l4,l3⟩:=iX sz hz;obtain⟨c1,hc1⟩:=j3 ns k;obtain⟨c2,hc2⟩:=j3 ns (k+1);obtain⟨s0,hs0⟩:=jZ (c1*1000003%2147483647+17);have hc2':av [.scr ns,.int ((k:Int)+1)]=.val (.int c2):=hc2;have m5:a_ c2 5=.val (.int (c2%5)):=eR (by decide);have mm:cY c1 1000003=.val (.int (c1*1000003)):=jX (by decide);have md:a_ (c1*1000003) 2147483647=.val (.int (c1*1000003%2147483647)):=eR (by decide);have hr:on [.int (c2%5)]=.val (rng 0 (c2%5).toNat):=wP (by omega) (by omega)
 let kn0:=(List.range sz.length).map (idm sz)
 have hk0:Kn sz kn0:=B8 sz;obtain⟨U1,e1,kn1,st1,a5,a6,a7,a8,a9,rfl,hk1,hp1⟩:=jS (i:=5) (n:=(c2%5).toNat) (F:=sN) (U:=rA ns k sz (.own (kn0.map aw)) s0 none none none none none none none) (λ_ U=>∃(kn:List Arr) (st:Int) (a5 a6 a7 a8 a9:Option Slt),U=rA ns k sz (.own (kn.map aw)) st a5 a6 a7 a8 a9 none none/\Kn sz kn/\kn0 <+: kn) (λx U hx hI=>by
  obtain⟨kn,st,a5,a6,a7,a8,a9,rfl,hk,hp⟩:=hI;obtain⟨kn',st',b6,b7,b8,b9,e,g1,g2⟩:=yd (ns:=ns) (k:=k) hz hk st (sh (.int (x:Int))) a6 a7 a8 a9 none none;exact⟨_,e,kn',st',_,b6,b7,b8,b9,rfl,g1,hp.trans g2⟩) ⟨kn0,s0,none,none,none,none,none,rfl,hk0,List.prefix_refl _⟩
 obtain⟨kn2,hcl,hk2,hp2,hcl2⟩:=wf hz hk1;have few2:=Kn.few hz hk2;have good:Good sz kn2:=⟨hz,hk2.nd,hk2.ok,λb hb=>hp2.subset (hp1.subset (List.mem_map.mpr ⟨b,List.mem_range.mpr hb,rfl⟩)),hcl2⟩;obtain⟨U3,e3,mx,st3,a11,rfl,hperm⟩:=gG (T:=tgN 11) (F:=zw) (xs:=kn2.map aw) (U:=rA ns k sz (.shr (.lst (kn2.map aw))) st1 a5 a6 a7 a8 a9 (some (.own [])) none) (λi U=>∃(mx:List Arr) (st:Int) (a11:Option Slt),U=rA ns k sz (.shr (.lst (kn2.map aw))) st a5 a6 a7 a8 a9 (some (.own (mx.map aw))) a11/\mx.Perm (kn2.take i)) (λi x U hx hI=>by
  obtain⟨mx,st,a11,rfl,hperm⟩:=hI;have hi:i<kn2.length:=by have:=(List.getElem?_eq_some_iff.mp hx).1;simpa using this
  have hxe:x=aw kn2[i]:=by
   rw[List.getElem?_map]at hx;simp[hi]at hx;exact hx.symm
  subst hxe;have hml:mx.length<=27:=by rw[hperm.length_eq,List.length_take];omega
  obtain⟨st',p,e⟩:=z8 (ns:=ns) (k:=k) (sz:=sz) (known:=.shr (.lst (kn2.map aw))) (st:=st) (x:=kn2[i]) hml a5 a6 a7 a8 a9;refine⟨_,_,rfl,e,_,st',_,rfl,?_⟩;rw[List.take_succ_eq_append_getElem hi];exact xf p hperm) ⟨[],st1,none,rfl,by simp⟩
 rw[List.length_map,List.take_length]at hperm;refine⟨mx,good.perm hperm,?_⟩;simp only[cn,fV];show fin (sq (own 3 _) _ [sh (.scr ns),sh (nD k),sh (ak sz),none,none,none,none,none,none,none,none,none])=_;rw[aX,BG,Ck hz,ag,ag];show fin (sq (asg 4 _) _ [sh (.scr ns),sh (nD k),sh (ak sz),some (.own (kn0.map aw)),none,none,none,none,none,none,none,none])=_;have x1:asg 4 (cal 1 aM (aC (bin ba (bin (iI a_) (bin (iI cY) (cal 2 av (aC (vr 0) (aC (vr 1) aN))) (kd (.int 1000003))) (kd (.int 2147483647))) (kd (.int 17))) aN)) [sh (.scr ns),sh (nD k),sh (ak sz),some (.own (kn0.map aw)),none,none,none,none,none,none,none,none]=.val (.nx (rA ns k sz (.own (kn0.map aw)) s0 none none none none none none none)):=by
  unfold rA;simp[hc1,mm,md,hs0]
 rw[aX,x1,ag];dsimp only;have x2:bh (bF (aC (bin (iI a_) (cal 2 av (aC (vr 0) (aC (bin ba (vb 1) (kd (.int 1))) aN))) (kd (.int 5))) aN)) (tgN 5) sN (rA ns k sz (.own (kn0.map aw)) s0 none none none none none none none)=.val (.nx (rA ns k sz (.own (kn1.map aw)) st1 a5 a6 a7 a8 a9 none none)):=by
  rw[cU];have:bF (aC (bin (iI a_) (cal 2 av (aC (vr 0) (aC (bin ba (vb 1) (kd (.int 1))) aN))) (kd (.int 5))) aN) (rA ns k sz (.own (kn0.map aw)) s0 none none none none none none none)=.val (rng 0 (c2%5).toNat):=by unfold rA;simp[hc2',m5,hr]
  rw[this,ag,e1]
 show fin (sq (bh (bF (aC (bin (iI a_) (cal 2 av (aC (vr 0) (aC (bin ba (vb 1) (kd (.int 1))) aN))) (kd (.int 5))) aN)) (tgN 5) sN) _ _)=_;rw[aX,x2,ag];dsimp only;have x3:zu 3 cq (rA ns k sz (.own (kn1.map aw)) st1 a5 a6 a7 a8 a9 none none)=.val (.nx (rA ns k sz (.shr (.lst (kn2.map aw))) st1 a5 a6 a7 a8 a9 none none)):=by
  show(noex (cq (kn1.map aw))).bind _=_;rw[hcl];rfl
 rw[aX,x3,ag];dsimp only;have x4:own 10 (fS aN) (rA ns k sz (.shr (.lst (kn2.map aw))) st1 a5 a6 a7 a8 a9 none none)=.val (.nx (rA ns k sz (.shr (.lst (kn2.map aw))) st1 a5 a6 a7 a8 a9 (some (.own [])) none)):=by unfold rA;simp
 rw[aX,x4,ag];dsimp only;show fin (sq (bh (fIt (vr 3)) (tgN 11) zw) _ (rA ns k sz (.shr (.lst (kn2.map aw))) st1 a5 a6 a7 a8 a9 (some (.own [])) none))=_;have x5:bh (fIt (vr 3)) (tgN 11) zw (rA ns k sz (.shr (.lst (kn2.map aw))) st1 a5 a6 a7 a8 a9 (some (.own [])) none)=.val (.nx (rA ns k sz (.shr (.lst (kn2.map aw))) st3 a5 a6 a7 a8 a9 (some (.own (mx.map aw))) a11)):=by
  rw[cU];show(R.val (kn2.map aw)).bind _=_;rw[ag,e3]
 rw[aX,x5,ag];rfl
end
def plD:List Arr->Nat->List (KA×D)
 | [],_=>[]
 | x::r,s=>(gI x,nD s)::plD r (s+1)
theorem wZ:∀(l:List Arr) (s:Nat),(plD l s).length=l.length
 | [],_=>rfl
 | x::r,s=>by simp[plD,wZ r (s+1)]
theorem w5 (x:Arr):∀(l:List Arr) (s:Nat),((plD l s).any λp=>decide (p.1=gI x))=decide (x∈l)
 | [],_=>by simp[plD]
 | y::r,s=>by
  show(decide (gI y=gI x)||(plD r (s+1)).any λp=>decide (p.1=gI x))=_;rw[w5 x r (s+1)];by_cases h:y=x
  ·subst h;simp
  ·have:¬ gI y=gI x:=λe=>h (nr e);have h':¬ x=y:=λe=>h e.symm;simp[this,h']
theorem w4 (x:Arr):∀(l:List Arr) (s:Nat),plD (l++[x]) s=plD l s++[(gI x,nD (s+l.length))]
 | [],s=>rfl
 | y::r,s=>by
  show(gI y,nD s)::plD (r++[x]) (s+1)=_;rw[w4 x r (s+1)];have:s+1+r.length=s+(y::r).length:=by simp;omega
  rw[this];rfl
theorem Bv {x:Arr} {l:List Arr} (h:x∉l):nq (plD l 0) (gI x) (nD l.length)=plD (l++[x]) 0:=by
 unfold nq;rw[w5,decide_eq_false h,if_neg (by decide),w4,Nat.zero_add]
theorem tK {x:Arr}:∀{l:List Arr} (s:Nat),x∈l->tQ (plD l s) (gI x)=some (nD (s+l.idxOf x))
 | [],_,h=>by cases h
 | y::r,s,h=>by
  unfold tQ plD;by_cases e:y=x
  ·subst e;simp
  ·have e':¬ gI y=gI x:=λz=>e (nr z);rw[List.find?_cons_of_neg (by simpa using e')];have hr:x∈r:=by
    rcases List.mem_cons.mp h with q|q
    ·exact absurd q.symm e
    ·exact q
   have ih:=tK (l:=r) (s+1) hr;unfold tQ at ih;rw[ih];have:(y::r).idxOf x=r.idxOf x+1:=by
    rw[List.idxOf_cons];have:(y==x)=false:=by simpa using e
    rw[this];rfl
   rw[this]
   congr 2
   omega
def rP (ns:List Int) (k:Nat) (sz:List Nat) (kn:List Arr) (pl:List (KA×D)) (a5 a6 a7 a8 a9 a10 a11:Option Slt):Rho:=[sh (.scr ns),sh (nD k),sh (ak sz),sh (.lst (kn.map aw)),some (.dic pl),a5,a6,a7,a8,a9,a10,a11]
section
variable {ns:List Int} {k:Nat} {sz:List Nat} {kn:List Arr}
theorem Ce (h:i<kn.length):fix (.lst (kn.map aw)) (.int (i:Int))=.val (aw kn[i]):=iC (by simp[h])
theorem x9 (g:Good sz kn) (a6 a7 a8 a9 a10 a11:Option Slt):∃a5,bh (bF (aC (una aA (vb 3)) aN)) (tgN 5) (qA 4 (bin fix (vb 3) (vb 5)) (vr 5)) (rP ns k sz kn [] none a6 a7 a8 a9 a10 a11)=.val (.nx (rP ns k sz kn (plD kn 0) a5 a6 a7 a8 a9 a10 a11)):=by
 have few:=g.few;obtain⟨U',e,a5,rfl⟩:=jS (i:=5) (n:=kn.length) (F:=qA 4 (bin fix (vb 3) (vb 5)) (vr 5)) (U:=rP ns k sz kn [] none a6 a7 a8 a9 a10 a11) (λi U=>∃a5,U=rP ns k sz kn (plD (kn.take i) 0) a5 a6 a7 a8 a9 a10 a11) (λi U hi hI=>by
  obtain⟨a5,rfl⟩:=hI;have hx:=Ce hi;have hl:(kn.take i).length=i:=by rw[List.length_take];omega
  have nin:kn[i]∉kn.take i:=λh=>by
   obtain⟨j,hj,e⟩:=List.mem_take_iff_getElem.mp h;exact(List.pairwise_iff_getElem.mp g.nd) j i (by omega) hi (by omega) e
  refine⟨_,?_,sh (.int (i:Int)),rfl⟩;show qA 4 _ _ (rP ns k sz kn (plD (kn.take i) 0) (sh (.int (i:Int))) a6 a7 a8 a9 a10 a11)=_;rw[vg (kvs:=plD (kn.take i) 0) (kd:=aw kn[i]) (d:=nD i) _ rfl (by unfold rP;simp[hx]) rfl (gH _) (by rw[wZ];omega)];have:=Bv nin;rw[hl]at this;rw[this,<- List.take_succ_eq_append_getElem hi];rfl) ⟨none,rfl⟩
 refine⟨a5,?_⟩;rw[cU];have:bF (aC (una aA (vb 3)) aN) (rP ns k sz kn [] none a6 a7 a8 a9 a10 a11)=.val (rng 0 kn.length):=by
  unfold rP;simp;exact cK (by omega)
 rw[this,ag,e,List.take_length]
abbrev Cn:Rho->R Out:=sq (asg 10 (una qj (kd (.int 1))))
 (sq (DL.iff (tst (bin feq (bin fix (vb 7) (kd (.int 1))) (bin fix (vb 9) (kd (.int 0)))))
 (asg 10 (qC 4 (eT (aC (bin fix (vb 7) (kd (.int 0))) (aC (bin fix (vb 9) (kd (.int 1))) (aC (una je (eLs (aW (fIt (bin fix (vb 7) (kd (.int 2)))) 1 (tgN 12) tT (bin fix (bin fix (vb 9) (kd (.int 2))) (vb 12))))) aN))))))
 nxt)
 (app 8 (vr 10)))
theorem Ab (g:Good sz kn) {x y:Arr} (hx:x∈kn) (hy:y∈kn) {row:List D} (hl:row.length<=27) (a5 a6 a10 a11:Option Slt) :
  ∃b10,Cn (rP ns k sz kn (plD kn 0) a5 a6 (sh (aw x)) (some (.own row)) (sh (aw y)) a10 a11)=.val (.nx (rP ns k sz kn (plD kn 0) a5 a6 (sh (aw x)) (some (.own (row++[.int (mk kn x y)]))) (sh (aw y)) b10 a11)):=by
 have x1:asg 10 (una qj (kd (.int 1))) (rP ns k sz kn (plD kn 0) a5 a6 (sh (aw x)) (some (.own row)) (sh (aw y)) a10 a11)=.val (.nx (rP ns k sz kn (plD kn 0) a5 a6 (sh (aw x)) (some (.own row)) (sh (aw y)) (sh (.int (-1))) a11)):=by unfold rP;simp
 have last:∀z:Int,app 8 (vr 10) (rP ns k sz kn (plD kn 0) a5 a6 (sh (aw x)) (some (.own row)) (sh (aw y)) (sh (.int z)) a11)=.val (.nx (rP ns k sz kn (plD kn 0) a5 a6 (sh (aw x)) (some (.own (row++[.int z]))) (sh (aw y)) (sh (.int z)) a11)):=λz=>by
  rw[iS (xs:=row) (d:=.int z) _ rfl rfl (by omega)];rfl
 have hT:tst (bin feq (bin fix (vb 7) (kd (.int 1))) (bin fix (vb 9) (kd (.int 0)))) (rP ns k sz kn (plD kn 0) a5 a6 (sh (aw x)) (some (.own row)) (sh (aw y)) (sh (.int (-1))) a11)=.val (decide (x.2.1=y.1)):=by
  unfold rP;simp;omega
 show ∃b10,sq _ _ _=_;rw[aX,x1,ag];dsimp only;rw[aX,cx,hT,ag];unfold mk;by_cases e:x.2.1=y.1
 ·rw[decide_eq_true e,if_pos rfl,if_pos e];have hc:=vl g.szm (g.ok x hx) (g.ok y hy) e (src:=fIt (bin fix (vb 7) (kd (.int 2)))) (el:=bin fix (bin fix (vb 9) (kd (.int 2))) (vb 12)) (i:=12) (U:=rP ns k sz kn (plD kn 0) a5 a6 (sh (aw x)) (some (.own row)) (sh (aw y)) (sh (.int (-1))) a11) (by simp[rP]) (λk=>by simp[rP]);have hv:eT (aC (bin fix (vb 7) (kd (.int 0))) (aC (bin fix (vb 9) (kd (.int 1))) (aC (una je (eLs (aW (fIt (bin fix (vb 7) (kd (.int 2)))) 1 (tgN 12) tT (bin fix (bin fix (vb 9) (kd (.int 2))) (vb 12))))) aN))) (rP ns k sz kn (plD kn 0) a5 a6 (sh (aw x)) (some (.own row)) (sh (aw y)) (sh (.int (-1))) a11)=.val (aw (comp x y)):=by
   simp only[nV,cM,e9,bB,hc];unfold rP;simp;rfl
  have hg:=tK 0 (g.cl x hx y hy e);rw[Nat.zero_add]at hg;rw[eB,vi (kvs:=plD kn 0) _ rfl hv (gH _) hg,ag,ag];dsimp only;exact⟨_,last _⟩
 ·rw[decide_eq_false e,if_neg (by decide),if_neg e];exact⟨_,last _⟩
abbrev yX:Rho->R Out:=sq (own 8 (fS aN))
 (sq (bh (fIt (vr 3)) (tgN 9) Cn)
 (fz 8 (app 6 (vr 8))))
theorem zZ (g:Good sz kn) {x:Arr} (hx:x∈kn) {tab:List D} (hl:tab.length<=27) (a5 a8 a9 a10 a11:Option Slt) :
  ∃b8 b9 b10,yX (rP ns k sz kn (plD kn 0) a5 (some (.own tab)) (sh (aw x)) a8 a9 a10 a11)=.val (.nx (rP ns k sz kn (plD kn 0) a5 (some (.own (tab++[aQ (kn.map λy=>mk kn x y)]))) (sh (aw x)) b8 b9 b10 a11)):=by
 have few:=g.few;obtain⟨U',e,a9',a10',rfl⟩:=gG (T:=tgN 9) (F:=Cn) (xs:=kn.map aw) (U:=rP ns k sz kn (plD kn 0) a5 (some (.own tab)) (sh (aw x)) (some (.own [])) a9 a10 a11) (λi U=>∃a9 a10,U=rP ns k sz kn (plD kn 0) a5 (some (.own tab)) (sh (aw x)) (some (.own (((kn.take i).map λy=>mk kn x y).map D.int))) a9 a10 a11) (λi d U hd hI=>by
  obtain⟨a9,a10,rfl⟩:=hI;have hi:i<kn.length:=by have:=(List.getElem?_eq_some_iff.mp hd).1;simpa using this
  have hde:d=aw kn[i]:=by
   rw[List.getElem?_map]at hd;simp[hi]at hd;exact hd.symm
  subst hde;obtain⟨b10,e⟩:=Ab (ns:=ns) (k:=k) g hx (List.getElem_mem hi) (row:=((kn.take i).map λy=>mk kn x y).map D.int) (by simp;omega) a5 (some (.own tab)) a10 a11;refine⟨_,_,rfl,e,sh (aw kn[i]),b10,?_⟩;rw[List.take_succ_eq_append_getElem hi,List.map_append,List.map_append];rfl) ⟨a9,a10,rfl⟩
 rw[List.length_map,List.take_length]at e;refine⟨sh (aQ (kn.map λy=>mk kn x y)),a9',a10',?_⟩;show sq _ _ _=_;have x1:own 8 (fS aN) (rP ns k sz kn (plD kn 0) a5 (some (.own tab)) (sh (aw x)) a8 a9 a10 a11)=.val (.nx (rP ns k sz kn (plD kn 0) a5 (some (.own tab)) (sh (aw x)) (some (.own [])) a9 a10 a11)):=by unfold rP;simp
 rw[aX,x1,ag];dsimp only;rw[aX,cU];show((((R.val (kn.map aw)).bind _)).bind _)=_;rw[ag,e,ag];dsimp only;rw[AL];show app 6 (vr 8) (rP ns k sz kn (plD kn 0) a5 (some (.own tab)) (sh (aw x)) (sh (aQ (kn.map λy=>mk kn x y))) a9' a10' a11)=_;rw[iS (xs:=tab) (d:=aQ (kn.map λy=>mk kn x y)) _ rfl rfl (by omega)];rfl
theorem x_ (ns:List Int) (k:Nat):∃sz kn,Good sz kn/\dk [.scr ns,.int (k:Int)]=.val (.tup [bP (ig kn),ak (gX sz kn),aS (gE kn),.lst (kn.map aw),ak sz]):=by
 obtain⟨sz,hz,hs⟩:=xZ ns k;obtain⟨l1,l4,l3⟩:=iX sz hz;obtain⟨kn,g,ha⟩:=wg hz ns (k+1);have ha':cn [.scr ns,.int ((k:Int)+1),ak sz]=.val (.lst (kn.map aw)):=ha;have few:=g.few;obtain⟨a5,ep⟩:=x9 (ns:=ns) (k:=k) g none none none none none none;obtain⟨U',et,a7,a8,a9,a10,rfl⟩:=gG (T:=tgN 7) (F:=yX) (xs:=kn.map aw) (U:=rP ns k sz kn (plD kn 0) a5 (some (.own [])) none none none none none) (λi U=>∃a7 a8 a9 a10,U=rP ns k sz kn (plD kn 0) a5 (some (.own ((kn.take i).map λx=>aQ (kn.map λy=>mk kn x y)))) a7 a8 a9 a10 none) (λi d U hd hI=>by
  obtain⟨a7,a8,a9,a10,rfl⟩:=hI;have hi:i<kn.length:=by have:=(List.getElem?_eq_some_iff.mp hd).1;simpa using this
  have hde:d=aw kn[i]:=by
   rw[List.getElem?_map]at hd;simp[hi]at hd;exact hd.symm
  subst hde;obtain⟨b8,b9,b10,e⟩:=zZ (ns:=ns) (k:=k) g (List.getElem_mem hi) (tab:=(kn.take i).map λx=>aQ (kn.map λy=>mk kn x y)) (by simp;omega) a5 a8 a9 a10 none;refine⟨_,_,rfl,e,sh (aw kn[i]),b8,b9,b10,?_⟩;rw[List.take_succ_eq_append_getElem hi,List.map_append];rfl) ⟨none,none,none,none,rfl⟩
 rw[List.length_map,List.take_length]at et;refine⟨sz,kn,g,?_⟩;simp only[dk,gB];show fin (sq (asg 2 _) _ [sh (.scr ns),sh (nD k),none,none,none,none,none,none,none,none,none,none])=_;have x1:asg 2 (cal 2 dh (aC (vr 0) (aC (vr 1) aN))) [sh (.scr ns),sh (nD k),none,none,none,none,none,none,none,none,none,none]=.val (.nx [sh (.scr ns),sh (nD k),sh (ak sz),none,none,none,none,none,none,none,none,none]):=by simp[hs]
 rw[aX,x1,ag];dsimp only;have x2:asg 3 (cal 3 cn (aC (vr 0) (aC (bin ba (vb 1) (kd (.int 1))) (aC (vr 2) aN)))) [sh (.scr ns),sh (nD k),sh (ak sz),none,none,none,none,none,none,none,none,none]=.val (.nx [sh (.scr ns),sh (nD k),sh (ak sz),sh (.lst (kn.map aw)),none,none,none,none,none,none,none,none]):=by simp[ha']
 rw[aX,x2,ag];dsimp only;rw[aX,vh,ag];dsimp only;show fin (sq (bh _ (tgN 5) _) _ (rP ns k sz kn [] none none none none none none none))=_;rw[aX,ep,ag];dsimp only;have x3:own 6 (fS aN) (rP ns k sz kn (plD kn 0) a5 none none none none none none)=.val (.nx (rP ns k sz kn (plD kn 0) a5 (some (.own [])) none none none none none)):=by unfold rP;simp
 rw[aX,x3,ag];dsimp only;have x4:bh (fIt (vr 3)) (tgN 7) yX (rP ns k sz kn (plD kn 0) a5 (some (.own [])) none none none none none)=.val (.nx (rP ns k sz kn (plD kn 0) a5 (some (.own (kn.map λx=>aQ (kn.map λy=>mk kn x y)))) a7 a8 a9 a10 none)):=by
  rw[cU];show(R.val (kn.map aw)).bind _=_;rw[ag,et]
 show fin (sq (bh (fIt (vr 3)) (tgN 7) yX) _ _)=_;rw[aX,x4,ag];dsimp only;have hrest:aW (bF (aC (una aA (vb 2)) aN)) 1 (tgN 12) tT (qC 4 (eT (aC (vr 12) (aC (vr 12) (aC (iJ (aC (bin fix (vb 2) (vb 12)) aN)) aN))))) (rP ns k sz kn (plD kn 0) a5 (some (.own (kn.map λx=>aQ (kn.map λy=>mk kn x y)))) a7 a8 a9 a10 none)=.val ((gX sz kn).map nD):=by
  have:=dU (src:=bF (aC (una aA (vb 2)) aN)) (m:=sz.length) (n:=1) (i:=12) (e:=qC 4 (eT (aC (vr 12) (aC (vr 12) (aC (iJ (aC (bin fix (vb 2) (vb 12)) aN)) aN))))) (g:=λb=>nD (kn.idxOf (idm sz b))) (U:=rP ns k sz kn (plD kn 0) a5 (some (.own (kn.map λx=>aQ (kn.map λy=>mk kn x y)))) a7 a8 a9 a10 none) (by unfold rP;simp;exact cK (by omega)) (by omega) λb hb=>by
   have f1:=i_ (sz:=sz) hb;have hs:sz.getD b 0<=3:=by rw[bc hb];exact l3 _ (List.getElem_mem hb)
   have hrg:=uz (n:=sz.getD b 0) (by omega);have hg:=tK 0 (g.rest b hb);rw[Nat.zero_add]at hg;refine vi (kvs:=plD kn 0) (kd:=aw (idm sz b)) _ rfl ?_ (gH _) hg;unfold rP;simp[-List.getD_eq_getElem?_getD,f1,hrg];rfl
  rw[this];unfold gX;rw[List.map_map];rfl
 rw[aX,eB,bB,hrest,ag,ag,ag];dsimp only;rw[AL];have hens:∀t a7 a8 a9 a10 a11,aW (fIt (vr 3)) 1 (tgN 12) tT (eT (aC (bin fix (vb 12) (kd (.int 0))) (aC (bin fix (vb 12) (kd (.int 1))) aN))) (rP ns k sz kn (plD kn 0) a5 t a7 a8 a9 a10 a11)=.val ((ig kn).map dv):=λt a7 a8 a9 a10 a11=>by
  rw[cy (f:=aw) (l:=kn) (g:=λx=>dv (x.1,x.2.1)) rfl (by omega) λx _=>by unfold rP;simp;rfl];unfold ig;rw[List.map_map];rfl
 have htab:D.lst (kn.map λx=>aQ (kn.map λy=>mk kn x y))=aS (gE kn):=by
  unfold aS gE;rw[List.map_map];rfl
 show fin (ret _ (rP ns k sz kn (plD kn 0) a5 (sh (.lst (kn.map λx=>aQ (kn.map λy=>mk kn x y)))) a7 a8 a9 a10 (sh (ak (gX sz kn)))))=_;rw[htab,dE,nV,cM,bB,hens,ag,ag];unfold rP;simp;rfl
theorem Aa {sz kn:List _} (g:Good sz kn) (r:List D):dG [.tup (bP (ig kn)::ak (gX sz kn)::aS (gE kn)::r)]=.val (.ob (bP (ig kn)) (ak (gX sz kn)) (aS (gE kn))):=by
 have h:=uT g;have n1:=h.na40;have n2:=h.tl;simp only[dG,hX];have hf:aW (fIt (bin fix (vb 0) (kd (.int 2)))) 1 (tgN 1) tT (eLs (fIt (vb 1))) [sh (.tup (bP (ig kn)::ak (gX sz kn)::aS (gE kn)::r))]=.val ((gE kn).map aQ):=cy (f:=aQ) (by simp;rfl) (by omega) λr _=>rfl;have eh:=uZ h;show fin (ret _ [sh (.tup (bP (ig kn)::ak (gX sz kn)::aS (gE kn)::r))])=_;have ha:aC (eLs (fIt (bin fix (vb 0) (kd (.int 0))))) (aC (eLs (fIt (bin fix (vb 0) (kd (.int 1))))) (aC (eLs (aW (fIt (bin fix (vb 0) (kd (.int 2)))) 1 (tgN 1) tT (eLs (fIt (vb 1))))) aN)) [sh (.tup (bP (ig kn)::ak (gX sz kn)::aS (gE kn)::r))]=.val [bP (ig kn),ak (gX sz kn),aS (gE kn)]:=by
  simp only[cM,bB,hf];simp;rfl
 rw[dE,BU,ha,ag];dsimp only;rw[eh];rfl
end
section
variable (U:Rho)
@[simp] theorem As (a b:Rho->R D):yC a b U=(a U).bind λx=>(asB x).bind λc=>if c=true then b U else .val (.bl false):=Eq.trans rfl rfl
end
theorem o3 {Y:Type} {T:D->Rho->Option Rho} {t:Rho->R Bool} {e:Rho->R D} {f g:Y->D} {p:Y->Bool} {U:Rho}:∀{l:List Y},(∀a∈l,∃U1,T (f a) U=some U1/\t U1=.val (p a)/\e U1=.val (g a))->iN T t e (l.map f) U=.val ((l.filter p).map g)
 | [],_=>rfl
 | a::r,h=>by
  obtain⟨U1,h1,h2,h3⟩:=h a (by simp);have ih:=o3 (T:=T) (t:=t) (e:=e) (f:=f) (g:=g) (p:=p) (U:=U) (l:=r) λb hb=>h b (by simp[hb]);rw[List.map_cons];unfold iN;rw[h1];show(noE (t U1)).bind _=_;rw[h2,List.filter_cons];cases q:p a with
  | true=>simp[h3,ih]
  | false=>simp[ih]
variable {Y:Type} {T:D->Rho->Option Rho} {t:Rho->R Bool}
theorem gL {e:Rho->R D} {f g:Y->D} {p:Y->Bool} {l:List Y} (hs:src U=.val (l.map f)) (hl:l.length<=100000)
  (h:∀a∈l,∃U1,T (f a) (U++List.replicate n none)=some U1/\t U1=.val (p a)/\e U1=.val (g a)):aW src n T t e U=.val ((l.filter p).map g):=by
 unfold aW;rw[hs,ag,if_pos (show(l.map f).length<=LIM by rw[List.length_map];exact hl),o3 h];rfl
theorem yZ (n:Nat):rng 0 n=(List.range n).map nD:=by
 unfold rng nD;apply List.map_congr_left;intro k _;rw[Int.zero_add]
theorem u0:∀(l:List D) (s:Nat),enu s l=(List.range l.length).map λi=>.tup [nD (s+i),l.getD i .non]
 | [],s=>rfl
 | x::r,s=>by
  unfold enu;rw[u0 r (s+1),List.length_cons,List.range_succ_eq_map,List.map_cons,List.map_map];simp only[Nat.add_zero,List.getD_cons_zero]
  congr 1
  apply List.map_congr_left;intro i _;simp only[Function.comp,List.getD_cons_succ];rw[show s+1+i=s+(i+1) by omega]
theorem i8 {Y:Type} {T:D->Rho->Option Rho} {F:Rho->R Out} {f g:Y->D} {p:Y->Bool} (I:Rho->Prop):∀{l:List Y} {U:Rho},(∀a∈l,∀U,I U->∃U1,T (f a) U=some U1/\(p a=true->F U1=.val (.rt (g a)))/\(p a=false->∃U2,F U1=.val (.nx U2)/\I U2))->I U ->
  (∃a,l.find? p=some a/\bz T F (l.map f) U=.val (.rt (g a)))\/(l.find? p=none/\∃U',bz T F (l.map f) U=.val (.nx U')/\I U')
 | [],U,_,h=>.inr ⟨rfl,U,rfl,h⟩
 | a::r,U,step,h=>by
  obtain⟨U1,h1,h2,h3⟩:=step a (by simp) U h;rw[List.find?_cons,List.map_cons];unfold bz;rw[h1];cases q:p a with
  | true=>exact .inl ⟨a,rfl,by dsimp only;rw[h2 q];rfl⟩
  | false =>
   obtain⟨U2,e2,i2⟩:=h3 q;dsimp only;rw[e2];exact i8 (T:=T) (F:=F) (f:=f) (g:=g) (p:=p) I (λb hb=>step b (by simp[hb])) i2
theorem qm (p q:Nat×Nat):feq (dv p) (dv q)=.val (.bl (decide (p=q))):=by
 by_cases h:p=q
 ·subst h;rw[sk (jM _)];simp
 ·rw[so (jM _) (jM _) (λz=>h (endD_inj.mp z))];simp[h]
def hlD (en:List (Nat×Nat)) (re:List Nat) (tb:List (List Int)):D:=.ob (bP en) (ak re) (aS tb)
section
variable {en:List (Nat×Nat)} {re:List Nat} {tb:List (List Int)}
@[simp] theorem Eo:dI 1 (hlD en re tb)=.val (ak re):=Eq.trans rfl rfl
end
section
variable (U:Rho)
end
theorem o6 {Y:Type} (p:Y->Bool):∀l:List Y,iQ (l.map λa=>D.bl (p a))=some (l.map p)
 | []=>rfl
 | a::r=>by
  rw[List.map_cons,List.map_cons];unfold iQ;rw[o6 p r];rfl
theorem ss (p:Y->Bool) (l:List Y):qp (.lst (l.map λa=>D.bl (p a)))=.val (.bl (l.all p)):=by
 unfold qp;dsimp only;rw[o6];dsimp only;rw[List.all_map];rfl
theorem xD {f:Y->D} {ok:Y->Bool} (I:Rho->Prop) {l:List Y} (step:∀a∈l,∀U,I U->∃U1,T (f a) U=some U1/\(ok a=false->F U1=.val (.rt (.bl false)))/\(ok a=true->∃U2,F U1=.val (.nx U2)/\I U2)) (h:I U) :
  (l.all ok=false/\bz T F (l.map f) U=.val (.rt (.bl false)))\/(l.all ok=true/\∃U',bz T F (l.map f) U=.val (.nx U')/\I U'):=by
 rcases i8 (T:=T) (F:=F) (f:=f) (g:=λ_=>.bl false) (p:=λa=>!ok a) I (l:=l) (U:=U) (λa ha U hI=>by
  obtain⟨U1,h1,h2,h3⟩:=step a ha U hI;exact⟨U1,h1,λq=>h2 (by simpa using q),λq=>h3 (by simpa using q)⟩) h with⟨a,e,z⟩|⟨e,z⟩
 ·refine .inl ⟨?_,z⟩;have:=List.find?_some e;rw[Bool.eq_false_iff];intro q;have q:=List.all_eq_true.mp q a (List.mem_of_find?_eq_some e);simp[q]at this
 ·refine .inr ⟨?_,z⟩;rw[List.all_eq_true];intro a ha;have:=List.find?_eq_none.mp e a ha;simpa using this
theorem uU {f:Y->D} {ok:Y->Bool} (I:Rho->Prop) {l:List Y} (hs:src U=.val (l.map f)) (step:∀a∈l,∀U,I U->∃U1,T (f a) U=some U1/\(ok a=false->F U1=.val (.rt (.bl false)))/\(ok a=true->∃U2,F U1=.val (.nx U2)/\I U2)) (h:I U) :
  (l.all ok=false/\bh src T F U=.val (.rt (.bl false)))\/(l.all ok=true/\∃U',bh src T F U=.val (.nx U')/\I U'):=by
 rw[cU,hs,ag];exact xD I step h
theorem qi {f:Y->D} {ok:Y->Bool} (I:Rho->Prop) {l:List Y} (hs:src U=.val (l.map f)) (step:∀a∈l,∀U,I U->∃U1,T (f a) U=some U1/\(ok a=false->F U1=.val (.rt (.bl false)))/\(ok a=true->∃U2,F U1=.val (.nx U2)/\I U2)) (h:I U) :
  fin (sq (bh src T F) (ret (kd (.bl true))) U)=.val (.bl (l.all ok)):=by
 rw[aX];rcases uU I hs step h with⟨e,z⟩|⟨e,U',z,_⟩
 ·rw[z,e];rfl
 ·rw[z,e];rfl
theorem xI {c:Bool} (ht:t U=.val (!c)):(c=false->DL.iff t (ret (kd (.bl false))) nxt U=.val (.rt (.bl false)))/\(c=true->DL.iff t (ret (kd (.bl false))) nxt U=.val (.nx U)):=by
 rw[cx,ht];exact⟨λz=>by rw[z];rfl,λz=>by rw[z];rfl⟩
theorem lZ {F:Rho->R D} (h:F U=.val (.int (n:Int))) (hn:n<=100000):bF (aC F aN) U=.val ((List.range n).map nD):=by
 rw[hG,cM,h,ag,j9,ag,ag,cK hn,yZ]
theorem rowD_inj {a b:List Int}:aQ a=aQ b↔a=b:=by
 constructor
 ·intro h;unfold aQ at h;injection h with h;exact mq (λa b e=>by cases e;rfl) h
 ·rintro rfl;rfl
variable {A B:Rho->R D} {U':Rho} {den:List D->R D}
section
variable {en:List (Nat×Nat)} {re:List Nat} {tb:List (List Int)} {r:List D}
def dZ (l:List Nat):List Int:=l.map λ(k:Nat)=>(k:Int)
theorem kT (l:List Nat):(dZ l).length=l.length:=by unfold dZ;simp
def btw (en:List (Nat×Nat)) (a b:Nat):List Nat:=(List.range en.length).filter λn=>decide (en.getD n (0,0)=(a,b))
theorem fD (a b:Nat):(btw en a b).length<=en.length:=by
 unfold btw;exact Nat.le_trans (List.length_filter_le _ _) (by rw[List.length_range];exact Nat.le_refl _)
theorem mem_btw:n∈btw en a b↔n<en.length/\en.getD n (0,0)=(a,b):=by
 unfold btw;rw[List.mem_filter,List.mem_range,decide_eq_true_iff]
theorem bR {A B:Rho->R Out} (h:A U=.val (.nx U')):sq A B U=B U':=by rw[aX,h];rfl
theorem iE (h:bj en re tb) (a b:Nat):aG [.tup (bP en::r),nD a,nD b]=.val (ak (btw en a b)):=by
 simp only[aG,fi];show fin (ret _ [sh (.tup (bP en::r)),sh (nD a),sh (nD b)])=_;have n40:=h.na40;have hc:=gL (src:=bF (aC (una aA (bin fix (vb 0) (kd (.int 0)))) aN)) (n:=1) (T:=tgN 3) (t:=tst (bin feq (bin fix (bin fix (vb 0) (kd (.int 0))) (vb 3)) (eT (aC (vr 1) (aC (vr 2) aN))))) (e:=vr 3) (f:=nD) (g:=nD) (p:=λn=>decide (en.getD n (0,0)=(a,b))) (l:=List.range en.length) (U:=[sh (.tup (bP en::r)),sh (nD a),sh (nD b)]) (lZ (by simp) (by omega)) (by rw[List.length_range];omega) λn hn=>⟨_,rfl,by
  have hn:=List.mem_range.mp hn;have f1:=gm (en:=en) hn;have q:=qm (en.getD n (0,0)) (a,b);simp[-List.getD_eq_getElem?_getD,f1];exact congrArg (λz=>R.bind z asB) q,rfl⟩
 rw[dE,bB,hc];rfl
theorem nU {f:Y->D} (l:List Y) (d:Y):enu 0 (l.map f)=(List.range l.length).map λi=>.tup [nD i,f (l.getD i d)]:=by
 rw[u0,List.length_map];apply List.map_congr_left;intro i hi;have hi:=List.mem_range.mp hi;rw[Nat.zero_add,bc (show i<(l.map f).length by simpa using hi),bc hi,List.getElem_map]
theorem Cy {a:D} (ha:A U=.val a) (h:den [a]=.val x):cal 1 den (aC A aN) U=.val x:=by
 simp[ha,h]
theorem n4 {a b:D} (ha:A U=.val a) (hb:B U=.val b) (h:den [a,b]=.val x):cal 2 den (aC A (aC B aN)) U=.val x:=by
 simp[ha,hb,h]
theorem jB {C:Rho->R D} {a b c:D} (ha:A U=.val a) (hb:B U=.val b) (hc:C U=.val c) (h:den [a,b,c]=.val x):cal 3 den (aC A (aC B (aC C aN))) U=.val x:=by
 simp[ha,hb,hc,h]
theorem ud {C E:Rho->R D} {a b c e:D} (ha:A U=.val a) (hb:B U=.val b) (hc:C U=.val c) (he:E U=.val e) (h:den [a,b,c,e]=.val x):cal 4 den (aC A (aC B (aC C (aC E aN)))) U=.val x:=by
 simp[ha,hb,hc,he,h]
theorem db {e:Rho->R D} (h:e U=.val x):asg i e U=.val (.nx (U.set i (sh x))):=by rw[eB,h];rfl
theorem t8 {e:Rho->R D} (h:e U=.val x):drp e U=.val (.nx U):=by rw[Cv,h];rfl
theorem cF {a:Rho->R Out} (h:t U=.val false):DL.iff t a nxt U=.val (.nx U):=by rw[cx,h];rfl
theorem ko {A:Rho->R Out} (h:A U=.val (.nx U')):sqK A B U=B U':=by
 unfold sqK;rw[h]
theorem j0 (hb:b<re.length):ce [hlD en re tb,nD b]=.val .non:=by
 simp only[ce,gD];show fin (DL.iff _ _ _ [sh (hlD en re tb),sh (nD b)])=_;have:=dl hb;simp[this]
theorem jv (h:bj en re tb) (ha:a<re.length) (hb:b<re.length):bm [hlD en re tb,nD a,nD b]=.val (ak (btw en a b)):=by
 simp only[bm,iL];show fin (sq _ _ [sh (hlD en re tb),sh (nD a),sh (nD b)])=_;have n40:=h.na40;have e1:drp (cal 2 ce (aC (vr 0) (aC (vr 1) aN))) [sh (hlD en re tb),sh (nD a),sh (nD b)]=.val (.nx [sh (hlD en re tb),sh (nD a),sh (nD b)]):=t8 (n4 rfl rfl (j0 ha));have e2:drp (cal 2 ce (aC (vr 0) (aC (vr 2) aN))) [sh (hlD en re tb),sh (nD a),sh (nD b)]=.val (.nx [sh (hlD en re tb),sh (nD a),sh (nD b)]):=t8 (n4 rfl rfl (j0 hb));rw[bR e1,bR e2];have hc:=gL (src:=eX (aC (una (dI 0) (vb 0)) aN)) (n:=2) (T:=tg2 3 4) (t:=tst (bin feq (vb 4) (eT (aC (vr 1) (aC (vr 2) aN))))) (e:=vr 3) (f:=λi=>.tup [nD i,dv (en.getD i (0,0))]) (g:=nD) (p:=λn=>decide (en.getD n (0,0)=(a,b))) (l:=List.range en.length) (U:=[sh (hlD en re tb),sh (nD a),sh (nD b)]) (by
  rw[<- nU (f:=dv) en (0,0)];rfl) (by rw[List.length_range];omega) λn hn=>⟨_,rfl,by
  have q:=qm (en.getD n (0,0)) (a,b);exact congrArg (λz=>R.bind z asB) q,rfl⟩
 rw[dE,bB,hc];rfl
end
theorem xC {f:Y->D} (I:List Y->Rho->Prop) (post:List Y):∀(pre:List Y) {U:Rho},(∀p a q,pre++post=p++a::q->∀U,I p U->∃U1 U2,T (f a) U=some U1/\F U1=.val (.nx U2)/\I (p++[a]) U2)->I pre U->∃U',bz T F (post.map f) U=.val (.nx U')/\I (pre++post) U':=by
 induction post with
 | nil=>intro pre U _ h;exact⟨U,rfl,by rwa[List.append_nil]⟩
 | cons a r ih =>
  intro pre U step h;obtain⟨U1,U2,h1,h2,h3⟩:=step pre a r rfl U h;rw[List.map_cons];unfold bz;rw[h1];dsimp only;rw[h2];have:=ih (pre++[a]) (U:=U2) (λp b q e=>step p b q (by rw[<- e];simp)) h3;rwa[List.append_assoc]at this
theorem eQ {f:Y->D} (I:List Y->Rho->Prop) {l:List Y} (hs:src U=.val (l.map f)) (step:∀p a q,l=p++a::q->∀U,I p U->∃U1 U2,T (f a) U=some U1/\F U1=.val (.nx U2)/\I (p++[a]) U2) (h:I [] U) :
  ∃U',bh src T F U=.val (.nx U')/\I l U':=by
 rw[cU,hs,ag];exact xC I l [] step h
abbrev Tie:=Nat×Nat×Nat
def stp (rows:List (List Nat)) (as:List Nat):List (List Nat):=rows.flatMap λr=>as.map λa=>r++[a]
def kpt (tb:List (List Int)) (row:List Nat) (t:Tie):Bool:=decide ((tb.getD (row.getD t.1 0) []).getD t.2.2 (-1)=((row.getD t.2.1 0:Nat):Int))
theorem pj (rows:List (List Nat)) (as:List Nat):(stp rows as).length=rows.length*as.length:=by
 unfold stp
 induction rows with
 | nil=>simp
 | cons r l ih=>rw[List.flatMap_cons,List.length_append,ih,List.length_map,List.length_cons,Nat.succ_mul,Nat.add_comm]
theorem um (a b:List (List Nat)) (as:List Nat):stp (a++b) as=stp a as++stp b as:=by unfold stp;simp
variable {as:List Nat}
theorem mem_stp {rows:List (List Nat)} {x:List Nat}:x∈stp rows as ↔ ∃r∈rows,∃a∈as,x=r++[a]:=by
 unfold stp;rw[List.mem_flatMap];constructor
 ·rintro⟨r,hr,hx⟩;obtain⟨a,ha,rfl⟩:=List.mem_map.mp hx;exact⟨r,hr,a,ha,rfl⟩
 ·rintro⟨r,hr,a,ha,rfl⟩;exact⟨r,hr,List.mem_map.mpr ⟨a,ha,rfl⟩⟩
def rws (B:Nat->List Nat) (pl:List Nat):List (List Nat):=pl.foldl (λrows p=>stp rows (B p)) [[]]
theorem ip (B:Nat->List Nat) (pl:List Nat) (p:Nat):rws B (pl++[p])=stp (rws B pl) (B p):=by unfold rws;rw[List.foldl_append];rfl
def lt (n:Nat) (ts:List Tie):List Tie:=ts.filter λt=>decide (max t.1 t.2.1<n)
def du (n:Nat) (ts:List Tie):List Tie:=ts.filter λt=>decide (max t.1 t.2.1=n)
def kws (tb:List (List Int)) (B:Nat->List Nat) (pl:List Nat) (ts:List Tie):List (List Nat):=(rws B pl).filter λrow=>(lt pl.length ts).all (kpt tb row)
structure Row (N k:Nat) (row:List Nat):Prop where
 len:row.length=k
 bd:∀a∈row,a<N
variable {row:List Nat} {N:Nat}
theorem Row.snoc (h:Row N k row) (ha:a<N):Row N (k+1) (row++[a]):=by
 refine⟨by rw[List.length_append,h.len];rfl,λb hb=>?_⟩;rcases List.mem_append.mp hb with hb|hb
 ·exact h.bd b hb
 ·rw[List.mem_singleton.mp hb];exact ha
theorem Row.at (h:Row N k row) (hi:i<k):row.getD i 0<N:=by
 rw[bc (by rw[h.len];exact hi)];exact h.bd _ (List.getElem_mem _)
theorem ux {B:Nat->List Nat} (hB:∀p,∀a∈B p,a<N) (pl:List Nat):∀n,n<=pl.length->∀row∈rws B (pl.take n),Row N n row:=by
 intro n
 induction n with
 | zero=>intro _ row h;rw[List.take_zero]at h;rw[show row=[]from List.mem_singleton.mp h];exact⟨rfl,(λa h=>by cases h)⟩
 | succ n ih =>
  intro hn row h;rw[List.take_succ_eq_append_getElem (by omega),ip]at h;obtain⟨r,hr,a,ha,rfl⟩:=mem_stp.mp h;exact(ih (by omega) r hr).snoc (hB _ a ha)
theorem jJ {B:Nat->List Nat} (hB:∀p,∀a∈B p,a<N) (pl:List Nat):∀row∈rws B pl,Row N pl.length row:=by
 have:=ux hB pl pl.length (Nat.le_refl _);rwa[List.take_length]at this
theorem xH {tb:List (List Int)} {t:Tie} (h:Row N k row) (ht:max t.1 t.2.1<k):kpt tb (row++[a]) t=kpt tb row t:=by
 have h1:t.1<row.length:=by rw[h.len];omega
 have h2:t.2.1<row.length:=by rw[h.len];omega
 unfold kpt;have e:∀i,i<row.length->(row++[a]).getD i 0=row.getD i 0:=λi hi=>by
  rw[List.getD_eq_getElem?_getD,List.getD_eq_getElem?_getD,List.getElem?_append_left hi]
 rw[e _ h1,e _ h2]
theorem si {p:List Nat->Bool} {q s:List Nat->Bool} {as:List Nat}:∀{rows:List (List Nat)},(∀r∈rows,∀a∈as,s (r++[a])=(p r&&q (r++[a])))->(stp (rows.filter p) as).filter q=(stp rows as).filter s
 | [],_=>rfl
 | r::l,h=>by
  have ih:=si (p:=p) (q:=q) (s:=s) (as:=as) (rows:=l) λx hx=>h x (by simp[hx]);have hr:=h r (by simp);have one:∀x:List Nat,∀l:List (List Nat),stp (x::l) as=(as.map λa=>x++[a])++stp l as:=λx l=>by unfold stp;rw[List.flatMap_cons]
  rw[one,List.filter_append,List.filter_cons];cases e:p r with
  | true =>
   simp only[if_true];rw[one,List.filter_append,ih]
   congr 1
   apply List.filter_congr;intro x hx;obtain⟨a,ha,rfl⟩:=List.mem_map.mp hx;rw[hr a ha,e];rfl
  | false =>
   rw[if_neg (by decide),ih];have:List.filter s (as.map λa=>r++[a])=[]:=by
    rw[List.filter_eq_nil_iff];intro x hx;obtain⟨a,ha,rfl⟩:=List.mem_map.mp hx;rw[hr a ha,e];simp
   rw[this];rfl
theorem wo (k:Nat) (f:Tie->Bool) (ts:List Tie):(lt (k+1) ts).all f=((lt k ts).all f&&(du k ts).all f):=by
 rw[Bool.eq_iff_iff];unfold lt du;simp only[Bool.and_eq_true,List.all_eq_true,List.mem_filter,decide_eq_true_eq];constructor
 ·intro h;exact⟨λt ht=>h t ⟨ht.1,by omega⟩,λt ht=>h t ⟨ht.1,by omega⟩⟩
 ·rintro⟨h1,h2⟩ t ⟨ht,hm⟩;by_cases e:max t.1 t.2.1=k
  ·exact h2 t ⟨ht,e⟩
  ·exact h1 t ⟨ht,by omega⟩
theorem xG {tb:List (List Int)} {B:Nat->List Nat} (hB:∀p,∀a∈B p,a<N) (pl:List Nat) (p:Nat) (ts:List Tie) :
  (stp (kws tb B pl ts) (B p)).filter (λrow=>(du pl.length ts).all (kpt tb row))=kws tb B (pl++[p]) ts:=by
 unfold kws;rw[ip];apply si;intro r hr a ha;have rr:=jJ hB pl r hr;rw[List.length_append,List.length_singleton,wo]
 congr 1
 rw[Bool.eq_iff_iff,List.all_eq_true,List.all_eq_true];have key:∀t∈lt pl.length ts,kpt tb (r++[a]) t=kpt tb r t:=λt ht=>by
  unfold lt at ht;rw[List.mem_filter,decide_eq_true_eq]at ht;exact xH rr ht.2
 exact⟨λh t ht=>by rw[<- key t ht];exact h t ht,λh t ht=>by rw[key t ht];exact h t ht⟩
theorem BV {ts:List Tie} (h:∀t∈ts,t.1<n/\t.2.1<n):lt n ts=ts:=by
 unfold lt;rw[List.filter_eq_self];intro t ht;have:=h t ht;simp;omega
theorem pE {B:Nat->List Nat} (hB:∀p,(B p).length<=n) (hn:1<=n):∀pl:List Nat,(rws B pl).length<=n ^ pl.length:=by
 intro pl
 suffices ∀k,k<=pl.length->(rws B (pl.take k)).length<=n ^ k by
  have:=this pl.length (Nat.le_refl _);rwa[List.take_length]at this
 intro k
 induction k with
 | zero=>intro _;rw[List.take_zero];exact Nat.le_refl _
 | succ k ih =>
  intro hk;rw[List.take_succ_eq_append_getElem (by omega),ip,pj,Nat.pow_succ];exact Nat.mul_le_mul (ih (by omega)) (hB _)
def bC (t:Tie):D:=.tup [nD t.1,nD t.2.1,nD t.2.2]
def aY (ts:List Tie):D:=.lst (ts.map bC)
def rwD (rows:List (List Nat)):D:=.lst (rows.map ak)
theorem ql (t:Tie):fix (bC t) (.int 0)=.val (nD t.1):=jt _ _
theorem qk (t:Tie):fix (bC t) (.int 1)=.val (nD t.2.1):=iB _ _ _
theorem tV (t:Tie):fix (bC t) (.int 2)=.val (nD t.2.2):=nJ _ _ _ _
theorem uA (l:List Nat):ak l=aQ (dZ l):=by unfold ak aQ dZ;rw[List.map_map];rfl
theorem tD (rows:List (List Nat)):rwD rows=aS (rows.map dZ):=by
 unfold rwD aS;rw[List.map_map]
 congr 1
 apply List.map_congr_left;intro a _;exact uA a
theorem nI (l:List Nat):(l.map nD).all oX=true:=by
 rw[List.all_eq_true];intro x hx;obtain⟨a,_,rfl⟩:=List.mem_map.mp hx;rfl
theorem zS (rows:List (List Nat)):bZ (.l (.l .s)) (rwD rows)=true:=by
 show(rows.map ak).all (bZ (.l .s))=true;rw[List.all_eq_true];intro x hx;obtain⟨a,_,rfl⟩:=List.mem_map.mp hx;exact nI a
structure Pic (en:List (Nat×Nat)) (re:List Nat) (pl:List Nat) (ts:List Tie):Prop where
 l3:pl.length<=3
 l4:ts.length<=4
 pb:∀i,i<pl.length->pl.getD i 0<re.length
 tk:∀t∈ts,t.1<pl.length/\t.2.1<pl.length/\t.2.2<en.length/\en.getD t.2.2 (0,0)=(pl.getD t.1 0,pl.getD t.2.1 0)
section
variable {en:List (Nat×Nat)} {re:List Nat} {tb:List (List Int)} {pl:List Nat} {ts:List Tie}
theorem qs (h:bj en re tb) (hr:Row en.length k row) {t:Tie} (h1:t.1<k) (h2:t.2.1<k) (h3:t.2.2<en.length):bO [hlD en re tb,ak row,bC t]=.val (.bl (kpt tb row t)):=by
 simp only[bO,gC];show fin (ret _ [sh (hlD en re tb),sh (ak row),sh (bC t)])=_;have a1:=hr.at h1;have f0:bin fix (vb 1) (bin fix (vb 2) (kd (.int 0))) [sh (hlD en re tb),sh (ak row),sh (bC t)]=.val (nD (row.getD t.1 0)):=by
  show R.bind (fix (bC t) (.int 0)) (λy=>fix (ak row) y)=_;rw[ql,ag,dC (by rw[hr.len];exact h1)]
 have f1:bin fix (vb 1) (bin fix (vb 2) (kd (.int 1))) [sh (hlD en re tb),sh (ak row),sh (bC t)]=.val (nD (row.getD t.2.1 0)):=by
  show R.bind (fix (bC t) (.int 1)) (λy=>fix (ak row) y)=_;rw[qk,ag,dC (by rw[hr.len];exact h2)]
 have f2:bin fix (vb 2) (kd (.int 2)) [sh (hlD en re tb),sh (ak row),sh (bC t)]=.val (nD t.2.2):=tV t;have f3:una (dI 2) (vb 0) [sh (hlD en re tb),sh (ak row),sh (bC t)]=.val (aS tb):=Eq.trans rfl rfl;have g1:=eS (tb:=tb) (i:=row.getD t.1 0) (by rw[h.tl];exact a1);have g2:=dS (r:=tb.getD (row.getD t.1 0) []) (i:=t.2.2) (by rw[h.rl _ a1];exact h3);rw[dE,aH,aH,aH,f3,ag,f0,ag,g1,ag,f2,ag,g2,ag,f1,ag,ju];rfl
theorem wd (h:bj en re tb) (g:Pic en re pl ts) {t:Tie} (ht:t∈ts):fF [hlD en re tb,ak pl,bC t]=.val (.bl true):=by
 obtain⟨h1,h2,h3,h4⟩:=g.tk t ht;simp only[fF,jy];show fin (sq _ _ [sh (hlD en re tb),sh (ak pl),sh (bC t)])=_;have v0:bin fix (vb 2) (kd (.int 0)) [sh (hlD en re tb),sh (ak pl),sh (bC t)]=.val (nD t.1):=ql t;have v1:bin fix (vb 2) (kd (.int 1)) [sh (hlD en re tb),sh (ak pl),sh (bC t)]=.val (nD t.2.1):=qk t;have v2:bin fix (vb 2) (kd (.int 2)) [sh (hlD en re tb),sh (ak pl),sh (bC t)]=.val (nD t.2.2):=tV t;have lp:una aA (vb 1) [sh (hlD en re tb),sh (ak pl),sh (bC t)]=.val (nD pl.length):=cZ pl;have le:una aA (una (dI 0) (vb 0)) [sh (hlD en re tb),sh (ak pl),sh (bC t)]=.val (nD en.length):=rZ en;have t0:tst (bin fne (una aA (vb 2)) (kd (.int 3))) [sh (hlD en re tb),sh (ak pl),sh (bC t)]=.val false:=by
  show R.bind (fne (.int 3) (.int 3)) asB=_;rw[kN];rfl
 have s1:DL.iff (orB (tst (bin fne (una aA (vb 2)) (kd (.int 3)))) (orB (eV (tst (cal 2 aT (aC (bin fix (vb 2) (kd (.int 0))) (aC (una aA (vb 1)) aN))))) (eV (tst (cal 2 aT (aC (bin fix (vb 2) (kd (.int 1))) (aC (una aA (vb 1)) aN)))))))
   (ret (kd (.bl false))) nxt [sh (hlD en re tb),sh (ak pl),sh (bC t)]=.val (.nx [sh (hlD en re tb),sh (ak pl),sh (bC t)]):=by
  refine cF ?_;rw[gq,t0,ag,if_neg (by decide),gq,eO,bv,n4 v0 lp (dl h1),ag,iR,ag,ag,if_neg (by decide),eO,bv,n4 v1 lp (dl h2)];rfl
 rw[bR s1];have c2:cal 2 aT (aC (bin fix (vb 2) (kd (.int 2))) (aC (una aA (una (dI 0) (vb 0))) aN)) [sh (hlD en re tb),sh (ak pl),sh (bC t)]=.val (.bl true):=n4 v2 le (dl h3);have w0:bin fix (una (dI 0) (vb 0)) (bin fix (vb 2) (kd (.int 2))) [sh (hlD en re tb),sh (ak pl),sh (bC t)]=.val (dv (en.getD t.2.2 (0,0))):=by
  rw[aH,v2];exact gm h3
 have w1:bin fix (vb 1) (bin fix (vb 2) (kd (.int 0))) [sh (hlD en re tb),sh (ak pl),sh (bC t)]=.val (nD (pl.getD t.1 0)):=by
  rw[aH,v0];exact dC h1
 have w2:bin fix (vb 1) (bin fix (vb 2) (kd (.int 1))) [sh (hlD en re tb),sh (ak pl),sh (bC t)]=.val (nD (pl.getD t.2.1 0)):=by
  rw[aH,v1];exact dC h2
 have w3:eT (aC (bin fix (vb 1) (bin fix (vb 2) (kd (.int 0)))) (aC (bin fix (vb 1) (bin fix (vb 2) (kd (.int 1)))) aN)) [sh (hlD en re tb),sh (ak pl),sh (bC t)]=.val (dv (pl.getD t.1 0,pl.getD t.2.1 0)):=by
  rw[nV,cM,w1,ag,cM,w2];rfl
 rw[dE,As,c2,ag,iR,ag,if_pos rfl,aH,w0,ag,w3,ag,h4,qm];simp
theorem kP (h:bj en re tb) (g:Pic en re pl ts):bQ [hlD en re tb,ak pl,aY ts]=.val .non:=by
 simp only[bQ,dY];show fin (sq _ _ [sh (hlD en re tb),sh (ak pl),sh (aY ts),none,none,none,none])=_;have l3:=g.l3;have l4:=g.l4;have s1:DL.iff (orB (tst (bin (iI fgt) (una aA (vb 1)) (kd (.int 3)))) (tst (bin (iI fgt) (una aA (vb 2)) (kd (.int 4))))) bad nxt [sh (hlD en re tb),sh (ak pl),sh (aY ts),none,none,none,none]=.val (.nx [sh (hlD en re tb),sh (ak pl),sh (aY ts),none,none,none,none]):=by
  refine cF ?_;have a:tst (bin (iI fgt) (una aA (vb 1)) (kd (.int 3))) [sh (hlD en re tb),sh (ak pl),sh (aY ts),none,none,none,none]=.val (decide ((3:Int)<pl.length)):=by
   have v:una aA (vb 1) [sh (hlD en re tb),sh (ak pl),sh (aY ts),none,none,none,none]=.val (nD pl.length):=cZ pl;rw[bv,aH,v];rfl
  have b:tst (bin (iI fgt) (una aA (vb 2)) (kd (.int 4))) [sh (hlD en re tb),sh (ak pl),sh (aY ts),none,none,none,none]=.val (decide ((4:Int)<ts.length)):=by
   have v:una aA (vb 2) [sh (hlD en re tb),sh (ak pl),sh (aY ts),none,none,none,none]=.val (nD ts.length):=by
    show aA (.lst (ts.map bC))=_;rw[nG,List.length_map]
   rw[bv,aH,v];rfl
  rw[gq,a,ag,if_neg (by simp;omega),b,decide_eq_false (by omega)]
 rw[bR s1];obtain⟨U1,e1,x3,x4,rfl⟩:=eQ (src:=eX (aC (vr 1) aN)) (T:=tg2 3 4) (F:=DL.iff (eV (tst (cal 2 aT (aC (vr 4) (aC (una aA (una (dI 1) (vb 0))) aN))))) bad nxt) (f:=λi=>.tup [nD i,nD (pl.getD i 0)]) (l:=List.range pl.length) (U:=[sh (hlD en re tb),sh (ak pl),sh (aY ts),none,none,none,none])
  (λ_ U=>∃x3 x4:Option Slt,U=[sh (hlD en re tb),sh (ak pl),sh (aY ts),x3,x4,none,none]) (by
   show R.val (enu 0 (pl.map nD))=_;rw[nU pl 0]) (λp i q e U hI=>by
  obtain⟨x3,x4,rfl⟩:=hI;have hi:i<pl.length:=List.mem_range.mp (by rw[e];simp);refine⟨_,_,rfl,cF (U:=[sh (hlD en re tb),sh (ak pl),sh (aY ts),sh (nD i),sh (nD (pl.getD i 0)),none,none]) ?_,_,_,rfl⟩;rw[eO,bv,n4 (a:=nD (pl.getD i 0)) (b:=nD re.length) rfl (cZ re) (dl (g.pb i hi))];rfl) ⟨_,_,rfl⟩
 rw[bR e1];obtain⟨U2,e2,x5,x6,rfl⟩:=eQ (src:=eX (aC (vr 2) aN)) (T:=tg2 5 6) (F:=DL.iff (eV (tst (cal 3 fF (aC (vr 0) (aC (vr 1) (aC (vr 6) aN)))))) bad nxt) (f:=λi=>.tup [nD i,bC (ts.getD i (0,0,0))]) (l:=List.range ts.length) (U:=[sh (hlD en re tb),sh (ak pl),sh (aY ts),x3,x4,none,none])
  (λ_ U=>∃x5 x6:Option Slt,U=[sh (hlD en re tb),sh (ak pl),sh (aY ts),x3,x4,x5,x6]) (by
   show R.val (enu 0 (ts.map bC))=_;rw[nU ts (0,0,0)]) (λp i q e U hI=>by
  obtain⟨x5,x6,rfl⟩:=hI;have hi:i<ts.length:=List.mem_range.mp (by rw[e];simp);refine⟨_,_,rfl,cF (U:=[sh (hlD en re tb),sh (ak pl),sh (aY ts),x3,x4,sh (nD i),sh (bC (ts.getD i (0,0,0)))]) ?_,_,_,rfl⟩;rw[eO,bv,jB (a:=hlD en re tb) (b:=ak pl) (c:=bC (ts.getD i (0,0,0))) rfl rfl rfl (wd h g (by rw[bc hi];exact List.getElem_mem hi))];rfl) ⟨_,_,rfl⟩
 rw[e2];rfl
end
theorem s_ {k:OK} {e:Rho->R D} (h:e U=.val x):trS i k e U=.val (.nx (U.set i (some (.tre k x)))):=by
 unfold trS;rw[h];rfl
theorem iz {a b:Rho->R Out} (h:t U=.val true):DL.iff t a b U=a U:=by rw[cx,h];rfl
section
variable {en:List (Nat×Nat)} {re:List Nat} {tb:List (List Int)} {pl:List Nat} {ts:List Tie}
abbrev rGr (H:D) (beg:List (List Nat)) (as:List Nat) (du:List Tie) (lo:List (List Nat)) (x5 x6 x7:Option Slt):Rho :=
 [sh H,sh (rwD beg),sh (ak as),sh (aY du),some (.tre (.l (.l .s)) (rwD lo)),x5,x6,x7]
theorem CB {H:D} {beg lo:List (List Nat)} {du:List Tie} {x5 x6:Option Slt} (hl:lo.length<100000):asO (apM 4 7 (.l .s) (pN0 4)) (rGr H beg as du lo x5 x6 (some (.tre (.l .s) (ak row))))=.val (.nx (rGr H beg as du (lo++[row]) x5 x6 none)):=by
 have e:apM 4 7 (.l .s) (pN0 4) (rGr H beg as du lo x5 x6 (some (.tre (.l .s) (ak row))))=.val (rGr H beg as du (lo++[row]) x5 x6 none):=by
  show(if 4≠7/\(.l .s:OK)=.l .s/\ia (.l (.l .s)) []=some (.l (.l .s))then(if(lo.map ak).length<LIM then R.val _ else R.bad)else R.bad)=_;rw[if_pos ⟨by decide,rfl,rfl⟩,if_pos (by rw[List.length_map];exact hl)];show R.val (([sh H,sh (rwD beg),sh (ak as),sh (aY du),some (.tre (.l (.l .s)) (.lst (lo.map ak++[ak row]))),x5,x6,none]:Rho))=_;rw[show lo.map ak++[ak row]=(lo++[row]).map ak by simp];rfl
 unfold asO;rw[e];rfl
theorem yb (h:bj en re tb) {beg:List (List Nat)} {du:List Tie} (hb:∀r∈beg,Row en.length k r) (ha:∀a∈as,a<en.length) (hd:∀t∈du,t.1<k+1/\t.2.1<k+1/\t.2.2<en.length) (hk:k<=1000) (hl:beg.length*as.length<=64000) (hdl:du.length<=1000) :
  e7 [hlD en re tb,rwD beg,ak as,aY du]=.val (rwD ((stp beg as).filter λrow=>du.all (kpt tb row))):=by
 simp only[e7,kR];show sqK _ _ [sh (hlD en re tb),sh (rwD beg),sh (ak as),sh (aY du),none,none,none,none]=_;have s1:trS 4 (.l (.l .s)) (eLs (fS aN)) [sh (hlD en re tb),sh (rwD beg),sh (ak as),sh (aY du),none,none,none,none]=.val (.nx (rGr (hlD en re tb) beg as du [] none none none)):=Eq.trans rfl rfl;rw[ko s1];obtain⟨U1,e1,x5,x6,x7,rfl⟩:=eQ (src:=fIt (vr 1)) (T:=tgN 5) (F:=bh (fIt (vr 2)) (tgN 6)
   (sq (trS 7 (.l .s) (eLs (flL (wa (vb 5) (eL (aC (vr 6) aN))))))
   (DL.iff (tst (una qp (eLs (aW (fIt (vr 3)) 1 (tgN 8) tT (flF (cal 3 bO (aC (vb 0) (aC (va 7) (aC (vb 8) aN)))))))))
   (asO (apM 4 7 (.l .s) (pN0 4)))
   nxt))) (f:=ak) (l:=beg) (U:=rGr (hlD en re tb) beg as du [] none none none)
  (λp U=>∃x5 x6 x7:Option Slt,U=rGr (hlD en re tb) beg as du ((stp p as).filter λrow=>du.all (kpt tb row)) x5 x6 x7) rfl (λp r q e U hI=>by
   obtain⟨x5,x6,x7,rfl⟩:=hI;have hr:Row en.length k r:=hb r (by rw[e];simp);have lr:=hr.len;obtain⟨U2,e2,y6,y7,rfl⟩:=eQ (src:=fIt (vr 2)) (T:=tgN 6) (F:=sq (trS 7 (.l .s) (eLs (flL (wa (vb 5) (eL (aC (vr 6) aN))))))
     (DL.iff (tst (una qp (eLs (aW (fIt (vr 3)) 1 (tgN 8) tT (flF (cal 3 bO (aC (vb 0) (aC (va 7) (aC (vb 8) aN)))))))))
     (asO (apM 4 7 (.l .s) (pN0 4)))
     nxt)) (f:=nD) (l:=as) (U:=rGr (hlD en re tb) beg as du ((stp p as).filter λrow=>du.all (kpt tb row)) (sh (ak r)) x6 x7)
    (λo U=>∃y6 y7:Option Slt,U=rGr (hlD en re tb) beg as du (((stp p as).filter λrow=>du.all (kpt tb row))++((o.map λa=>r++[a]).filter λrow=>du.all (kpt tb row))) (sh (ak r)) y6 y7) rfl (λo a u eo U hI=>by
     obtain⟨y6,y7,rfl⟩:=hI;have aa:a<en.length:=ha a (by rw[eo];simp);have hn:Row en.length (k+1) (r++[a]):=hr.snoc aa;generalize hlo:(((stp p as).filter λrow=>du.all (kpt tb row))++((o.map λa=>r++[a]).filter λrow=>du.all (kpt tb row)))=lo;have llo:lo.length<100000:=by
      rw[<- hlo,List.length_append];have l1:=List.length_filter_le (λrow=>du.all (kpt tb row)) (stp p as);have l2:=List.length_filter_le (λrow=>du.all (kpt tb row)) (o.map λa=>r++[a]);rw[pj]at l1;rw[List.length_map]at l2;have b1:beg.length=p.length+(q.length+1):=by rw[e];simp
      have b2:as.length=o.length+(u.length+1):=by rw[eo];simp
      have b3:(p.length+1)*as.length<=beg.length*as.length:=Nat.mul_le_mul_right _ (by omega);rw[Nat.succ_mul]at b3;omega
     have s2:trS 7 (.l .s) (eLs (flL (wa (vb 5) (eL (aC (vr 6) aN))))) (rGr (hlD en re tb) beg as du lo (sh (ak r)) (sh (nD a)) y7)=.val (.nx (rGr (hlD en re tb) beg as du lo (sh (ak r)) (sh (nD a)) (some (.tre (.l .s) (ak (r++[a])))))):=by
      refine s_ ?_;have c:wa (vb 5) (eL (aC (vr 6) aN)) (rGr (hlD en re tb) beg as du lo (sh (ak r)) (sh (nD a)) y7)=.val ((r++[a]).map nD):=by
       show(if(r.map nD).length+1<=LIM then R.val (r.map nD++[nD a])else R.bad)=_;rw[if_pos (by rw[List.length_map];show _<=100000;omega)];simp
      rw[bB];unfold flL;rw[c,ag,if_pos (nI _)];rfl
     have tt:tst (una qp (eLs (aW (fIt (vr 3)) 1 (tgN 8) tT (flF (cal 3 bO (aC (vb 0) (aC (va 7) (aC (vb 8) aN)))))))) (rGr (hlD en re tb) beg as du lo (sh (ak r)) (sh (nD a)) (some (.tre (.l .s) (ak (r++[a])))))=.val (du.all (kpt tb (r++[a]))):=by
      have c:=cy (src:=fIt (vr 3)) (n:=1) (i:=8) (e:=flF (cal 3 bO (aC (vb 0) (aC (va 7) (aC (vb 8) aN))))) (f:=bC) (g:=λt=>.bl (kpt tb (r++[a]) t)) (l:=du) (U:=rGr (hlD en re tb) beg as du lo (sh (ak r)) (sh (nD a)) (some (.tre (.l .s) (ak (r++[a]))))) rfl (by omega) (λt ht=>by
       obtain⟨d1,d2,d3⟩:=hd t ht;unfold flF;rw[jB (a:=hlD en re tb) (b:=ak (r++[a])) (c:=bC t) rfl rfl rfl (qs h hn d1 d2 d3)];rfl)
      rw[bv,e9,bB,c,ag,ag,ss];rfl
     refine⟨rGr (hlD en re tb) beg as du lo (sh (ak r)) (sh (nD a)) y7,?_⟩;by_cases c:du.all (kpt tb (r++[a]))=true
     ·refine⟨_,rfl,?_,sh (nD a),none,rfl⟩;show sq _ _ (rGr (hlD en re tb) beg as du lo (sh (ak r)) (sh (nD a)) y7)=_;rw[bR s2,iz (by rw[tt,c]),CB llo,<- hlo,List.map_append,List.filter_append,List.append_assoc];rw[show List.filter (λrow=>du.all (kpt tb row)) (List.map (λa=>r++[a]) [a])=[r++[a]] by rw[List.map_singleton,List.filter_cons,if_pos c];rfl]
     ·refine⟨_,rfl,?_,sh (nD a),some (.tre (.l .s) (ak (r++[a]))),rfl⟩;have c:du.all (kpt tb (r++[a]))=false:=by simpa using c
      show sq _ _ (rGr (hlD en re tb) beg as du lo (sh (ak r)) (sh (nD a)) y7)=_;rw[bR s2,cF (by rw[tt,c]),<- hlo,List.map_append,List.filter_append];rw[show List.filter (λrow=>du.all (kpt tb row)) (List.map (λa=>r++[a]) [a])=[] by rw[List.map_singleton,List.filter_cons,if_neg (by rw[c];decide)];rfl,List.append_nil]) ⟨x6,x7,by simp⟩
   refine⟨_,_,rfl,e2,sh (ak r),y6,y7,?_⟩;rw[um,List.filter_append];have:stp [r] as=as.map λa=>r++[a]:=by unfold stp;simp
   rw[this]) ⟨none,none,none,rfl⟩
 rw[ko e1];rfl
end
theorem q8 {p q:List Nat} (e:List.range n=p++i::q):i=p.length/\i<n:=by
 have h:(List.range n)[p.length]?=some i:=by rw[e];simp
 have hn:p.length<n:=by
  have:=congrArg List.length e;simp at this;omega
 rw[List.getElem?_range hn]at h;have:p.length=i:=by simpa using h
 omega
section
variable {en:List (Nat×Nat)} {re:List Nat} {tb:List (List Int)} {pl:List Nat} {ts:List Tie}
theorem iP (b:Nat):∀p,∀a∈btw en b p,a<en.length:=λp a h=>(mem_btw.mp h).1
theorem zC (h:bj en re tb) (b:Nat) (pl:List Nat) (ts:List Tie):(kws tb (btw en b) pl ts).length<=40 ^ pl.length :=
 Nat.le_trans (List.length_filter_le _ _) (pE (λp=>Nat.le_trans (fD b p) h.na40) (by decide) pl)
theorem mr (b:Nat) (pl:List Nat) (ts:List Tie):∀r∈kws tb (btw en b) pl ts,Row en.length pl.length r:=λr hr=>jJ (iP b) pl r (List.mem_filter.mp hr).1
abbrev rVf (H:D) (pl:List Nat) (ts:List Tie) (b:Nat) (beg:List (List Nat)) (x5 x6 x7:Option Slt):Rho :=
 [sh H,sh (ak pl),sh (aY ts),sh (nD b),some (.tre (.l (.l .s)) (rwD beg)),x5,x6,x7]
theorem oA (h:bj en re tb) (g:Pic en re pl ts) (hb:b<re.length):ck [hlD en re tb,ak pl,aY ts,nD b]=.val (rwD (kws tb (btw en b) pl ts)):=by
 simp only[ck,fT];show sqK _ _ [sh (hlD en re tb),sh (ak pl),sh (aY ts),sh (nD b),none,none,none,none]=_;have s1:trS 4 (.l (.l .s)) (eL1 (eLs (fS aN))) [sh (hlD en re tb),sh (ak pl),sh (aY ts),sh (nD b),none,none,none,none]=.val (.nx (rVf (hlD en re tb) pl ts b [[]] none none none)):=Eq.trans rfl rfl;rw[ko s1];have l3:=g.l3;have l4:=g.l4;obtain⟨U1,e1,x5,x6,x7,rfl⟩:=eQ (src:=eX (aC (vr 1) aN)) (T:=tg2 5 6) (F:=sq (asg 7 (eLs (aW (fIt (vr 2)) 1 (tgN 8) (tst (bin feq (qz (aC (bin fix (vb 8) (kd (.int 0))) (aC (bin fix (vb 8) (kd (.int 1))) aN))) (vb 5))) (vr 8))))
   (trS 4 (.l (.l .s)) (flK (.l (.l .s)) (cal 4 e7 (aC (vb 0) (aC (va 4) (aC (cal 3 bm (aC (vr 0) (aC (vr 3) (aC (vr 6) aN)))) (aC (vb 7) aN)))))))) (f:=λi=>.tup [nD i,nD (pl.getD i 0)]) (l:=List.range pl.length) (U:=rVf (hlD en re tb) pl ts b [[]] none none none)
  (λp U=>∃x5 x6 x7:Option Slt,U=rVf (hlD en re tb) pl ts b (kws tb (btw en b) (pl.take p.length) ts) x5 x6 x7) (by
   show R.val (enu 0 (pl.map nD))=_;rw[nU pl 0]) (λp i q e U hI=>by
  obtain⟨x5,x6,x7,rfl⟩:=hI;obtain⟨ei,hi⟩:=q8 e;rw[<- ei];generalize hbe:kws tb (btw en b) (pl.take i) ts=beg;have tl:(pl.take i).length=i:=by rw[List.length_take];omega
  have s2:asg 7 (eLs (aW (fIt (vr 2)) 1 (tgN 8) (tst (bin feq (qz (aC (bin fix (vb 8) (kd (.int 0))) (aC (bin fix (vb 8) (kd (.int 1))) aN))) (vb 5))) (vr 8))) (rVf (hlD en re tb) pl ts b beg (sh (nD i)) (sh (nD (pl.getD i 0))) x7)=.val (.nx (rVf (hlD en re tb) pl ts b beg (sh (nD i)) (sh (nD (pl.getD i 0))) (sh (aY (du i ts))))):=by
   refine db ?_;have c:=gL (src:=fIt (vr 2)) (n:=1) (T:=tgN 8) (t:=tst (bin feq (qz (aC (bin fix (vb 8) (kd (.int 0))) (aC (bin fix (vb 8) (kd (.int 1))) aN))) (vb 5))) (e:=vr 8) (f:=bC) (g:=bC) (p:=λt:Tie=>decide (max t.1 t.2.1=i)) (l:=ts) (U:=rVf (hlD en re tb) pl ts b beg (sh (nD i)) (sh (nD (pl.getD i 0))) x7) rfl (by omega) (λt _=>by
    refine⟨_,rfl,?_,rfl⟩;have v0:bin fix (vb 8) (kd (.int 0)) (rVf (hlD en re tb) pl ts b beg (sh (nD i)) (sh (nD (pl.getD i 0))) x7++[sh (bC t)])=.val (nD t.1):=ql t;have v1:bin fix (vb 8) (kd (.int 1)) (rVf (hlD en re tb) pl ts b beg (sh (nD i)) (sh (nD (pl.getD i 0))) x7++[sh (bC t)])=.val (nD t.2.1):=qk t;show tst (bin feq (qz (aC (bin fix (vb 8) (kd (.int 0))) (aC (bin fix (vb 8) (kd (.int 1))) aN))) (vb 5)) (rVf (hlD en re tb) pl ts b beg (sh (nD i)) (sh (nD (pl.getD i 0))) x7++[sh (bC t)])=_;rw[bv,aH,vd,cM,v0,ag,cM,v1,ag,j9,ag,ag,ag,uV,ag];show R.bind (feq (.int (if(t.2.1:Int)>(t.1:Int)then(t.2.1:Int)else(t.1:Int))) (.int (i:Int))) asB=_;rw[ju,ag,iR]
    congr 1
    rw[Bool.eq_iff_iff,decide_eq_true_eq,decide_eq_true_eq];split<;>omega)
   rw[bB,c];rfl
  have bt:cal 3 bm (aC (vr 0) (aC (vr 3) (aC (vr 6) aN))) (rVf (hlD en re tb) pl ts b beg (sh (nD i)) (sh (nD (pl.getD i 0))) (sh (aY (du i ts))))=.val (ak (btw en b (pl.getD i 0))):=jB (a:=hlD en re tb) (b:=nD b) (c:=nD (pl.getD i 0)) rfl rfl rfl (jv h hb (g.pb i hi));have gr:e7 [hlD en re tb,rwD beg,ak (btw en b (pl.getD i 0)),aY (du i ts)]=.val (rwD (kws tb (btw en b) (pl.take (i+1)) ts)):=by
   have row:∀r∈beg,Row en.length i r:=by rw[<- hbe];have:=mr (tb:=tb) (en:=en) b (pl.take i) ts;rwa[tl]at this
   have len:beg.length<=1600:=by
    rw[<- hbe];refine Nat.le_trans (zC h b _ ts) ?_;rw[tl];exact Nat.le_trans (Nat.pow_le_pow_right (by decide) (show i<=2 by omega)) (by decide)
   have jd:(btw en b (pl.getD i 0)).length<=40:=Nat.le_trans (fD b _) h.na40;have gg:=yb h (k:=i) (beg:=beg) (as:=btw en b (pl.getD i 0)) (du:=du i ts) row (iP b _) (λt ht=>by
    obtain⟨m1,m2⟩:=List.mem_filter.mp ht;have m2:=of_decide_eq_true m2;obtain⟨k1,k2,k3,_⟩:=g.tk t m1;exact⟨by omega,by omega,k3⟩) (by omega) (Nat.le_trans (Nat.mul_le_mul len jd) (by decide)) (Nat.le_trans (List.length_filter_le _ _) (by omega))
   rw[gg,List.take_succ_eq_append_getElem hi];have kk:=xG (tb:=tb) (iP (en:=en) b) (pl.take i) pl[i] ts;rw[tl,hbe]at kk;rw[<- kk,bc hi]
  have s3:trS 4 (.l (.l .s)) (flK (.l (.l .s)) (cal 4 e7 (aC (vb 0) (aC (va 4) (aC (cal 3 bm (aC (vr 0) (aC (vr 3) (aC (vr 6) aN)))) (aC (vb 7) aN)))))) (rVf (hlD en re tb) pl ts b beg (sh (nD i)) (sh (nD (pl.getD i 0))) (sh (aY (du i ts))))=.val (.nx (rVf (hlD en re tb) pl ts b (kws tb (btw en b) (pl.take (i+1)) ts) (sh (nD i)) (sh (nD (pl.getD i 0))) (sh (aY (du i ts))))):=by
   refine s_ ?_;unfold flK;rw[ud (a:=hlD en re tb) (b:=rwD beg) (c:=ak (btw en b (pl.getD i 0))) (e:=aY (du i ts)) rfl rfl bt rfl gr,ag,if_pos (zS _)]
  refine⟨rVf (hlD en re tb) pl ts b beg (sh (nD i)) (sh (nD (pl.getD i 0))) x7,_,rfl,by rw[bR s2,s3],sh (nD i),sh (nD (pl.getD i 0)),sh (aY (du i ts)),?_⟩;rw[List.length_append,<- ei];rfl) ⟨none,none,none,by
   have:kws tb (btw en b) (pl.take (List.length ([]:List Nat))) ts=[[]]:=by
    rw[List.length_nil,List.take_zero];unfold kws;have:lt (List.length ([]:List Nat)) ts=[]:=by
     unfold lt;rw[List.filter_eq_nil_iff];intro t _;simp
    rw[this];rfl
   rw[this]⟩
 rw[ko e1];rw[List.length_range,List.take_length];rfl
end
theorem uX {ys:List D} (h:xs.length+ys.length<=100000):ba (.lst xs) (.lst ys)=.val (.lst (xs++ys)):=if_pos h
theorem none_iff (f:Tie->Bool) (ts:List Tie):decide ((((ts.filter λt=>!f t).map bC).length:Int)=0)=ts.all f:=by
 rw[Bool.eq_iff_iff,decide_eq_true_eq,List.length_map,List.all_eq_true];constructor
 ·intro h t ht;have:(ts.filter λt=>!f t)=[]:=List.length_eq_zero_iff.mp (by omega);rw[List.filter_eq_nil_iff]at this;simpa using this t ht
 ·intro h;have:(ts.filter λt=>!f t)=[]:=by
   rw[List.filter_eq_nil_iff];intro t ht;simp[h t ht]
  rw[this];rfl
section
variable {en:List (Nat×Nat)} {re:List Nat} {tb:List (List Int)} {pl:List Nat} {ts:List Tie} {r:List D}
abbrev paD (en:List (Nat×Nat)) (re:List Nat) (tb:List (List Int)) (r:List D):D:=.tup (bP en::ak re::aS tb::r)
abbrev rLv (P:D) (pl:List Nat) (ts:List Tie) (b:Nat) (x4 x5 x6 x7 x8:Option Slt):Rho :=
 [sh P,sh (ak pl),sh (aY ts),sh (nD b),x4,x5,x6,x7,x8]
theorem z9 (h:bj en re tb) {p:Nat} {lo:List (List Nat)} (hl:lo.length<=64000) (hr:row.length<=1000) (x4 x8:Option Slt) :
  asg 6 (bin ba (vb 6) (eLs (aW (fIt (cal 3 aG (aC (vr 0) (aC (vr 3) (aC (vr 5) aN))))) 1 (tgN 9) tT (bin ba (vb 7) (eL (aC (vr 9) aN)))))) (rLv (paD en re tb r) pl ts b x4 (sh (nD p)) (sh (rwD lo)) (sh (ak row)) x8)
   =.val (.nx (rLv (paD en re tb r) pl ts b x4 (sh (nD p)) (sh (rwD (lo++(btw en b p).map λa=>row++[a]))) (sh (ak row)) x8)):=by
 refine db ?_;have n40:=h.na40;have bl:=fD (en:=en) b p;have lb:cal 3 aG (aC (vr 0) (aC (vr 3) (aC (vr 5) aN))) (rLv (paD en re tb r) pl ts b x4 (sh (nD p)) (sh (rwD lo)) (sh (ak row)) x8)=.val (ak (btw en b p)):=jB rfl rfl rfl (iE h b p);have c:=cy (src:=fIt (cal 3 aG (aC (vr 0) (aC (vr 3) (aC (vr 5) aN))))) (n:=1) (i:=9) (e:=bin ba (vb 7) (eL (aC (vr 9) aN))) (f:=nD) (g:=λa=>ak (row++[a])) (l:=btw en b p) (U:=rLv (paD en re tb r) pl ts b x4 (sh (nD p)) (sh (rwD lo)) (sh (ak row)) x8) (by rw[kO,lb];rfl) (by omega) (λa _=>by
  show ba (.lst (row.map nD)) (.lst [nD a])=_;rw[uX (by rw[List.length_map];show _+1<=_;omega)];unfold ak;rw[List.map_append];rfl)
 rw[aH,bB,c];show ba (.lst (lo.map ak)) (.lst ((btw en b p).map λa=>ak (row++[a])))=_;rw[uX (by rw[List.length_map,List.length_map];omega)];unfold rwD;rw[List.map_append,List.map_map];rfl
theorem wc (h:bj en re tb) (g:Pic en re pl ts) (b:Nat):ca [paD en re tb r,ak pl,aY ts,nD b]=.val (rwD ((rws (btw en b) pl).filter λrow=>ts.all (kpt tb row))):=by
 simp only[ca,gw];show fin (sq _ _ (rLv (paD en re tb r) pl ts b none none none none none))=_;have n40:=h.na40;have l3:=g.l3;have l4:=g.l4;have s1:asg 4 (eL (aC (eL aN) aN)) (rLv (paD en re tb r) pl ts b none none none none none)=.val (.nx (rLv (paD en re tb r) pl ts b (sh (rwD [[]])) none none none none)):=Eq.trans rfl rfl;rw[bR s1];obtain⟨U1,e1,x5,x6,x7,rfl⟩:=eQ (src:=fIt (vr 1)) (T:=tgN 5) (F:=sq (asg 6 (eL aN))
   (sq (bh (fIt (vr 4)) (tgN 7)
   (asg 6 (bin ba (vb 6) (eLs (aW (fIt (cal 3 aG (aC (vr 0) (aC (vr 3) (aC (vr 5) aN))))) 1 (tgN 9) tT (bin ba (vb 7) (eL (aC (vr 9) aN))))))))
   (asg 4 (vr 6)))) (f:=nD) (l:=pl) (U:=rLv (paD en re tb r) pl ts b (sh (rwD [[]])) none none none none)
  (λp U=>∃x5 x6 x7:Option Slt,U=rLv (paD en re tb r) pl ts b (sh (rwD (rws (btw en b) p))) x5 x6 x7 none) rfl (λp a q e U hI=>by
   obtain⟨x5,x6,x7,rfl⟩:=hI;have lp:p.length<=2:=by have:=congrArg List.length e;simp at this;omega
   have len:(rws (btw en b) p).length<=1600:=Nat.le_trans (pE (λp=>Nat.le_trans (fD b p) h.na40) (by decide) p) (Nat.le_trans (Nat.pow_le_pow_right (by decide) lp) (by decide));have hrow:=jJ (iP (en:=en) b) p;have sn:=ip (btw en b) p a;generalize rws (btw en b) p=rows at *;have s2:asg 6 (eL aN) (rLv (paD en re tb r) pl ts b (sh (rwD rows)) (sh (nD a)) x6 x7 none)=.val (.nx (rLv (paD en re tb r) pl ts b (sh (rwD rows)) (sh (nD a)) (sh (rwD [])) x7 none)):=Eq.trans rfl rfl;obtain⟨U2,e2,y7,rfl⟩:=eQ (src:=fIt (vr 4)) (T:=tgN 7) (F:=asg 6 (bin ba (vb 6) (eLs (aW (fIt (cal 3 aG (aC (vr 0) (aC (vr 3) (aC (vr 5) aN))))) 1 (tgN 9) tT (bin ba (vb 7) (eL (aC (vr 9) aN))))))) (f:=ak) (l:=rows) (U:=rLv (paD en re tb r) pl ts b (sh (rwD rows)) (sh (nD a)) (sh (rwD [])) x7 none)
    (λo U=>∃y7:Option Slt,U=rLv (paD en re tb r) pl ts b (sh (rwD rows)) (sh (nD a)) (sh (rwD (stp o (btw en b a)))) y7 none) rfl (λo row u eo U hI=>by
     obtain⟨y7,rfl⟩:=hI;have hr:=hrow row (by rw[eo];simp);have lo:(stp o (btw en b a)).length<=64000:=by
      rw[pj];have b1:o.length<=rows.length:=by rw[eo];simp
      have b2:(btw en b a).length<=40:=Nat.le_trans (fD b a) h.na40;exact Nat.le_trans (Nat.mul_le_mul (Nat.le_trans b1 len) b2) (by decide)
     refine⟨_,_,rfl,z9 h lo (by rw[hr.len];omega) _ _,sh (ak row),?_⟩;rw[um];have:stp [row] (btw en b a)=(btw en b a).map λx=>row++[x]:=by unfold stp;simp
     rw[this]) ⟨x7,rfl⟩
   refine⟨rLv (paD en re tb r) pl ts b (sh (rwD rows)) (sh (nD a)) x6 x7 none,_,rfl,by rw[bR s2,bR e2,db (x:=rwD (stp rows (btw en b a))) rfl],sh (nD a),sh (rwD (stp rows (btw en b a))),y7,?_⟩;rw[sn];rfl) ⟨none,none,none,rfl⟩
 have len:(rws (btw en b) pl).length<=64000:=Nat.le_trans (pE (λp=>Nat.le_trans (fD b p) h.na40) (by decide) pl) (Nat.le_trans (Nat.pow_le_pow_right (by decide) l3) (by decide));have hrow:=jJ (iP (en:=en) b) pl;generalize rws (btw en b) pl=rows at *;have s3:own 8 (fS aN) (rLv (paD en re tb r) pl ts b (sh (rwD rows)) x5 x6 x7 none)=.val (.nx (rLv (paD en re tb r) pl ts b (sh (rwD rows)) x5 x6 x7 (some (.own [])))):=Eq.trans rfl rfl;obtain⟨U2,e2,y7,rfl⟩:=eQ (src:=fIt (vr 4)) (T:=tgN 7) (F:=DL.iff (tst (bin feq (una aA (eLs (aW (fIt (vr 2)) 1 (tgN 9) (tst (bin fne (bin fix (bin fix (bin fix (vb 0) (kd (.int 2))) (bin fix (vb 7) (bin fix (vb 9) (kd (.int 0))))) (bin fix (vb 9) (kd (.int 2)))) (bin fix (vb 7) (bin fix (vb 9) (kd (.int 1)))))) (vr 9)))) (kd (.int 0))))
   (app 8 (vr 7))
   nxt) (f:=ak) (l:=rows) (U:=rLv (paD en re tb r) pl ts b (sh (rwD rows)) x5 x6 x7 (some (.own [])))
  (λp U=>∃y7:Option Slt,U=rLv (paD en re tb r) pl ts b (sh (rwD rows)) x5 x6 y7 (some (.own ((p.filter λrow=>ts.all (kpt tb row)).map ak)))) rfl (λp row q e U hI=>by
   obtain⟨y7,rfl⟩:=hI;have hr:=hrow row (by rw[e];simp);have lp:(p.filter λrow=>ts.all (kpt tb row)).length<100000:=by
    have:=List.length_filter_le (λrow=>ts.all (kpt tb row)) p;have b1:p.length<=rows.length:=by rw[e];simp
    omega
   generalize hac:(p.filter λrow=>ts.all (kpt tb row))=ac at lp;have tt:tst (bin feq (una aA (eLs (aW (fIt (vr 2)) 1 (tgN 9) (tst (bin fne (bin fix (bin fix (bin fix (vb 0) (kd (.int 2))) (bin fix (vb 7) (bin fix (vb 9) (kd (.int 0))))) (bin fix (vb 9) (kd (.int 2)))) (bin fix (vb 7) (bin fix (vb 9) (kd (.int 1)))))) (vr 9)))) (kd (.int 0))) (rLv (paD en re tb r) pl ts b (sh (rwD rows)) x5 x6 (sh (ak row)) (some (.own (ac.map ak))))=.val (ts.all (kpt tb row)):=by
    have c:=gL (src:=fIt (vr 2)) (n:=1) (T:=tgN 9) (t:=tst (bin fne (bin fix (bin fix (bin fix (vb 0) (kd (.int 2))) (bin fix (vb 7) (bin fix (vb 9) (kd (.int 0))))) (bin fix (vb 9) (kd (.int 2)))) (bin fix (vb 7) (bin fix (vb 9) (kd (.int 1)))))) (e:=vr 9) (f:=bC) (g:=bC) (p:=λt=>!kpt tb row t) (l:=ts) (U:=rLv (paD en re tb r) pl ts b (sh (rwD rows)) x5 x6 (sh (ak row)) (some (.own (ac.map ak)))) rfl (by omega) (λt ht=>by
     obtain⟨h1,h2,h3,_⟩:=g.tk t ht;have a1:=hr.at h1;refine⟨_,rfl,?_,rfl⟩;have v0:bin fix (vb 7) (bin fix (vb 9) (kd (.int 0))) (rLv (paD en re tb r) pl ts b (sh (rwD rows)) x5 x6 (sh (ak row)) (some (.own (ac.map ak)))++[sh (bC t)])=.val (nD (row.getD t.1 0)):=by
      show R.bind (fix (bC t) (.int 0)) (λy=>fix (ak row) y)=_;rw[ql,ag,dC (by rw[hr.len];exact h1)]
     have v1:bin fix (vb 7) (bin fix (vb 9) (kd (.int 1))) (rLv (paD en re tb r) pl ts b (sh (rwD rows)) x5 x6 (sh (ak row)) (some (.own (ac.map ak)))++[sh (bC t)])=.val (nD (row.getD t.2.1 0)):=by
      show R.bind (fix (bC t) (.int 1)) (λy=>fix (ak row) y)=_;rw[qk,ag,dC (by rw[hr.len];exact h2)]
     have v2:bin fix (vb 9) (kd (.int 2)) (rLv (paD en re tb r) pl ts b (sh (rwD rows)) x5 x6 (sh (ak row)) (some (.own (ac.map ak)))++[sh (bC t)])=.val (nD t.2.2):=tV t;have v3:bin fix (vb 0) (kd (.int 2)) (rLv (paD en re tb r) pl ts b (sh (rwD rows)) x5 x6 (sh (ak row)) (some (.own (ac.map ak)))++[sh (bC t)])=.val (aS tb):=nJ _ _ _ _;have g1:=eS (tb:=tb) (i:=row.getD t.1 0) (by rw[h.tl];exact a1);have g2:=dS (r:=tb.getD (row.getD t.1 0) []) (i:=t.2.2) (by rw[h.rl _ a1];exact h3);show tst (bin fne (bin fix (bin fix (bin fix (vb 0) (kd (.int 2))) (bin fix (vb 7) (bin fix (vb 9) (kd (.int 0))))) (bin fix (vb 9) (kd (.int 2)))) (bin fix (vb 7) (bin fix (vb 9) (kd (.int 1))))) (rLv (paD en re tb r) pl ts b (sh (rwD rows)) x5 x6 (sh (ak row)) (some (.own (ac.map ak)))++[sh (bC t)])=_;rw[bv,aH,aH,aH,v3,ag,v0,ag,g1,ag,v2,ag,g2,ag,v1,ag,kN,ag,iR];unfold kpt;rw[decide_not])
    rw[bv,aH,e9,bB,c,ag,ag,nG,ag,ft,ag,ju,ag,iR,none_iff]
   refine⟨rLv (paD en re tb r) pl ts b (sh (rwD rows)) x5 x6 (sh (ak row)) (some (.own (ac.map ak))),?_⟩;by_cases c:ts.all (kpt tb row)=true
   ·refine⟨_,rfl,?_,sh (ak row),rfl⟩;rw[iz (by rw[tt,c]),iS _ (d:=ak row) (xs:=ac.map ak) rfl rfl (by rw[List.length_map];exact lp),List.filter_append,hac,List.map_append];rw[show List.filter (λrow=>ts.all (kpt tb row)) [row]=[row] by rw[List.filter_cons,if_pos c];rfl];rfl
   ·refine⟨_,rfl,?_,sh (ak row),rfl⟩;have c:ts.all (kpt tb row)=false:=by simpa using c
    rw[cF (by rw[tt,c]),List.filter_append,hac];rw[show List.filter (λrow=>ts.all (kpt tb row)) [row]=[] by rw[List.filter_cons,if_neg (by rw[c];decide)];rfl,List.append_nil]) ⟨x7,rfl⟩
 rw[bR e1,bR s3,bR e2];rfl
end
def cf (ns:List Int) (k:Nat):Int:=(j3 ns k).choose
theorem DC (ns:List Int) (k:Nat):av [.scr ns,.int (k:Int)]=.val (.int (cf ns k)):=(j3 ns k).choose_spec
theorem vp {ns:List Int} {z:Int} (ha:A U=.val (.scr ns)) (hb:B U=.val (.int z)) (hz:z=(k:Int)):cal 2 av (aC A (aC B aN)) U=.val (.int (cf ns k)):=n4 ha hb (by rw[hz];exact DC ns k)
theorem g8 (c:Int) {m:Nat} (h:0<m):(c%(m:Int)).toNat<m/\a_ c (m:Int)=.val (nD (c%(m:Int)).toNat):=by
 obtain⟨i,hi,e⟩:=iH c m h;rw[eR (by omega),e];exact⟨by simpa using hi,by simp⟩
section
variable {en:List (Nat×Nat)} {re:List Nat} {tb:List (List Int)} {r:List D} {ns:List Int} {k:Nat}
abbrev rPi (ns:List Int) (k:Nat) (P:D) (pl:List Nat) (ts:List Tie) (x5 x6 x7 x8:Option Slt):Rho :=
 [sh (.scr ns),sh (nD k),sh P,sh (ak pl),some (.own (ts.map bC)),x5,x6,x7,x8]
theorem zX (h:bj en re tb) {pl:List Nat} {ts:List Tie} (hp:0<pl.length) (pb:∀i,i<pl.length->pl.getD i 0<re.length) (hj:j<=5) (hl:ts.length<=5) (x6 x7 x8:Option Slt) :
  ∃(ts':List Tie) (y6 y7 y8:Option Slt),(sq (asg 6 (bin (iI a_) (cal 2 av (aC (vr 0) (aC (bin ba (bin ba (vb 1) (kd (.int 5))) (bin (iI cY) (kd (.int 3)) (vb 5))) aN))) (una aA (vb 3))))
 (sq (asg 7 (bin (iI a_) (cal 2 av (aC (vr 0) (aC (bin ba (bin ba (vb 1) (kd (.int 6))) (bin (iI cY) (kd (.int 3)) (vb 5))) aN))) (una aA (vb 3))))
 (sq (asg 8 (cal 3 aG (aC (vr 2) (aC (bin fix (vb 3) (vb 6)) (aC (bin fix (vb 3) (vb 7)) aN)))))
 (DL.iff (tst (bin (iI fgt) (una aA (vb 8)) (kd (.int 0))))
 (app 4 (eT (aC (vr 6) (aC (vr 7) (aC (bin fix (vb 8) (bin (iI a_) (cal 2 av (aC (vr 0) (aC (bin ba (bin ba (vb 1) (kd (.int 7))) (bin (iI cY) (kd (.int 3)) (vb 5))) aN))) (una aA (vb 8)))) aN)))))
 nxt)))) (rPi ns k (paD en re tb r) pl ts (sh (nD j)) x6 x7 x8)=.val (.nx (rPi ns k (paD en re tb r) pl ts' (sh (nD j)) y6 y7 y8))/\(ts'=ts\/∃t:Tie,ts'=ts++[t]/\t.1<pl.length/\t.2.1<pl.length/\t.2.2<en.length/\en.getD t.2.2 (0,0)=(pl.getD t.1 0,pl.getD t.2.1 0)):=by
 have ix:∀(n:Nat) (U:Rho),vb 1 U=.val (nD k)->vb 5 U=.val (nD j)->bin ba (bin ba (vb 1) (kd (.int (n:Int)))) (bin (iI cY) (kd (.int 3)) (vb 5)) U=.val (.int ((k+n+3*j:Nat):Int)):=λn U h1 h5=>by
  rw[aH,aH,h1,ag,ft,ag,mv,ag,aH,ft,ag,h5,ag,gK,jX (by constructor<;>omega),ag,mv]
  congr 2
 have cl:∀(n:Nat) (U:Rho),vr 0 U=.val (.scr ns)->vb 1 U=.val (nD k)->vb 5 U=.val (nD j)->cal 2 av (aC (vr 0) (aC (bin ba (bin ba (vb 1) (kd (.int (n:Int)))) (bin (iI cY) (kd (.int 3)) (vb 5))) aN)) U=.val (.int (cf ns (k+n+3*j))):=λn U h0 h1 h5=>vp h0 (ix n U h1 h5) rfl;obtain⟨a1,a2⟩:=g8 (cf ns (k+5+3*j)) hp;obtain⟨b1,b2⟩:=g8 (cf ns (k+6+3*j)) hp;generalize (cf ns (k+5+3*j)%(pl.length:Int)).toNat=a at a1 a2;generalize (cf ns (k+6+3*j)%(pl.length:Int)).toNat=b at b1 b2;have s1:asg 6 (bin (iI a_) (cal 2 av (aC (vr 0) (aC (bin ba (bin ba (vb 1) (kd (.int 5))) (bin (iI cY) (kd (.int 3)) (vb 5))) aN))) (una aA (vb 3))) (rPi ns k (paD en re tb r) pl ts (sh (nD j)) x6 x7 x8)=.val (.nx (rPi ns k (paD en re tb r) pl ts (sh (nD j)) (sh (nD a)) x7 x8)):=by
  refine db ?_;have v:una aA (vb 3) (rPi ns k (paD en re tb r) pl ts (sh (nD j)) x6 x7 x8)=.val (nD pl.length):=cZ pl;have c:=cl 5 (rPi ns k (paD en re tb r) pl ts (sh (nD j)) x6 x7 x8) rfl rfl rfl;rw[aH];refine Eq.trans (congrArg (λz=>R.bind z _) c) ?_;rw[ag,v,ag,gK,a2]
 have s2:asg 7 (bin (iI a_) (cal 2 av (aC (vr 0) (aC (bin ba (bin ba (vb 1) (kd (.int 6))) (bin (iI cY) (kd (.int 3)) (vb 5))) aN))) (una aA (vb 3))) (rPi ns k (paD en re tb r) pl ts (sh (nD j)) (sh (nD a)) x7 x8)=.val (.nx (rPi ns k (paD en re tb r) pl ts (sh (nD j)) (sh (nD a)) (sh (nD b)) x8)):=by
  refine db ?_;have v:una aA (vb 3) (rPi ns k (paD en re tb r) pl ts (sh (nD j)) (sh (nD a)) x7 x8)=.val (nD pl.length):=cZ pl;have c:=cl 6 (rPi ns k (paD en re tb r) pl ts (sh (nD j)) (sh (nD a)) x7 x8) rfl rfl rfl;rw[aH];refine Eq.trans (congrArg (λz=>R.bind z _) c) ?_;rw[ag,v,ag,gK,b2]
 have s3:asg 8 (cal 3 aG (aC (vr 2) (aC (bin fix (vb 3) (vb 6)) (aC (bin fix (vb 3) (vb 7)) aN)))) (rPi ns k (paD en re tb r) pl ts (sh (nD j)) (sh (nD a)) (sh (nD b)) x8)=.val (.nx (rPi ns k (paD en re tb r) pl ts (sh (nD j)) (sh (nD a)) (sh (nD b)) (sh (ak (btw en (pl.getD a 0) (pl.getD b 0)))))) :=
  db (jB (a:=paD en re tb r) (b:=nD (pl.getD a 0)) (c:=nD (pl.getD b 0)) rfl (dC a1) (dC b1) (iE h _ _))
 have bi:=λx=>mem_btw (en:=en) (a:=pl.getD a 0) (b:=pl.getD b 0) (n:=x);generalize btw en (pl.getD a 0) (pl.getD b 0)=bt at s3 bi;have v8:una aA (vb 8) (rPi ns k (paD en re tb r) pl ts (sh (nD j)) (sh (nD a)) (sh (nD b)) (sh (ak bt)))=.val (nD bt.length):=cZ bt;have tt:tst (bin (iI fgt) (una aA (vb 8)) (kd (.int 0))) (rPi ns k (paD en re tb r) pl ts (sh (nD j)) (sh (nD a)) (sh (nD b)) (sh (ak bt)))=.val (decide ((0:Int)<bt.length)):=by
  rw[bv,aH,v8];rfl
 rw[bR s1,bR s2,bR s3];by_cases c:0<bt.length
 ·obtain⟨c1,c2⟩:=g8 (cf ns (k+7+3*j)) c;generalize (cf ns (k+7+3*j)%(bt.length:Int)).toNat=y at c1 c2;have at8:bin fix (vb 8) (bin (iI a_) (cal 2 av (aC (vr 0) (aC (bin ba (bin ba (vb 1) (kd (.int 7))) (bin (iI cY) (kd (.int 3)) (vb 5))) aN))) (una aA (vb 8))) (rPi ns k (paD en re tb r) pl ts (sh (nD j)) (sh (nD a)) (sh (nD b)) (sh (ak bt)))=.val (nD (bt.getD y 0)):=by
   have cc:=cl 7 (rPi ns k (paD en re tb r) pl ts (sh (nD j)) (sh (nD a)) (sh (nD b)) (sh (ak bt))) rfl rfl rfl;have m:bin (iI a_) (cal 2 av (aC (vr 0) (aC (bin ba (bin ba (vb 1) (kd (.int 7))) (bin (iI cY) (kd (.int 3)) (vb 5))) aN))) (una aA (vb 8)) (rPi ns k (paD en re tb r) pl ts (sh (nD j)) (sh (nD a)) (sh (nD b)) (sh (ak bt)))=.val (nD y):=by
    rw[aH];refine Eq.trans (congrArg (λz=>R.bind z _) cc) ?_;rw[ag,v8,ag,gK,c2]
   rw[aH,m];exact dC c1
  have et:eT (aC (vr 6) (aC (vr 7) (aC (bin fix (vb 8) (bin (iI a_) (cal 2 av (aC (vr 0) (aC (bin ba (bin ba (vb 1) (kd (.int 7))) (bin (iI cY) (kd (.int 3)) (vb 5))) aN))) (una aA (vb 8)))) aN))) (rPi ns k (paD en re tb r) pl ts (sh (nD j)) (sh (nD a)) (sh (nD b)) (sh (ak bt)))=.val (bC (a,b,bt.getD y 0)):=by
   rw[nV,cM,cM,cM,at8];rfl
  refine⟨ts++[(a,b,bt.getD y 0)],sh (nD a),sh (nD b),sh (ak bt),?_,.inr ⟨_,rfl,a1,b1,?_⟩⟩
  ·rw[iz (by rw[tt,decide_eq_true (by omega)]),iS _ (d:=bC (a,b,bt.getD y 0)) (xs:=ts.map bC) rfl et (by rw[List.length_map];omega)];unfold rPi;rw[List.map_append];rfl
  ·have:=(bi (bt.getD y 0)).mp (by rw[bc c1];exact List.getElem_mem c1);exact this
 ·exact⟨ts,_,_,_,cF (by rw[tt,decide_eq_false (by omega)]),.inl rfl⟩
theorem lw (h:bj en re tb) (ns:List Int) (k:Nat):∃pl ts,Pic en re pl ts/\cA [.scr ns,nD k,paD en re tb r]=.val (.tup [ak pl,aY ts]):=by
 simp only[cA,fg];show ∃pl ts,_/\fin (sq _ _ [sh (.scr ns),sh (nD k),sh (paD en re tb r),none,none,none,none,none,none])=_;obtain⟨m1,m2⟩:=g8 (cf ns k) (m:=4) (by decide);obtain⟨q1,q2⟩:=g8 (cf ns k/4) (m:=5) (by decide);generalize (cf ns k%((4:Nat):Int)).toNat=m at m1 m2;generalize (cf ns k/4%((5:Nat):Int)).toNat=q at q1 q2;have n1:=h.nb1;have s1:asg 3 (eLs (aW (bF (aC (bin (iI a_) (cal 2 av (aC (vr 0) (aC (vr 1) aN))) (kd (.int 4))) aN)) 1 (tgN 9) tT (bin (iI a_) (cal 2 av (aC (vr 0) (aC (bin ba (bin ba (vb 1) (kd (.int 1))) (vb 9)) aN))) (una aA (bin fix (vb 2) (kd (.int 1))))))) [sh (.scr ns),sh (nD k),sh (paD en re tb r),none,none,none,none,none,none]
   =.val (.nx [sh (.scr ns),sh (nD k),sh (paD en re tb r),sh (ak ((List.range m).map λj=>(cf ns (k+1+j)%(re.length:Int)).toNat)),none,none,none,none,none]):=by
  refine db ?_;have c:=dU (src:=bF (aC (bin (iI a_) (cal 2 av (aC (vr 0) (aC (vr 1) aN))) (kd (.int 4))) aN)) (n:=1) (i:=9) (m:=m) (e:=bin (iI a_) (cal 2 av (aC (vr 0) (aC (bin ba (bin ba (vb 1) (kd (.int 1))) (vb 9)) aN))) (una aA (bin fix (vb 2) (kd (.int 1))))) (g:=λj=>nD (cf ns (k+1+j)%(re.length:Int)).toNat) (U:=[sh (.scr ns),sh (nD k),sh (paD en re tb r),none,none,none,none,none,none]) (by
   rw[hG,cM,aH,vp (k:=k) rfl rfl rfl,ag,ft,ag,gK];refine Eq.trans (congrArg (λz=>R.bind (R.bind z _) _) m2) ?_;rw[ag,j9,ag,ag,cK (by omega)]) (by omega) (λj _=>by
   have hc:cal 2 av (aC (vr 0) (aC (bin ba (bin ba (vb 1) (kd (.int 1))) (vb 9)) aN)) (List.set ([sh (.scr ns),sh (nD k),sh (paD en re tb r),none,none,none,none,none,none]++List.replicate 1 none) 9 (sh (nD j)))=.val (.int (cf ns (k+1+j))):=vp (z:=(k:Int)+1+(j:Int)) rfl rfl (by omega);have hv:una aA (bin fix (vb 2) (kd (.int 1))) (List.set ([sh (.scr ns),sh (nD k),sh (paD en re tb r),none,none,none,none,none,none]++List.replicate 1 none) 9 (sh (nD j)))=.val (nD re.length):=by
    show R.bind (fix (paD en re tb r) (.int 1)) aA=_;rw[paD,iB,ag,cZ]
   rw[aH,hc,ag,hv,ag,gK,(g8 _ (by omega)).2])
  rw[bB,c];unfold ak;rw[List.map_map];rfl
 rw[bR s1];have lp:((List.range m).map λj=>(cf ns (k+1+j)%(re.length:Int)).toNat).length=m:=by simp
 have pb:∀i,i<((List.range m).map λj=>(cf ns (k+1+j)%(re.length:Int)).toNat).length->((List.range m).map λj=>(cf ns (k+1+j)%(re.length:Int)).toNat).getD i 0<re.length:=λi hi=>by
  rw[bc hi,List.getElem_map];exact(g8 _ (by omega)).1
 generalize ((List.range m).map λj=>(cf ns (k+1+j)%(re.length:Int)).toNat)=pl at lp pb;have s2:own 4 (fS aN) [sh (.scr ns),sh (nD k),sh (paD en re tb r),sh (ak pl),none,none,none,none,none]=.val (.nx (rPi ns k (paD en re tb r) pl [] none none none none)):=Eq.trans rfl rfl;rw[bR s2];have tt:tst (bin (iI fgt) (una aA (vb 3)) (kd (.int 0))) (rPi ns k (paD en re tb r) pl [] none none none none)=.val (decide ((0:Int)<pl.length)):=by
  have v:una aA (vb 3) (rPi ns k (paD en re tb r) pl [] none none none none)=.val (nD pl.length):=cZ pl;rw[bv,aH,v];rfl
 by_cases c:0<pl.length
 ·obtain⟨U1,e1,ts,x5,x6,x7,x8,tl,tk,rfl⟩:=jS (i:=5) (n:=q) (F:=sq (asg 6 (bin (iI a_) (cal 2 av (aC (vr 0) (aC (bin ba (bin ba (vb 1) (kd (.int 5))) (bin (iI cY) (kd (.int 3)) (vb 5))) aN))) (una aA (vb 3))))
    (sq (asg 7 (bin (iI a_) (cal 2 av (aC (vr 0) (aC (bin ba (bin ba (vb 1) (kd (.int 6))) (bin (iI cY) (kd (.int 3)) (vb 5))) aN))) (una aA (vb 3))))
    (sq (asg 8 (cal 3 aG (aC (vr 2) (aC (bin fix (vb 3) (vb 6)) (aC (bin fix (vb 3) (vb 7)) aN)))))
    (DL.iff (tst (bin (iI fgt) (una aA (vb 8)) (kd (.int 0))))
    (app 4 (eT (aC (vr 6) (aC (vr 7) (aC (bin fix (vb 8) (bin (iI a_) (cal 2 av (aC (vr 0) (aC (bin ba (bin ba (vb 1) (kd (.int 7))) (bin (iI cY) (kd (.int 3)) (vb 5))) aN))) (una aA (vb 8)))) aN)))))
    nxt)))) (U:=rPi ns k (paD en re tb r) pl [] none none none none)
   (λj U=>∃(ts:List Tie) (x5 x6 x7 x8:Option Slt),ts.length<=j/\(∀t∈ts,t.1<pl.length/\t.2.1<pl.length/\t.2.2<en.length/\en.getD t.2.2 (0,0)=(pl.getD t.1 0,pl.getD t.2.1 0))/\U=rPi ns k (paD en re tb r) pl ts x5 x6 x7 x8) (λj U hj hI=>by
    obtain⟨ts,x5,x6,x7,x8,l1,l2,rfl⟩:=hI;obtain⟨ts',y6,y7,y8,e,hh⟩:=zX (ns:=ns) (k:=k) (r:=r) h c pb (j:=j) (by omega) (ts:=ts) (by omega) x6 x7 x8;refine⟨_,e,ts',_,_,_,_,?_,?_,rfl⟩
    ·rcases hh with rfl|⟨t,rfl,_⟩
     ·omega
     ·rw[List.length_append];show _+1<=_;omega
    ·rcases hh with rfl|⟨t,rfl,ht⟩
     ·exact l2
     ·intro u hu;rcases List.mem_append.mp hu with hu|hu
      ·exact l2 u hu
      ·rw[List.mem_singleton.mp hu];exact ht) ⟨[],_,_,_,_,Nat.le_refl _,(λt ht=>by cases ht),rfl⟩
  refine⟨pl,ts,⟨by omega,by omega,pb,tk⟩,?_⟩;have src:bF (aC (bin (iI a_) (bin (iI dq) (cal 2 av (aC (vr 0) (aC (vr 1) aN))) (kd (.int 4))) (kd (.int 5))) aN) (rPi ns k (paD en re tb r) pl [] none none none none)=.val (rng 0 q):=by
   rw[hG,cM,aH,aH,vp (k:=k) rfl rfl rfl,ag,ft,ag,gK,qo (by decide),ag,ft,ag,gK];refine Eq.trans (congrArg (λz=>R.bind (R.bind z _) _) q2) ?_;rw[ag,j9,ag,ag,cK (by omega)]
  rw[aX,iz (by rw[tt,decide_eq_true (by omega)]),cU,src,ag,e1];rfl
 ·refine⟨pl,[],⟨by omega,by simp,pb,(λt ht=>by cases ht)⟩,?_⟩;rw[bR (cF (by rw[tt,decide_eq_false (by omega)]))];rfl
end
theorem kI (a b:Int) (x y:List Int):cw (a::x) (b::y)=if a=b then cw x y else decide (a<b):=rfl
theorem vV (x:List Int):∀{y z:List Int},cw (x++y) (x++z)=cw y z:=by
 induction x with
 | nil=>intro y z;rfl
 | cons a x ih=>intro y z;rw[List.cons_append,List.cons_append,kI,if_pos rfl];exact ih
theorem oQ:∀{x x' y z:List Int},x.length=x'.length->cw x x'=true->cw (x++y) (x'++z)=true
 | [],[],_,_,_,h=>by cases h
 | [],_::_,_,_,h,_=>by simp at h
 | _::_,[],_,_,h,_=>by simp at h
 | a::x,b::x',y,z,hl,h=>by
  rw[List.cons_append,List.cons_append];rw[kI]at h ⊢;by_cases e:a=b
  ·rw[if_pos e]at h ⊢;exact oQ (by simpa using hl) h
  ·rw[if_neg e]at h ⊢;exact h
abbrev lx (a b:List Nat):Prop:=cw (dZ a) (dZ b)=true
theorem jb (a b:List Nat):dZ (a++b)=dZ a++dZ b:=by unfold dZ;rw[List.map_append]
theorem A_ {rows:List (List Nat)} (hk:∀r∈rows,r.length=k) (hr:rows.Pairwise lx) (ha:as.Pairwise (· < ·)):(stp rows as).Pairwise lx:=by
 unfold stp;rw[List.pairwise_flatMap];constructor
 ·intro r _;rw[List.pairwise_map];refine ha.imp λ{a b} h=>?_;show cw (dZ (r++[a])) (dZ (r++[b]))=true;rw[jb,jb,vV];unfold dZ;rw[List.map_cons,List.map_cons,kI,if_neg (by omega)];exact decide_eq_true (by omega)
 ·rw[List.pairwise_iff_getElem]at hr ⊢;intro i j hi hj hij x hx y hy;obtain⟨a,_,rfl⟩:=List.mem_map.mp hx;obtain⟨b,_,rfl⟩:=List.mem_map.mp hy;show cw (dZ (_++[a])) (dZ (_++[b]))=true;rw[jb,jb];exact oQ (by rw[kT,kT,hk _ (List.getElem_mem hi),hk _ (List.getElem_mem hj)]) (hr i j hi hj hij)
theorem Be {B:Nat->List Nat} (hB:∀p,∀a∈B p,a<N) (hs:∀p,(B p).Pairwise (· < ·)) (pl:List Nat):(rws B pl).Pairwise lx:=by
 suffices ∀n,n<=pl.length->(rws B (pl.take n)).Pairwise lx by
  have:=this pl.length (Nat.le_refl _);rwa[List.take_length]at this
 intro n
 induction n with
 | zero=>intro _;rw[List.take_zero];exact List.pairwise_singleton _ _
 | succ n ih =>
  intro hn;rw[List.take_succ_eq_append_getElem (by omega),ip];exact A_ (λr hr=>(ux hB pl n (by omega) r hr).len) (ih (by omega)) (hs _)
variable {c:Nat}
section
variable {en:List (Nat×Nat)} {re:List Nat} {tb:List (List Int)} {pl:List Nat} {ts:List Tie}
theorem Cz (b p:Nat):(btw en b p).Pairwise (· < ·):=List.pairwise_lt_range.filter _
theorem BY (b:Nat):(kws tb (btw en b) pl ts).Pairwise lx:=(Be (iP b) (Cz b) pl).filter _
def vws (en:List (Nat×Nat)) (tb:List (List Int)) (pl:List Nat) (ts:List Tie) (b:Nat):List (List Int):=(kws tb (btw en b) pl ts).map dZ
theorem wy (b:Nat):(vws en tb pl ts b).Pairwise λx y=>cw x y=true:=by
 unfold vws;rw[List.pairwise_map];exact BY b
theorem AU (b:Nat):(vws en tb pl ts b).Pairwise λx y=>leL x y=true:=(wy b).imp λh=>by unfold leL;rw[uR h];rfl
theorem wx (b:Nat):(vws en tb pl ts b).Nodup:=(wy b).imp λ{x y} h e=>by rw[e,jU]at h;cases h
def pZ (tb:List (List Int)) (a:Nat) (row:List Nat):List Int:=row.map λx=>(tb.getD a []).getD x (-1)
def cT (en:List (Nat×Nat)) (tb:List (List Int)) (b c:Nat) (row:List Nat):List (List Int):=(btw en b c).map λa=>pZ tb a row
def isB (en:List (Nat×Nat)) (re:List Nat) (tb:List (List Int)) (pl:List Nat) (ts:List Tie) (c:Nat) (row:List Nat):Bool :=
 (List.range re.length).all λb=>decide (ib (cT en tb b c row)=vws en tb pl ts b)
theorem srt_iff {m:List (List Int)}:ib m=vws en tb pl ts b↔m.Perm (vws en tb pl ts b):=by
 constructor
 ·intro h;rw[<- h];exact(oN m).symm
 ·intro h;exact iY h.symm (AU b)
theorem iq:∀{v m:List (List Int)},v.Nodup->m.length=v.length->(∀x∈v,m.count x=1)->m.Perm v
 | [],m,_,hl,_=>by rw[List.length_eq_zero_iff.mp hl]
 | x::v,m,nd,hl,hc=>by
  have c1:=hc x (by simp);have hx:x∈m:=List.count_pos_iff.mp (by omega);have p:=List.perm_cons_erase hx;rw[List.nodup_cons]at nd;have ih:=iq (v:=v) (m:=m.erase x) nd.2 (by rw[List.length_erase_of_mem hx,hl];simp) (λy hy=>by
   have ne:y≠x:=λe=>nd.1 (e▸hy);rw[List.count_erase_of_ne ne];exact hc y (by simp[hy]))
  exact p.trans (ih.cons x)
theorem rz:∀{v:List (List Int)} {x:List Int},v.Nodup->x∈v->v.count x=1
 | y::v,x,nd,hx=>by
  rw[List.nodup_cons]at nd;rw[List.count_cons];rcases List.mem_cons.mp hx with rfl|hx
  ·rw[List.count_eq_zero_of_not_mem nd.1];simp
  ·have ne:y≠x:=λe=>nd.1 (e▸hx);rw[rz nd.2 hx,if_neg (by simpa using ne)]
theorem t9 {m:List (List Int)}:m.Perm (vws en tb pl ts b)↔m.length=(vws en tb pl ts b).length/\∀x∈vws en tb pl ts b,m.count x=1:=by
 constructor
 ·intro h;refine⟨h.length_eq,λx hx=>?_⟩;rw[h.count_eq];exact rz (wx b) hx
 ·rintro⟨h1,h2⟩;exact iq (wx b) h1 h2
theorem rS (h:isB en re tb pl ts c row=true) (hb:b<re.length):(cT en tb b c row).Perm (vws en tb pl ts b):=by
 unfold isB at h;exact srt_iff.mp (of_decide_eq_true (List.all_eq_true.mp h b (List.mem_range.mpr hb)))
end
section
variable {en:List (Nat×Nat)} {re:List Nat} {tb:List (List Int)} {pl:List Nat} {ts:List Tie}
def lY (en:List (Nat×Nat)) (re:List Nat) (tb:List (List Int)) (pl:List Nat) (ts:List Tie):List (Nat×List Nat) :=
 (List.range re.length).flatMap λc=>((kws tb (btw en c) pl ts).filter (isB en re tb pl ts c)).map λrow=>(c,row)
theorem mem_allB {x:Nat×List Nat}:x∈lY en re tb pl ts↔x.1<re.length/\x.2∈kws tb (btw en x.1) pl ts/\isB en re tb pl ts x.1 x.2=true:=by
 unfold lY;rw[List.mem_flatMap];constructor
 ·rintro⟨c,hc,hx⟩;obtain⟨row,hr,rfl⟩:=List.mem_map.mp hx;exact⟨List.mem_range.mp hc,List.mem_filter.mp hr⟩
 ·rintro⟨h1,h2,h3⟩;exact⟨x.1,List.mem_range.mpr h1,List.mem_map.mpr ⟨x.2,List.mem_filter.mpr ⟨h2,h3⟩,rfl⟩⟩
theorem vq (h:bj en re tb) (hc:c<re.length):((kws tb (btw en c) pl ts).filter (isB en re tb pl ts c)).length<=40:=by
 cases e:(kws tb (btw en c) pl ts).filter (isB en re tb pl ts c)with
 | nil=>simp
 | cons row l =>
  have m:row∈(kws tb (btw en c) pl ts).filter (isB en re tb pl ts c):=by rw[e];simp
  have p:=(rS (List.mem_filter.mp m).2 hc).length_eq;unfold cT vws at p;rw[List.length_map,List.length_map]at p;have:=List.length_filter_le (isB en re tb pl ts c) (kws tb (btw en c) pl ts);have b:=fD (en:=en) c c;have n:=h.na40;rw[<- e];omega
theorem Ap (h:isB en re tb pl ts c row=true):((List.range re.length).all λb=>decide ((btw en b c).length=(kws tb (btw en b) pl ts).length))=true:=by
 rw[List.all_eq_true];intro b hb;have p:=(rS h (List.mem_range.mp hb)).length_eq;unfold cT vws at p;rw[List.length_map,List.length_map]at p;exact decide_eq_true p
end
section
variable {en:List (Nat×Nat)} {re:List Nat} {tb:List (List Int)} {pl:List Nat} {ts:List Tie}
theorem nL (h:bj en re tb) (ha:a<en.length) (hr:∀x∈row,x<en.length) (hl:row.length<=100000):bJ [hlD en re tb,nD a,ak row]=.val (aQ (pZ tb a row)):=by
 simp only[bJ,ff];show fin (ret _ [sh (hlD en re tb),sh (nD a),sh (ak row)])=_;have c:=cy (src:=fIt (vr 2)) (n:=1) (i:=3) (e:=bin fix (bin fix (una (dI 2) (vb 0)) (vb 1)) (vb 3)) (f:=nD) (g:=λx=>.int ((tb.getD a []).getD x (-1))) (l:=row) (U:=[sh (hlD en re tb),sh (nD a),sh (ak row)]) rfl hl (λx hx=>by
  have t:=eS (tb:=tb) (i:=a) (by rw[h.tl];exact ha);have t2:=dS (r:=tb.getD a []) (i:=x) (by rw[h.rl _ ha];exact hr x hx);show R.bind (fix (aS tb) (nD a)) (λy=>fix y (nD x))=_;rw[t,ag,t2])
 rw[dE,bB,c];show R.val (D.lst (row.map λx=>D.int ((tb.getD a []).getD x (-1))))=_;unfold aQ pZ;rw[List.map_map];rfl
def aP (en:List (Nat×Nat)) (re:List Nat) (tb:List (List Int)) (pl:List Nat) (ts:List Tie):D:=.lst ((List.range re.length).map λb=>rwD (kws tb (btw en b) pl ts))
theorem nS:enu 0 ((List.range re.length).map λb=>rwD (kws tb (btw en b) pl ts))=(List.range re.length).map λb=>.tup [nD b,rwD (kws tb (btw en b) pl ts)]:=by
 rw[nU (List.range re.length) 0,List.length_range];apply List.map_congr_left;intro b hb;have hb:=List.mem_range.mp hb;rw[bc (by rw[List.length_range];exact hb),List.getElem_range]
theorem nM (h:bj en re tb) (hc:c<re.length):bS [hlD en re tb,aP en re tb pl ts,nD c]=.val (.bl ((List.range re.length).all λb=>decide ((btw en b c).length=(kws tb (btw en b) pl ts).length))):=by
 simp only[bS,fj];show fin (ret _ [sh (hlD en re tb),sh (aP en re tb pl ts),sh (nD c)])=_;have n6:=h.nb6;have cm:=gL (src:=eX (aC (vr 1) aN)) (n:=2) (T:=tg2 3 4) (t:=tT) (e:=bin feq (una aA (cal 3 bm (aC (vr 0) (aC (vr 3) (aC (vr 2) aN))))) (una aA (vb 4))) (f:=λb=>.tup [nD b,rwD (kws tb (btw en b) pl ts)]) (g:=λb=>.bl (decide ((btw en b c).length=(kws tb (btw en b) pl ts).length))) (p:=λ_=>true) (l:=List.range re.length) (U:=[sh (hlD en re tb),sh (aP en re tb pl ts),sh (nD c)]) (by
   show R.val (enu 0 ((List.range re.length).map λb=>rwD (kws tb (btw en b) pl ts)))=_;rw[nS]) (by rw[List.length_range];omega) (λb hb=>by
  have hb:=List.mem_range.mp hb;refine⟨[sh (hlD en re tb),sh (aP en re tb pl ts),sh (nD c),sh (nD b),sh (rwD (kws tb (btw en b) pl ts))],rfl,rfl,?_⟩;have v1:cal 3 bm (aC (vr 0) (aC (vr 3) (aC (vr 2) aN))) [sh (hlD en re tb),sh (aP en re tb pl ts),sh (nD c),sh (nD b),sh (rwD (kws tb (btw en b) pl ts))]=.val (ak (btw en b c)):=jB rfl rfl rfl (jv h hb hc);have v2:una aA (vb 4) [sh (hlD en re tb),sh (aP en re tb pl ts),sh (nD c),sh (nD b),sh (rwD (kws tb (btw en b) pl ts))]=.val (nD (kws tb (btw en b) pl ts).length):=by
   show aA (.lst ((kws tb (btw en b) pl ts).map ak))=_;rw[nG,List.length_map]
  rw[aH,e9,v1,ag,cZ,ag,v2,ag,ju]
  congr 2
  rw[Bool.eq_iff_iff,decide_eq_true_eq,decide_eq_true_eq];omega)
 rw[dE,e9,bB,cm,List.filter_eq_self.mpr (λ_ _=>rfl),ag,ag,ss];rfl
theorem nt:∀l:List Int,gJ (l.map D.int)=some l
 | []=>rfl
 | a::l=>by rw[List.map_cons];unfold gJ;rw[nt l];rfl
theorem mN:∀ls:List (List Int),lh (ls.map aQ)=some ls
 | []=>rfl
 | a::ls=>by
  rw[List.map_cons];unfold lh aQ;dsimp only;rw[nt];dsimp only;have:=mN ls;unfold aQ at this;rw[this];rfl
theorem v9 {ls:List (List Int)} (h:ls.length<64):zO (.lst (ls.map aQ))=.val ((ib ls).map aQ):=by
 unfold zO;dsimp only;rw[mN];dsimp only;rw[if_pos h];rfl
theorem tab_inj {a b:List (List Int)}:aS a=aS b↔a=b:=by
 constructor
 ·intro h;unfold aS at h;exact mq (λx y e=>rowD_inj.mp e) (D.lst.inj h)
 ·intro h;rw[h]
theorem zQ (a b:List (List Int)):fne (aS a) (aS b)=.val (.bl (!decide (a=b))):=by
 by_cases e:a=b
 ·subst e;rw[iA (pP _)];simp
 ·rw[rX (pP _) (pP _) (λz=>e (tab_inj.mp z))];simp[e]
theorem tY (h:bj en re tb) (hc:c<re.length) (hr:∀x∈row,x<en.length) (hl:row.length<=100000):da [hlD en re tb,aP en re tb pl ts,nD c,ak row]=.val (.bl (isB en re tb pl ts c row)):=by
 simp only[da,iK];show fin (sq _ _ [sh (hlD en re tb),sh (aP en re tb pl ts),sh (nD c),sh (ak row),none,none,none])=_;have n40:=h.na40;have fe:=qi (src:=eX (aC (vr 1) aN)) (T:=tg2 4 5) (F:=sq (asg 6 (eLs (aW (fIt (cal 3 bm (aC (vr 0) (aC (vr 4) (aC (vr 2) aN))))) 1 (tgN 7) tT (cal 3 bJ (aC (vr 0) (aC (vr 7) (aC (vr 3) aN)))))))
   (DL.iff (tst (bin fne (eLs (xX (vb 6))) (vb 5))) (ret (kd (.bl false))) nxt)) (f:=λb=>.tup [nD b,rwD (kws tb (btw en b) pl ts)]) (ok:=λb=>decide (ib (cT en tb b c row)=vws en tb pl ts b)) (l:=List.range re.length) (U:=[sh (hlD en re tb),sh (aP en re tb pl ts),sh (nD c),sh (ak row),none,none,none])
  (λU=>∃x4 x5 x6:Option Slt,U=[sh (hlD en re tb),sh (aP en re tb pl ts),sh (nD c),sh (ak row),x4,x5,x6]) (by
   show R.val (enu 0 ((List.range re.length).map λb=>rwD (kws tb (btw en b) pl ts)))=_;rw[nS]) (λb hb U hI=>by
  obtain⟨x4,x5,x6,rfl⟩:=hI;have hb:=List.mem_range.mp hb;have bl:=fD (en:=en) b c;have s1:asg 6 (eLs (aW (fIt (cal 3 bm (aC (vr 0) (aC (vr 4) (aC (vr 2) aN))))) 1 (tgN 7) tT (cal 3 bJ (aC (vr 0) (aC (vr 7) (aC (vr 3) aN)))))) [sh (hlD en re tb),sh (aP en re tb pl ts),sh (nD c),sh (ak row),sh (nD b),sh (rwD (kws tb (btw en b) pl ts)),x6]=.val (.nx [sh (hlD en re tb),sh (aP en re tb pl ts),sh (nD c),sh (ak row),sh (nD b),sh (rwD (kws tb (btw en b) pl ts)),sh (aS (cT en tb b c row))]):=by
   refine db ?_;have v1:cal 3 bm (aC (vr 0) (aC (vr 4) (aC (vr 2) aN))) [sh (hlD en re tb),sh (aP en re tb pl ts),sh (nD c),sh (ak row),sh (nD b),sh (rwD (kws tb (btw en b) pl ts)),x6]=.val (ak (btw en b c)):=jB rfl rfl rfl (jv h hb hc);have cm:=cy (src:=fIt (cal 3 bm (aC (vr 0) (aC (vr 4) (aC (vr 2) aN))))) (n:=1) (i:=7) (e:=cal 3 bJ (aC (vr 0) (aC (vr 7) (aC (vr 3) aN)))) (f:=nD) (g:=λa=>aQ (pZ tb a row)) (l:=btw en b c) (U:=[sh (hlD en re tb),sh (aP en re tb pl ts),sh (nD c),sh (ak row),sh (nD b),sh (rwD (kws tb (btw en b) pl ts)),x6]) (by rw[kO,v1];rfl) (by omega) (λa ha=>jB rfl rfl rfl (nL h (iP b c a ha) hr hl));rw[bB,cm];show R.val (D.lst ((btw en b c).map λa=>aQ (pZ tb a row)))=_;unfold aS cT;rw[List.map_map];rfl
  have tt:tst (bin fne (eLs (xX (vb 6))) (vb 5)) [sh (hlD en re tb),sh (aP en re tb pl ts),sh (nD c),sh (ak row),sh (nD b),sh (rwD (kws tb (btw en b) pl ts)),sh (aS (cT en tb b c row))]=.val (!decide (ib (cT en tb b c row)=vws en tb pl ts b)):=by
   have sr:xX (vb 6) [sh (hlD en re tb),sh (aP en re tb pl ts),sh (nD c),sh (ak row),sh (nD b),sh (rwD (kws tb (btw en b) pl ts)),sh (aS (cT en tb b c row))]=.val ((ib (cT en tb b c row)).map aQ):=v9 (by unfold cT;rw[List.length_map];omega);rw[bv,aH,bB,sr];show R.bind (fne (aS (ib (cT en tb b c row))) (rwD (kws tb (btw en b) pl ts))) asB=_;rw[tD];show R.bind (fne (aS (ib (cT en tb b c row))) (aS (vws en tb pl ts b))) asB=_;rw[zQ];rfl
  obtain⟨k1,k2⟩:=xI tt;refine⟨_,rfl,λq=>?_,λq=>⟨_,?_,sh (nD b),sh (rwD (kws tb (btw en b) pl ts)),sh (aS (cT en tb b c row)),rfl⟩⟩
  ·refine Eq.trans (bR s1) ?_;exact k1 q
  ·refine Eq.trans (bR s1) ?_;exact k2 q) ⟨none,none,none,rfl⟩
 rw[fe];rfl
theorem oY {Y β:Type} {F:Y->Option β}:∀{l:List Y},(∀c,l.find? (λa=>(F a).isSome)=some c->l.findSome? F=F c)/\(l.find? (λa=>(F a).isSome)=none->l.findSome? F=none)
 | []=>⟨(λc h=>by cases h),λ_=>rfl⟩
 | a::l=>by
  rw[List.find?_cons,List.findSome?_cons];cases e:F a with
  | some b =>
   refine⟨λc h=>?_,λh=>?_⟩
   ·have:a=c:=by simpa using h
    rw[<- this,e]
   ·simp at h
  | none=>exact oY (F:=F) (l:=l)
def sJ (en:List (Nat×Nat)) (re:List Nat) (tb:List (List Int)) (pl:List Nat) (ts:List Tie):Option (Nat×List Nat) :=
 (List.range re.length).findSome? λc=>((kws tb (btw en c) pl ts).find? (isB en re tb pl ts c)).map λrow=>(c,row)
theorem sI:(lY en re tb pl ts).head?=sJ en re tb pl ts:=by
 unfold lY sJ;rw[List.head?_flatMap]
 congr 1
 funext c
 rw[List.head?_map,List.head?_filter]
def bD:Option (Nat×List Nat)->D
 | some (c,row)=>.tup [nD c,ak row]
 | none=>.non
theorem D9 (x:Option (Nat×List Nat)):foK (.p .s (.l .s)) (.val (bD x))=.val (bD x):=by
 cases x with
 | none=>rfl
 | some x =>
  obtain⟨c,row⟩:=x;have f:bZ (.p .s (.l .s)) (bD (some (c,row)))=true:=by
   show(true&&(row.map nD).all (bZ .s))=true;rw[Bool.true_and];exact nI row
  show(if bZ (.p .s (.l .s)) (bD (some (c,row)))=true then _ else _)=_;rw[if_pos f]
theorem Ac (h:bj en re tb) (g:Pic en re pl ts):hJ [hlD en re tb,ak pl,aY ts]=.val (bD (sJ en re tb pl ts)):=by
 simp only[hJ,nX];show sqK _ _ [sh (hlD en re tb),sh (ak pl),sh (aY ts),none,none,none,none]=_;have n6:=h.nb6;have l3:=g.l3;have s1:drp (cal 3 bQ (aC (vr 0) (aC (vr 1) (aC (vr 2) aN)))) [sh (hlD en re tb),sh (ak pl),sh (aY ts),none,none,none,none]=.val (.nx [sh (hlD en re tb),sh (ak pl),sh (aY ts),none,none,none,none]):=t8 (jB rfl rfl rfl (kP h g));have s2:trS 3 (.l (.l (.l .s))) (eLs (aW (bF (aC (una aA (una (dI 1) (vb 0))) aN)) 1 (tgN 7) tT (cal 4 ck (aC (vr 0) (aC (vr 1) (aC (vr 2) (aC (vr 7) aN))))))) [sh (hlD en re tb),sh (ak pl),sh (aY ts),none,none,none,none]=.val (.nx [sh (hlD en re tb),sh (ak pl),sh (aY ts),some (.tre (.l (.l (.l .s))) (aP en re tb pl ts)),none,none,none]):=by
  refine s_ ?_;have src:bF (aC (una aA (una (dI 1) (vb 0))) aN) [sh (hlD en re tb),sh (ak pl),sh (aY ts),none,none,none,none]=.val (rng 0 re.length):=by
   have v:una aA (una (dI 1) (vb 0)) [sh (hlD en re tb),sh (ak pl),sh (aY ts),none,none,none,none]=.val (nD re.length):=cZ re;rw[hG,cM,v,ag,j9,ag,ag,cK (by omega)]
  have cm:=dU (n:=1) (i:=7) (e:=cal 4 ck (aC (vr 0) (aC (vr 1) (aC (vr 2) (aC (vr 7) aN))))) (g:=λb=>rwD (kws tb (btw en b) pl ts)) src (by omega) (λb hb=>ud (a:=hlD en re tb) (b:=ak pl) (c:=aY ts) (e:=nD b) rfl rfl rfl rfl (oA h g hb));rw[bB,cm];rfl
 rw[ko s1,ko s2];show foK _ (fin (sq _ _ [sh (hlD en re tb),sh (ak pl),sh (aY ts),sh (aP en re tb pl ts),none,none,none]))=_;have src:sE 3 [sh (hlD en re tb),sh (ak pl),sh (aY ts),sh (aP en re tb pl ts),none,none,none]=.val ((List.range re.length).map λb=>.tup [nD b,rwD (kws tb (btw en b) pl ts)]):=by
  show R.val (enu 0 ((List.range re.length).map λb=>rwD (kws tb (btw en b) pl ts)))=_;rw[nS]
 have lf:=i8 (T:=tg2 4 5) (F:=DL.iff (tst (cal 3 bS (aC (vr 0) (aC (vr 3) (aC (vr 4) aN)))))
   (bh (sL 5) (tgN 6)
   (DL.iff (tst (cal 4 da (aC (vr 0) (aC (vr 3) (aC (vr 4) (aC (vr 6) aN))))))
   (ret (eT (aC (vr 4) (aC (vr 6) aN))))
   nxt))
   nxt) (f:=λb=>.tup [nD b,rwD (kws tb (btw en b) pl ts)]) (g:=λc=>bD (((kws tb (btw en c) pl ts).find? (isB en re tb pl ts c)).map λrow=>(c,row))) (p:=λc=>(((kws tb (btw en c) pl ts).find? (isB en re tb pl ts c)).map λrow=>(c,row)).isSome)
  (λU=>∃x4 x5 x6:Option Slt,U=[sh (hlD en re tb),sh (ak pl),sh (aY ts),sh (aP en re tb pl ts),x4,x5,x6]) (l:=List.range re.length) (U:=[sh (hlD en re tb),sh (ak pl),sh (aY ts),sh (aP en re tb pl ts),none,none,none]) (λc hc U hI=>by
   obtain⟨x4,x5,x6,rfl⟩:=hI;have hc:=List.mem_range.mp hc;refine⟨[sh (hlD en re tb),sh (ak pl),sh (aY ts),sh (aP en re tb pl ts),sh (nD c),sh (rwD (kws tb (btw en c) pl ts)),x6],rfl,?_⟩;have t1:tst (cal 3 bS (aC (vr 0) (aC (vr 3) (aC (vr 4) aN)))) [sh (hlD en re tb),sh (ak pl),sh (aY ts),sh (aP en re tb pl ts),sh (nD c),sh (rwD (kws tb (btw en c) pl ts)),x6]=.val ((List.range re.length).all λb=>decide ((btw en b c).length=(kws tb (btw en b) pl ts).length)):=by
    rw[bv,jB (a:=hlD en re tb) (b:=aP en re tb pl ts) (c:=nD c) rfl rfl rfl (nM h hc)];rfl
   have inner:=i8 (T:=tgN 6) (F:=DL.iff (tst (cal 4 da (aC (vr 0) (aC (vr 3) (aC (vr 4) (aC (vr 6) aN)))))) (ret (eT (aC (vr 4) (aC (vr 6) aN)))) nxt) (f:=ak) (g:=λrow=>bD (some (c,row))) (p:=isB en re tb pl ts c)
    (λU=>∃y6:Option Slt,U=[sh (hlD en re tb),sh (ak pl),sh (aY ts),sh (aP en re tb pl ts),sh (nD c),sh (rwD (kws tb (btw en c) pl ts)),y6]) (l:=kws tb (btw en c) pl ts) (U:=[sh (hlD en re tb),sh (ak pl),sh (aY ts),sh (aP en re tb pl ts),sh (nD c),sh (rwD (kws tb (btw en c) pl ts)),x6]) (λrow hrow U hI=>by
     obtain⟨y6,rfl⟩:=hI;have rw_:=mr (tb:=tb) (en:=en) c pl ts row hrow;have t2:tst (cal 4 da (aC (vr 0) (aC (vr 3) (aC (vr 4) (aC (vr 6) aN))))) [sh (hlD en re tb),sh (ak pl),sh (aY ts),sh (aP en re tb pl ts),sh (nD c),sh (rwD (kws tb (btw en c) pl ts)),sh (ak row)]=.val (isB en re tb pl ts c row):=by
      rw[bv,ud (a:=hlD en re tb) (b:=aP en re tb pl ts) (c:=nD c) (e:=ak row) rfl rfl rfl rfl (tY h hc rw_.bd (by rw[rw_.len];omega))];rfl
     refine⟨_,rfl,λq=>?_,λq=>⟨_,cF (U:=[sh (hlD en re tb),sh (ak pl),sh (aY ts),sh (aP en re tb pl ts),sh (nD c),sh (rwD (kws tb (btw en c) pl ts)),sh (ak row)]) (by rw[t2,q]),_,rfl⟩⟩;refine Eq.trans (iz (U:=[sh (hlD en re tb),sh (ak pl),sh (aY ts),sh (aP en re tb pl ts),sh (nD c),sh (rwD (kws tb (btw en c) pl ts)),sh (ak row)]) (by rw[t2,q])) rfl) ⟨x6,rfl⟩
   rcases inner with⟨row,e,z⟩|⟨e,U2,z,y6,rfl⟩
   ·have am:=Ap (en:=en) (re:=re) (tb:=tb) (pl:=pl) (ts:=ts) (List.find?_some e);rw[e];refine⟨λ_=>?_,λq=>by cases q⟩;rw[iz (by rw[t1,am]),cU];exact z
   ·rw[e];refine⟨λq=>(by cases q),λ_=>?_⟩;by_cases q:((List.range re.length).all λb=>decide ((btw en b c).length=(kws tb (btw en b) pl ts).length))=true
    ·exact⟨_,by rw[iz (by rw[t1,q]),cU];exact z,_,_,_,rfl⟩
    ·have q:((List.range re.length).all λb=>decide ((btw en b c).length=(kws tb (btw en b) pl ts).length))=false:=by simpa using q
     exact⟨_,cF (by rw[t1,q]),_,_,_,rfl⟩) ⟨none,none,none,rfl⟩
 have fs:=oY (F:=λc=>((kws tb (btw en c) pl ts).find? (isB en re tb pl ts c)).map λrow=>(c,row)) (l:=List.range re.length);rw[aX,cU,src,ag];unfold sJ;rcases lf with⟨c,e,z⟩|⟨e,U2,z,_⟩
 ·rw[z,fs.1 c e];exact D9 _
 ·rw[z,fs.2 e];rfl
theorem Am {x:Nat×List Nat} (e:sJ en re tb pl ts=some x):x∈lY en re tb pl ts:=by
 rw[<- sI]at e;exact List.mem_of_head? e
end
theorem yn:decide ((a:Int)≠(b:Int))=!decide (a=b):=by
 by_cases h:a=b
 ·rw[decide_eq_true h,decide_eq_false (by omega)];rfl
 ·rw[decide_eq_false h,decide_eq_true (by omega)];rfl
section
variable {en:List (Nat×Nat)} {re:List Nat} {tb:List (List Int)} {pl:List Nat} {ts:List Tie} {r:List D}
theorem ya (h:bj en re tb) (ha:a<en.length) (hr:∀x∈row,x<en.length) (hl:row.length<=100000) (h0:vb 0 U=.val (paD en re tb r)) (hi:vb i U=.val (nD a)) (hj:vr j U=.val (ak row)) (hk:U.length=k) (h0':0<k) (hi':i<k) :
  aW (fIt (vr j)) 1 (tgN k) tT (bin fix (bin fix (bin fix (vb 0) (kd (.int 2))) (vb i)) (vb k)) U=.val ((pZ tb a row).map D.int):=by
 have c:=cy (src:=fIt (vr j)) (n:=1) (i:=k) (e:=bin fix (bin fix (bin fix (vb 0) (kd (.int 2))) (vb i)) (vb k)) (f:=nD) (g:=λx=>.int ((tb.getD a []).getD x (-1))) (l:=row) (U:=U) (by rw[kO,hj];rfl) hl (λx hx=>by
  have t:=eS (tb:=tb) (i:=a) (by rw[h.tl];exact ha);have t2:=dS (r:=tb.getD a []) (i:=x) (by rw[h.rl _ ha];exact hr x hx);have gt:∀m,m<k->vb m ((U++List.replicate 1 none).set k (sh (nD x)))=vb m U:=λm hm=>by
   rw[uh,uh,List.getElem?_set_ne (by omega),List.getElem?_append_left (by omega)]
  have gk:vb k ((U++List.replicate 1 none).set k (sh (nD x)))=.val (nD x):=by
   rw[uh,List.getElem?_set_self (by rw[List.length_append,hk];simp)]
  rw[aH,aH,aH,gt 0 h0',h0,ag,ft,ag,paD,nJ,ag,gt i hi',hi,ag,t,ag,gk,ag,t2])
 rw[c];unfold pZ;rw[List.map_map];rfl
theorem sg (hb:b<re.length):fix (aP en re tb pl ts) (nD b)=.val (rwD (kws tb (btw en b) pl ts)):=iC (by simp[hb])
theorem za (n:Nat) (a b:List Int):pyq (n+1) (aQ a) (aQ b)=decide (a=b):=by
 have pa:pln (n+1) (aQ a)=true:=jL a;have pb:pln (n+1) (aQ b)=true:=jL b;have:=gY (n+1) pa pb;rw[Bool.eq_iff_iff,decide_eq_true_eq,this,rowD_inj]
theorem xW {ls:List (List Int)} {v:List Int} (hl:ls.length<=100000):zU (aS ls) (aQ v)=.val (.int ((ls.count v:Nat):Int)):=by
 unfold zU aS;dsimp only;rw[if_pos ⟨List.all_eq_true.mpr (λx hx=>by
  obtain⟨a,_,rfl⟩:=List.mem_map.mp hx;exact dA (jL a)),dA (jL v),by rw[List.length_map];exact hl⟩,List.countP_map]
 congr 3
 unfold List.count
 congr 1
 funext a
 show pyq 8 (aQ a) (aQ v)=(a==v);rw[za,Bool.eq_iff_iff,decide_eq_true_eq,beq_iff_eq]
theorem sw (h:bj en re tb) (hr:∀x∈row,x<en.length) (hl:row.length<=100000):bK [paD en re tb r,nD c,ak row,aP en re tb pl ts]=.val (.bl (isB en re tb pl ts c row)):=by
 simp only[bK,fh];show fin (sq _ _ [sh (paD en re tb r),sh (nD c),sh (ak row),sh (aP en re tb pl ts),none,none,none])=_;have n40:=h.na40;have n6:=h.nb6;have src:bF (aC (una aA (vb 3)) aN) [sh (paD en re tb r),sh (nD c),sh (ak row),sh (aP en re tb pl ts),none,none,none]=.val ((List.range re.length).map nD):=by
  refine lZ ?_ (by omega);show aA (.lst ((List.range re.length).map λb=>rwD (kws tb (btw en b) pl ts)))=_;rw[nG,List.length_map,List.length_range]
 have fe:=qi (src:=bF (aC (una aA (vb 3)) aN)) (T:=tgN 4) (F:=sq (asg 5 (eLs (aW (fIt (cal 3 aG (aC (vr 0) (aC (vr 4) (aC (vr 1) aN))))) 1 (tgN 7) tT (eLs (aW (fIt (vr 2)) 1 (tgN 8) tT (bin fix (bin fix (bin fix (vb 0) (kd (.int 2))) (vb 7)) (vb 8)))))))
   (sq (DL.iff (tst (bin fne (una aA (vb 5)) (una aA (bin fix (vb 3) (vb 4))))) (ret (kd (.bl false))) nxt)
   (bh (fIt (bin fix (vb 3) (vb 4))) (tgN 6)
   (DL.iff (tst (bin fne (wl (vb 5) (vr 6)) (kd (.int 1)))) (ret (kd (.bl false))) nxt)))) (f:=nD) (ok:=λb=>decide (ib (cT en tb b c row)=vws en tb pl ts b)) (l:=List.range re.length) (U:=[sh (paD en re tb r),sh (nD c),sh (ak row),sh (aP en re tb pl ts),none,none,none])
  (λU=>∃x4 x5 x6:Option Slt,U=[sh (paD en re tb r),sh (nD c),sh (ak row),sh (aP en re tb pl ts),x4,x5,x6]) src (λb hb U hI=>by
  obtain⟨x4,x5,x6,rfl⟩:=hI;have hb:=List.mem_range.mp hb;have bl:=fD (en:=en) b c;have s1:asg 5 (eLs (aW (fIt (cal 3 aG (aC (vr 0) (aC (vr 4) (aC (vr 1) aN))))) 1 (tgN 7) tT (eLs (aW (fIt (vr 2)) 1 (tgN 8) tT (bin fix (bin fix (bin fix (vb 0) (kd (.int 2))) (vb 7)) (vb 8)))))) [sh (paD en re tb r),sh (nD c),sh (ak row),sh (aP en re tb pl ts),sh (nD b),x5,x6]=.val (.nx [sh (paD en re tb r),sh (nD c),sh (ak row),sh (aP en re tb pl ts),sh (nD b),sh (aS (cT en tb b c row)),x6]):=by
   refine db ?_;have v1:cal 3 aG (aC (vr 0) (aC (vr 4) (aC (vr 1) aN))) [sh (paD en re tb r),sh (nD c),sh (ak row),sh (aP en re tb pl ts),sh (nD b),x5,x6]=.val (ak (btw en b c)):=jB rfl rfl rfl (iE h b c);have cm:=cy (src:=fIt (cal 3 aG (aC (vr 0) (aC (vr 4) (aC (vr 1) aN))))) (n:=1) (i:=7) (e:=eLs (aW (fIt (vr 2)) 1 (tgN 8) tT (bin fix (bin fix (bin fix (vb 0) (kd (.int 2))) (vb 7)) (vb 8)))) (f:=nD) (g:=λa=>aQ (pZ tb a row)) (l:=btw en b c) (U:=[sh (paD en re tb r),sh (nD c),sh (ak row),sh (aP en re tb pl ts),sh (nD b),x5,x6]) (by rw[kO,v1];rfl) (by omega) (λa ha=>by
    have lm:=ya (r:=r) h (iP b c a ha) hr hl (U:=[sh (paD en re tb r),sh (nD c),sh (ak row),sh (aP en re tb pl ts),sh (nD b),x5,x6,sh (nD a)]) (i:=7) (j:=2) (k:=8) rfl rfl rfl rfl (by decide) (by decide);show eLs _ [sh (paD en re tb r),sh (nD c),sh (ak row),sh (aP en re tb pl ts),sh (nD b),x5,x6,sh (nD a)]=_;rw[bB,lm];rfl)
   rw[bB,cm];show R.val (D.lst ((btw en b c).map λa=>aQ (pZ tb a row)))=_;unfold aS cT;rw[List.map_map];rfl
  have ml:(cT en tb b c row).length<=40:=by unfold cT;rw[List.length_map];omega
  have okq:decide (ib (cT en tb b c row)=vws en tb pl ts b)=(decide ((cT en tb b c row).length=(vws en tb pl ts b).length)&&(vws en tb pl ts b).all λx=>decide ((cT en tb b c row).count x=1)):=by
   rw[Bool.eq_iff_iff,decide_eq_true_eq,Bool.and_eq_true,decide_eq_true_eq,List.all_eq_true,srt_iff,t9];simp only[decide_eq_true_eq]
  generalize cT en tb b c row=M at s1 ml okq;have vf:bin fix (vb 3) (vb 4) [sh (paD en re tb r),sh (nD c),sh (ak row),sh (aP en re tb pl ts),sh (nD b),sh (aS M),x6]=.val (rwD (kws tb (btw en b) pl ts)):=sg hb;have t1:tst (bin fne (una aA (vb 5)) (una aA (bin fix (vb 3) (vb 4)))) [sh (paD en re tb r),sh (nD c),sh (ak row),sh (aP en re tb pl ts),sh (nD b),sh (aS M),x6]=.val (!decide (M.length=(vws en tb pl ts b).length)):=by
   have u1:una aA (vb 5) [sh (paD en re tb r),sh (nD c),sh (ak row),sh (aP en re tb pl ts),sh (nD b),sh (aS M),x6]=.val (nD M.length):=rY M;have u2:una aA (bin fix (vb 3) (vb 4)) [sh (paD en re tb r),sh (nD c),sh (ak row),sh (aP en re tb pl ts),sh (nD b),sh (aS M),x6]=.val (nD (vws en tb pl ts b).length):=by
    rw[e9,vf,ag,tD];exact rY _
   rw[bv,aH,u1,ag,u2,ag,kN,ag,iR];rw[yn]
  obtain⟨k1,k2⟩:=xI t1;have la:=uU (src:=fIt (bin fix (vb 3) (vb 4))) (T:=tgN 6) (F:=DL.iff (tst (bin fne (wl (vb 5) (vr 6)) (kd (.int 1)))) (ret (kd (.bl false))) nxt) (f:=aQ) (ok:=λx=>decide (M.count x=1)) (l:=vws en tb pl ts b) (U:=[sh (paD en re tb r),sh (nD c),sh (ak row),sh (aP en re tb pl ts),sh (nD b),sh (aS M),x6])
   (λU=>∃y6:Option Slt,U=[sh (paD en re tb r),sh (nD c),sh (ak row),sh (aP en re tb pl ts),sh (nD b),sh (aS M),y6]) (by rw[kO,vf,ag,tD];rfl) (λx hx U hI=>by
    obtain⟨y6,rfl⟩:=hI;have tt:tst (bin fne (wl (vb 5) (vr 6)) (kd (.int 1))) [sh (paD en re tb r),sh (nD c),sh (ak row),sh (aP en re tb pl ts),sh (nD b),sh (aS M),sh (aQ x)]=.val (!decide (M.count x=1)):=by
     have cv:wl (vb 5) (vr 6) [sh (paD en re tb r),sh (nD c),sh (ak row),sh (aP en re tb pl ts),sh (nD b),sh (aS M),sh (aQ x)]=.val (.int ((M.count x:Nat):Int)):=xW (by omega);rw[bv,aH,cv,ag,ft,ag,kN,ag,iR];exact congrArg R.val (yn (b:=1))
    obtain⟨j1,j2⟩:=xI tt;exact⟨_,rfl,j1,λq=>⟨_,j2 q,_,rfl⟩⟩) ⟨x6,rfl⟩
  refine⟨_,rfl,λq=>?_,λq=>?_⟩
  ·rw[okq]at q;refine Eq.trans (bR s1) ?_;by_cases l:M.length=(vws en tb pl ts b).length
   ·rw[decide_eq_true l,Bool.true_and]at q;rw[bR (k2 (decide_eq_true l))];rcases la with⟨_,z⟩|⟨e,_⟩
    ·exact z
    ·rw[q]at e;cases e
   ·rw[aX,k1 (decide_eq_false l)];rfl
  ·rw[okq,Bool.and_eq_true]at q;rcases la with⟨e,_⟩|⟨_,U2,z,y6,rfl⟩
   ·rw[q.2]at e;cases e
   ·exact⟨_,Eq.trans (bR s1) (Eq.trans (bR (k2 q.1)) z),_,_,_,rfl⟩) ⟨none,none,none,rfl⟩
 rw[fe];rfl
end
abbrev bvD (x:Nat×List Nat):D:=.tup [nD x.1,ak x.2]
section
variable {en:List (Nat×Nat)} {re:List Nat} {tb:List (List Int)} {pl:List Nat} {ts:List Tie} {r:List D}
theorem tX (h:bj en re tb) (g:Pic en re pl ts) (b:Nat):ca [paD en re tb r,ak pl,aY ts,nD b]=.val (rwD (kws tb (btw en b) pl ts)):=by
 rw[wc (r:=r) h g b];unfold kws;rw[BV (λt ht=>⟨(g.tk t ht).1,(g.tk t ht).2.1⟩)]
def bst (en:List (Nat×Nat)) (re:List Nat) (tb:List (List Int)) (pl:List Nat) (ts:List Tie) (c:Nat):List (Nat×List Nat):=((kws tb (btw en c) pl ts).filter (isB en re tb pl ts c)).map λrow=>(c,row)
theorem n9 (h:bj en re tb):∀p:List Nat,(∀c∈p,c<re.length)->(p.flatMap (bst en re tb pl ts)).length<=40*p.length
 | [],_=>by simp
 | c::p,hp=>by
  have ih:=n9 h p λx hx=>hp x (by simp[hx]);have:=vq (pl:=pl) (ts:=ts) h (hp c (by simp));rw[List.flatMap_cons,List.length_append,List.length_cons];unfold bst at ih ⊢;rw[List.length_map];omega
theorem qr (h:bj en re tb) (g:Pic en re pl ts):cL [paD en re tb r,ak pl,aY ts]=.val (.lst ((lY en re tb pl ts).map bvD)):=by
 simp only[cL,d7];show fin (sq _ _ [sh (paD en re tb r),sh (ak pl),sh (aY ts),none,none,none,none])=_;have n6:=h.nb6;have l3:=g.l3;have s1:asg 3 (eLs (aW (bF (aC (una aA (bin fix (vb 0) (kd (.int 1)))) aN)) 1 (tgN 7) tT (cal 4 ca (aC (vr 0) (aC (vr 1) (aC (vr 2) (aC (vr 7) aN))))))) [sh (paD en re tb r),sh (ak pl),sh (aY ts),none,none,none,none]=.val (.nx [sh (paD en re tb r),sh (ak pl),sh (aY ts),sh (aP en re tb pl ts),none,none,none]):=by
  refine db ?_;have src:bF (aC (una aA (bin fix (vb 0) (kd (.int 1)))) aN) [sh (paD en re tb r),sh (ak pl),sh (aY ts),none,none,none,none]=.val (rng 0 re.length):=by
   have v:una aA (bin fix (vb 0) (kd (.int 1))) [sh (paD en re tb r),sh (ak pl),sh (aY ts),none,none,none,none]=.val (nD re.length):=by
    show R.bind (fix (paD en re tb r) (.int 1)) aA=_;rw[paD,iB,ag,cZ]
   rw[hG,cM,v,ag,j9,ag,ag,cK (by omega)]
  have cm:=dU (n:=1) (i:=7) (e:=cal 4 ca (aC (vr 0) (aC (vr 1) (aC (vr 2) (aC (vr 7) aN))))) (g:=λb=>rwD (kws tb (btw en b) pl ts)) src (by omega) (λb hb=>ud (a:=paD en re tb r) (b:=ak pl) (c:=aY ts) (e:=nD b) rfl rfl rfl rfl (tX h g b));rw[bB,cm];rfl
 have s2:own 4 (fS aN) [sh (paD en re tb r),sh (ak pl),sh (aY ts),sh (aP en re tb pl ts),none,none,none]=.val (.nx [sh (paD en re tb r),sh (ak pl),sh (aY ts),sh (aP en re tb pl ts),some (.own []),none,none]):=Eq.trans rfl rfl;rw[bR s1,bR s2];have src:bF (aC (una aA (vb 3)) aN) [sh (paD en re tb r),sh (ak pl),sh (aY ts),sh (aP en re tb pl ts),some (.own []),none,none]=.val ((List.range re.length).map nD):=by
  refine lZ ?_ (by omega);show aA (.lst ((List.range re.length).map λb=>rwD (kws tb (btw en b) pl ts)))=_;rw[nG,List.length_map,List.length_range]
 obtain⟨U1,e1,x5,x6,rfl⟩:=eQ (src:=bF (aC (una aA (vb 3)) aN)) (T:=tgN 5) (F:=bh (fIt (bin fix (vb 3) (vb 5))) (tgN 6)
   (DL.iff (tst (cal 4 bK (aC (vr 0) (aC (vr 5) (aC (vr 6) (aC (vr 3) aN))))))
   (app 4 (eT (aC (vr 5) (aC (vr 6) aN))))
   nxt)) (f:=nD) (l:=List.range re.length) (U:=[sh (paD en re tb r),sh (ak pl),sh (aY ts),sh (aP en re tb pl ts),some (.own []),none,none])
  (λp U=>∃x5 x6:Option Slt,U=[sh (paD en re tb r),sh (ak pl),sh (aY ts),sh (aP en re tb pl ts),some (.own ((p.flatMap (bst en re tb pl ts)).map bvD)),x5,x6]) src (λp c q e U hI=>by
   obtain⟨x5,x6,rfl⟩:=hI;have hc:c<re.length:=List.mem_range.mp (by rw[e];simp);have hp:(p.flatMap (bst en re tb pl ts)).length<=240:=by
    have:=n9 (pl:=pl) (ts:=ts) h p λx hx=>List.mem_range.mp (by rw[e];simp[hx]);have pl6:p.length<=re.length:=by have:=congrArg List.length e;simp at this;omega
    omega
   generalize hac:p.flatMap (bst en re tb pl ts)=ac at hp;have vf:bin fix (vb 3) (vb 5) [sh (paD en re tb r),sh (ak pl),sh (aY ts),sh (aP en re tb pl ts),some (.own (ac.map bvD)),sh (nD c),x6]=.val (rwD (kws tb (btw en c) pl ts)):=sg hc;obtain⟨U2,e2,y6,rfl⟩:=eQ (src:=fIt (bin fix (vb 3) (vb 5))) (T:=tgN 6) (F:=DL.iff (tst (cal 4 bK (aC (vr 0) (aC (vr 5) (aC (vr 6) (aC (vr 3) aN))))))
     (app 4 (eT (aC (vr 5) (aC (vr 6) aN))))
     nxt) (f:=ak) (l:=kws tb (btw en c) pl ts) (U:=[sh (paD en re tb r),sh (ak pl),sh (aY ts),sh (aP en re tb pl ts),some (.own (ac.map bvD)),sh (nD c),x6])
    (λo U=>∃y6:Option Slt,U=[sh (paD en re tb r),sh (ak pl),sh (aY ts),sh (aP en re tb pl ts),some (.own ((ac++(o.filter (isB en re tb pl ts c)).map λrow=>(c,row)).map bvD)),sh (nD c),y6]) (by rw[kO,vf];rfl) (λo row u eo U hI=>by
     obtain⟨y6,rfl⟩:=hI;have hrow:row∈kws tb (btw en c) pl ts:=by rw[eo];simp
     have rw_:=mr (tb:=tb) (en:=en) c pl ts row hrow;have lo:(o.filter (isB en re tb pl ts c)).length<=40:=by
      have:=vq (pl:=pl) (ts:=ts) h hc;rw[eo,List.filter_append,List.length_append]at this;omega
     have tt:tst (cal 4 bK (aC (vr 0) (aC (vr 5) (aC (vr 6) (aC (vr 3) aN))))) [sh (paD en re tb r),sh (ak pl),sh (aY ts),sh (aP en re tb pl ts),some (.own ((ac++(o.filter (isB en re tb pl ts c)).map λrow=>(c,row)).map bvD)),sh (nD c),sh (ak row)]=.val (isB en re tb pl ts c row):=by
      rw[bv,ud (a:=paD en re tb r) (b:=nD c) (c:=ak row) (e:=aP en re tb pl ts) rfl rfl rfl rfl (sw h rw_.bd (by rw[rw_.len];omega))];rfl
     refine⟨[sh (paD en re tb r),sh (ak pl),sh (aY ts),sh (aP en re tb pl ts),some (.own ((ac++(o.filter (isB en re tb pl ts c)).map λrow=>(c,row)).map bvD)),sh (nD c),sh (ak row)],?_⟩;cases cc:isB en re tb pl ts c row with
     | true =>
      have q1:ac++(List.filter (isB en re tb pl ts c) (o++[row])).map (λrow=>(c,row))=(ac++(o.filter (isB en re tb pl ts c)).map λrow=>(c,row))++[(c,row)]:=by
       rw[List.filter_append,show List.filter (isB en re tb pl ts c) [row]=[row] by rw[List.filter_cons,if_pos cc];rfl,List.map_append,List.append_assoc];rfl
      have la:(ac++(o.filter (isB en re tb pl ts c)).map λrow=>(c,row)).length<100000:=by rw[List.length_append,List.length_map];omega
      refine⟨_,rfl,?_,sh (ak row),rfl⟩;rw[q1];generalize (ac++(o.filter (isB en re tb pl ts c)).map λrow=>(c,row))=A at la tt;rw[iz (by rw[tt,cc]),iS _ (d:=bvD (c,row)) (xs:=A.map bvD) rfl rfl (by rw[List.length_map];exact la),List.map_append];rfl
     | false =>
      refine⟨_,rfl,?_,sh (ak row),rfl⟩;have q1:List.filter (isB en re tb pl ts c) (o++[row])=o.filter (isB en re tb pl ts c):=by
       rw[List.filter_append];rw[show List.filter (isB en re tb pl ts c) [row]=[] by rw[List.filter_cons,if_neg (by rw[cc];decide)];rfl,List.append_nil]
      rw[cF (by rw[tt,cc]),q1]) ⟨x6,by rw[show List.filter (isB en re tb pl ts c) []=[]from rfl,List.map_nil,List.append_nil]⟩
   refine⟨[sh (paD en re tb r),sh (ak pl),sh (aY ts),sh (aP en re tb pl ts),some (.own (ac.map bvD)),sh (nD c),x6],_,rfl,e2,sh (nD c),y6,?_⟩;rw[List.flatMap_append,hac,List.flatMap_cons,List.flatMap_nil,List.append_nil];rfl) ⟨none,none,rfl⟩
 rw[bR e1];rfl
end
def swp (en:List (Nat×Nat)):List (Nat×Nat):=en.map λp=>(p.2,p.1)
def trT (tb:List (List Int)) (n:Nat):List (List Int):=(List.range n).map λj=>tb.map λr=>r.getD j (-1)
section
variable {en:List (Nat×Nat)} {re:List Nat} {tb:List (List Int)}
theorem df:(swp en).length=en.length:=by simp[swp]
theorem fJ (h:i<en.length):(swp en).getD i (0,0)=((en.getD i (0,0)).2,(en.getD i (0,0)).1):=by
 rw[bc (by rw[df];exact h),bc h];simp[swp]
theorem wC (h:i<n):(trT tb n).getD i []=tb.map λr=>r.getD i (-1):=by
 rw[bc (by simp[trT];exact h)];simp[trT]
theorem k_ (h:i<n) (h':j<tb.length):((trT tb n).getD i []).getD j (-1)=(tb.getD j []).getD i (-1):=by
 rw[wC h,bc (by simpa using h'),bc h'];simp
theorem lv (h:bj en re tb):bj (swp en) re (trT tb en.length):=by
 have ht:=h.tl;refine⟨h.nb1,h.nb6,by rw[df];exact h.na1,by rw[df];exact h.na40,?_,?_,?_,?_,?_,?_,?_,?_,?_⟩
 ·intro i hi;rw[df]at hi;rw[fJ hi];exact⟨(h.eb i hi).2,(h.eb i hi).1⟩
 ·intro b hb;obtain⟨h1,h2⟩:=h.rs b hb;rw[df,fJ h1,h2];exact⟨h1,rfl⟩
 ·rw[df];simp[trT]
 ·intro i hi;rw[df]at hi ⊢;rw[wC hi];simp[ht]
 ·intro i j hi hj e;rw[df]at hi hj;rw[fJ hi,fJ hj]at e;obtain⟨k,k1,k2,k3⟩:=h.tp j i hj hi e.symm;refine⟨k,by rw[df];exact k1,by rw[k_ hi (by omega)];exact k2,?_⟩;rw[fJ k1,k3,fJ hi,fJ hj]
 ·intro i j hi hj e;rw[df]at hi hj;rw[fJ hi,fJ hj]at e;rw[k_ hi (by omega)];exact h.tn j i hj hi λz=>e z.symm
 ·intro i hi;rw[df]at hi;rw[fJ hi,k_ ((h.rs _ (h.eb i hi).2).1) (by omega)];exact h.ur i hi
 ·intro i hi;rw[df]at hi;have:=(h.rs _ (h.eb i hi).1).1;rw[fJ hi];show((trT tb en.length).getD i []).getD (re.getD (en.getD i (0,0)).1 0) (-1)=_;rw[k_ hi (by omega)];exact h.ul i hi
 ·intro i j k x y hi hj hk hx hy;rw[df]at hi hj hk;rw[k_ hi (by omega)]at hx;rw[k_ hj (by omega)]at hy;obtain⟨_,hxl,_⟩:=qw h hj hi hx;obtain⟨_,hyl,_⟩:=qw h hk hj hy;rw[k_ hxl (by omega),k_ hi (by omega)];exact(h.as k j i y x hk hj hi hy hx).symm
theorem we (h:bj en re tb) (hi:i<en.length):fG [aS tb,.int (i:Int)]=.val (aQ (tb.map λr=>r.getD i (-1))):=by
 simp only[fG,jz];have n1:=h.na40;have n2:=h.tl;have hf:aW (fIt (vr 0)) 1 (tgN 2) tT (bin fix (vb 2) (vb 1)) [sh (aS tb),sh (.int (i:Int))]=.val (tb.map λr=>D.int (r.getD i (-1))):=cy (f:=aQ) rfl (by omega) λr hr=>by
  obtain⟨k,hk,rfl⟩:=List.mem_iff_getElem.mp hr;have hl:=h.rl k (by omega);rw[bc hk]at hl;have:=dS (r:=tb[k]) (i:=i) (by omega);simp[-List.getD_eq_getElem?_getD,this]
 show fin (ret (eLs _) [sh (aS tb),sh (.int (i:Int))])=_;rw[dE,bB,hf];simp only[ag,Ch,aQ,List.map_map];rfl
theorem tu1 (h:bj en re tb) (a b:Option Slt):aW (fIt (una (dI 0) (vb 0))) 1 (tgN 3) tT (eT (aC (bin fix (vb 3) (kd (.int 1))) (aC (bin fix (vb 3) (kd (.int 0))) aN))) [sh (.ob (bP en) (ak re) (aS tb)),a,b]=.val (en.map λp=>dv (p.2,p.1)):=by
 have n1:=h.na40;exact cy (f:=dv) rfl (by omega) λp _=>by simp;rfl
theorem tu2 (h:bj en re tb) (a b:Option Slt):aW (bF (aC (una aA (una (dI 0) (vb 0))) aN)) 1 (tgN 3) tT (cal 2 fG (aC (una (dI 2) (vb 0)) (aC (vr 3) aN))) [sh (.ob (bP en) (ak re) (aS tb)),a,b]=.val ((List.range en.length).map λj=>aQ (tb.map λr=>r.getD j (-1))):=by
 have n1:=h.na40;refine dU (m:=en.length) ?_ (by omega) λk hk=>?_
 ·simp;exact cK (by omega)
 ·simp[-List.getD_eq_getElem?_getD,we h hk]
theorem tu3:D.lst (en.map λp=>dv (p.2,p.1))=bP (swp en):=by simp[bP,swp]
theorem tu4:D.lst ((List.range en.length).map λj=>aQ (tb.map λr=>r.getD j (-1)))=aS (trT tb en.length):=by
 simp only[aS,trT,List.map_map];rfl
theorem wb (h:bj en re tb):gM [.ob (bP en) (ak re) (aS tb)]=.val (.ob (bP (swp en)) (ak re) (aS (trT tb en.length))):=by
 simp only[gM,jx];have eh:=uZ (lv h);show fin (sq _ _ [sh (.ob (bP en) (ak re) (aS tb)),none,none])=_;rw[aX,eB,bB,tu1 h];simp only[ag,tu3];show fin (sq _ _ [sh (.ob (bP en) (ak re) (aS tb)),sh (bP (swp en)),none])=_;rw[aX,eB,bB,tu2 h];simp only[ag,tu4];simp[-List.getD_eq_getElem?_getD,eh]
end
theorem z_ {l:List Int} (hl:l.length<=100000):eZ [aQ l,aQ l]=.val (.bl true):=by
 simp only[eZ,hW];show fin (sq _ _ [sh (aQ l),sh (aQ l),none])=_;have s1:DL.iff (orB (eV (tst (una (jY "list") (vb 0)))) (tst (bin fne (una aA (vb 0)) (una aA (vb 1))))) (ret (kd (.bl false))) nxt [sh (aQ l),sh (aQ l),none]=.val (.nx [sh (aQ l),sh (aQ l),none]):=by
  refine cF ?_;have t1:tst (una (jY "list") (vb 0)) [sh (aQ l),sh (aQ l),none]=.val true:=Eq.trans rfl rfl;rw[gq,eO,t1];simp
 rw[bR s1];have fe:=qi (src:=bF (aC (una aA (vb 1)) aN)) (T:=tgN 2) (F:=DL.iff (orB (eV (tst (una (jY "int") (bin fix (vb 0) (vb 2))))) (orB (tst (una (jY "bool") (bin fix (vb 0) (vb 2)))) (tst (bin fne (bin fix (vb 0) (vb 2)) (bin fix (vb 1) (vb 2)))))) (ret (kd (.bl false))) nxt) (f:=nD) (ok:=λ_=>true) (l:=List.range l.length) (U:=[sh (aQ l),sh (aQ l),none]) (λU=>∃x,U=[sh (aQ l),sh (aQ l),x]) (lZ (by simp) hl) (λi hi U hI=>by
  obtain⟨x,rfl⟩:=hI;have hi:=List.mem_range.mp hi;have f:=dS (r:=l) hi;refine⟨_,rfl,(λz=>by cases z),λ_=>⟨_,cF (U:=[sh (aQ l),sh (aQ l),sh (nD i)]) ?_,_,rfl⟩⟩;have v0:bin fix (vb 0) (vb 2) [sh (aQ l),sh (aQ l),sh (nD i)]=.val (.int (l.getD i (-1))):=f;have v1:bin fix (vb 1) (vb 2) [sh (aQ l),sh (aQ l),sh (nD i)]=.val (.int (l.getD i (-1))):=f;have t1:tst (una (jY "int") (bin fix (vb 0) (vb 2))) [sh (aQ l),sh (aQ l),sh (nD i)]=.val true:=by rw[bv,e9,v0];rfl
  have t2:tst (una (jY "bool") (bin fix (vb 0) (vb 2))) [sh (aQ l),sh (aQ l),sh (nD i)]=.val false:=by rw[bv,e9,v0];rfl
  have t3:tst (bin fne (bin fix (vb 0) (vb 2)) (bin fix (vb 1) (vb 2))) [sh (aQ l),sh (aQ l),sh (nD i)]=.val false:=by
   rw[bv,aH,v0,v1,ag,ag,kN];simp
  rw[gq,eO,t1,ag,ag,if_neg (by decide),gq,t2,ag,if_neg (by decide),t3]) ⟨_,rfl⟩
 rw[fe,List.all_eq_true.mpr λ_ _=>rfl]
theorem fgo {A B:Rho->R Out} {x:R D} (h:A U=.val (.nx U')) (k:fin (B U')=x):fin (sq A B U)=x:=by rw[bR h];exact k
theorem D8 {A B:Rho->R Out} (h:A U=.val (.rt d)):fin (sq A B U)=.val d:=by rw[aX,h];rfl
theorem DX {e:Rho->R D} (h:e U=.val x):ret e U=.val (.rt x):=by rw[dE,h];rfl
theorem frt {e:Rho->R D} (h:e U=.val x):fin (ret e U)=.val x:=by rw[DX h];rfl
theorem xV (a:D) (r:List D):fix (.lst (a::r)) (.int 0)=.val a:=iC (i:=0) rfl
theorem Cd (a b:D) (r:List D):fix (.lst (a::b::r)) (.int 1)=.val b:=iC (i:=1) rfl
abbrev hdD (pl:List Nat) (ts:List Tie):D:=.lst [ak pl,aY ts]
theorem zc (t:Tie):pln (k+1) (bC t)=true:=mi (by simp[rb])
theorem Bu (pl:List Nat) (ts:List Tie):pln 9 (hdD pl ts)=true:=by
 show([ak pl,aY ts]:List D).all (pln 8)=true;rw[List.all_cons,List.all_cons,zd,show pln 8 (aY ts)=true from mj (all_map (λt=>zc t) _)];rfl
theorem fxk {F:Rho->R D} {a:D} {k:Int} (h:F U=.val a) (e:fix a (.int k)=.val x):bin fix F (kd (.int k)) U=.val x:=by rw[aH,h,ag,ft,ag,e]
theorem xY (i:Int):dX [.int i]=.val (.bl true):=by
 simp only[dX,gv];rfl
theorem zW {l:List (Nat×List Nat)} (hl:l.length<=100000) (hr:∀x∈l,x.2.length<=100000):c_ [bD l.head?,.lst (l.map bvD)]=.val (.bl true):=by
 simp only[c_,hU];cases l with
 | nil=>rfl
 | cons x l =>
  obtain⟨c,row⟩:=x;have hr:row.length<=100000:=hr (c,row) (by simp);show fin (sq _ _ [sh (.tup [nD c,ak row]),sh (.lst (bvD (c,row)::l.map bvD))])=_;have f0:=xV (bvD (c,row)) (l.map bvD);refine fgo (cF ?_) (fgo (cF ?_) (frt ?_))
  ·have v:bin feq (una aA (vb 1)) (kd (.int 0)) [sh (.tup [nD c,ak row]),sh (.lst (bvD (c,row)::l.map bvD))]=feq (.int (((bvD (c,row)::l.map bvD).length:Nat):Int)) (.int 0):=rfl;rw[bv,v,ju,decide_eq_false (by rw[List.length_cons];omega)];rfl
  ·have v1:tst (una (jY "tuple") (vb 0)) [sh (.tup [nD c,ak row]),sh (.lst (bvD (c,row)::l.map bvD))]=.val true:=rfl;have v2:bin fne (una aA (vb 0)) (kd (.int 2)) [sh (.tup [nD c,ak row]),sh (.lst (bvD (c,row)::l.map bvD))]=fne (.int 2) (.int 2):=rfl;rw[gq,eO,v1,ag,ag,if_neg (by decide),gq,bv,v2,kN,ag,show asB (.bl (decide ((2:Int)≠2)))=.val false from rfl,ag,if_neg (by decide),eO,bv,Cy (a:=nD c) rfl (xY c)];rfl
  ·have e0:vb 0 [sh (.tup [nD c,ak row]),sh (.lst (bvD (c,row)::l.map bvD))]=.val (.tup [nD c,ak row]):=rfl;have e1:=fxk (F:=vb 1) (U:=[sh (.tup [nD c,ak row]),sh (.lst (bvD (c,row)::l.map bvD))]) rfl f0;have a0:=fxk e0 (jt _ _);have a1:=fxk e0 (iB _ _ _);have b0:=fxk e1 (jt _ _);have b1:=fxk e1 (iB _ _ _);show R.bind _ _=_;rw[aH,a0,ag,b0,ag,ju,decide_eq_true rfl,ag,iR,ag,if_pos rfl];have z:=z_ (l:=dZ row) (by rw[kT];exact hr);rw[<- uA]at z;exact n4 a1 b1 z
section
variable {en:List (Nat×Nat)} {re:List Nat} {tb:List (List Int)} {pl:List Nat} {ts:List Tie} {r:List D}
theorem sO (g:Pic en re pl ts) {x:Nat×List Nat} (h:x∈lY en re tb pl ts):x.2.length<=3:=by
 have:=(mr (tb:=tb) (en:=en) x.1 pl ts x.2 (mem_allB.mp h).2.1).len;have:=g.l3;omega
theorem yD (h:bj en re tb):(lY en re tb pl ts).length<=240:=by
 have:=n9 (pl:=pl) (ts:=ts) h (List.range re.length) λc hc=>List.mem_range.mp hc;have n6:=h.nb6;rw[List.length_range]at this;exact Nat.le_trans this (by omega)
theorem Aq {H P Q T A:D} (hl:row.length<=3):asO (apP 6 .s (pN 6 (pN0 6) (kd (.int 1))) (kd (.int 0))) [sh H,sh P,sh Q,sh T,sh A,sh (.lst [Q,T]),some (.tre (.p .s (.l .s)) (.tup [nD c,ak row]))]=.val (.nx [sh H,sh P,sh Q,sh T,sh A,sh (.lst [Q,T]),some (.tre (.p .s (.l .s)) (.tup [nD c,ak (row++[0])]))]):=by
 have p1:pN 6 (pN0 6) (kd (.int 1)) [sh H,sh P,sh Q,sh T,sh A,sh (.lst [Q,T]),some (.tre (.p .s (.l .s)) (.tup [nD c,ak row]))]=.val [1]:=rfl;have af:apF (.int 0) (row.map nD)=.val ((row++[0]).map nD):=by
  unfold apF;rw[if_pos (by rw[List.length_map];show row.length<100000;omega),List.map_append];rfl
 have h2:yM 6 .s [1] (apF (.int 0)) [sh H,sh P,sh Q,sh T,sh A,sh (.lst [Q,T]),some (.tre (.p .s (.l .s)) (.tup [nD c,ak row]))]=.val [sh H,sh P,sh Q,sh T,sh A,sh (.lst [Q,T]),some (.tre (.p .s (.l .s)) (.tup [nD c,ak (row++[0])]))]:=by
  show R.bind (apF (.int 0) (row.map nD)) _=_;rw[af];rfl
 unfold asO apP;rw[p1,ag,ft,mo,ag,h2];rfl
theorem sv (h:bj en re tb) (g:Pic en re pl ts):di [hlD en re tb,paD en re tb r,ak pl,aY ts]=.val (.bl true):=by
 simp only[di,gA];show fin (sq _ _ [sh (hlD en re tb),sh (paD en re tb r),sh (ak pl),sh (aY ts),none,none,none])=_;have ab:=qr (r:=r) h g;have eb:=Ac h g;have tl:=zW (l:=lY en re tb pl ts) (Nat.le_trans (yD h) (by decide)) (λx hx=>Nat.le_trans (sO g hx) (by decide));rw[sI]at tl;have fn:=iA (Bu pl ts);have cb:∀{U:Rho},vr 0 U=.val (hlD en re tb)->vb 5 U=.val (hdD pl ts)->cal 3 hJ (aC (vr 0) (aC (bin fix (vb 5) (kd (.int 0))) (aC (bin fix (vb 5) (kd (.int 1))) aN))) U=.val (bD (sJ en re tb pl ts)):=λ{U} e0 e5 =>
  jB e0 (fxk e5 (xV _ _)) (fxk e5 (Cd _ _ _)) eb
 have hd:∀{U:Rho},vb 2 U=.val (ak pl)->vb 3 U=.val (aY ts)->eL (aC (eLs (fIt (vb 2))) (aC (eLs (fIt (vb 3))) aN)) U=.val (hdD pl ts):=λ{U} e2 e3=>by
  show R.bind (R.bind (R.bind (R.bind (vb 2 U) _) _) λx=>R.bind (R.bind (R.bind (R.bind (vb 3 U) _) _) _) _) _=_;rw[e2,e3];rfl
 have t2:∀{U:Rho},vb 5 U=.val (hdD pl ts)->vr 2 U=.val (ak pl)->vr 3 U=.val (aY ts)->tst (bin fne (vb 5) (eL (aC (vr 2) (aC (vr 3) aN)))) U=.val false:=λ{U} e5 e2 e3=>by
  rw[bv,aH,e5,ag,DB,cM,e2,ag,cM,e3];show R.bind (fne (hdD pl ts) (hdD pl ts)) asB=_;rw[fn];rfl
 have t1:∀{U:Rho},va 6 U=.val (bD (sJ en re tb pl ts))->vb 4 U=.val (.lst ((lY en re tb pl ts).map bvD))->eV (tst (flF (cal 2 c_ (aC (va 6) (aC (vb 4) aN))))) U=.val false:=λ{U} e6 e4=>by
  rw[eO,bv];unfold flF;rw[n4 e6 e4 tl];rfl
 refine fgo (db (jB rfl rfl rfl ab)) (fgo (db (hd rfl rfl)) ?_);cases eo:sJ en re tb pl ts with
 | none =>
  rw[eo]at cb t1;refine fgo (U':=[sh (hlD en re tb),sh (paD en re tb r),sh (ak pl),sh (aY ts),sh (.lst ((lY en re tb pl ts).map bvD)),sh (hdD pl ts),sh .non]) ?_ (fgo (cF ?_) (D8 rfl))
  ·unfold trO;rw[cb rfl rfl];rfl
  ·rw[gq,t1 rfl rfl,ag,if_neg (by decide)];exact t2 rfl rfl rfl
 | some x =>
  obtain⟨c,row⟩:=x;have ln:=sO g (Am eo);rw[eo]at cb t1 tl;refine fgo (U':=[sh (hlD en re tb),sh (paD en re tb r),sh (ak pl),sh (aY ts),sh (.lst ((lY en re tb pl ts).map bvD)),sh (hdD pl ts),some (.tre (.p .s (.l .s)) (.tup [nD c,ak row]))]) ?_ (fgo (cF ?_) (fgo (cF rfl) (fgo (Aq ln) (frt (n4 (cb rfl rfl) rfl tl)))))
  ·unfold trO;rw[cb rfl rfl];rfl
  ·rw[gq,t1 rfl rfl,ag,if_neg (by decide)];exact t2 rfl rfl rfl
end
theorem AS {e:Rho->R D} {a b:D} (h:e U=.val (.tup [a,b])):asT (tg2 i j) e U=.val (.nx ((U.set i (sh a)).set j (sh b))):=by
 unfold asT;rw[h];rfl
theorem AA {F:Rho->R D} (h:F U=.val (nD n)) (hn:n<=100):bF (aC F aN) U=.val (rng 0 n):=by
 rw[hG,cM,h,ag,j9,ag,ag,cK (by omega)]
section
variable {en:List (Nat×Nat)} {re:List Nat} {tb:List (List Int)} {r:List D}
theorem Ci (h:bj en re tb) {x0 x2 x3 x4 x6 x7:Option Slt}:eLs (aW (bF (aC (vr 5) aN)) 1 (tgN 8) tT (eLs (aW (bF (aC (vr 5) aN)) 1 (tgN 9) tT (bin fix (bin fix (bin fix (vb 1) (kd (.int 2))) (vb 9)) (vb 8))))) [x0,sh (paD en re tb r),x2,x3,x4,sh (nD en.length),x6,x7]=.val (aS (trT tb en.length)):=by
 have n1:=h.na40;have n2:=h.tl;have h1:∀j:Nat,j<en.length->aW (bF (aC (vr 5) aN)) 1 (tgN 9) tT (bin fix (bin fix (bin fix (vb 1) (kd (.int 2))) (vb 9)) (vb 8)) [x0,sh (paD en re tb r),x2,x3,x4,sh (nD en.length),x6,x7,sh (nD j)]=.val ((List.range en.length).map λk=>D.int ((tb.getD k []).getD j (-1))):=λj hj=>dU (AA rfl (by omega)) (by omega) λk hk=>by
  have t1:=eS (tb:=tb) (show k<tb.length by omega);have t2:=dS (r:=tb.getD k []) (i:=j) (by rw[h.rl k hk];exact hj);show R.bind (R.bind (fix (paD en re tb r) (.int 2)) λx=>fix x (nD k)) (λx=>fix x (nD j))=_;rw[show fix (paD en re tb r) (.int 2)=.val (aS tb)from nJ _ _ _ _,ag,t1,ag,t2]
 have h2:=dU (src:=bF (aC (vr 5) aN)) (n:=1) (i:=8) (e:=eLs (aW (bF (aC (vr 5) aN)) 1 (tgN 9) tT (bin fix (bin fix (bin fix (vb 1) (kd (.int 2))) (vb 9)) (vb 8)))) (m:=en.length) (g:=λj=>D.lst ((List.range en.length).map λk=>D.int ((tb.getD k []).getD j (-1)))) (U:=[x0,sh (paD en re tb r),x2,x3,x4,sh (nD en.length),x6,x7]) (AA rfl (by omega)) (by omega) λj hj=>by
  show eLs _ [x0,sh (paD en re tb r),x2,x3,x4,sh (nD en.length),x6,x7,sh (nD j)]=_;rw[bB,h1 j hj];rfl
 rw[bB,h2,ag];refine congrArg R.val ?_;unfold aS trT;refine congrArg D.lst ?_;rw[List.map_map];apply List.map_congr_left;intro j hj;simp only[Function.comp,aQ,List.map_map];refine congrArg D.lst ?_;apply List.ext_getElem
 ·simp[n2]
 ·intro k g1 g2;simp at g1 g2;simp[g2]
theorem Cj (h:bj en re tb) {F:Rho->R D} (hF:F U=.val (bP en)) (hl:U.length=8):eLs (aW (fIt F) 1 (tgN 8) tT (eT (aC (bin fix (vb 8) (kd (.int 1))) (aC (bin fix (vb 8) (kd (.int 0))) aN)))) U=.val (bP (swp en)):=by
 have n1:=h.na40;have c:=cy (src:=fIt F) (n:=1) (i:=8) (e:=eT (aC (bin fix (vb 8) (kd (.int 1))) (aC (bin fix (vb 8) (kd (.int 0))) aN))) (f:=dv) (g:=λp=>dv (p.2,p.1)) (l:=en) (U:=U) (by show R.bind _ _=_;rw[hF];rfl) (by omega) λp _=>by
  have v:vb 8 ((U++List.replicate 1 none).set 8 (sh (dv p)))=.val (dv p):=by
   unfold vb;rw[List.getElem?_set];simp[hl]
  rw[nV,cM,fxk v (Cf p),ag,cM,fxk v (Cg p)];rfl
 rw[bB,c,ag,tu3]
end
theorem law_val (ns:List Int) (hl:ns.length<=63):nW [.scr ns]=.val (.bl true):=by
 simp only[nW,qD];show fin (sq _ _ [sh (.scr ns),none,none,none,none,none,none,none])=_;obtain⟨sz,kn,g,hp⟩:=x_ ns 0;have h:=uT g;have hh:dG [paD (ig kn) (gX sz kn) (gE kn) [.lst (kn.map aw),ak sz]]=.val (hlD (ig kn) (gX sz kn) (gE kn)):=Aa g _;have hp:dk [.scr ns,.int 0]=.val (paD (ig kn) (gX sz kn) (gE kn) [.lst (kn.map aw),ak sz]):=hp;generalize [D.lst (kn.map aw),ak sz]=r at hh hp;generalize ig kn=en at h hh hp;generalize gX sz kn=re at h hh hp;generalize gE kn=tb at h hh hp;obtain⟨pl,ts,gp,pic⟩:=lw (r:=r) h ns 4;have h':=lv h;obtain⟨pl',ts',gp',pic'⟩:=lw (r:=[]) h' ns 30;have tu:=wb h;refine fgo (db (n4 rfl rfl hp)) (fgo (db (Cy rfl hh)) (fgo (AS (jB rfl rfl rfl pic)) (fgo (cF ?_) (fgo (db (x:=nD en.length) ?_) (fgo (db (Ci h)) (fgo (db (x:=paD (swp en) re (trT tb en.length) []) ?_) (fgo (AS (jB rfl rfl rfl pic')) (frt (ud (Cy rfl tu) rfl rfl rfl (sv h' gp'))))))))))
 ·rw[eO,bv,ud rfl rfl rfl rfl (sv (r:=r) h gp)];rfl
 ·rw[e9,fxk (F:=vb 1) rfl (jt _ _),ag];exact rZ en
 ·rw[nV,cM,Cj h (fxk (F:=vb 1) rfl (jt _ _)) rfl,ag,cM,fxk (F:=vb 1) rfl (iB _ _ _)];rfl
end DL
namespace DL
open PySem PySem.Spec PyProof.Rows L2
variable {us:List Value}
theorem zA {n:Nat} (h:us.length=n+1):∃y l,us=y::l/\l.length=n:=by
 cases us with
 | nil=>cases h
 | cons y l=>exact⟨y,l,rfl,Nat.succ.inj h⟩
theorem rO (h:us.length=1):∃y0,us=[y0]:=by
 obtain⟨y,l,e,h⟩:=zA h;exact⟨y,by rw[e,List.eq_nil_of_length_eq_zero h]⟩
theorem jd (h:us.length=2):∃y0 y1,us=[y0,y1]:=by
 obtain⟨y,l,rfl,g⟩:=zA h;obtain⟨y1,rfl⟩:=rO g;exact⟨y,y1,rfl⟩
theorem kJ (h:us.length=3):∃y0 y1 y2,us=[y0,y1,y2]:=by
 obtain⟨y,l,rfl,g⟩:=zA h;obtain⟨y1,y2,rfl⟩:=jd g;exact⟨y,y1,y2,rfl⟩
theorem qd (h:us.length=4):∃y0 y1 y2 y3,us=[y0,y1,y2,y3]:=by
 obtain⟨y,l,rfl,g⟩:=zA h;obtain⟨y1,y2,y3,rfl⟩:=kJ g;exact⟨y,y1,y2,y3,rfl⟩
def uq (K:Frag):Sp:=λvs H Q _=>∃(a:Addr) (ns:List Int),vs=[.ref a]/\SqL K H a (ns.map V.int)/\ns.length<=63/\∀H',Q (.bl true) H'
theorem zB {P:Program} {w:World} {K:Frag} {mg:Str->Option Value} {base:Heap} {C:Addr} {k:Nat} {f:Addr} {fd:FuncData} (hval:∀ns:List Int,ns.length<=63->nW [.scr ns]=.val (.bl true)) (F:FnOk P w K mg base CX0 k f fd ["script"] (spD K C 1 nW)):FnOk P w K mg base CX0 k f fd ["script"] (uq K) :=
 F.imp λvs H Q E ⟨a,ns,e,hS,hl,q⟩=>by
  subst e;refine⟨rfl,[.scr ns],.cons (.scr hS) .nil,?_⟩;rw[hval ns hl];intro v H' _ hv;cases hv;exact q H'
abbrev NI (K:Frag) (x:Str) (f:Addr):Prop:=nsIn K mainGlobals x=some (some (.ref f))
abbrev NN (K:Frag) (x:Str):Prop:=nsIn K mainGlobals x=some none
abbrev LK (K:Frag) (f:Addr) (n q:Str) (s:Stmt) (oc:Value) (od:Option Addr) (kV dc pm:Value) (an:Option Addr) (cd ct:Value) (sl:Array (Option Value)):Prop:=K.lookup f=some ⟨oc,od,.func (fnOf n q (ja s) (cJ s) (ar s) .none kV dc pm an cd ct),sl⟩
abbrev CI (K:Frag) (c:Value) (n:Str):Prop:=codeIn K c n=true
abbrev KP (K:Frag) (f:Addr):Prop:=keepIn K (.ref f)=true
abbrev KO (K:Frag) (a b:Value) (c:Bool):Prop:=kitOne K a b=some c
set_option autoImplicit true in
theorem all_mk {l:PySem.W.OpenLaw} {w:World} {K:Frag} {h:Heap} {mg:Str->Option Value} {fa C f1 f2 f3 f4 f5 f6 f7 f8 f9 f10 f11 f12 f13 f14 f15 f16 f17 f18 f19 f20 f21 f22 f23 f24 f25 f26 f27 f28 f29 f30 f31 f32 f33 f34 f35 f36 f37 f38 f39 f40 f41:Addr} {tb ta tMOST_PLACES tMOST_TIES:Tok} (hval:∀ns:List Int,ns.length<=63->nW [.scr ns]=.val (.bl true)) (X:K.In h) (G:h.Ns mainGlobals mg) (hfa:mg "law"=some (.ref fa))
    (aC:NI K "Hall" C)
    (a1:NI K "_law_cell" f1) (l1:LK K f1 "_law_cell" "_law_cell" gT oc1 od1 kV1 dc1 pm1 an1 cd1 ct1 sl1) (c1:CI K cd1 "_law_cell") (k1:KP K f1)
    (a2:NI K "_law_sizes" f2) (l2:LK K f2 "_law_sizes" "_law_sizes" gd oc2 od2 kV2 dc2 pm2 an2 cd2 ct2 sl2) (c2:CI K cd2 "_law_sizes") (k2:KP K f2)
    (a3:NI K "_law_next" f3) (l3:LK K f3 "_law_next" "_law_next" gQ oc3 od3 kV3 dc3 pm3 an3 cd3 ct3 sl3) (c3:CI K cd3 "_law_next") (k3:KP K f3)
    (a4:NI K "_law_closed" f4) (l4:LK K f4 "_law_closed" "_law_closed" cE oc4 od4 kV4 dc4 pm4 an4 cd4 ct4 sl4) (c4:CI K cd4 "_law_closed") (k4:KP K f4)
    (a5:NI K "_law_arrows" f5) (l5:LK K f5 "_law_arrows" "_law_arrows" fx oc5 od5 kV5 dc5 pm5 an5 cd5 ct5 sl5) (c5:CI K cd5 "_law_arrows") (k5:KP K f5)
    (a6:NI K "_law_parts" f6) (l6:LK K f6 "_law_parts" "_law_parts" gf oc6 od6 kV6 dc6 pm6 an6 cd6 ct6 sl6) (c6:CI K cd6 "_law_parts") (k6:KP K f6)
    (a7:NI K "check_counts" f7) (l7:LK K f7 "check_counts" "check_counts" dP oc7 od7 kV7 dc7 pm7 an7 cd7 ct7 sl7) (c7:CI K cd7 "check_counts") (k7:KP K f7)
    (a8:NI K "is_below" f8) (l8:LK K f8 "is_below" "is_below" gU oc8 od8 kV8 dc8 pm8 an8 cd8 ct8 sl8) (c8:CI K cd8 "is_below") (k8:KP K f8)
    (a9:NI K "check_ends" f9) (l9:LK K f9 "check_ends" "check_ends" fA oc9 od9 kV9 dc9 pm9 an9 cd9 ct9 sl9) (c9:CI K cd9 "check_ends") (k9:KP K f9)
    (a10:NI K "check_rests" f10) (l10:LK K f10 "check_rests" "check_rests" eM oc10 od10 kV10 dc10 pm10 an10 cd10 ct10 sl10) (c10:CI K cd10 "check_rests") (k10:KP K f10)
    (a11:NI K "check_form" f11) (l11:LK K f11 "check_form" "check_form" fy oc11 od11 kV11 dc11 pm11 an11 cd11 ct11 sl11) (c11:CI K cd11 "check_form") (k11:KP K f11)
    (a12:NI K "check_entry" f12) (l12:LK K f12 "check_entry" "check_entry" eN oc12 od12 kV12 dc12 pm12 an12 cd12 ct12 sl12) (c12:CI K cd12 "check_entry") (k12:KP K f12)
    (a13:NI K "check_table" f13) (l13:LK K f13 "check_table" "check_table" eK oc13 od13 kV13 dc13 pm13 an13 cd13 ct13 sl13) (c13:CI K cd13 "check_table") (k13:KP K f13)
    (a14:NI K "check_beside_rests" f14) (l14:LK K f14 "check_beside_rests" "check_beside_rests" bX oc14 od14 kV14 dc14 pm14 an14 cd14 ct14 sl14) (c14:CI K cd14 "check_beside_rests") (k14:KP K f14)
    (a15:NI K "check_thirds" f15) (l15:LK K f15 "check_thirds" "check_thirds" dO oc15 od15 kV15 dc15 pm15 an15 cd15 ct15 sl15) (c15:CI K cd15 "check_thirds") (k15:KP K f15)
    (a16:NI K "check_threes" f16) (l16:LK K f16 "check_threes" "check_threes" dN oc16 od16 kV16 dc16 pm16 an16 cd16 ct16 sl16) (c16:CI K cd16 "check_threes") (k16:KP K f16)
    (a17:findIn K (.ref C) "__init__"=some (some (.ref f17))) (i17:PySem.W.isFn K (.ref f17)=true) (l17:LK K f17 "__init__" "Hall.__init__" bE oc17 od17 kV17 dc17 pm17 an17 cd17 ct17 sl17) (c17:CI K cd17 "Hall.__init__") (k17:KP K f17)
    (a18:NI K "_law_hall" f18) (l18:LK K f18 "_law_hall" "_law_hall" gS oc18 od18 kV18 dc18 pm18 an18 cd18 ct18 sl18) (c18:CI K cd18 "_law_hall") (k18:KP K f18)
    (a19:NI K "_law_between" f19) (l19:LK K f19 "_law_between" "_law_between" eG oc19 od19 kV19 dc19 pm19 an19 cd19 ct19 sl19) (c19:CI K cd19 "_law_between") (k19:KP K f19)
    (a20:NI K "_law_picture" f20) (l20:LK K f20 "_law_picture" "_law_picture" eD oc20 od20 kV20 dc20 pm20 an20 cd20 ct20 sl20) (c20:CI K cd20 "_law_picture") (k20:KP K f20)
    (a21:NI K "_law_views" f21) (l21:LK K f21 "_law_views" "_law_views" f_ oc21 od21 kV21 dc21 pm21 an21 cd21 ct21 sl21) (c21:CI K cd21 "_law_views") (k21:KP K f21)
    (a22:NI K "_law_is_best" f22) (l22:LK K f22 "_law_is_best" "_law_is_best" eE oc22 od22 kV22 dc22 pm22 an22 cd22 ct22 sl22) (c22:CI K cd22 "_law_is_best") (k22:KP K f22)
    (a23:NI K "_law_all_best" f23) (l23:LK K f23 "_law_all_best" "_law_all_best" dM oc23 od23 kV23 dc23 pm23 an23 cd23 ct23 sl23) (c23:CI K cd23 "_law_all_best") (k23:KP K f23)
    (a24:NI K "is_tie" f24) (l24:LK K f24 "is_tie" "is_tie" jH oc24 od24 kV24 dc24 pm24 an24 cd24 ct24 sl24) (c24:CI K cd24 "is_tie") (k24:KP K f24)
    (a25:NI K "check_picture" f25) (l25:LK K f25 "check_picture" "check_picture" dz oc25 od25 kV25 dc25 pm25 an25 cd25 ct25 sl25) (c25:CI K cd25 "check_picture") (k25:KP K f25)
    (a26:NI K "keeps_tie" f26) (l26:LK K f26 "keeps_tie" "keeps_tie" gh oc26 od26 kV26 dc26 pm26 an26 cd26 ct26 sl26) (c26:CI K cd26 "keeps_tie") (k26:KP K f26)
    (a27:NI K "grown" f27) (l27:LK K f27 "grown" "grown" me oc27 od27 kV27 dc27 pm27 an27 cd27 ct27 sl27) (c27:CI K cd27 "grown") (k27:KP K f27)
    (a28:NI K "check_box" f28) (l28:LK K f28 "check_box" "check_box" gi oc28 od28 kV28 dc28 pm28 an28 cd28 ct28 sl28) (c28:CI K cd28 "check_box") (k28:KP K f28)
    (a29:NI K "between" f29) (l29:LK K f29 "between" "between" i0 oc29 od29 kV29 dc29 pm29 an29 cd29 ct29 sl29) (c29:CI K cd29 "between") (k29:KP K f29)
    (a30:NI K "views_from" f30) (l30:LK K f30 "views_from" "views_from" fw oc30 od30 kV30 dc30 pm30 an30 cd30 ct30 sl30) (c30:CI K cd30 "views_from") (k30:KP K f30)
    (a31:NI K "has_as_many" f31) (l31:LK K f31 "has_as_many" "has_as_many" eI oc31 od31 kV31 dc31 pm31 an31 cd31 ct31 sl31) (c31:CI K cd31 "has_as_many") (k31:KP K f31)
    (a32:NI K "made_behind" f32) (l32:LK K f32 "made_behind" "made_behind" eC oc32 od32 kV32 dc32 pm32 an32 cd32 ct32 sl32) (c32:CI K cd32 "made_behind") (k32:KP K f32)
    (a33:NI K "is_best" f33) (l33:LK K f33 "is_best" "is_best" iZ oc33 od33 kV33 dc33 pm33 an33 cd33 ct33 sl33) (c33:CI K cd33 "is_best") (k33:KP K f33)
    (a34:NI K "best" f34) (l34:LK K f34 "best" "best" pC oc34 od34 kV34 dc34 pm34 an34 cd34 ct34 sl34) (c34:CI K cd34 "best") (k34:KP K f34)
    (a35:NI K "_law_ints" f35) (l35:LK K f35 "_law_ints" "_law_ints" gR oc35 od35 kV35 dc35 pm35 an35 cd35 ct35 sl35) (c35:CI K cd35 "_law_ints") (k35:KP K f35)
    (a36:NI K "_law_whole" f36) (l36:LK K f36 "_law_whole" "_law_whole" fZ oc36 od36 kV36 dc36 pm36 an36 cd36 ct36 sl36) (c36:CI K cd36 "_law_whole") (k36:KP K f36)
    (a37:NI K "_law_told" f37) (l37:LK K f37 "_law_told" "_law_told" gP oc37 od37 kV37 dc37 pm37 an37 cd37 ct37 sl37) (c37:CI K cd37 "_law_told") (k37:KP K f37)
    (a38:NI K "_law_right" f38) (l38:LK K f38 "_law_right" "_law_right" ge oc38 od38 kV38 dc38 pm38 an38 cd38 ct38 sl38) (c38:CI K cd38 "_law_right") (k38:KP K f38)
    (a39:NI K "column" f39) (l39:LK K f39 "column" "column" jI oc39 od39 kV39 dc39 pm39 an39 cd39 ct39 sl39) (c39:CI K cd39 "column") (k39:KP K f39)
    (a40:NI K "turned" f40) (l40:LK K f40 "turned" "turned" jF oc40 od40 kV40 dc40 pm40 an40 cd40 ct40 sl40) (c40:CI K cd40 "turned") (k40:KP K f40)
    (a41:NI K "law" f41) (l41:LK K f41 "law" "law" jG oc41 od41 kV41 dc41 pm41 an41 cd41 ct41 sl41) (c41:CI K cd41 "law") (k41:KP K f41)
    (pg:plainGet K C Str.empty=true) (hd:hasDictIn K C=true) (po:PySem.W.plainOver K C=true) (sa:findIn K (.ref C) "__setattr__"=some (some (.builtin "object.__setattr__"))) (mk:PySem.W.makesIn K C=true) (kc:keepIn K (.ref C)=true)
    (nE:findIn K (.ref C) "ends"=some none) (nR:findIn K (.ref C) "rests"=some none) (nT:findIn K (.ref C) "table"=some none)
    (z_len:NN K "len")
    (z_list:NN K "list")
    (z_tuple:NN K "tuple")
    (z_range:NN K "range")
    (z_enumerate:NN K "enumerate")
    (z_max:NN K "max")
    (z_isinstance:NN K "isinstance")
    (z_all:NN K "all")
    (z_sorted:NN K "sorted")
    (z_int:NN K "int")
    (z_bool:NN K "bool")
    (mb:nsIn K mainGlobals "MOST_BOXES"=some (some (.int 6 tb))) (ma:nsIn K mainGlobals "MOST_ARROWS"=some (some (.int 40 ta))) (mMOST_PLACES:nsIn K mainGlobals "MOST_PLACES"=some (some (.int 3 tMOST_PLACES))) (mMOST_TIES:nsIn K mainGlobals "MOST_TIES"=some (some (.int 4 tMOST_TIES)))
    (ih1:findIn K (.ref C) "__class__"=some (some (.builtin "object.__class__"))) (ih2:PySem.W.specialIn K (.builtin "object.__class__") "__get__"=some (some (.builtin "getset_descriptor.__get__"))) (ih3:PySem.W.takesIn K (.builtin "object.__class__")=some true)
    (ih4:PySem.W.mroIn K C (.type "object")=some true)
    (kii:KO K (.type "int") (.type "int") true)
    (kbi:KO K (.type "bool") (.type "int") true)
    (kNi:KO K (.type "NoneType") (.type "int") false)
    (kli:KO K (.type "list") (.type "int") false)
    (kti:KO K (.type "tuple") (.type "int") false)
    (kib:KO K (.type "int") (.type "bool") false)
    (kbb:KO K (.type "bool") (.type "bool") true)
    (kNb:KO K (.type "NoneType") (.type "bool") false)
    (klb:KO K (.type "list") (.type "bool") false)
    (ktb:KO K (.type "tuple") (.type "bool") false)
    (kil:KO K (.type "int") (.type "list") false)
    (kbl:KO K (.type "bool") (.type "list") false)
    (kNl:KO K (.type "NoneType") (.type "list") false)
    (kll:KO K (.type "list") (.type "list") true)
    (ktl:KO K (.type "tuple") (.type "list") false)
    (kit:KO K (.type "int") (.type "tuple") false)
    (kbt:KO K (.type "bool") (.type "tuple") false)
    (kNt:KO K (.type "NoneType") (.type "tuple") false)
    (klt:KO K (.type "list") (.type "tuple") false)
    (ktt:KO K (.type "tuple") (.type "tuple") true)
 :
    ∃fd:FuncData,(∀(s:Shared) (v:Value),BindsTo s fd ⟨[v],[]⟩ [("script",v)])/\∀base:Heap,K.In base->base.Ns mainGlobals mg->FnOk l.prog w K mg base CX0 7 fa fd ["script"] (uq K):=by
  have e:=hfa.symm.trans (mg_of X G a41);cases e;have cl:Cls K C:=⟨pg,hd,po,sa⟩;have T:Txt K mg C:=⟨cl,nE,nR,nT,mg_none_of X G z_len,mg_none_of X G z_list,mg_none_of X G z_tuple,mg_none_of X G z_range,mg_none_of X G z_enumerate,mg_none_of X G z_max,mg_none_of X G z_isinstance,mg_none_of X G z_all,mg_none_of X G z_sorted,mg_none_of X G z_int,mg_none_of X G z_bool,⟨cl,ih1,ih2,ih3,ih4⟩,mg_of X G aC,⟨tb,mg_of X G mb⟩,⟨ta,mg_of X G ma⟩,⟨tMOST_PLACES,mg_of X G mMOST_PLACES⟩,⟨tMOST_TIES,mg_of X G mMOST_TIES⟩,⟨kii,kbi,kNi,kli,kti⟩,⟨kib,kbb,kNb,klb,ktb⟩,⟨kil,kbl,kNl,kll,ktl⟩,⟨kit,kbt,kNt,klt,ktt⟩⟩;have F1:=aV (st:=gT) l1 c1 k1;have b1:=F1.binds (ps:=["script","k"]) λ_ _ _ _ _ _ us hl=>by obtain⟨y0,y1,rfl⟩:=jd hl;rfl
  have F2:=aV (st:=gd) l2 c2 k2;have b2:=F2.binds (ps:=["script","k"]) λ_ _ _ _ _ _ us hl=>by obtain⟨y0,y1,rfl⟩:=jd hl;rfl
  have F3:=aV (st:=gQ) l3 c3 k3;have b3:=F3.binds (ps:=["step"]) λ_ _ _ _ _ _ us hl=>by obtain⟨y0,rfl⟩:=rO hl;rfl
  have F4:=aV (st:=cE) l4 c4 k4;have b4:=F4.binds (ps:=["known"]) λ_ _ _ _ _ _ us hl=>by obtain⟨y0,rfl⟩:=rO hl;rfl
  have F5:=aV (st:=fx) l5 c5 k5;have b5:=F5.binds (ps:=["script","k","sizes"]) λ_ _ _ _ _ _ us hl=>by obtain⟨y0,y1,y2,rfl⟩:=kJ hl;rfl
  have F6:=aV (st:=gf) l6 c6 k6;have b6:=F6.binds (ps:=["script","k"]) λ_ _ _ _ _ _ us hl=>by obtain⟨y0,y1,rfl⟩:=jd hl;rfl
  have F7:=aV (st:=dP) l7 c7 k7;have b7:=F7.binds (ps:=["ends","rests"]) λ_ _ _ _ _ _ us hl=>by obtain⟨y0,y1,rfl⟩:=jd hl;rfl
  have F8:=aV (st:=gU) l8 c8 k8;have b8:=F8.binds (ps:=["number","count"]) λ_ _ _ _ _ _ us hl=>by obtain⟨y0,y1,rfl⟩:=jd hl;rfl
  have F9:=aV (st:=fA) l9 c9 k9;have b9:=F9.binds (ps:=["ends","boxes"]) λ_ _ _ _ _ _ us hl=>by obtain⟨y0,y1,rfl⟩:=jd hl;rfl
  have F10:=aV (st:=eM) l10 c10 k10;have b10:=F10.binds (ps:=["ends","rests"]) λ_ _ _ _ _ _ us hl=>by obtain⟨y0,y1,rfl⟩:=jd hl;rfl
  have F11:=aV (st:=fy) l11 c11 k11;have b11:=F11.binds (ps:=["table","arrows"]) λ_ _ _ _ _ _ us hl=>by obtain⟨y0,y1,rfl⟩:=jd hl;rfl
  have F12:=aV (st:=eN) l12 c12 k12;have b12:=F12.binds (ps:=["ends","one","other","made"]) λ_ _ _ _ _ _ us hl=>by obtain⟨y0,y1,y2,y3,rfl⟩:=qd hl;rfl
  have F13:=aV (st:=eK) l13 c13 k13;have b13:=F13.binds (ps:=["ends","table"]) λ_ _ _ _ _ _ us hl=>by obtain⟨y0,y1,rfl⟩:=jd hl;rfl
  have F14:=aV (st:=bX) l14 c14 k14;have b14:=F14.binds (ps:=["ends","rests","table"]) λ_ _ _ _ _ _ us hl=>by obtain⟨y0,y1,y2,rfl⟩:=kJ hl;rfl
  have F15:=aV (st:=dO) l15 c15 k15;have b15:=F15.binds (ps:=["table","one","other","made"]) λ_ _ _ _ _ _ us hl=>by obtain⟨y0,y1,y2,y3,rfl⟩:=qd hl;rfl
  have F16:=aV (st:=dN) l16 c16 k16;have b16:=F16.binds (ps:=["table"]) λ_ _ _ _ _ _ us hl=>by obtain⟨y0,rfl⟩:=rO hl;rfl
  have F17:=aV (st:=bE) l17 c17 k17;have b17:=F17.binds (ps:=["self","ends","rests","table"]) λ_ _ _ _ _ _ us hl=>by obtain⟨y0,y1,y2,y3,rfl⟩:=qd hl;rfl
  have F18:=aV (st:=gS) l18 c18 k18;have b18:=F18.binds (ps:=["parts"]) λ_ _ _ _ _ _ us hl=>by obtain⟨y0,rfl⟩:=rO hl;rfl
  have F19:=aV (st:=eG) l19 c19 k19;have b19:=F19.binds (ps:=["parts","box","other"]) λ_ _ _ _ _ _ us hl=>by obtain⟨y0,y1,y2,rfl⟩:=kJ hl;rfl
  have F20:=aV (st:=eD) l20 c20 k20;have b20:=F20.binds (ps:=["script","k","parts"]) λ_ _ _ _ _ _ us hl=>by obtain⟨y0,y1,y2,rfl⟩:=kJ hl;rfl
  have F21:=aV (st:=f_) l21 c21 k21;have b21:=F21.binds (ps:=["parts","places","ties","box"]) λ_ _ _ _ _ _ us hl=>by obtain⟨y0,y1,y2,y3,rfl⟩:=qd hl;rfl
  have F22:=aV (st:=eE) l22 c22 k22;have b22:=F22.binds (ps:=["parts","box","arrows","known"]) λ_ _ _ _ _ _ us hl=>by obtain⟨y0,y1,y2,y3,rfl⟩:=qd hl;rfl
  have F23:=aV (st:=dM) l23 c23 k23;have b23:=F23.binds (ps:=["parts","places","ties"]) λ_ _ _ _ _ _ us hl=>by obtain⟨y0,y1,y2,rfl⟩:=kJ hl;rfl
  have F24:=aV (st:=jH) l24 c24 k24;have b24:=F24.binds (ps:=["hall","places","tie"]) λ_ _ _ _ _ _ us hl=>by obtain⟨y0,y1,y2,rfl⟩:=kJ hl;rfl
  have F25:=aV (st:=dz) l25 c25 k25;have b25:=F25.binds (ps:=["hall","places","ties"]) λ_ _ _ _ _ _ us hl=>by obtain⟨y0,y1,y2,rfl⟩:=kJ hl;rfl
  have F26:=aV (st:=gh) l26 c26 k26;have b26:=F26.binds (ps:=["hall","arrows","tie"]) λ_ _ _ _ _ _ us hl=>by obtain⟨y0,y1,y2,rfl⟩:=kJ hl;rfl
  have F27:=aV (st:=me) l27 c27 k27;have b27:=F27.binds (ps:=["hall","begun","arrows","due"]) λ_ _ _ _ _ _ us hl=>by obtain⟨y0,y1,y2,y3,rfl⟩:=qd hl;rfl
  have F28:=aV (st:=gi) l28 c28 k28;have b28:=F28.binds (ps:=["hall","box"]) λ_ _ _ _ _ _ us hl=>by obtain⟨y0,y1,rfl⟩:=jd hl;rfl
  have F29:=aV (st:=i0) l29 c29 k29;have b29:=F29.binds (ps:=["hall","box","other"]) λ_ _ _ _ _ _ us hl=>by obtain⟨y0,y1,y2,rfl⟩:=kJ hl;rfl
  have F30:=aV (st:=fw) l30 c30 k30;have b30:=F30.binds (ps:=["hall","places","ties","box"]) λ_ _ _ _ _ _ us hl=>by obtain⟨y0,y1,y2,y3,rfl⟩:=qd hl;rfl
  have F31:=aV (st:=eI) l31 c31 k31;have b31:=F31.binds (ps:=["hall","seen","box"]) λ_ _ _ _ _ _ us hl=>by obtain⟨y0,y1,y2,rfl⟩:=kJ hl;rfl
  have F32:=aV (st:=eC) l32 c32 k32;have b32:=F32.binds (ps:=["hall","arrow","arrows"]) λ_ _ _ _ _ _ us hl=>by obtain⟨y0,y1,y2,rfl⟩:=kJ hl;rfl
  have F33:=aV (st:=iZ) l33 c33 k33;have b33:=F33.binds (ps:=["hall","seen","box","arrows"]) λ_ _ _ _ _ _ us hl=>by obtain⟨y0,y1,y2,y3,rfl⟩:=qd hl;rfl
  have F34:=aV (st:=pC) l34 c34 k34;have b34:=F34.binds (ps:=["hall","places","ties"]) λ_ _ _ _ _ _ us hl=>by obtain⟨y0,y1,y2,rfl⟩:=kJ hl;rfl
  have F35:=aV (st:=gR) l35 c35 k35;have b35:=F35.binds (ps:=["found","due"]) λ_ _ _ _ _ _ us hl=>by obtain⟨y0,y1,rfl⟩:=jd hl;rfl
  have F36:=aV (st:=fZ) l36 c36 k36;have b36:=F36.binds (ps:=["found"]) λ_ _ _ _ _ _ us hl=>by obtain⟨y0,rfl⟩:=rO hl;rfl
  have F37:=aV (st:=gP) l37 c37 k37;have b37:=F37.binds (ps:=["found","due"]) λ_ _ _ _ _ _ us hl=>by obtain⟨y0,y1,rfl⟩:=jd hl;rfl
  have F38:=aV (st:=ge) l38 c38 k38;have b38:=F38.binds (ps:=["hall","parts","places","ties"]) λ_ _ _ _ _ _ us hl=>by obtain⟨y0,y1,y2,y3,rfl⟩:=qd hl;rfl
  have F39:=aV (st:=jI) l39 c39 k39;have b39:=F39.binds (ps:=["table","other"]) λ_ _ _ _ _ _ us hl=>by obtain⟨y0,y1,rfl⟩:=jd hl;rfl
  have F40:=aV (st:=jF) l40 c40 k40;have b40:=F40.binds (ps:=["hall"]) λ_ _ _ _ _ _ us hl=>by obtain⟨y0,rfl⟩:=rO hl;rfl
  have F41:=aV (st:=jG) l41 c41 k41;have b41:=F41.binds (ps:=["script"]) λ_ _ _ _ _ _ us hl=>by obtain⟨y0,rfl⟩:=rO hl;rfl
  refine⟨fnOf "law" "law" (ja jG) (cJ jG) (ar jG) .none kV41 dc41 pm41 an41 cd41 ct41,λs v=>.of_eq rfl,λbase _ _=>?_⟩;have r1:=rH (P:=l.prog) (w:=w) (base:=base) T F1 (mg_of X G a1) b1;have r2:=p7 T r1 F2 (mg_of X G a2) b2;have r3:=rE (P:=l.prog) (w:=w) (base:=base) T F3 (mg_of X G a3) b3;have r4:=ot (P:=l.prog) (w:=w) (base:=base) T F4 (mg_of X G a4) b4;have r5:=ou T r1 r4 r3 F5 (mg_of X G a5) b5;have r6:=p9 T r5 r2 F6 (mg_of X G a6) b6;have r7:=lR (P:=l.prog) (w:=w) (base:=base) T F7 (mg_of X G a7) b7;have r8:=rJ (P:=l.prog) (w:=w) (base:=base) T F8 (mg_of X G a8) b8;have r9:=oy T r8 F9 (mg_of X G a9) b9;have r10:=ng T r8 F10 (mg_of X G a10) b10;have r11:=ow (P:=l.prog) (w:=w) (base:=base) T F11 (mg_of X G a11) b11;have r12:=nh T r8 F12 (mg_of X G a12) b12;have r13:=nc T r12 F13 (mg_of X G a13) b13;have r14:=ic (P:=l.prog) (w:=w) (base:=base) T F14 (mg_of X G a14) b14;have r15:=lQ (P:=l.prog) (w:=w) (base:=base) T F15 (mg_of X G a15) b15;have r16:=lP T r15 F16 (mg_of X G a16) b16;have r17:=ni T r14 r7 r9 r11 r10 r13 r16 F17 ⟨mk,a17,i17,kc⟩ b17;have r18:=rG T r17 F18 (mg_of X G a18) b18;have r19:=m9 (P:=l.prog) (w:=w) (base:=base) T F19 (mg_of X G a19) b19;have r20:=m7 T r1 r19 F20 (mg_of X G a20) b20;have r21:=p5 T r19 F21 (mg_of X G a21) b21;have r22:=m8 T r19 F22 (mg_of X G a22) b22;have r23:=lO T r22 r21 F23 (mg_of X G a23) b23;have r24:=vS T r8 F24 (mg_of X G a24) b24;have r25:=kH T r8 r24 F25 (mg_of X G a25) b25;have r26:=p_ (P:=l.prog) (w:=w) (base:=base) T F26 (mg_of X G a26) b26;have r27:=xA T r26 F27 (mg_of X G a27) b27;have r28:=qa T r8 F28 (mg_of X G a28) b28;have r29:=tN T r28 F29 (mg_of X G a29) b29;have r30:=oq T r29 r27 F30 (mg_of X G a30) b30;have r31:=m_ T r29 F31 (mg_of X G a31) b31;have r32:=m6 (P:=l.prog) (w:=w) (base:=base) T F32 (mg_of X G a32) b32;have r33:=tM T r29 r32 F33 (mg_of X G a33) b33;have r34:=zv T r25 r31 r33 r30 F34 (mg_of X G a34) b34;have r35:=rF (P:=l.prog) (w:=w) (base:=base) T F35 (mg_of X G a35) b35;have r36:=p4 (P:=l.prog) (w:=w) (base:=base) T F36 (mg_of X G a36) b36;have r37:=rD T r35 r36 F37 (mg_of X G a37) b37;have r38:=p8 T r23 r37 r34 F38 (mg_of X G a38) b38;have r39:=vT (P:=l.prog) (w:=w) (base:=base) T F39 (mg_of X G a39) b39;have r40:=vR T r17 r39 F40 (mg_of X G a40) b40;exact zB hval (be (C:=C) F41 EH (λcdv A outer s H E hr=>yz cdv A outer s H E T r18 r6 r20 r38 r40 hr))
theorem walk {l:PySem.W.OpenLaw} {q:Program} {loose:List Str} {XP:(Str->Option Value)->Heap->Prop} {YP:World->Heap->Prop} {d:DefRec} {K:Params->Frag} (hn:l.most=some 63) (hdf:d.params.defaults=[])
  (hY:∀(w:World) (h:Heap),YP w h->(K w.params).In h)
  (F:∀(w:World) (mg:Str->Option Value) (fa:Addr) (h:Heap),(K w.params).In h->h.Ns mainGlobals mg->mg d.name=some (.ref fa) ->
   ∃fd:FuncData,(∀(s:Shared) (u:Value),BindsTo s fd ⟨[u],[]⟩ [("script",u)])/\∀base:Heap,(K w.params).In base->base.Ns mainGlobals mg->FnOk l.prog w (K w.params) mg base CX0 7 fa fd ["script"] (uq (K w.params))) :
  PySem.W.WalkO q loose XP YP l.row.toRowW d [] (λf vs=>PySem.call f vs) :=
 L2.walk_of (n:=63) (k:=7) (x:="script") (CX:=λ_=>CX0) (sp:=λw=>uq (K w.params)) hn (by decide) hdf ⟨rfl,by decide,by decide⟩ hY F (λ_ _ a ns hl _ hS=>⟨a,ns,rfl,hS,hl,λ_=>rfl⟩) λ_ _ _ _ _ z=>z
end DL
namespace PySem.W.Fast
def tw11729533530291155968:=0
def tw13753657049626413504:=0
def tw11233785237688615744:=0
def tw17439337700498796416:=0
def tw2686735857622065153:=0
def tw279453153884865665:=0
def tw2301916756762023041:=0
def tw14819134999056177281:=0
def tw10438365530112806209:=0
def tw16783912691684282849:=0
def tw15842566934571307649:=0
def tw349240733755556513:=0
def tw18440786605205755585:=0
def tw9678721855801634497:=0
def tw4480106143304427233:=0
def tw2805343220713508705:=0
def tw10627834638281868193:=0
def tw14930355164065263618:=0
def tw4405142731907685410:=0
def tw673854793441616994:=0
def tw3295916109543921826:=0
def tw9957094618742312162:=0
def tw6048076412002895138:=0
def tw10868820027768297826:=0
def tw14123813619252280706:=0
def tw762944725481834978:=0
def tw7239583453946097282:=0
def tw10209145530520574626:=0
def tw17662060841463272162:=0
def tw16778830370676540130:=0
def tw17836461274401361666:=0
def tw9520816369452641058:=0
def tw11932734113052214114:=0
def tw13866915543201037218:=0
def tw360774743026753474:=0
def tw689191515086087235:=0
def tw6375524942001042563:=0
def tw16620256922650855555:=0
def tw9454513796539670019:=0
def tw18058957545752924707:=0
def tw10287646276273709635:=0
def tw6422923277232774723:=0
def tw9414651753892568707:=0
def tw11182426344983624547:=0
def tw8083697833490454403:=0
def tw12026948516593971332:=0
def tw8973973546966184068:=0
def tw9107376777730890948:=0
def tw12433623770728510692:=0
def tw6892989327057939748:=0
def tw17462659400693322052:=0
def tw15078430172281762148:=0
def tw12916233979021864484:=0
def tw12412509924930665092:=0
def tw12630509510835565252:=0
def tw14054286175667345156:=0
def tw10734941201470609541:=0
def tw2779508129948592357:=0
def tw5781378509501888773:=0
def tw1124635327821980965:=0
def tw16693757079738406277:=0
def tw14640985991599708549:=0
def tw8379006637806591397:=0
def tw202941580681511333:=0
def tw13331875400836680133:=0
def tw8505861189327948293:=0
def tw18158268889009748741:=0
def tw17577697888884031333:=0
def tw7039057231372228485:=0
def tw6542473713366880133:=0
def tw9334391638067716069:=0
def tw1283582925866762406:=0
def tw2747923716299792774:=0
def tw796841444778542470:=0
def tw11689036808452747846:=0
def tw12897725132721457958:=0
def tw3662657698974241638:=0
def tw1923381015038176198:=0
def tw3894136555981203527:=0
def tw15212476524527961255:=0
def tw10224162095674326183:=0
def tw4690962944428994759:=0
def tw10268234129864771783:=0
def tw7186261018188429575:=0
def tw1629208115019365671:=0
def tw18428717849874423175:=0
def tw17726481533033959:=0
def tw11062004768199464455:=0
def tw744797837542642215:=0
def tw6141281823391635015:=0
def tw12149929187771354727:=0
def tw7486103611207941799:=0
def tw7188952168854132423:=0
def tw16363564264884992807:=0
def tw17828990119296077799:=0
def tw9320482664163754024:=0
def tw8258379500201510952:=0
def tw6868933759150146664:=0
def tw14065514699652505800:=0
def tw9229213841302432968:=0
def tw4490722895697216744:=0
def tw2270951624224655592:=0
def tw3703546030519282024:=0
def tw8459039245521512840:=0
def tw18137793217313966696:=0
def tw10705431914644929160:=0
def tw9056310784028051112:=0
def tw12634768742309225160:=0
def tw5642322823743568744:=0
def tw15703359412017344360:=0
def tw8905004752447637352:=0
def tw7317560911761944456:=0
def tw8200065997080197257:=0
def tw12892785783579505833:=0
def tw16277553285964561609:=0
def tw5084639983177564425:=0
def tw8061060920496743753:=0
def tw7544624405163229545:=0
def tw12532071871019117097:=0
def tw9816776092266632873:=0
def tw12012550217099251465:=0
def tw14732839914142052105:=0
def tw5452605892180553834:=0
def tw10926031353603410154:=0
def tw5345077677689121258:=0
def tw15645098776181838346:=0
def tw7575829021705059978:=0
def tw5035491390683977578:=0
def tw7587009600484784042:=0
def tw12351395386287051819:=0
def tw9930518402049139787:=0
def tw15441098098506551403:=0
def tw17618619874074532075:=0
def tw18250373706449709451:=0
def tw1736133112988037611:=0
def tw3545654329458538155:=0
def tw11246652827410458283:=0
def tw4691479741507845835:=0
def tw9314766270669167371:=0
def tw15465959202031834955:=0
def tw6044948731195275147:=0
def tw3270290300645970988:=0
def tw3027529225981563980:=0
def tw11578468525863134316:=0
def tw17228741869769842796:=0
def tw12489048539719302444:=0
def tw7126912255055274444:=0
def tw5949332950284010092:=0
def tw7114002192262778572:=0
def tw16011841088739316620:=0
def tw9078561206384482317:=0
def tw8161668428287226925:=0
def tw4699981208433653837:=0
def tw13929015874272227469:=0
def tw7517430687748629709:=0
def tw790762368965334253:=0
def tw327375616259810573:=0
def tw879261897744937357:=0
def tw17041996556935193997:=0
def tw13454670983823317549:=0
def tw18112910703914004109:=0
def tw15527564780011281069:=0
def tw12262098737164038989:=0
def tw10318835774859035662:=0
def tw7818270033402624078:=0
def tw9581598843690732686:=0
def tw8655608443288557774:=0
def tw930489929033088302:=0
def tw4888105674669349230:=0
def tw3208055479238110574:=0
def tw2321934304118070702:=0
def tw17211649053317872398:=0
def tw17529457596437458734:=0
def tw16556625947644543886:=0
def tw15023780378198332302:=0
def tw11092320154722597806:=0
def tw12373905268205457326:=0
def tw16340514108705802287:=0
def tw16894190276966813839:=0
def tw13851706180980997327:=0
def tw4102771508273457391:=0
def tw11075388043744085711:=0
def tw16442813133919292175:=0
def tw5898760836367571823:=0
def tw10079512291480137744:=0
def tw6015610721336346864:=0
def tw13235537731183766864:=0
def tw11849085835376966032:=0
def tw18223380877319971472:=0
def tw15604961106015275664:=0
def tw6035546518963954544:=0
def tw16060476027141810128:=0
def tw5761257065098811344:=0
def tw15452196437788006513:=0
def tw14001604524280060049:=0
def tw775754580576016561:=0
def tw12904948563893404945:=0
def tw11180497079302528401:=0
def tw10818759500040299953:=0
def tw6834418301698894289:=0
def tw15941269304319245969:=0
def tw785826358724354769:=0
def tw4960482703179894545:=0
def tw2538610234303590193:=0
def tw7050630993095920465:=0
def tw11608895144744712242:=0
def tw677743299669091634:=0
def tw5773624717432108626:=0
def tw226150245144647282:=0
def tw8801000687299857042:=0
def tw10369693112089460434:=0
def tw14163570219404511986:=0
def tw3469945797787136978:=0
def tw7904855346104044530:=0
def tw6415336231569010674:=0
def tw16980954577250332019:=0
def tw14308261157315538291:=0
def tw13164251827850870227:=0
def tw7537534696978658931:=0
def tw11989667332451419923:=0
def tw8199549276414183379:=0
def tw9871639621692357619:=0
def tw7433392339188639796:=0
def tw9996514060894645364:=0
def tw3055446679986158772:=0
def tw11198503759091877140:=0
def tw12083619552852026676:=0
def tw15769334295254233524:=0
def tw2632610902893946324:=0
def tw10788620024749108884:=0
def tw11147166158219525780:=0
def tw13378155651244338964:=0
def tw6320306424480730964:=0
def tw7493860686819586900:=0
def tw14337325267865142325:=0
def tw17395183856451298453:=0
def tw6012481236020774069:=0
def tw15252190771069024469:=0
def tw15863466626700643637:=0
def tw17086443383876127093:=0
def tw17487308315802006997:=0
def tw13744202827196446229:=0
def tw17743638809360781845:=0
def tw7008427355357508181:=0
def tw1962103100423518837:=0
def tw7378647363649137365:=0
def tw3522460591311026965:=0
def tw11304740868307496853:=0
def tw16561505983313352661:=0
def tw3529430886837023990:=0
def tw14929986304794668470:=0
def tw671102013650451894:=0
def tw10940176457717413334:=0
def tw1395261376164098582:=0
def tw16818504786486981174:=0
def tw16483431193521143382:=0
def tw17791596553712103190:=0
def tw13282724975455606614:=0
def tw9419185498967552950:=0
def tw11822027791132280919:=0
def tw15289595106102008983:=0
def tw9939181305010707703:=0
def tw795447746428178807:=0
def tw4850256776351986071:=0
def tw2118442700262721975:=0
def tw2082153972156495351:=0
def tw17035175084267849463:=0
def tw9167880798127085688:=0
def tw12112455486900843704:=0
def tw15589297628425928984:=0
def tw1075144503284001272:=0
def tw15773786074246065784:=0
def tw15938488983765894776:=0
def tw13828175410231663480:=0
def tw10109503108374042841:=0
def tw11179248023262265657:=0
def tw8374370248445462905:=0
def tw6143057654518308313:=0
def tw16799992813616879161:=0
def tw13497530302178957049:=0
def tw12154129709715053433:=0
def tw9626064718415264794:=0
def tw14706215919314816058:=0
def tw12992185841532699770:=0
def tw12041249191604787450:=0
def tw16093101265825612026:=0
def tw11141925063208795418:=0
def tw2925938602390175290:=0
def tw13019353221455378042:=0
def tw7470866206216300186:=0
def tw13525786542074235642:=0
def tw6191914128146856698:=0
def tw15119924151786183450:=0
def tw4006061937417315451:=0
def tw13844648968734739835:=0
def tw1313437723664413179:=0
def tw3505646122186159707:=0
def tw15133489426290922235:=0
def tw16028366756736268123:=0
def tw5549741409436824475:=0
def tw13264296333643736156:=0
def tw13156627289896630396:=0
def tw13672813227916068188:=0
def tw10590475517969892764:=0
def tw7033883387616991676:=0
def tw7468354511444705820:=0
def tw522607693197074972:=0
def tw736466242681198140:=0
def tw10724797800136969852:=0
def tw12255340002810205820:=0
def tw1135178640415309532:=0
def tw6909513488420091644:=0
def tw15067886952998806268:=0
def tw15257997864027205404:=0
def tw6429475415432926044:=0
def tw11114489361633700700:=0
def tw4608897205311307612:=0
def tw16848999290315745148:=0
def tw3485131005254524:=0
def tw10773733791746283420:=0
def tw6722975018356011932:=0
def tw9741416580289071133:=0
def tw12950710870165294269:=0
def tw12448758502669715677:=0
def tw600847176872036637:=0
def tw6196814037566060861:=0
def tw15317979286289209725:=0
def tw12448134208933512765:=0
def tw958697526589841981:=0
def tw15085732706527216285:=0
def tw16486331952394141373:=0
def tw18038932737539420893:=0
def tw11509891476589230877:=0
def tw4867305074186291997:=0
def tw10431706192486196125:=0
def tw6506413332823131101:=0
def tw3079251512927923422:=0
def tw3372517421501619454:=0
def tw11280200832844896510:=0
def tw3292929789593586942:=0
def tw13671770889109526942:=0
def tw15864704075158181502:=0
def tw7918892782381501150:=0
def tw12428968207552096094:=0
def tw7716447741571836766:=0
def tw4627691316456387582:=0
def tw11385356748226908223:=0
def tw11345787852210495679:=0
def tw9885679230721229023:=0
def tw13058873446945979647:=0
def tw14371533650105061759:=0
def tw10257720044594954623:=0
def tw4849855699884288415:=0
def tw3774188594857769503:=0
def tw9121485878491523647:=0
def tw17289008379782647423:=0
def tw11668323164051120991:=0
def tw1170490115986253663:=0
end PySem.W.Fast
open PySem PySem.W PyProof.Rows
set_option maxRecDepth 100000 in
set_option maxHeartbeats 0 in
theorem PySem.Challenge.cw_arrowhall_k07_whole_best_views_holds : PySem.Challenge.rw_arrowhall_k07_whole_best_views.Holds := by
 w_on;o_law;k_head;(case hw=>w_witness2)
 k_fill
 refine DL.walk (l:=PySem.Challenge.rw_arrowhall_k07_whole_best_views) rfl rfl (fun w h EY=>PySem.W.kIn_of EY) ?F
 case F =>
  intro w mg fa h KX G hmg
  refine' DL.all_mk DL.law_val KX G hmg ?aC ?a1 ?l1 ?c1 ?k1 ?a2 ?l2 ?c2 ?k2 ?a3 ?l3 ?c3 ?k3 ?a4 ?l4 ?c4 ?k4 ?a5 ?l5 ?c5 ?k5 ?a6 ?l6 ?c6 ?k6 ?a7 ?l7 ?c7 ?k7 ?a8 ?l8 ?c8 ?k8 ?a9 ?l9 ?c9 ?k9 ?a10 ?l10 ?c10 ?k10 ?a11 ?l11 ?c11 ?k11 ?a12 ?l12 ?c12 ?k12 ?a13 ?l13 ?c13 ?k13 ?a14 ?l14 ?c14 ?k14 ?a15 ?l15 ?c15 ?k15 ?a16 ?l16 ?c16 ?k16 ?a17 ?i17 ?l17 ?c17 ?k17 ?a18 ?l18 ?c18 ?k18 ?a19 ?l19 ?c19 ?k19 ?a20 ?l20 ?c20 ?k20 ?a21 ?l21 ?c21 ?k21 ?a22 ?l22 ?c22 ?k22 ?a23 ?l23 ?c23 ?k23 ?a24 ?l24 ?c24 ?k24 ?a25 ?l25 ?c25 ?k25 ?a26 ?l26 ?c26 ?k26 ?a27 ?l27 ?c27 ?k27 ?a28 ?l28 ?c28 ?k28 ?a29 ?l29 ?c29 ?k29 ?a30 ?l30 ?c30 ?k30 ?a31 ?l31 ?c31 ?k31 ?a32 ?l32 ?c32 ?k32 ?a33 ?l33 ?c33 ?k33 ?a34 ?l34 ?c34 ?k34 ?a35 ?l35 ?c35 ?k35 ?a36 ?l36 ?c36 ?k36 ?a37 ?l37 ?c37 ?k37 ?a38 ?l38 ?c38 ?k38 ?a39 ?l39 ?c39 ?k39 ?a40 ?l40 ?c40 ?k40 ?a41 ?l41 ?c41 ?k41 ?pg ?hd ?po ?sa ?mk ?kc ?nE ?nR ?nT ?z_len ?z_list ?z_tuple ?z_range ?z_enumerate ?z_max ?z_isinstance ?z_all ?z_sorted ?z_int ?z_bool ?mb ?ma ?mMOST_PLACES ?mMOST_TIES ?ih1 ?ih2 ?ih3 ?ih4 ?kii ?kbi ?kNi ?kli ?kti ?kib ?kbb ?kNb ?klb ?ktb ?kil ?kbl ?kNl ?kll ?ktl ?kit ?kbt ?kNt ?klt ?ktt
  all_goals try unfold DL.NI
  all_goals try unfold DL.NN
  all_goals try unfold DL.LK
  all_goals try unfold DL.CI
  all_goals try unfold DL.KP
  all_goals try unfold DL.KO
  all_goals try first | k_is | kit_is
