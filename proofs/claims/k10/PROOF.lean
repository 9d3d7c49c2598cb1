import PyProof.Rows.All
import Wide.All
import OpenK.AllK
import Wide.FinOn
import Lean
import PyProof.EqAt
import PyProof.EqKinds
import PyProof.TupleCall
import PyProof.NeKinds
import PyProof.ListRange
import PyProof.TupleOfGen
import PyProof.DictRoadsH
import PyProof.Rows.FStr
import PyProof.ExcBaseAll.ValueError
import PyProof.ExcClass2
import PyProof.ExcArgsOwn
import PyProof.ExcAttrAll.ValueError
import KE.KIsAll
import PyProof.RulesAs
import PyProof.NsDelKeeps
import PyProof.ConsumeWalk
import PyProof.ZipIter
import PyProof.Rows.ZipGen
import PyProof.Rows.SeqGen
import PyProof.Rows.FactsT2
import PyProof.WalkInts
import PyProof.Rows.MinMaxN
import KE.KSortAsk
import PyProof.Rows.FactsT3
import PyProof.Rows.CallKwBuiltin
import KE.KMinKey
import PyProof.Conv_int_bool
import PySem.Challenge.RW_arrowhall_k10_out_of_a_box
set_option Elab.async false
set_option linter.all false
set_option maxRecDepth 100000
set_option maxHeartbeats 4000000
open PySem.W (instObj Frag InstAt plainGet hasDictIn findIn emptyDict specialIn takesIn mroIn kitOne kia_one keepIn cellsFrom_some fnOf codeIn nsIn callWith_K excIn mg_of mg_none_of)
noncomputable section
namespace L2
open PySem PySem.Spec PyProof.Rows
abbrev Key:=Sum Int Str
def za:Key->Value->Bool
 | .inl k,v=>Value.isInt k v
 | .inr x,v=>Value.isStrOf x v
def CS (w:World):Key->Int
 | .inl k=>hashInt k
 | .inr x=>hashStr w x
theorem bC:∀{k:Key} {v:Value},za k v=true->(∃i t,k=Sum.inl i/\v=Value.int i t)\/(∃x t,k=Sum.inr x/\v=Value.str x t)
 | .inl i,v,h=>by
  obtain⟨t,e⟩:=Value.isInt_shape (k:=i) (v:=v) h;exact .inl ⟨i,t,rfl,e⟩
 | .inr x,v,h=>by
  obtain⟨t,e⟩:=Value.isStrOf_shape (x:=x) (v:=v) h;exact .inr ⟨x,t,rfl,e⟩
theorem Au (a b:Int):decide ((Sum.inl a:Key)=Sum.inl b)=(a==b):=by
 by_cases e:a=b
 ·subst e;simp
 ·have h:¬ (Sum.inl a:Key)=Sum.inl b:=λq=>e (Sum.inl.inj q);rw[decide_eq_false h];exact(beq_eq_false_iff_ne.mpr e).symm
theorem Aq (a b:Str):decide ((Sum.inr a:Key)=Sum.inr b)=decide (a=b):=by
 by_cases e:a=b
 ·subst e;simp
 ·have h:¬ (Sum.inr a:Key)=Sum.inr b:=λq=>e (Sum.inr.inj q);rw[decide_eq_false h,decide_eq_false e]
theorem At (a:Int) (b:Str):decide ((Sum.inl a:Key)=Sum.inr b)=false:=decide_eq_false (λq=>nomatch q)
theorem As (a:Str) (b:Int):decide ((Sum.inr a:Key)=Sum.inl b)=false:=decide_eq_false (λq=>nomatch q)
def sw (prog:Program) (w:World):PySem.KeyKind prog w Key where
 is:=za
 hash:=CS w
 inj:=λv a b ha hb=>by
  rcases bC ha with⟨i,t,rfl,rfl⟩|⟨x,t,rfl,rfl⟩
  ·rcases bC hb with⟨j,u,rfl,e⟩|⟨y,u,rfl,e⟩
   ·injection e with e1 _;rw[e1]
   ·exact nomatch e
  ·rcases bC hb with⟨j,u,rfl,e⟩|⟨y,u,rfl,e⟩
   ·exact nomatch e
   ·injection e with e1 _;rw[e1]
 byValue:=λk v h=>by
  rcases bC h with⟨i,t,rfl,rfl⟩|⟨x,t,rfl,rfl⟩<;>rfl
 pyHash:=λhv h=>by
  rcases bC hv with⟨i,t,rfl,rfl⟩|⟨x,t,rfl,rfl⟩
  ·exact wpAny_pyHash_int h
  ·exact wpAny_pyHash_str h
 eqBool:=λhu hv h=>by
  rcases bC hu with⟨i,t,rfl,rfl⟩|⟨x,t,rfl,rfl⟩
  ·rcases bC hv with⟨j,u,rfl,rfl⟩|⟨y,u,rfl,rfl⟩
   ·rw[Au]at h;exact wpAny_eqBool_int h
   ·rw[At]at h;exact SeqAt.EqAt.int_str i t y u _ _ _ _ h
  ·rcases bC hv with⟨j,u,rfl,rfl⟩|⟨y,u,rfl,rfl⟩
   ·rw[As]at h;exact SeqAt.EqAt.str_int x t j u _ _ _ _ h
   ·rw[Aq]at h;exact wpAny_eqBool_str h
 «strs»:=λk x t v h=>by
  rcases bC h with⟨i,u,rfl,e⟩|⟨y,u,rfl,e⟩
  ·exact nomatch e
  ·injection e with e1 _;subst e1;cases v<;>rfl
end L2
namespace L2
open PySem PySem.Spec PyProof.Rows
inductive V where
 | non|bl (b:Bool)|int (i:Int)|str (x:Str)|byt (b:Array UInt8)|flt (b:UInt64)|ref (a:Addr)|ty (n:String)
 deriving DecidableEq
def RelV:V->Value->Prop
 | .non,u=>u=Value.none
 | .bl b,u=>u=Value.bool b
 | .int i,u=>∃t,u=Value.int i t
 | .str x,u=>∃t,u=Value.str x t
 | .byt b,u=>∃t,u=Value.bytes b t
 | .flt b,u=>∃t,u=Value.float b t
 | .ref a,u=>u=Value.ref a
 | .ty n,u=>u=Value.type n
abbrev Vals:List V->List Value->Prop:=Paired RelV
theorem Vals.length {xs:List V} {us:List Value} (r:Vals xs us):xs.length=us.length:=Paired.length r
theorem Vals.get:∀{xs:List V} {us:List Value} {i:Nat} {x:V},Vals xs us->xs[i]?=some x->∃u,us[i]?=some u/\RelV x u
 | _,_,_,_,.nil,e=>by simp at e
 | _,_,0,_,.cons r _,e=>by simp at e;subst e;exact⟨_,rfl,r⟩
 | _,_,i+1,x,.cons _ t,e=>by
  obtain⟨u,h1,h2⟩:=Vals.get (i:=i) (x:=x) t (by simpa using e);exact⟨u,by simpa using h1,h2⟩
theorem Vals.append:∀{xs ys:List V} {us ws:List Value},Vals xs us->Vals ys ws->Vals (xs++ys) (us++ws)
 | _,_,_,_,.nil,s=>s
 | _,_,_,_,.cons r t,s=>.cons r (Vals.append t s)
theorem Vals.take:∀{xs:List V} {us:List Value} (n:Nat),Vals xs us->Vals (xs.take n) (us.take n)
 | _,_,0,_=>.nil
 | _,_,_+1,.nil=>.nil
 | _,_,n+1,.cons r t=>.cons r (Vals.take n t)
theorem Vals.drop:∀{xs:List V} {us:List Value} (n:Nat),Vals xs us->Vals (xs.drop n) (us.drop n)
 | _,_,0,r=>r
 | _,_,_+1,.nil=>.nil
 | _,_,n+1,.cons _ t=>Vals.drop n t
def RelO:Option V->Option Value->Prop
 | some v,some u=>RelV v u
 | none,none=>True
 | _,_=>False
def KV {κ:Type}:List (κ×V)->List (κ×Value)->Prop:=Paired λ(p:κ×V) (q:κ×Value)=>p.1=q.1/\RelV p.2 q.2
def kV:Key->V
 | .inl i=>.int i
 | .inr x=>.str x
inductive HO where
  | lst (xs:List V)
  | tup (xs:List V)
  | dK (kvs:List (Key×V))|dT (kvs:List (List Key×V))
  | set (S:Int->Bool) (n:Nat)
  | ins (C dx:Addr) (fs:List (Str×V))
  | own (x:Addr)
  | xd (fs:List (Str×V))
  | met (f x:Addr)
  | rng (lo hi:Int)
  | frz (o:Obj) (u:HO)
  | tbl (ps:Array Value)
  | ext (φ:Heap->Prop)
abbrev Hp:=Addr->Option HO
def upd (H:Hp) (a:Addr) (o:HO):Hp:=λb=>if b=a then some o else H b
variable {H:Hp} {a:Addr}
theorem aJ {o:HO}:upd H a o a=some o:=by unfold upd;rw[if_pos rfl]
variable {b:Addr}
theorem au {o:HO} (h:b≠a):upd H a o b=H b:=by unfold upd;rw[if_neg h]
theorem aR {o:HO} (h:H a=some o) (h':H b=none):a≠b:=by
 intro e;subst e;rw[h]at h';cases h'
section
variable (P:Program) (w:World)
def ObjOk (H:Hp) (h:Heap) (a:Addr):HO->Prop
 | .lst xs=>xs.length<=sizeLine/\∃(its:List Value) (n:Nat),Vals xs its/\h.get? a=some { cls:=.type "list",data:=.seq its.toArray n }
 | .tup xs=>xs.length<=sizeLine/\∃its:List Value,Vals xs its/\IsTup h a its.toArray
 | .dK kvs=>kvs.length<=sizeLine/\(a==sysModules)=false/\∃vs,KV kvs vs/\h.DictOf (sw P w) a vs
 | .dT kvs=>kvs.length<=sizeLine/\(a==sysModules)=false/\∃xs:List (List Key×Addr×Value),
   Paired (λ(p:List Key×V) (q:List Key×Addr×Value)=>p.1=q.1/\H q.2.1=some (.tup (p.1.map kV))/\RelV p.2 q.2.2) kvs xs /\
   ∃o es ep,h.get? a=some o/\o.ExactDict/\o.data=.dict es ep/\es.toList=xs.map (entryOfKey (tupleKind (sw P w)))/\(xs.map (·.1)).Nodup
 | .set S n=>h.SetOf (intKind P w) a S n
 | .ins C dx fs=>H dx=some (.own a)/\fs.length<=1000/\dx≠a/\h.get? a=some (instObj C dx) /\
   ∃mA,h.Ns1 dx mA/\(∀f,RelO (fs.lookup f) (mA f))/\PySem.Within mA (fs.map (·.1))
 | .own _=>∃o,h.get? a=some o
 | .xd fs=>∃mA,h.Ns1 a mA/\∀f,RelO (fs.lookup f) (mA f)
 | .rng lo hi=>∃t u v,h.get? a=some { cls:=.type "range",data:=.fields #[.int lo t,.int hi u,.int 1 v] }
 | .frz o u=>h.get? a=some o/\ObjOk H h a u
 | .tbl ps=>h.get? a=some { cls:=.none,data:=.fields ps }
 | .met f x=>h.get? a=some (PySem.W.methodObj (.ref f) (.ref x))
 | .ext φ=>φ h/\(∃o,h.get? a=some o)/\∀h1 h2:Heap,φ h1->(∀o,h1.get? a=some o->h2.get? a=some o)->φ h2
def HOk (H:Hp) (h:Heap):Prop:=∀a o,H a=some o->ObjOk P w H h a o
end
section
variable {P:Program} {w:World} {H H':Hp} {h h':Heap} {a:Addr} {o:HO}
theorem ObjOk.lt (x:ObjOk P w H h a o):a<h.objs.size:=by
 cases o with
 | lst xs=>obtain⟨_,_,_,_,e⟩:=x;exact Heap.lt_size e
 | tup xs=>obtain⟨_,_,_,p⟩:=x;exact p.lt
 | dK kvs=>obtain⟨_,_,_,_,o,_,_,e,_⟩:=x;exact Heap.lt_size e
 | dT kvs=>obtain⟨_,_,_,_,o,_,_,e,_⟩:=x;exact Heap.lt_size e
 | set S n=>obtain⟨o,_,_,_,e,_⟩:=x;exact Heap.lt_size e
 | ins C dx fs=>obtain⟨_,_,_,e,_⟩:=x;exact Heap.lt_size e
 | own y=>obtain⟨_,e⟩:=x;exact Heap.lt_size e
 | xd fs=>obtain⟨_,⟨_,_,_,e,_⟩,_⟩:=x;exact Heap.lt_size e
 | rng lo hi=>obtain⟨_,_,_,e⟩:=x;exact Heap.lt_size e
 | frz ob u=>obtain⟨e,_⟩:=x;exact Heap.lt_size e
 | tbl ps=>exact Heap.lt_size (show h.get? a=some _ from x)
 | met f y=>exact Heap.lt_size (show h.get? a=some _ from x)
 | ext φ=>obtain⟨_,⟨_,e⟩,_⟩:=x;exact Heap.lt_size e
theorem Paired.mapP {Y β:Type} {F G:Y->β->Prop}:∀{l₁:List Y} {l₂:List β},Paired F l₁ l₂->(∀a b,F a b->G a b)->Paired G l₁ l₂
 | _,_,.nil,_=>.nil
 | _,_,.cons r t,f=>.cons (f _ _ r) (Paired.mapP t f)
theorem ObjOk.stay (x:ObjOk P w H h a o) (k:∀b u,(b=a\/H b=some (.own a))->h.get? b=some u->h'.get? b=some u)
  (ho:∀b,H b=some (.own a)->H' b=some (.own a)) (ht:∀b xs,H b=some (.tup xs)->H' b=some (.tup xs)):ObjOk P w H' h' a o:=by
 induction o with
 | lst xs=>obtain⟨z,its,n,r,e⟩:=x;exact⟨z,its,n,r,k _ _ (.inl rfl) e⟩
 | tup xs=>obtain⟨z,its,r,ob,e,c⟩:=x;exact⟨z,its,r,ob,k _ _ (.inl rfl) e,c⟩
 | dK kvs=>obtain⟨z,y,vs,r,ob,es,ep,e,c⟩:=x;exact⟨z,y,vs,r,ob,es,ep,k _ _ (.inl rfl) e,c⟩
 | dT kvs =>
  obtain⟨z,y,xs,r,ob,es,ep,e,c⟩:=x;exact⟨z,y,xs,Paired.mapP r λp q z=>⟨z.1,ht _ _ z.2.1,z.2.2⟩,ob,es,ep,k _ _ (.inl rfl) e,c⟩
 | set S n=>obtain⟨ob,es,ep,t,e,c⟩:=x;exact⟨ob,es,ep,t,k _ _ (.inl rfl) e,c⟩
 | ins C dx fs =>
  obtain⟨d,z,ne,e,mA,⟨od,es,ep,e2,c⟩,r⟩:=x;exact⟨ho _ d,z,ne,k _ _ (.inl rfl) e,mA,⟨od,es,ep,k _ _ (.inr d) e2,c⟩,r⟩
 | own y=>obtain⟨ob,e⟩:=x;exact⟨ob,k _ _ (.inl rfl) e⟩
 | xd fs=>obtain⟨mA,⟨od,es,ep,e,c⟩,r⟩:=x;exact⟨mA,⟨od,es,ep,k _ _ (.inl rfl) e,c⟩,r⟩
 | rng lo hi=>obtain⟨t,u,v,e⟩:=x;exact⟨t,u,v,k _ _ (.inl rfl) e⟩
 | frz ob u ih=>obtain⟨e,q⟩:=x;exact⟨k _ _ (.inl rfl) e,ih q⟩
 | tbl ps =>
  have e:h.get? a=some { cls:=.none,data:=.fields ps }:=x;show h'.get? a=some { cls:=.none,data:=.fields ps };exact k a _ (.inl rfl) e
 | met f y =>
  have e:h.get? a=some (PySem.W.methodObj (.ref f) (.ref y)):=x;show h'.get? a=some (PySem.W.methodObj (.ref f) (.ref y));exact k a _ (.inl rfl) e
 | ext φ=>obtain⟨p,⟨o,e⟩,st⟩:=x;exact⟨st _ _ p λo q=>k _ _ (.inl rfl) q,⟨o,k _ _ (.inl rfl) e⟩,st⟩
theorem HOk.lt (x:HOk P w H h) (e:H a=some o):a<h.objs.size:=(x a o e).lt
theorem HOk.fresh (x:HOk P w H h) (e:h.objs.size<=a):H a=none:=by
 cases q:H a with
 | none=>rfl
 | some u=>exact absurd (Nat.lt_of_lt_of_le (x.lt q) e) (Nat.lt_irrefl _)
theorem HOk.kept (x:HOk P w H h) (k:∀b u,h.get? b=some u->h'.get? b=some u):HOk P w H h':=λa o e =>
 (x a o e).stay (λb u _ q=>k b u q) (λ_ q=>q) λ_ _ q=>q
theorem HOk.laid (x:HOk P w H h) (k:∀b u,h.get? b=some u->h'.get? b=some u) (hp:h.objs.size<=a) (new:ObjOk P w (upd H a o) h' a o):HOk P w (upd H a o) h':=λb u e=>by
 have hn:=x.fresh hp;by_cases hb:b=a
 ·subst hb;rw[aJ]at e;cases e;exact new
 ·rw[au hb]at e;exact(x b u e).stay (λc v _ q=>k c v q) (λc q=>by rw[au (aR q hn)];exact q) λc xs q=>by rw[au (aR q hn)];exact q
end
def Rd (H:Hp) (a:Addr) (u:HO):Prop:=H a=some u\/∃o,H a=some (.frz o u)
variable {h:Heap}
theorem Rd.ok {P:Program} {w:World} {u:HO} (r:Rd H a u) (x:HOk P w H h):ObjOk P w H h a u:=by
 rcases r with r|⟨o,r⟩
 ·exact x a u r
 ·obtain⟨_,q⟩:=x a _ r;exact q
def Mut:Option HO->Prop
 | some (.lst _)=>True
 | some (.dK _)=>True
 | some (.dT _)=>True
 | some (.set _ _)=>True
 | some (.ins _ _ _)=>True
 | some (.ext _)=>True
 | _=>False
section
variable {P:Program} {w:World} {H:Hp} {h h':Heap} {x e:Addr} {o':HO}
theorem HOk.write (ok:HOk P w H h) (mu:Mut (H x)) (he:e=x\/H e=some (.own x)) (k:∀b u,b≠e->h.get? b=some u->h'.get? b=some u) (heo:∃u,h'.get? e=some u)
  (new:ObjOk P w (upd H x o') h' x o'):HOk P w (upd H x o') h':=λb u q=>by
 have nown:∀c y,H c=some (.own y)->c≠x:=λc y r z=>by subst z;rw[r]at mu;exact mu
 have ntup:∀c xs,H c=some (.tup xs)->c≠x:=λc xs r z=>by subst z;rw[r]at mu;exact mu
 by_cases hb:b=x
 ·subst hb;rw[aJ]at q;cases q;exact new
 ·rw[au hb]at q;by_cases hbe:b=e
  ·have q':H b=some (.own x):=by
    rcases he with z|z
    ·exact absurd (hbe.trans z) hb
    ·rw[hbe];exact z
   rw[q]at q';cases q';obtain⟨v,hv⟩:=heo;exact⟨v,by rw[hbe];exact hv⟩
  ·refine(ok b u q).stay (λc v hc r=>k c v ?_ r) (λc r=>by rw[au (nown c b r)];exact r) λc xs r=>by rw[au (ntup c xs r)];exact r
   rcases hc with rfl|hc
   ·exact hbe
   ·rintro rfl;rcases he with z|z
    ·exact nown c b hc z
    ·rw[hc]at z;cases z;exact hb rfl
end
structure Un (fs ex:List Addr) (H H':Hp) (h h':Heap):Prop where
 keep:∀b o,h.get? b=some o->H b=none->b∉fs->b∉ex->h'.get? b=some o
 slot:∀b o,h.get? b=some o->H b=none->b∈fs->b∉ex->∃sl,h'.get? b=some { o with slots:=sl }
 free:∀b o,h.get? b=some o->H b=none->b∉ex->H' b=none
 there:∀b o,h.get? b=some o->b∉ex->∃o',h'.get? b=some o'
 tups:∀b xs,H b=some (.tup xs)->H' b=some (.tup xs)
 frzs:∀b o u,H b=some (.frz o u)->H' b=some (.frz o u)
 tbls:∀b ps,H b=some (.tbl ps)->∃more,H' b=some (.tbl (ps++more))
section
variable {fs fs' ex ex':List Addr} {H H1 H2:Hp} {h h1 h2 h':Heap} {a x e:Addr} {o:HO}
theorem Un.any (u:Un fs ex H H1 h h1) {ob:Obj} (q:h.get? b=some ob) (n:H b=none) (hx:b∉ex):∃sl,h1.get? b=some { ob with slots:=sl }:=by
 by_cases hb:b∈fs
 ·exact u.slot b ob q n hb hx
 ·exact⟨ob.slots,u.keep b ob q n hb hx⟩
theorem Un.kept (k:∀b u,h.get? b=some u->h'.get? b=some u):Un fs ex H H h h' :=
 ⟨λb ob q _ _ _=>k b ob q,λb ob q _ _ _=>⟨ob.slots,k b ob q⟩,λ_ _ _ n _=>n,λb ob q _=>⟨ob,k b ob q⟩,λ_ _ q=>q,λ_ _ _ q=>q,λ_ ps q=>⟨#[],by rw[q];simp⟩⟩
theorem Un.refl:Un fs ex H H h h:=Un.kept λ_ _ q=>q
theorem Un.laid (k:∀b u,h.get? b=some u->h'.get? b=some u) (hp:h.objs.size<=a) (hn:H a=none):Un fs ex H (upd H a o) h h' where
 keep:=λb u q _ _ _=>k b u q
 slot:=λb u q _ _ _=>⟨u.slots,k b u q⟩
 free:=λb u q n _=>by rw[au (Nat.ne_of_lt (Nat.lt_of_lt_of_le (Heap.lt_size q) hp))];exact n
 there:=λb u q _=>⟨u,k b u q⟩
 tups:=λb xs q=>by rw[au (aR q hn)];exact q
 frzs:=λb u xs q=>by rw[au (aR q hn)];exact q
 tbls:=λb ps q=>⟨#[],by rw[au (aR q hn),q];simp⟩
theorem Un.write (mu:Mut (H x)) (he:e=x\/H e=some (.own x)) (k:∀b u,b≠e->h.get? b=some u->h'.get? b=some u) (heo:∃u,h'.get? e=some u):Un fs ex H (upd H x o) h h':=by
 have hx:∀b,H b=none->b≠x:=λb n z=>by subst z;rw[n]at mu;exact mu
 have hb:∀b,H b=none->b≠e:=λb n z=>by
  subst z;rcases he with r|r
  ·exact hx b n r
  ·rw[n]at r;cases r
 have hm:∀b u,H b=some u->¬ Mut (some u)->b≠x:=λb u q nm z=>by subst z;rw[q]at mu;exact nm mu
 refine⟨λb u q n _ _=>k b u (hb b n) q,λb u q n _ _=>⟨u.slots,k b u (hb b n) q⟩,λb u q n _=>by rw[au (hx b n)];exact n,λb u q _=>?_,
  λb xs q=>by rw[au (hm b _ q λz=>z)];exact q,λb u xs q=>by rw[au (hm b _ q λz=>z)];exact q,λb ps q=>⟨#[],by rw[au (hm b _ q λz=>z),q];simp⟩⟩
 by_cases hbe:b=e
 ·subst hbe;exact heo
 ·exact⟨u,k b u hbe q⟩
end
def trk (h:Heap) (H:Hp):List Addr:=(List.range h.objs.size).filter λa=>(H a).isSome
def om (h:Heap) (H:Hp):Heap:=PySem.W.hideAll h (trk h H)
theorem uc (h:Heap) (H:Hp):(om h H).objs.size=h.objs.size:=PySem.W.hideAll_size _ _
theorem vX {o:Obj} (e:h.get? b=some o) (n:H b=none):(om h H).get? b=some o :=
 PySem.W.hideAll_get _ e λhm=>by
  have q:(H b).isSome=true:=(List.mem_filter.mp hm).2;rw[n]at q;simp at q
theorem xV {o:Obj} (e:(om h H).get? b=some o):h.get? b=some o/\H b=none:=by
 have e':h.get? b=some o:=PySem.W.of_hideAll (trk h H) e;refine⟨e',?_⟩;cases q:H b with
 | none=>rfl
 | some x =>
  have hm:b∈trk h H:=List.mem_filter.mpr ⟨List.mem_range.mpr (Heap.lt_size e'),by simp[q]⟩;have z:(om h H).get? b=none:=PySem.W.hideAll_none (trk h H) hm;rw[z]at e;cases e
end L2
namespace L2
open PySem PySem.Spec PyProof.Rows
structure Mod (K:Frag) (mg:Str->Option Value) (base:Heap):Prop where
 kin:K.In base
 glob:base.Ns mainGlobals mg
 blt:∃mb,base.Ns builtinsNs mb/\∀x:Str,x ≠ "__name__"->mb x=bootBuiltins x
 nolimit:base.NoLimit
structure Cx where
 prog:Program
 w:World
 K:Frag
 mg:Str->Option Value
 base:Heap
 A:Around
 N:List Str
 s₀:Shared
 H₀:Hp
 env:Env
 outer:List Env
 stack:List Env
 ex:List Addr
 fn:Str->Bool
 calm:Bool
 pn:List (Addr×Obj)
 xe:Value->Shared->Prop
def frs (l:List Env):List Addr:=l.filterMap (·.frame)
abbrev Cx.fs (X:Cx):List Addr:=frs X.outer
def Vis (sc:Scope) (x:Str):Prop:=sc.names.lookup x=some .local\/sc.names.lookup x=some .cell\/sc.names.lookup x=some .free
def Loc (sc:Scope) (x:Str):Prop:=sc.names.lookup x=some .local\/sc.names.lookup x=some .cell
def Dk (env:Env) (h:Heap) (m:Str->Option Value) (x:Str) (u:Value):Prop :=
 (env.kindOf x=some .local/\m x=some u)\/((env.kindOf x=some .cell\/env.kindOf x=some .free)/\∃c,env.cells.lookup x=some c/\h.IsCell c (some u))
structure Cx.Ok (X:Cx):Prop where
 mod:Mod X.K X.mg X.base
 kind:X.env.scope.kind=.function
 glob:X.env.globals=mainGlobals
 blt:X.env.builtins=builtinsNs
 above:X.s₀.heap.objs.size<=X.env.locals
 inj:∀x y c,X.env.cells.lookup x=some c->X.env.cells.lookup y=some c->x=y
 has:∀x,(X.env.kindOf x=some .cell\/X.env.kindOf x=some .free)->∃c,X.env.cells.lookup x=some c
 cab:∀x c,X.fn x=true->X.env.cells.lookup x=some c->X.s₀.heap.objs.size<=c
 hd:X.calm=true->X.A.handled=none
 frames:X.A.frames=some X.stack
 stk:X.stack=X.outer\/(X.stack=X.env::X.outer/\X.env.frame=some X.env.locals)
 exf:∀b∈X.ex,b≠X.env.locals/\∀x c,X.env.cells.lookup x=some c->c≠b
 bs:∀b o,X.base.get? b=some o->X.s₀.heap.get? b=some o/\X.H₀ b=none
 bsz:X.base.objs.size<=X.s₀.heap.objs.size
 noex:∀b o,X.base.get? b=some o->b∉X.ex
 exfs:∀b∈X.ex,b∉X.fs
 funs:X.s₀.heap.FunFrames X.base X.outer
 frf:∀b∈X.fs,X.H₀ b=none
structure Inv (X:Cx) (pins:List (Addr×Obj)) (O:List (Option V)) (H:Hp) (s:Shared):Prop where
 ok:X.Ok
 os:s.os=X.s₀.os
 bare:AllBare s.gens
 base:Un X.fs X.ex X.H₀ H X.s₀.heap s.heap
 loc:∃m,s.heap.Ns X.env.locals m/\∀(i:Nat) (x:Str) (v:V),X.N[i]?=some x->O[i]?=some (some v)->Vis X.env.scope x->∃u,RelV v u/\Dk X.env s.heap m x u
 cell:∀x c,X.env.cells.lookup x=some c->∃v,s.heap.IsCell c v
 free:H X.env.locals=none
 freeC:∀x c,X.env.cells.lookup x=some c->H c=none
 pin:∀p∈X.pn++pins,s.heap.get? p.1=some p.2/\H p.1=none/\p.1≠X.env.locals/\p.1∉X.fs/\∀v,p.2.data ≠ .cell v
 hok:HOk X.prog X.w H s.heap
 len:O.length=X.N.length
variable {t' i:Nat} {ch:List Addr} {x:Str} {M:Model} {A:Around} {E:Value->Shared->Prop}
section
variable {X:Cx} {pins:List (Addr×Obj)} {O:List (Option V)} {H H':Hp} {s:Shared} {h':Heap}
theorem Cx.Ok.nofr (ok:X.Ok) {b:Addr} {o:Obj} (e:X.base.get? b=some o):b∉X.fs:=λhb=>by
 have:=(ok.funs.mem hb).1;rw[e]at this;cases this
theorem Inv.bs (I:Inv X pins O H s):∀b o,X.base.get? b=some o->s.heap.get? b=some o/\H b=none:=λb o e =>
 ⟨I.base.keep b o (I.ok.bs b o e).1 (I.ok.bs b o e).2 (I.ok.nofr e) (I.ok.noex b o e),I.base.free b o (I.ok.bs b o e).1 (I.ok.bs b o e).2 (I.ok.noex b o e)⟩
theorem Inv.bk (I:Inv X pins O H s):∀b o,X.base.get? b=some o->s.heap.get? b=some o:=λb o e=>(I.bs b o e).1
theorem Inv.mod (I:Inv X pins O H s):Mod X.K X.mg X.base:=I.ok.mod
theorem Inv.kIn (I:Inv X pins O H s):X.K.In s.heap:=I.ok.mod.kin.keeps I.bk
theorem Inv.lt (I:Inv X pins O H s):X.env.locals<s.heap.objs.size:=let ⟨_,hn,_⟩:=I.loc;hn.lt
theorem Inv.sz (I:Inv X pins O H s):X.s₀.heap.objs.size<=s.heap.objs.size:=Nat.le_trans I.ok.above (Nat.le_of_lt I.lt)
theorem Inv.nofs (I:Inv X pins O H s) {a:Addr} (h:s.heap.objs.size<=a):a∉X.fs:=λhb=>by
 obtain⟨_,o,ho,_⟩:=I.ok.funs.mem hb;exact absurd (Nat.lt_of_lt_of_le (Heap.lt_size ho) (Nat.le_trans I.sz h)) (Nat.lt_irrefl _)
theorem Inv.cne (I:Inv X pins O H s):∀x c,X.env.cells.lookup x=some c->c≠X.env.locals:=λx c e z=>by
 obtain⟨v,o,ho,hd⟩:=I.cell x c e;obtain⟨m,⟨o',es,ep,ho',hd',_⟩,_⟩:=I.loc;rw[z,ho']at ho;cases ho;rw[hd']at hd;cases hd
theorem Inv.funs (I:Inv X pins O H s):s.heap.FunFrames X.base X.outer:=by
 have all:∀(l:List Env),(∀b∈frs l,b∈X.fs)->X.s₀.heap.FunFrames X.base l->s.heap.FunFrames X.base l:=by
  intro l
  induction l with
  | nil=>intro _ _;trivial
  | cons env r ih =>
   intro hs hl;obtain⟨hk,⟨L,o,hf,hn,ho,hd⟩,hr⟩:=hl;have hL:L∈X.fs:=hs L (by unfold frs;rw[List.filterMap_cons,hf];exact List.mem_cons_self);obtain⟨sl,e⟩:=I.base.slot L o ho (I.ok.frf L hL) hL λz=>I.ok.exfs L z hL;exact⟨hk,⟨L,_,hf,hn,e,hd⟩,ih (λb hb=>hs b (by unfold frs;rw[List.filterMap_cons,hf];exact List.mem_cons_of_mem _ hb)) hr⟩
 exact all X.outer (λ_ hb=>hb) I.ok.funs
theorem Inv.stack (I:Inv X pins O H s):s.heap.FunFrames X.base X.stack:=by
 rcases I.ok.stk with e|⟨e,hf⟩
 ·rw[e];exact I.funs
 ·rw[e];obtain⟨m,hn,_⟩:=I.loc;refine .cons (by rw[I.ok.kind];decide) hf hn ?_ I.funs;exact Heap.get?_none_of_le (Nat.le_trans I.ok.bsz I.ok.above)
theorem Inv.stkSub (I:Inv X pins O H s):∀b∈frs X.stack,b∈X.env.locals::X.fs:=λb hb=>by
 rcases I.ok.stk with e|⟨e,hf⟩
 ·rw[e]at hb;exact List.mem_cons_of_mem _ hb
 ·rw[e]at hb;unfold frs at hb;rw[List.filterMap_cons,hf]at hb;exact hb
theorem Inv.stkFree (I:Inv X pins O H s):∀b∈frs X.stack,H b=none:=λb hb=>by
 rcases List.mem_cons.mp (I.stkSub b hb)with e|hb
 ·rw[e];exact I.free
 ·obtain⟨_,o,ho,_⟩:=I.ok.funs.mem hb;exact I.base.free b o ho (I.ok.frf b hb) λz=>I.ok.exfs b z hb
theorem Inv.step {g':Array GenState} {d':Drawn} (I:Inv X pins O H s)
  (hch:∀b∈ch,(b∈X.ex\/X.s₀.heap.objs.size<=b)/\b≠X.env.locals/\(∀x c,X.env.cells.lookup x=some c->c≠b)/\∀p∈X.pn++pins,p.1≠b)
  (keep:∀b o,b≠X.env.locals->b∉X.fs->b∉ch->s.heap.get? b=some o->H b=none->h'.get? b=some o)
  (slot:∀b o,b≠X.env.locals->b∈X.fs->b∉ch->s.heap.get? b=some o->H b=none->∃sl,h'.get? b=some { o with slots:=sl }) (free:∀b o,b∉ch->s.heap.get? b=some o->H b=none->H' b=none)
  (there:∀b o,b∉ch->s.heap.get? b=some o->∃o',h'.get? b=some o')
  (tups:∀b xs,H b=some (.tup xs)->H' b=some (.tup xs)) (frzs:∀b o u,H b=some (.frz o u)->H' b=some (.frz o u)) (tbls:∀b ps,H b=some (.tbl ps)->∃more,H' b=some (.tbl (ps++more)))
  (ns:∀m,s.heap.Ns X.env.locals m->h'.Ns X.env.locals m) (hok:HOk X.prog X.w H' h') (hg:AllBare g') :
  Inv X pins O H' { s with heap:=h',gens:=g',drawn:=d',toks:=t' }:=by
 have neL:∀b o,X.s₀.heap.get? b=some o->b≠X.env.locals:=λb o e=>Nat.ne_of_lt (Nat.lt_of_lt_of_le (Heap.lt_size e) I.ok.above);have neC:∀b o,X.s₀.heap.get? b=some o->b∉X.ex->b∉ch:=λb o e hx hb=>by
  rcases(hch b hb).1 with z|z
  ·exact hx z
  ·exact absurd (Nat.lt_of_lt_of_le (Heap.lt_size e) z) (Nat.lt_irrefl _)
 have cellK:∀x c,X.env.cells.lookup x=some c->∀v,s.heap.IsCell c v->h'.IsCell c v:=λx c e v ⟨o,ho,hd⟩=>by
  have nch:c∉ch:=λz=>(hch c z).2.2.1 x c e rfl;by_cases hc:c∈X.fs
  ·obtain⟨sl,q⟩:=slot c o (I.cne x c e) hc nch ho (I.freeC x c e);exact⟨_,q,hd⟩
  ·exact⟨o,keep c o (I.cne x c e) hc nch ho (I.freeC x c e),hd⟩
 refine⟨I.ok,I.os,hg,⟨λb o e n hb hx=>?_,λb o e n hb hx=>?_,λb o e n hx=>?_,λb o e hx=>?_,λb xs e=>tups b xs (I.base.tups b xs e),λb o xs e=>frzs b o xs (I.base.frzs b o xs e),λb ps e=>?_⟩,?_,λx c e=>?_,?_,λx c e=>?_,λp hp=>?_,hok,I.len⟩
 ·exact keep b o (neL b o e) hb (neC b o e hx) (I.base.keep b o e n hb hx) (I.base.free b o e n hx)
 ·obtain⟨sl,e1⟩:=I.base.slot b o e n hb hx;obtain⟨sl',e2⟩:=slot b _ (neL b o e) hb (neC b o e hx) e1 (I.base.free b o e n hx);exact⟨sl',e2⟩
 ·obtain⟨o',e1⟩:=I.base.there b o e hx;exact free b o' (neC b o e hx) e1 (I.base.free b o e n hx)
 ·obtain⟨o',e1⟩:=I.base.there b o e hx;exact there b o' (neC b o e hx) e1
 ·obtain⟨m1,e1⟩:=I.base.tbls b ps e;obtain⟨m2,e2⟩:=tbls b _ e1;exact⟨m1++m2,by rw[e2,Array.append_assoc]⟩
 ·obtain⟨m,hn,hl⟩:=I.loc;refine⟨m,ns m hn,λi x v e1 e2 e3=>?_⟩;obtain⟨u,r,l⟩:=hl i x v e1 e2 e3;refine⟨u,r,?_⟩;rcases l with l|⟨k,c,e,z⟩
  ·exact .inl l
  ·exact .inr ⟨k,c,e,cellK x c e _ z⟩
 ·obtain⟨v,z⟩:=I.cell x c e;exact⟨v,cellK x c e v z⟩
 ·obtain⟨m,⟨o,_,_,ho,_⟩,_⟩:=I.loc;exact free _ o (λz=>(hch _ z).2.1 rfl) ho I.free
 ·obtain⟨v,o,ho,hd⟩:=I.cell x c e;exact free c o (λz=>(hch c z).2.2.1 x c e rfl) ho (I.freeC x c e)
 ·obtain⟨e,n,ne,nf,d⟩:=I.pin p hp;have nch:p.1∉ch:=λz=>(hch p.1 z).2.2.2 p hp rfl;exact⟨keep p.1 p.2 ne nf nch e n,free p.1 p.2 nch e n,ne,nf,d⟩
theorem Inv.un (I:Inv X pins O H s) (u:Un X.fs [] H H' s.heap h') (hok:HOk X.prog X.w H' h'):Inv X pins O H' { s with heap:=h',toks:=t' }:=by
 obtain⟨m,⟨o,es,ep,ho,r⟩,_⟩:=id I.loc;obtain⟨sl,hL⟩:=u.any ho I.free (by simp);exact I.step (g':=s.gens) (d':=s.drawn) (ch:=[]) (λ_ z=>nomatch z) (λb o _ hb _ e n=>u.keep b o e n hb (by simp)) (λb o _ hb _ e n=>u.slot b o e n hb (by simp)) (λb o _ e n=>u.free b o e n (by simp)) (λb o _ e=>u.there b o e (by simp)) u.tups u.frzs u.tbls (λm' hm=>by
  obtain⟨o',es',ep',ho',r'⟩:=hm;rw[ho]at ho';cases ho';exact⟨_,es',ep',hL,r'⟩) hok I.bare
theorem Inv.call {g':Array GenState} {d':Drawn} (I:Inv X pins O H s) (u:Un (frs X.stack) ch H H' s.heap h') (hok:HOk X.prog X.w H' h') (hg:AllBare g')
  (hch:∀b∈ch,(b∈X.ex\/X.s₀.heap.objs.size<=b)/\b≠X.env.locals/\(∀x c,X.env.cells.lookup x=some c->c≠b)/\∀p∈X.pn++pins,p.1≠b) :
  Inv X pins O H' { s with heap:=h',gens:=g',drawn:=d',toks:=t' }:=by
 obtain⟨m,⟨o,es,ep,ho,r⟩,_⟩:=id I.loc;obtain⟨sl,hL⟩:=u.any ho I.free λz=>(hch _ z).2.1 rfl;exact I.step (ch:=ch) hch (λb o hL hb hc e n=>u.keep b o e n (λz=>(List.mem_cons.mp (I.stkSub b z)).elim hL hb) hc) (λb o _ _ hc e n=>u.any e n hc) (λb o hc e n=>u.free b o e n hc) (λb o hc e=>u.there b o e hc) u.tups u.frzs u.tbls (λm' hm=>by
  obtain⟨o',es',ep',ho',r'⟩:=hm;rw[ho]at ho';cases ho';exact⟨_,es',ep',hL,r'⟩) hok hg
theorem Inv.turned {it:Addr} (I:Inv X pins O H s) (k:∀b o,b≠it->s.heap.get? b=some o->h'.get? b=some o) (hn:H it=none) (hL:it≠X.env.locals)
  (h1:it∈X.ex\/X.s₀.heap.objs.size<=it) (h2:∀x c,X.env.cells.lookup x=some c->c≠it) (h3:∀p∈X.pn++pins,p.1≠it):Inv X pins O H { s with heap:=h',toks:=t' }:=by
 have nit:∀b u,H b=some u->b≠it:=λb u e z=>by rw[z,hn]at e;cases e
 refine I.step (g':=s.gens) (d':=s.drawn) (ch:=[it]) (λb hb=>?_) (λb o _ _ hc e _=>k b o (λz=>hc (by simp[z])) e) (λb o _ _ hc e _=>⟨o.slots,k b o (λz=>hc (by simp[z])) e⟩) (λ_ _ _ _ n=>n)
  (λb o hc e=>⟨o,k b o (λz=>hc (by simp[z])) e⟩) (λ_ _ e=>e) (λ_ _ _ e=>e) (λb ps e=>⟨#[],by rw[e];simp⟩) (λm hm=>?_) (λb u e=>?_) I.bare
 ·have e:b=it:=by simpa using hb
  subst e;exact⟨h1,hL,h2,h3⟩
 ·obtain⟨o,es,ep,ho,r⟩:=hm;exact⟨o,es,ep,k _ o (Ne.symm hL) ho,r⟩
 ·refine(I.hok b u e).stay (λc v hc q=>k c v ?_ q) (λ_ q=>q) λ_ _ q=>q;rcases hc with z|z
  ·rw[z];exact nit b u e
  ·exact nit c _ z
theorem Inv.tok (I:Inv X pins O H s) (t:Nat):Inv X pins O H { s with toks:=t }:=I.un (h':=s.heap) (t':=t) Un.refl I.hok
theorem Inv.kept (I:Inv X pins O H s) (k:∀b u,s.heap.get? b=some u->h'.get? b=some u):Inv X pins O H { s with heap:=h',toks:=t' }:=I.un (Un.kept k) (I.hok.kept k)
theorem Inv.laid {a:Addr} {o:HO} (I:Inv X pins O H s) (k:∀b u,s.heap.get? b=some u->h'.get? b=some u) (hp:s.heap.objs.size<=a) (new:ObjOk X.prog X.w (upd H a o) h' a o) :
  Inv X pins O (upd H a o) { s with heap:=h',toks:=t' }:=I.un (Un.laid k hp (I.hok.fresh hp)) (I.hok.laid k hp new)
theorem Inv.write {x e:Addr} {o:HO} (I:Inv X pins O H s) (mu:Mut (H x)) (he:e=x\/H e=some (.own x)) (k:∀b u,b≠e->s.heap.get? b=some u->h'.get? b=some u) (heo:∃u,h'.get? e=some u)
  (new:ObjOk X.prog X.w (upd H x o) h' x o):Inv X pins O (upd H x o) { s with heap:=h',toks:=t' }:=I.un (Un.write mu he k heo) (I.hok.write mu he k heo new)
theorem Inv.pins_of {pins':List (Addr×Obj)} (I:Inv X pins O H s) (h:∀p∈pins',s.heap.get? p.1=some p.2/\H p.1=none/\p.1≠X.env.locals/\p.1∉X.fs/\∀v,p.2.data ≠ .cell v):Inv X pins' O H s :=
 ⟨I.ok,I.os,I.bare,I.base,I.loc,I.cell,I.free,I.freeC,λp hp=>(List.mem_append.mp hp).elim (λz=>I.pin p (List.mem_append_left _ z)) (h p),I.hok,I.len⟩
theorem kU {N:List Str} (hN:N.Nodup) {j:Nat} (a:N[i]?=some x) (b:N[j]?=some x):i=j:=by
 obtain⟨h1,e1⟩:=List.getElem?_eq_some_iff.mp a;obtain⟨h2,e2⟩:=List.getElem?_eq_some_iff.mp b;exact(List.getElem_inj hN).mp (e1.trans e2.symm)
theorem tP {v:V} {u:Value} {Q:Unit->Shared->Prop} (I:Inv X pins O H s) (hN:X.N.Nodup) (hi:X.N[i]?=some x) (hx:Loc X.env.scope x) (r:RelV v u)
  (h:∀s',Inv X pins (O.set i (some v)) H s'->(∃a,Heap.SameBut a s.heap s'.heap/\(a=X.env.locals\/X.env.cells.lookup x=some a))->Q () s') (hf:X.fn x=true\/X.env.scope.names.lookup x=some .local:=by first|exact .inl rfl|exact .inr rfl|assumption):wpAny M A (storeName X.env x u) Q E s:=by
 obtain⟨m,hn,hl⟩:=id I.loc;have hcls:(X.env.scope.kind == .class||(X.env.scope.kind == .module&&X.env.locals != X.env.globals))=false:=by rw[I.ok.kind];rfl
 have hiO:i<O.length:=by rw[I.len];exact(List.getElem?_eq_some_iff.mp hi).1
 have cne:=I.cne;have tracked:∀{a:Addr} {h':Heap},(∃o,s.heap.get? a=some o/\H a=none)->Heap.SameBut a s.heap h'->HOk X.prog X.w H h':=λ{a h'} ha hs b ob e=>by
  obtain⟨_,_,hfree⟩:=ha;refine(I.hok b ob e).stay (λc w' hc q=>(hs.2 c ?_).trans q) (λ_ q=>q) λ_ _ q=>q;rintro rfl;rcases hc with rfl|hc
  ·rw[hfree]at e;cases e
  ·rw[hfree]at hc;cases hc
 rcases hx with hk|hk
 ·refine wpAny_storeName_local hk hn (λh' hn' hs=>?_) hcls;obtain⟨oL,_,_,hoL,_⟩:=id hn;refine h _ ⟨I.ok,I.os,I.bare,⟨λb o e n hb hx=>?_,λb o e n hb hx=>?_,I.base.free,λb o e hx=>?_,I.base.tups,I.base.frzs,I.base.tbls⟩,⟨_,hn',λj y v' e1 e2 e3=>?_⟩,λy c e=>?_,I.free,I.freeC,λp hp=>?_,tracked ⟨oL,hoL,I.free⟩ hs,by simpa using I.len⟩ ⟨_,hs,.inl rfl⟩
  ·exact(hs.2 b (Nat.ne_of_lt (Nat.lt_of_lt_of_le (Heap.lt_size e) I.ok.above))).trans (I.base.keep b o e n hb hx)
  ·obtain⟨sl,e1⟩:=I.base.slot b o e n hb hx;exact⟨sl,(hs.2 b (Nat.ne_of_lt (Nat.lt_of_lt_of_le (Heap.lt_size e) I.ok.above))).trans e1⟩
  ·obtain⟨o',e1⟩:=I.base.there b o e hx;exact⟨o',(hs.2 b (Nat.ne_of_lt (Nat.lt_of_lt_of_le (Heap.lt_size e) I.ok.above))).trans e1⟩
  ·by_cases hj:j=i
   ·subst hj;rw[hi]at e1;cases e1;rw[List.getElem?_set_self hiO]at e2;cases e2;exact⟨u,r,.inl ⟨hk,by simp⟩⟩
   ·rw[List.getElem?_set_ne (Ne.symm hj)]at e2;obtain⟨u',r',q⟩:=hl j y v' e1 e2 e3;refine⟨u',r',?_⟩;rcases q with⟨k,e⟩|⟨k,c,e,z⟩
    ·refine .inl ⟨k,?_⟩;have:y≠x:=λe=>hj (kU hN e1 (e▸hi));simp[this,e]
    ·exact .inr ⟨k,c,e,z.sameBut hs (cne y c e)⟩
  ·obtain⟨w',z⟩:=I.cell y c e;exact⟨w',z.sameBut hs (cne y c e)⟩
  ·obtain⟨e,n,ne,nf,d⟩:=I.pin p hp;exact⟨(hs.2 p.1 ne).trans e,n,ne,nf,d⟩
 ·have hfn:X.fn x=true:=by
   rcases hf with z|z
   ·exact z
   ·rw[z]at hk;cases hk
  obtain⟨c,hc⟩:=I.ok.has x (.inl hk);obtain⟨w',z⟩:=I.cell x c hc;refine wpAny_storeName_cell I.ok.kind hk hc z (λh' hc' hs=>?_);obtain⟨oc,hoc,hocd⟩:=id z;refine h { s with heap:=h' } ⟨I.ok,I.os,I.bare,⟨λb o e n hb hx=>?_,λb o e n hb hx=>?_,I.base.free,λb o e hx=>?_,I.base.tups,I.base.frzs,I.base.tbls⟩,⟨m,hn.sameBut hs (Ne.symm (cne x c hc)),λj y v' e1 e2 e3=>?_⟩,λy c' e=>?_,I.free,I.freeC,λp hp=>?_,tracked ⟨oc,hoc,I.freeC x c hc⟩ hs,by simpa using I.len⟩ ⟨c,hs,.inr hc⟩
  ·exact(hs.2 b (Nat.ne_of_lt (Nat.lt_of_lt_of_le (Heap.lt_size e) (I.ok.cab x c hfn hc)))).trans (I.base.keep b o e n hb hx)
  ·obtain⟨sl,e1⟩:=I.base.slot b o e n hb hx;exact⟨sl,(hs.2 b (Nat.ne_of_lt (Nat.lt_of_lt_of_le (Heap.lt_size e) (I.ok.cab x c hfn hc)))).trans e1⟩
  ·obtain⟨o',e1⟩:=I.base.there b o e hx;exact⟨o',(hs.2 b (Nat.ne_of_lt (Nat.lt_of_lt_of_le (Heap.lt_size e) (I.ok.cab x c hfn hc)))).trans e1⟩
  ·by_cases hj:j=i
   ·subst hj;rw[hi]at e1;cases e1;rw[List.getElem?_set_self hiO]at e2;cases e2;exact⟨u,r,.inr ⟨.inl hk,c,hc,hc'⟩⟩
   ·rw[List.getElem?_set_ne (Ne.symm hj)]at e2;obtain⟨u',r',q⟩:=hl j y v' e1 e2 e3;refine⟨u',r',?_⟩;rcases q with q|⟨k,c',e,z'⟩
    ·exact .inl q
    ·refine .inr ⟨k,c',e,z'.sameBut hs ?_⟩;rintro rfl;exact hj (kU hN e1 (I.ok.inj _ _ _ e hc▸hi))
  ·by_cases hcc:c'=c
   ·subst hcc;exact⟨_,hc'⟩
   ·obtain⟨w2,z2⟩:=I.cell y c' e;exact⟨w2,z2.sameBut hs hcc⟩
  ·obtain⟨e,n,ne,nf,d⟩:=I.pin p hp;refine⟨(hs.2 p.1 ?_).trans e,n,ne,nf,d⟩;intro q;rw[q,hoc]at e;have q':oc=p.2:=Option.some.inj e;exact d w' (by rw[<- q'];exact hocd)
theorem kC {v:V} {u:Value} {Q:Unit->Shared->Prop} (I:Inv X pins O H s) (hN:X.N.Nodup) (hi:X.N[i]?=some x) (hx:Loc X.env.scope x) (r:RelV v u)
  (h:∀s',Inv X pins (O.set i (some v)) H s'->Q () s') (hf:X.fn x=true\/X.env.scope.names.lookup x=some .local:=by first|exact .inl rfl|exact .inr rfl|assumption):wpAny M A (storeName X.env x u) Q E s :=
 tP I hN hi hx r (λs' I' _=>h s' I') hf
theorem Inv.call' {s':Shared} (I:Inv X pins O H s) (ho:s'.os=s.os) (u:Un (frs X.stack) ch H H' s.heap s'.heap) (hok:HOk X.prog X.w H' s'.heap) (hg:AllBare s'.gens)
  (hch:∀b∈ch,(b∈X.ex\/X.s₀.heap.objs.size<=b)/\b≠X.env.locals/\(∀x c,X.env.cells.lookup x=some c->c≠b)/\∀p∈X.pn++pins,p.1≠b):Inv X pins O H' s':=by
 obtain⟨h',g',d',t',o'⟩:=s';have e:o'=s.os:=ho;subst e;exact I.call (g':=g') (t':=t') (d':=d') u hok hg hch
end
abbrev XK:=Value->Option Addr->Hp->Prop
abbrev St:=List (Option V)
abbrev VK:=V->Hp->Prop
abbrev TE:=St->Hp->VK->Prop
abbrev TT:=St->Hp->(Bool->Hp->Prop)->Prop
abbrev TA:=St->Hp->(List V->Hp->Prop)->Prop
structure io where
 nx:St->Hp->Prop
 rt:VK
 bk:St->Hp->Prop:=λ_ _=>False
 ct:St->Hp->Prop:=λ_ _=>False
abbrev TS:=io->St->Hp->Prop
def EP (X:Cx) (pins:List (Addr×Obj)) (O:St) (Q:VK) (u:Value) (s':Shared):Prop:=∃v H',Inv X pins O H' s'/\RelV v u/\Q v H'
def TP (X:Cx) (pins:List (Addr×Obj)) (O:St) (Q:Bool->Hp->Prop) (b:Bool) (s':Shared):Prop:=∃H',Inv X pins O H' s'/\Q b H'
def AP (X:Cx) (pins:List (Addr×Obj)) (O:St) (Q:List V->Hp->Prop) (us:List Value) (s':Shared):Prop:=∃vs H',Inv X pins O H' s'/\Vals vs us/\Q vs H'
def SP (X:Cx) (pins:List (Addr×Obj)) (D:io) (f:Flow) (s':Shared):Prop :=
 match f with
 | .next=>∃σ' H',Inv X pins σ' H' s'/\D.nx σ' H'
 | .brk=>∃σ' H',Inv X pins σ' H' s'/\D.bk σ' H'
 | .cont=>∃σ' H',Inv X pins σ' H' s'/\D.ct σ' H'
 | .ret u=>∃v σ' H',Inv X pins σ' H' s'/\RelV v u/\D.rt v H'
def PE (X:Cx) (e:Expr) (t:TE):Prop :=
 ∀(pins:List (Addr×Obj)) (s:Shared) (O:St) (H:Hp) (Q:VK),Inv X pins O H s->t O H Q->wpAny (model X.prog X.w) X.A (eval e X.env) (EP X pins O Q) X.xe s
def PT (X:Cx) (e:Expr) (t:TT):Prop :=
 ∀(pins:List (Addr×Obj)) (s:Shared) (O:St) (H:Hp) (Q:Bool->Hp->Prop),Inv X pins O H s->t O H Q->wpAny (model X.prog X.w) X.A (isTrue e X.env (eval e X.env)) (TP X pins O Q) X.xe s
def PW (X:Cx) (e:Expr) (t:TT):Prop :=
 ∀(whole:Sem Value) (pins:List (Addr×Obj)) (s:Shared) (O:St) (H:Hp) (Q:Bool->Hp->Prop),Inv X pins O H s->t O H Q->wpAny (model X.prog X.w) X.A (isTrue e X.env whole) (TP X pins O Q) X.xe s
theorem PW.pt {X:Cx} {e:Expr} {t:TT} (h:PW X e t):PT X e t:=h _
def PA (X:Cx) (es:List Expr) (t:TA):Prop :=
 ∀(pos:Pos) (pins:List (Addr×Obj)) (s:Shared) (O:St) (H:Hp) (Q:List V->Hp->Prop),Inv X pins O H s->t O H Q->wpAny (model X.prog X.w) X.A (spliced (backTo pos (starEach es X.env))) (AP X pins O Q) X.xe s
def PS (X:Cx) (st:Stmt) (t:TS):Prop :=
 ∀(pins:List (Addr×Obj)) (s:Shared) (O:St) (H:Hp) (D:io),Inv X pins O H s->t D O H->wpAny (model X.prog X.w) X.A (exec st X.env) (SP X pins D) X.xe s
def PSs (X:Cx) (st:List Stmt) (t:TS):Prop :=
 ∀(pins:List (Addr×Obj)) (s:Shared) (O:St) (H:Hp) (D:io),Inv X pins O H s->t D O H->wpAny (model X.prog X.w) X.A (execs st X.env) (SP X pins D) X.xe s
theorem thn {Y:Type} {t:Sem Y} {Q Q':Y->Shared->Prop} {s:Shared} (h:wpAny M A t Q E s) (hQ:∀a s,Q a s->Q' a s):wpAny M A t Q' E s:=wpAny_mono h hQ λ_ _ x=>x
end L2
namespace L2
open PySem PySem.Spec PyProof.Rows
variable {x:Str} {pos:Pos} {u:Value}
section
variable {X:Cx}
def du (i:Nat):TE:=λO H Q=>∃v,O[i]?=some (some v)/\Q v H
def tC (v:V):TE:=λ_ H Q=>Q v H
theorem zW {i:Nat} (hN:X.N[i]?=some x) (hv:Vis X.env.scope x) (hd:(x==("__debug__":Str))=false:=by decide) (hcd:(x==("__classdict__":Str))=false:=by decide):PE X (.Name x pos) (du i):=by
 intro pins s O H Q I h;obtain⟨v,e,h⟩:=h;obtain⟨m,hn,hl⟩:=I.loc;obtain⟨u,r,l⟩:=hl i x v hN e hv;have fin:EP X pins O Q u s:=⟨v,H,I,r,h⟩;rcases l with⟨hk,hm⟩|⟨hk,c,hc,hcell⟩
 ·exact wpAny_Name (wpAny_loadName_local I.ok.kind hk hn hm fin) hd
 ·rcases hk with hk|hk
  ·exact wpAny_Name (wpAny_loadName_cell I.ok.kind hk hc hcell fin) hd
  ·exact wpAny_Name (wpAny_loadName_free I.ok.kind hk hc hcell fin hcd) hd
theorem zY {i j pos}:PE X (.Constant (.int i) j pos) (tC (.int i)):=λ_ _ _ H _ I h=>wpAny_Constant_int ⟨.int i,H,I.tok _,⟨_,rfl⟩,h⟩
theorem sg {b j pos}:PE X (.Constant (.bool b) j pos) (tC (.bl b)):=λ_ _ _ H _ I h=>Constant_bool ⟨.bl b,H,I,rfl,h⟩
def Gl (X:Cx) (x:Str):Prop:=X.env.kindOf x=some .globalImplicit
theorem da {E:Value->Shared->Prop} {pins:List (Addr×Obj)} {s:Shared} {O:St} {H:Hp} {Q:Value->Shared->Prop} (I:Inv X pins O H s) (hg:Gl X x) (hm:X.mg x=some u) (h:Q u s)
  (hd:(x==("__debug__":Str))=false:=by decide):wpAny (model X.prog X.w) X.A (eval (.Name x pos) X.env) Q E s :=
 Calls.Name_function_global I.ok.kind hg (Calls.loadGlobal_global (by rw[I.ok.glob];exact I.mod.glob.keeps I.bk) hm h) hd
theorem gL {E:Value->Shared->Prop} {pins:List (Addr×Obj)} {s:Shared} {O:St} {H:Hp} {Q:Value->Shared->Prop} (I:Inv X pins O H s) (hg:Gl X x) (hm:X.mg x=none) (hv:bootBuiltins x=some u) (h:Q u s)
  (hn:x ≠ "__name__":=by decide) (hd:(x==("__debug__":Str))=false:=by decide):wpAny (model X.prog X.w) X.A (eval (.Name x pos) X.env) Q E s:=by
 obtain⟨mb,h1,h2⟩:=I.mod.blt;exact Calls.Name_function_global I.ok.kind hg (Calls.loadGlobal_builtin (by rw[I.ok.glob];exact I.mod.glob.keeps I.bk) hm (by rw[I.ok.blt];exact h1.keeps I.bk) ((h2 x hn).trans hv) h) hd
theorem se {v:V} (hg:Gl X x) (hm:X.mg x=some u) (r:RelV v u) (hd:(x==("__debug__":Str))=false:=by decide):PE X (.Name x pos) (tC v) :=
 λ_ _ _ H _ I h=>da I hg hm ⟨v,H,I,r,h⟩ hd
variable {a b:Expr} {ta tb:TE} {pos:Pos}
def tB (t:TE):TT:=λO H Q=>t O H λx H1=>∃c,x=.bl c/\Q c H1
theorem zO {e:Expr} {t:TE} (h:PE X e t) (he:∀whole,isTrue e X.env whole=(do let v <- whole;standAt e.pos;holding [v] (truthy v)):=by intro _;rfl):PT X e (tB t):=by
 intro pins s O H Q I hw;refine isTrue_plain (thn (h pins s O H _ I hw) λv s1 ⟨x,H1,I1,r1,q1⟩=>?_) (he _);obtain⟨d,rfl,q⟩:=q1;cases r1;exact wpAny_truthy_bool ⟨H1,I1,q⟩
variable {tA tB':TT} {rest:List Expr}
def CJ (t u:TT):TT:=λO H Q=>t O H λc H1=>if c=true then u O H1 Q else Q false H1
def tOr (t u:TT):TT:=λO H Q=>t O H λc H1=>if c=true then Q true H1 else u O H1 Q
def CC (t:TT):TT:=λO H Q=>t O H λc H1=>Q (!c) H1
theorem xy (ha:PT X a tA):PW X (.BoolOp .And [a] pos) tA:=by
 intro wh pins s O H Q I h;refine isTrue_and (thn (ha pins s O H Q I h) λc s1 e=>?_);cases c with
 | true=>exact isTrue_and_nil e
 | false=>exact e
theorem zF (ha:PT X a tA):PW X (.BoolOp .Or [a] pos) tA:=by
 intro wh pins s O H Q I h;refine isTrue_or (thn (ha pins s O H Q I h) λc s1 e=>?_);cases c with
 | false=>exact isTrue_or_nil e
 | true=>exact e
theorem zG (ha:PT X a tA) (hb:PW X (.BoolOp .And (b::rest) pos) tB'):PW X (.BoolOp .And (a::b::rest) pos) (CJ tA tB'):=by
 intro wh pins s O H Q I h;refine isTrue_and (thn (ha pins s O H _ I h) λc s1 ⟨H1,I1,q1⟩=>?_);cases c with
 | true=>exact hb wh pins s1 O H1 Q I1 q1
 | false=>exact⟨H1,I1,q1⟩
theorem BL (ha:PT X a tA) (hb:PW X (.BoolOp .Or (b::rest) pos) tB'):PW X (.BoolOp .Or (a::b::rest) pos) (tOr tA tB'):=by
 intro wh pins s O H Q I h;refine isTrue_or (thn (ha pins s O H _ I h) λc s1 ⟨H1,I1,q1⟩=>?_);cases c with
 | true=>exact⟨H1,I1,q1⟩
 | false=>exact hb wh pins s1 O H1 Q I1 q1
theorem zP (ha:PT X a tA):PT X (.UnaryOp .Not a pos) (CC tA):=by
 intro pins s O H Q I h;exact isTrue_not (ha pins s O H (λc H1=>Q (!c) H1) I h)
def Bx (ta tb:TE):TE:=λO H Q=>ta O H λx H1=>∃c,x=.bl c/\if c=true then tb O H1 Q else Q (.bl false) H1
theorem zX {op} {t:TE} (h:PE X a t):PE X (.BoolOp op [a] pos) t:=λpins s O H Q I hw=>BoolOp_one (h pins s O H Q I hw)
theorem z4 (ha:PE X a ta) (hb:PE X (.BoolOp .And (b::rest) pos) tb):PE X (.BoolOp .And (a::b::rest) pos) (Bx ta tb):=by
 intro pins s O H Q I h;refine BoolOp_and (thn (ha pins s O H _ I h) λv s1 ⟨x,H1,I1,r1,q1⟩=>?_);obtain⟨c,rfl,q1⟩:=q1;cases r1;refine wpAny_truthy_bool ?_;cases c with
 | true=>exact hb pins s1 O H1 Q I1 q1
 | false=>exact⟨.bl false,H1,I1,rfl,q1⟩
end
end L2
namespace L2
open PySem PySem.Spec PyProof.Rows
def SqL (K:Frag) (H:Hp) (a:Addr) (xs:List V):Prop :=
 Rd H a (.lst xs) \/
  ∃(o:Obj) (its:Array Value) (n:Nat),K.lookup a=some o/\o.cls=.type "list"/\o.dict=none/\o.data=.seq its n/\its.size<=sizeLine/\Vals xs its.toList
def SqT (K:Frag) (H:Hp) (a:Addr) (xs:List V):Prop :=
 Rd H a (.tup xs) \/
  ∃(o:Obj) (its:Array Value) (n:Nat),K.lookup a=some o/\o.cls=.type "tuple"/\o.data=.seq its n/\its.size<=sizeLine/\Vals xs its.toList
def Dj:Value->Option V
 | .none=>some .non
 | .bool b=>some (.bl b)
 | .int i _=>some (.int i)
 | .str x _=>some (.str x)
 | .bytes b _=>some (.byt b)
 | .float b _=>some (.flt b)
 | .ref a=>some (.ref a)
 | .type n=>some (.ty n)
 | _=>none
variable {u:Value}
theorem RelV.abs {x:V} (r:RelV x u):Dj u=some x:=by
 cases x with
 | non=>cases r;rfl
 | bl _=>cases r;rfl
 | int _=>obtain⟨t,rfl⟩:=r;rfl
 | str _=>obtain⟨t,rfl⟩:=r;rfl
 | byt _=>obtain⟨t,rfl⟩:=r;rfl
 | flt _=>obtain⟨t,rfl⟩:=r;rfl
 | ref _=>cases r;rfl
 | ty _=>cases r;rfl
theorem RelV.inj {x y:V} (r:RelV x u) (q:RelV y u):x=y:=Option.some.inj (r.abs.symm.trans q.abs)
theorem Vals.inj:∀{xs ys:List V} {us:List Value},Vals xs us->Vals ys us->xs=ys
 | _,_,_,.nil,.nil=>rfl
 | _,_,_,.cons r t,.cons r' t'=>by rw[r.inj r',Vals.inj t t']
variable {K:Frag}
section
variable {X:Cx} {pins:List (Addr×Obj)} {O:St} {H:Hp} {s:Shared} {a:Addr} {xs ys:List V}
theorem SqL.of (h:H a=some (.lst xs)):SqL K H a xs:=.inl (.inl h)
theorem SqT.of (h:H a=some (.tup xs)):SqT K H a xs:=.inl (.inl h)
theorem Inv.list (I:Inv X pins O H s) (h:SqL X.K H a xs):∃its:List Value,Vals xs its/\PlainL s.heap a its.toArray/\xs.length<=sizeLine:=by
 rcases h with h|⟨o,its,n,hk,hc,hd,hs,hz,r⟩
 ·obtain⟨z,its,n,r,e⟩:=h.ok I.hok;exact⟨its,r,⟨_,n,e,rfl,rfl,rfl⟩,z⟩
 ·refine⟨its.toList,r,⟨o,n,I.kIn a o hk,hc,hd,by simpa using hs⟩,?_⟩;have e:=r.length;simp only[Array.length_toList]at e;omega
theorem Inv.tuple (I:Inv X pins O H s) (h:SqT X.K H a xs):∃its:List Value,Vals xs its/\IsTup s.heap a its.toArray/\xs.length<=sizeLine:=by
 rcases h with h|⟨o,its,n,hk,hc,hs,hz,r⟩
 ·obtain⟨z,its,r,p⟩:=h.ok I.hok;exact⟨its,r,p,z⟩
 ·refine⟨its.toList,r,⟨o,I.kIn a o hk,hc,n,by simpa using hs⟩,?_⟩;have e:=r.length;simp only[Array.length_toList]at e;omega
theorem Inv.list_inj (I:Inv X pins O H s) (h:SqL X.K H a xs) (h':SqL X.K H a ys):xs=ys:=by
 obtain⟨its,r,⟨o,n,e,_,_,d⟩,_⟩:=I.list h;obtain⟨its',r',⟨o',n',e',_,_,d'⟩,_⟩:=I.list h';rw[e]at e';cases e';rw[d]at d';injection d' with d1 _;have:its=its':=by simpa using congrArg Array.toList d1
 subst this;exact r.inj r'
theorem Inv.tuple_inj (I:Inv X pins O H s) (h:SqT X.K H a xs) (h':SqT X.K H a ys):xs=ys:=by
 obtain⟨its,r,⟨o,e,_,n,d⟩,_⟩:=I.tuple h;obtain⟨its',r',⟨o',e',_,n',d'⟩,_⟩:=I.tuple h';rw[e]at e';cases e';rw[d]at d';injection d' with d1 _;have:its=its':=by simpa using congrArg Array.toList d1
 subst this;exact r.inj r'
end
abbrev Cx.wish (X:Cx) (E:Value->Shared->Prop):Cx:={ X with xe:=E }
abbrev Cx.nox (X:Cx):Cx:=X.wish λ_ _=>False
theorem Cx.Ok.wish {X:Cx} (ok:X.Ok) (E:Value->Shared->Prop):(X.wish E).Ok :=
 ⟨ok.mod,ok.kind,ok.glob,ok.blt,ok.above,ok.inj,ok.has,ok.cab,ok.hd,ok.frames,ok.stk,ok.exf,ok.bs,ok.bsz,ok.noex,ok.exfs,ok.funs,ok.frf⟩
theorem Cx.Ok.unwish {X:Cx} {E:Value->Shared->Prop} (ok:(X.wish E).Ok):X.Ok :=
 ⟨ok.mod,ok.kind,ok.glob,ok.blt,ok.above,ok.inj,ok.has,ok.cab,ok.hd,ok.frames,ok.stk,ok.exf,ok.bs,ok.bsz,ok.noex,ok.exfs,ok.funs,ok.frf⟩
section
variable {X:Cx} {pins:List (Addr×Obj)} {O:St} {H:Hp} {s:Shared} {E:Value->Shared->Prop}
theorem Inv.wish (I:Inv X pins O H s) (E:Value->Shared->Prop):Inv (X.wish E) pins O H s:=⟨I.ok.wish E,I.os,I.bare,I.base,I.loc,I.cell,I.free,I.freeC,I.pin,I.hok,I.len⟩
theorem Inv.unwish (I:Inv (X.wish E) pins O H s):Inv X pins O H s:=⟨I.ok.unwish,I.os,I.bare,I.base,I.loc,I.cell,I.free,I.freeC,I.pin,I.hok,I.len⟩
theorem SP.unwish {D:io} {f:Flow} {s':Shared} (h:SP (X.wish E) pins D f s'):SP X pins D f s':=by
 cases f with
 | next=>obtain⟨σ',H',I,q⟩:=h;exact⟨σ',H',I.unwish,q⟩
 | brk=>obtain⟨σ',H',I,q⟩:=h;exact⟨σ',H',I.unwish,q⟩
 | cont=>obtain⟨σ',H',I,q⟩:=h;exact⟨σ',H',I.unwish,q⟩
 | ret u=>obtain⟨v,σ',H',I,r,q⟩:=h;exact⟨v,σ',H',I.unwish,r,q⟩
theorem PSs.nox {st:List Stmt} {t:TS} (h:PSs X.nox st t):PSs X st t:=λpins s O H D I hw =>
 wpAny_mono (h pins s O H D (I.wish _) hw) (λ_ _ q=>q.unwish) λ_ _ z=>False.elim z
end
variable {s:Shared}
section
variable {X:Cx} {st:Stmt} {rest:List Stmt} {t u:TS} {e:Expr} {te:TE} {pos:Pos}
def Bs:TS:=λD O H=>D.nx O H
def w_ (t u:TS):TS:=λD O H=>t { D with nx:=u D } O H
theorem xz:PSs X [] Bs:=λ_ _ O H _ I h=>wpAny_execs_nil ⟨O,H,I,h⟩
theorem gH (h1:PS X st t) (h2:PSs X rest u):PSs X (st::rest) (w_ t u):=by
 intro pins s O H D I h;refine wpAny_execs_cons (thn (h1 pins s O H { D with nx:=u D } I h) λf s1 q=>?_);cases f with
 | next =>
  obtain⟨σ',H',I',q⟩:=q;exact h2 pins s1 σ' H' D I' q
 | ret v=>exact q
 | brk=>exact q
 | cont=>exact q
theorem hZ (h1:PS X st t):PSs X [st] t:=by
 intro pins s O H D I h;refine wpAny_execs_cons (thn (h1 pins s O H D I h) λf s1 q=>?_);cases f with
 | next=>exact wpAny_execs_nil q
 | ret v=>exact q
 | brk=>exact q
 | cont=>exact q
theorem Inv.quiet {pins:List (Addr×Obj)} {O:St} {H:Hp} (I:Inv X pins O H s):interactive X.env=false:=by simp[interactive,I.ok.kind]
def kz (te:TE):TS:=λD O H=>te O H λ_ H1=>D.nx O H1
theorem h7 (he:PE X e te) (hs:swapsWith e none pos.line X.env=pure false:=by rfl):PS X (.Expr e pos) (kz te):=by
 intro pins s O H D I h;exact wpAny_Expr_any (thn (he pins s O H _ I h) λv s1 ⟨x,H1,I1,r1,q1⟩=>⟨O,H1,I1,q1⟩) I.quiet hs
def CB (te:TE):TS:=λD O H=>te O H D.rt
theorem qO (he:PE X e te):PS X (.Return (some e) pos) (CB te):=by
 intro pins s O H D I h;exact wpAny_Return_some (thn (he pins s O H _ I h) λv s1 ⟨x,H1,I1,r1,q1⟩=>⟨x,O,H1,I1,r1,q1⟩)
def CG (c:TT) (t u:TS):TS:=λD O H=>c O H λb H1=>if b=true then t D O H1 else u D O H1
theorem BR {c:Expr} {a b:List Stmt} {tc:TT} (hc:PT X c tc) (ha:PSs X a t) (hb:PSs X b u):PS X (.If c a b pos) (CG tc t u):=by
 intro pins s O H D I h;refine wpAny_If (thn (hc pins s O H _ I h) λd s1 ⟨H1,I1,q1⟩=>?_);cases d with
 | true=>exact ha pins s1 O H1 D I1 q1
 | false=>exact hb pins s1 O H1 D I1 q1
def uR:TS:=λ_ _ _=>False
theorem vg:PS X st uR:=λ_ _ _ _ _ _ h=>h.elim
theorem tW {sts:List Stmt}:PSs X sts uR:=λ_ _ _ _ _ _ h=>h.elim
end
abbrev TG:=V->St->Hp->(St->Hp->Prop)->Prop
abbrev TGs:=List V->St->Hp->(St->Hp->Prop)->Prop
def PG (X:Cx) (target:Expr) (t:TG):Prop :=
 ∀(pins:List (Addr×Obj)) (s:Shared) (O:St) (H:Hp) (v:V) (u:Value) (Q:St->Hp->Prop),Inv X pins O H s->RelV v u->t v O H Q ->
  wpAny (model X.prog X.w) X.A (assign target X.env u) (λ_ s'=>∃σ' H',Inv X pins σ' H' s'/\Q σ' H') X.xe s
def PGs (X:Cx) (ts:List Expr) (t:TGs):Prop :=
 ∀(pins:List (Addr×Obj)) (s:Shared) (O:St) (H:Hp) (vs:List V) (us:List Value) (Q:St->Hp->Prop),Inv X pins O H s->Vals vs us->t vs O H Q ->
  wpAny (model X.prog X.w) X.A (assignInOrder ((assignEach ts X.env).map (·.2)) us) (λ_ s'=>∃σ' H',Inv X pins σ' H' s'/\Q σ' H') X.xe s
abbrev yW:=V->V->V->Hp->(Hp->Prop)->Prop
def Ci (X:Cx) (t:yW):Prop :=
 ∀(pins:List (Addr×Obj)) (s:Shared) (O:St) (H:Hp) (o i v:V) (ov iv u:Value) (Q:Hp->Prop),Inv X pins O H s->RelV o ov->RelV i iv->RelV v u->t o i v H Q ->
  wpAny (model X.prog X.w) X.A (setItem ov iv u) (λ_ s'=>∃H',Inv X pins O H' s'/\Q H') X.xe s
variable {tg:Expr}
section
variable {X:Cx} {pos:Pos}
def gA (i:Nat):TG:=λv O H Q=>Q (O.set i (some v)) H
theorem aE {i:Nat} {x:Str} (hN:X.N.Nodup) (hi:X.N[i]?=some x) (hx:Loc X.env.scope x) (hf:X.fn x=true\/X.env.scope.names.lookup x=some .local:=by first|exact .inl rfl|exact .inr rfl|assumption):PG X (.Name x pos) (gA i):=by
 intro pins s O H v u Q I r h;exact wpAny_assign_Name (kC I hN hi hx r (λs' I'=>⟨_,H,I',h⟩) hf)
def CV:TGs:=λvs O H Q=>vs=[]/\Q O H
def B5 (t:TG) (u:TGs):TGs:=λvs O H Q=>∃v r,vs=v::r/\t v O H λσ' H'=>u r σ' H' Q
theorem xH:PGs X [] CV:=by
 intro pins s O H vs us Q I r h;obtain⟨e,h⟩:=h;subst e;cases r;exact assignInOrder_nil ⟨O,H,I,h⟩
theorem pf {e:Expr} {es:List Expr} {t:TG} {u:TGs} (h1:PG X e t) (h2:PGs X es u)
  (hs:(assignEach (e::es) X.env).map (·.2)=assign e X.env::(assignEach es X.env).map (·.2):=by rfl):PGs X (e::es) (B5 t u):=by
 intro pins s O H vs us Q I r h;obtain⟨v,vr,e1,h⟩:=h;subst e1;cases r with
 | cons r rr =>
  rw[hs];refine assignInOrder_cons (thn (h1 pins s O H _ _ _ I r h) λ_ s1 ⟨O1,H1,I1,q1⟩=>?_);exact h2 pins s1 O1 H1 _ _ Q I1 rr q1
def CT (K:Frag) (n:Nat) (t:TGs):TG:=λv O H Q=>∃a xs,v=.ref a/\SqT K H a xs/\xs.length=n/\t xs O H Q
theorem zV {es:List Expr} {k:Nat} {t:TGs} {n:Nat} (hc:X.calm=true) (h:PGs X es t)
  (hn:(assignEach es X.env).length=n:=by rfl) (hst:(assignEach es X.env).findIdx? (·.1)=none:=by rfl):PG X (.Tuple es k pos) (CT X.K n t):=by
 intro pins s O H v u Q I r hw;obtain⟨a,xs,e1,hq,hl,hw⟩:=hw;subst e1;cases r;obtain⟨its,rv,ht,hz⟩:=I.tuple hq;refine assign_Tuple_tuple (I.ok.hd hc) ht (by simp[hn,<- hl,rv.length]) hst λh' hx=>?_;have I1:Inv X pins O H { s with heap:=h' }:=I.kept (t':=s.toks) λb o e=>hx b o (Nat.ne_of_lt (Heap.lt_size e)) e;exact h pins _ O H xs _ Q I1 (by simpa using rv) hw
def CU (to ti:TE) (t:yW):TG:=λv O H Q=>to O H λo H1=>ti O H1 λi H2=>t o i v H2 λH3=>Q O H3
theorem vp {o i:Expr} {to ti:TE} {t:yW} (ho:PE X o to) (hi:PE X i ti) (hs:Ci X t)
  (ha:∀v,assign (.Subscript o i pos) X.env v=(do
   let ov <- holding [v] (eval o X.env)
   let iv <- holding [v,ov] (eval i X.env)
   standAt pos
   holding [v,ov,iv] (setItem ov iv v)
   release [v,ov,iv] []):=by intro _;rfl):PG X (.Subscript o i pos) (CU to ti t):=by
 intro pins s O H v u Q I r h;rw[ha];refine wpAny_bind (wpAny_holding (thn (ho pins s O H _ I h) λov s1 ⟨x,H1,I1,r1,q1⟩=>?_));refine wpAny_bind (wpAny_holding (thn (hi pins s1 O H1 _ I1 q1) λiv s2 ⟨y,H2,I2,r2,q2⟩=>?_));refine wpAny_bind (wpAny_standAt (wpAny_bind (wpAny_holding (thn (hs pins s2 O H2 x y v ov iv u _ I2 r1 r2 r q2) λ_ s3 ⟨H3,I3,q3⟩=>?_))));exact wpAny_release ⟨O,H3,I3,q3⟩
def qH (te:TE) (g:TG):TS:=λD O H=>te O H λx H1=>g x O H1 D.nx
theorem qP {e:Expr} {te:TE} {g:TG} (he:PE X e te) (hg:PG X tg g) (hs:swapsWithSole [tg] e pos.line X.env=pure false:=by rfl) (hw:swappedStores [tg] e X.env=pure none:=by rfl)
  (h1:(assignEach [tg] X.env).map (·.2)=[assign tg X.env]:=by rfl):PS X (.Assign [tg] e pos) (qH te g):=by
 intro pins s O H D I h;refine wpAny_Assign_stores (thn (he pins s O H _ I h) λv s1 ⟨x,H1,I1,r1,q1⟩=>?_) hs hw;rw[h1];exact thn (hg pins s1 O H1 x v _ I1 r1 q1) λ_ s2 q=>q
theorem kO {i:Nat} {x:Str} {e:Expr} {te:TE} {pos':Pos} (hN:X.N.Nodup) (hi:X.N[i]?=some x) (hx:Loc X.env.scope x) (he:PE X e te) (hs:swapsWith e (some (.Name x pos')) pos.line X.env=pure false:=by rfl) (hf:X.fn x=true\/X.env.scope.names.lookup x=some .local:=by first|exact .inl rfl|exact .inr rfl|assumption) :
  PS X (.Assign [.Name x pos'] e pos) (qH te (gA i)):=by
 intro pins s O H D I h;refine wpAny_Assign_Name (thn (he pins s O H _ I h) λv s1 ⟨y,H1,I1,r1,q1⟩=>?_) hs;exact kC I1 hN hi hx r1 (λs2 I2=>⟨_,H1,I2,q1⟩) hf
end
section
variable {X:Cx} {pos:Pos}
def zq (c:TT) (tb:TS):TS:=λD O H=>∃W:Nat->St->Hp->Prop,(∃m,W m O H)/\∀m O H,W m O H ->
 c O H λb H1=>if b=true then ∃N:St->Hp->Prop,(∀σ' H',N σ' H'->∃m',m'<m/\W m' σ' H')/\tb { D with nx:=N,ct:=N,bk:=D.nx } O H1 else D.nx O H1
theorem vd {c:Expr} {body:List Stmt} {tc:TT} {tb:TS} (hp:PassesOwn (model X.prog X.w) X.A X.env X.xe) (hc:PT X c tc) (hb:PSs X body tb):PS X (.While c body [] pos) (zq tc tb):=by
 intro pins s O H D I h;obtain⟨W,⟨m0,w0⟩,iD⟩:=h;refine wpAny_While (codeAny_whileLoop (λn s'=>∃σ' H',Inv X pins σ' H' s'/\W n σ' H') ?_ m0 ⟨O,H,I,w0⟩);rintro n s1 ⟨O1,H1,I1,w1⟩;refine wpAny_passesOwn hp (thn (hc pins s1 O1 H1 _ I1 (iD n O1 H1 w1)) λb s2 ⟨H2,I2,q2⟩=>?_);cases b with
 | true =>
  obtain⟨N,hN,q2⟩:=q2;rw[if_pos rfl];refine wpAny_passesOwn hp (thn (hb pins s2 O1 H2 _ I2 q2) λf s3 q3=>?_);cases f with
  | next =>
   obtain⟨O3,H3,I3,n3⟩:=q3;obtain⟨m',hm,w3⟩:=hN O3 H3 n3;exact⟨m',hm,O3,H3,I3,w3⟩
  | cont =>
   obtain⟨O3,H3,I3,n3⟩:=q3;obtain⟨m',hm,w3⟩:=hN O3 H3 n3;exact⟨m',hm,O3,H3,I3,w3⟩
  | brk=>exact q3
  | ret v=>exact q3
 | false =>
  rw[if_neg Bool.false_ne_true];exact wpAny_execs_nil ⟨O1,H2,I2,q2⟩
end
structure It where
 go:Nat->Hp->Prop
 yld:Nat->Hp->V->Hp->Prop
 stop:Nat->Hp->Prop
def jI (X:Cx) (pins:List (Addr×Obj)) (H:Hp) (b:Addr):Prop :=
 H b=none/\b≠X.env.locals/\b∉X.fs/\(b∈X.ex\/X.s₀.heap.objs.size<=b)/\(∀x c,X.env.cells.lookup x=some c->c≠b)/\∀p∈X.pn++pins,p.1≠b
theorem Inv.fpOk {X:Cx} {pins:List (Addr×Obj)} {O:St} {H H':Hp} {b:Addr} (I:Inv X pins O H s) (hb:s.heap.objs.size<=b) (hn:H' b=none):jI X pins H' b:=by
 refine⟨hn,Nat.ne_of_gt (Nat.lt_of_lt_of_le I.lt hb),I.nofs hb,.inr (Nat.le_trans I.sz hb),λx c e z=>?_,λp hp z=>?_⟩
 ·obtain⟨v,q⟩:=I.cell x c e;exact absurd (Nat.lt_of_lt_of_le q.lt (by rw[z];exact hb)) (Nat.lt_irrefl _)
 ·exact absurd (Nat.lt_of_lt_of_le (Heap.lt_size (I.pin p hp).1) (by rw[z];exact hb)) (Nat.lt_irrefl _)
structure qy (P:Program) (w:World) (K:Frag) (tg:Expr) (J:It) (fp:List Addr) (it:Addr) (tn:Nat->Heap->Prop):Prop where
 mem:it∈fp
 obj:∀i h,tn i h->∀b∈fp,∃o,h.get? b=some o/\∀v,o.data ≠ .cell v
 keep:∀i h h',tn i h->(∀b∈fp,∀o,h.get? b=some o->h'.get? b=some o)->tn i h'
 item:∀(X:Cx),X.prog=P->X.w=w->X.K=K->X.calm=true->∀(i:Nat) (pins:List (Addr×Obj)) (s:Shared) (O:St) (H:Hp) (E:Value->Shared->Prop),Inv X pins O H s->(∀b∈fp,jI X pins H b)->tn i s.heap->J.go i H ->
  wpAny (model P w) X.A (pyNext (.ref it)) (λr s1=>∃u,r=some u /\
   wpAny (model P w) X.A (letOwnedTupleGo tg (.ref it) u) (λ_ s2=>∃x H',Inv X pins O H' s2/\RelV x u/\J.yld i H x H'/\tn (i+1) s2.heap/\∀b∈fp,H' b=none) E s1) E s
 done:∀(X:Cx),X.prog=P->X.w=w->X.K=K->X.calm=true->∀(i:Nat) (pins:List (Addr×Obj)) (s:Shared) (O:St) (H:Hp) (E:Value->Shared->Prop),Inv X pins O H s->(∀b∈fp,jI X pins H b)->tn i s.heap->J.stop i H ->
  wpAny (model P w) X.A (pyNext (.ref it)) (λr s1=>r=none/\Inv X pins O H s1) E s
 self:∀(A:Around) (i:Nat) (s:Shared) (Q:Value->Shared->Prop) (E:Value->Shared->Prop),tn i s.heap->Q (.ref it) s->wpAny (model P w) A (pyIter (.ref it)) Q E s
abbrev TI:=St->Hp->(It->Hp->Prop)->Prop
def PIE (X:Cx) (pins:List (Addr×Obj)) (O:St) (tg:Expr) (R:It->Hp->Prop) (itv:Value) (s2:Shared):Prop :=
 ∃(it:Addr) (fp:List Addr) (tn:Nat->Heap->Prop) (J:It) (H':Hp),itv=.ref it/\Inv X pins O H' s2/\qy X.prog X.w X.K tg J fp it tn/\tn 0 s2.heap/\(∀b∈fp,jI X pins H' b)/\R J H'
def PI (X:Cx) (tg iter:Expr) (wi:TI):Prop :=
 ∀(pins:List (Addr×Obj)) (s:Shared) (O:St) (H:Hp) (R:It->Hp->Prop),Inv X pins O H s->wi O H R ->
  wpAny (model X.prog X.w) X.A (eval iter X.env) (λv s1=>wpAny (model X.prog X.w) X.A (pyIter v) (PIE X pins O tg R) X.xe s1) X.xe s
theorem vY {M:Model} {A:Around} {E:Value->Shared->Prop} {it:Addr} {o:Obj} {n:String} {vs:Array Value} {Q:Unit->Shared->Prop} (ho:s.heap.get? it=some o) (hc:o.cls=.type n) (hd:o.data=.fields vs)
    (hn:["enumerate","zip","dict_itemiterator","dict_reverseitemiterator","odict_iterator","itertools.zip_longest","itertools.pairwise"].contains n=false) (hQ:Q () s):wpAny M A (letOwnedTupleGo tg (.ref it) u) Q E s:=by
  unfold letOwnedTupleGo;cases tg<;>first
    | exact wpAny_pure hQ
    | (cases u<;>first
        | exact wpAny_pure hQ
        | (refine wpAny_bind (wpAny_load ho ?_)
           rw[hc,hd];show wpAny M A (if(["enumerate","zip","dict_itemiterator","dict_reverseitemiterator","odict_iterator","itertools.zip_longest","itertools.pairwise"].contains n&&vs[0]?==some (rawInt _))=true then _ else _) Q E s;rw[if_neg (by intro h;rw[hn,Bool.false_and]at h;cases h)];exact wpAny_pure hQ))
def Itl (K:Frag) (a:Addr):It :=
 ⟨λi H=>∃xs x,SqL K H a xs/\xs[i]?=some x,λi H x H'=>H'=H/\∀xs,SqL K H a xs->xs[i]?=some x,λi H=>∃xs,SqL K H a xs/\xs.length<=i⟩
def Itt (K:Frag) (a:Addr):It :=
 ⟨λi H=>∃xs x,SqT K H a xs/\xs[i]?=some x,λi H x H'=>H'=H/\∀xs,SqT K H a xs->xs[i]?=some x,λi H=>∃xs,SqT K H a xs/\xs.length<=i⟩
def Itr (lo:Int) (n:Nat):It:=⟨λi _=>i<n,λi H x H'=>H'=H/\x=.int (lo+i),λi _=>n<=i⟩
variable {P:Program} {w:World}
theorem mR (a it:Addr):qy P w K tg (Itl K a) [it] it (λi h=>h.IsListIter it a i) where
 mem:=by simp
 obj:=λi h st b hb=>by
  have e:b=it:=by simpa using hb
  subst e;obtain⟨o,e,c,d⟩:=st;exact⟨o,e,λv z=>by rw[d]at z;cases z⟩
 keep:=λi h h' st k=>st.at λo e=>k it (by simp) o e
 item:=by
  intro X hP hw hK hc i pins s O H E I hf st hg;subst hP hw hK;obtain⟨xs,x,hq,hx⟩:=hg;obtain⟨its,rv,p,hz⟩:=I.list hq;obtain⟨u,hu,ru⟩:=rv.get hx;obtain⟨f0,f1,f2,f3,f4,f5⟩:=hf it (by simp);refine wpAny_pyNext_list_item st p.isList (x:=u) (by simpa using hu) λh' st' sb=>?_;have I1:Inv X pins O H { s with heap:=h' }:=I.turned (t':=s.toks) (λb o hb e=>(sb.2 b hb).trans e) f0 f1 f3 f4 f5;obtain⟨o,e,c,d⟩:=id st';exact⟨u,rfl,vY (s:={ s with heap:=h' }) e c d (by decide) ⟨x,H,I1,ru,⟨rfl,λys hy=>by rw[I.list_inj hy hq];exact hx⟩,st',λb hb=>(hf b hb).1⟩⟩
 done:=by
  intro X hP hw hK hc i pins s O H E I hf st hg;subst hP hw hK;obtain⟨xs,hq,hx⟩:=hg;obtain⟨its,rv,p,hz⟩:=I.list hq;obtain⟨f0,f1,f2,f3,f4,f5⟩:=hf it (by simp);have hl:=rv.length;exact wpAny_pyNext_list_end (I.ok.hd hc) st p.isList (by simp;omega) λh' eb=>⟨rfl,I.turned (t':=s.toks) (λb o hb e=>eb b o hb e) f0 f1 f3 f4 f5⟩
 self:=λ_ _ _ _ _ st h=>wpAny_pyIter_listiter st h
theorem qC (a it:Addr):qy P w K tg (Itt K a) [it] it (λi h=>h.IsTupleIter it a i) where
 mem:=by simp
 obj:=λi h st b hb=>by
  have e:b=it:=by simpa using hb
  subst e;obtain⟨o,e,c,d⟩:=st;exact⟨o,e,λv z=>by rw[d]at z;cases z⟩
 keep:=λi h h' st k=>st.at λo e=>k it (by simp) o e
 item:=by
  intro X hP hw hK hc i pins s O H E I hf st hg;subst hP hw hK;obtain⟨xs,x,hq,hx⟩:=hg;obtain⟨its,rv,p,hz⟩:=I.tuple hq;obtain⟨u,hu,ru⟩:=rv.get hx;obtain⟨f0,f1,f2,f3,f4,f5⟩:=hf it (by simp);refine wpAny_pyNext_tuple_item st (show s.heap.IsTuple a its.toArray from p) (x:=u) (by simpa using hu) λh' st' sb=>?_;have I1:Inv X pins O H { s with heap:=h' }:=I.turned (t':=s.toks) (λb o hb e=>(sb.2 b hb).trans e) f0 f1 f3 f4 f5;obtain⟨o,e,c,d⟩:=id st';exact⟨u,rfl,vY (s:={ s with heap:=h' }) e c d (by decide) ⟨x,H,I1,ru,⟨rfl,λys hy=>by rw[I.tuple_inj hy hq];exact hx⟩,st',λb hb=>(hf b hb).1⟩⟩
 done:=by
  intro X hP hw hK hc i pins s O H E I hf st hg;subst hP hw hK;obtain⟨xs,hq,hx⟩:=hg;obtain⟨its,rv,p,hz⟩:=I.tuple hq;obtain⟨f0,f1,f2,f3,f4,f5⟩:=hf it (by simp);have hl:=rv.length;exact wpAny_pyNext_tuple_end (I.ok.hd hc) st (show s.heap.IsTuple a its.toArray from p) (by simp;omega) λh' eb=>⟨rfl,I.turned (t':=s.toks) (λb o hb e=>eb b o hb e) f0 f1 f3 f4 f5⟩
 self:=λ_ _ _ _ _ st h=>wpAny_pyIter_tupleiter st h
theorem qD (it:Addr) (lo:Int) (n:Nat):qy P w K tg (Itr lo n) [it] it (λi h=>IsRangeIter h it (lo+(i:Nat)*1) ((n:Int)-(i:Nat)) 1) where
 mem:=by simp
 obj:=λi h st b hb=>by
  have e:b=it:=by simpa using hb
  subst e;exact⟨_,st,λv z=>by
   have z':Data.fields _=Data.cell v:=z;cases z'⟩
 keep:=λi h h' st k=>k it (by simp) _ st
 item:=by
  intro X hP hw hK hc i pins s O H E I hf st hg;subst hP hw hK;obtain⟨f0,f1,f2,f3,f4,f5⟩:=hf it (by simp);have W:=Walks.range (prog:=X.prog) (w:=X.w) (I.ok.hd hc) it lo 1 n;refine W.item i s _ _ hg st λv h' tk hv st' kk=>?_;obtain⟨t,rfl⟩:=hv;have I1:Inv X pins O H { s with heap:=h',toks:=tk }:=I.turned (λb o hb e=>kk b o (by simpa using hb) e) f0 f1 f3 f4 f5;refine⟨_,rfl,vY (s:={ s with heap:=h',toks:=tk }) (n:="range_iterator") st' rfl rfl (by decide) ⟨.int (lo+i),H,I1,⟨t,?_⟩,⟨rfl,rfl⟩,st',λb hb=>(hf b hb).1⟩⟩;rw[Int.mul_one]
 done:=by
  intro X hP hw hK hc i pins s O H E I hf st hg;subst hP hw hK;obtain⟨f0,f1,f2,f3,f4,f5⟩:=hf it (by simp);exact wpAny_pyNext_range_end (I.ok.hd hc) st (by have:n<=i:=hg;omega) λh' eb=>⟨rfl,I.turned (t':=s.toks) (λb o hb e=>eb b o hb e) f0 f1 f3 f4 f5⟩
 self:=λ_ _ _ _ _ st h=>wpAny_pyIter_rangeiter st h
end L2
namespace L2
open PySem PySem.Spec PyProof.Rows
variable {pins:List (Addr×Obj)} {O:St} {H:Hp} {s:Shared} {fp:List Addr}
section
variable {X:Cx} {tg:Expr}
def B3 (K:Frag) (tl:TE):TI:=λO H R=>tl O H λx H1=>∃a,x=.ref a/\(∃xs,SqL K H1 a xs)/\R (Itl K a) H1
theorem xF {l:Expr} {tl:TE} (hl:PE X l tl):PI X tg l (B3 X.K tl):=by
 intro pins s O H R I h;refine thn (hl pins s O H _ I h) λv s1 ⟨x,H1,I1,r1,q1⟩=>?_;obtain⟨a,e,⟨xs,hq⟩,q⟩:=q1;subst e;cases r1;obtain⟨its,rv,p,hz⟩:=I1.list hq;refine wpAny_pyIter_list p.isList ?_;refine⟨s1.heap.objs.size,[s1.heap.objs.size],_,_,H1,rfl,I1.kept (t':=s1.toks) λb o e=>Heap.get?_push_of_some _ e,mR a _,⟨_,Heap.get?_push_size _ rfl,rfl,rfl⟩,λb hb=>?_,q⟩;have e:b=s1.heap.objs.size:=by simpa using hb
 subst e;exact I1.fpOk (Nat.le_refl _) (I1.hok.fresh (Nat.le_refl _))
theorem u6 {R:It->Hp->Prop} {E:Value->Shared->Prop} {lo hi:Int} {t u v:Tok} {tk:Nat} (I:Inv X pins O H s) (h1:-(2 ^ 62)<=lo) (h2:lo<2 ^ 62) (h3:-(2 ^ 62)<=hi) (h4:hi<2 ^ 62)
  (q:R (Itr lo (hi-lo).toNat) H):wpAny (model X.prog X.w) X.A (pyIter (.ref s.heap.objs.size)) (PIE X pins O tg R) E { s with heap:=s.heap.push { cls:=.type "range",data:=.fields #[.int lo t,.int hi u,.int 1 v] },toks:=tk }:=by
 refine wpAny_pyIter_range (IsRange.new ..) (small_one h1 h2 h3 h4) ?_;have I1:Inv X pins O H { s with heap:=s.heap.push { cls:=.type "range",data:=.fields #[.int lo t,.int hi u,.int 1 v] },toks:=tk }:=I.kept λb o e=>Heap.get?_push_of_some _ e;refine⟨(s.heap.push { cls:=.type "range",data:=.fields #[.int lo t,.int hi u,.int 1 v] }).objs.size,[(s.heap.push { cls:=.type "range",data:=.fields #[.int lo t,.int hi u,.int 1 v] }).objs.size],_,_,H,rfl,
  I1.kept (t':=tk) λb o e=>Heap.get?_push_of_some _ e,qD _ lo (hi-lo).toNat,?_,λb hb=>?_,q⟩
 ·have e1:lo+((0:Nat):Int)*1=lo:=by simp
  have e2:(((hi-lo).toNat:Nat):Int)-((0:Nat):Int)=Builtin.Range.rangeSize lo hi 1:=by rw[rangeSize_one];split<;>omega
  show IsRangeIter _ _ (lo+((0:Nat):Int)*1) ((((hi-lo).toNat:Nat):Int)-((0:Nat):Int)) 1;rw[e1,e2];exact Heap.get?_push_size _ rfl
 ·have e:b=(s.heap.push { cls:=.type "range",data:=.fields #[.int lo t,.int hi u,.int 1 v] }).objs.size:=by simpa using hb
  subst e;exact I1.fpOk (Nat.le_refl _) (I1.hok.fresh (Nat.le_refl _))
def B2 (ta:TA):TI:=λO H R=>ta O H λvs H1=>∃j:Int,vs=[.int j]/\-(2 ^ 62)<=j/\j<2 ^ 62/\R (Itr 0 j.toNat) H1
theorem tY {a:Expr} {ta:TA} {p pos:Pos} (hg:Gl X "range") (hm:X.mg "range"=none) (ha:PA X [a] ta) (hs:starEach [a] X.env=[(false,eval a X.env)]:=by rfl):PI X tg (.Call (.Name "range" p) [a] [] pos) (B2 ta):=by
 intro pins s O H R I h;refine Call_ (gL I hg hm boot_range (PyProof.Rows.callWith_type1 (thn (ha pos pins s O H _ I h) λus s1 ⟨vs,H1,I1,r1,q1⟩=>?_) hs rfl));obtain⟨j,e,q1,q2,q⟩:=q1;subst e;cases r1 with
 | cons r rr =>
  cases rr;obtain⟨t,rfl⟩:=r;exact call_range_1 (u6 I1 (by omega) (by omega) q1 q2 (by simpa using q))
def Bu (wi:TI) (g:TG) (tb:TS):TS:=λD O H=>wi O H λJ H1=>∃W:Nat->Nat->St->Hp->Prop,(∃m,W 0 m O H1)/\∀i m O H,W i m O H ->
 (J.stop i H/\D.nx O H)\/(J.go i H/\∃N:St->Hp->Prop,(∀σ' H',N σ' H'->∃m',m'<m/\W (i+1) m' σ' H')/\∀x H',J.yld i H x H'->g x O H' λO2 H2=>tb { D with nx:=N,ct:=N,bk:=D.nx } O2 H2)
def cc (fp:List Addr) (h:Heap):List (Addr×Obj):=fp.filterMap λb=>(h.get? b).map λo=>(b,o)
theorem eO {h:Heap} {b:Addr} {o:Obj} (hb:b∈fp) (e:h.get? b=some o):(b,o)∈cc fp h:=List.mem_filterMap.mpr ⟨b,hb,by rw[e];rfl⟩
theorem h_ {h:Heap} {p:Addr×Obj} (hp:p∈cc fp h):p.1∈fp/\h.get? p.1=some p.2:=by
 obtain⟨b,hb,e⟩:=List.mem_filterMap.mp hp;cases q:h.get? b with
 | none=>rw[q]at e;cases e
 | some o =>
  rw[q]at e;have e':(b,o)=p:=Option.some.inj e;subst e';exact⟨hb,q⟩
theorem Inv.pinned (I:Inv X pins O H s) (hf:∀b∈fp,jI X pins H b) (ho:∀b∈fp,∃o,s.heap.get? b=some o/\∀v,o.data ≠ .cell v):Inv X (pins++cc fp s.heap) O H s :=
 I.pins_of λp hp=>(List.mem_append.mp hp).elim (λz=>I.pin p (List.mem_append_right _ z)) λz=>by
  obtain⟨hb,e⟩:=h_ z;obtain⟨f0,f1,f2,_⟩:=hf p.1 hb;obtain⟨o,e',d⟩:=ho p.1 hb;rw[e]at e';cases e';exact⟨e,f0,f1,f2,d⟩
theorem Inv.unpinned {pl:List (Addr×Obj)} (I:Inv X (pins++pl) O H s):Inv X pins O H s:=I.pins_of λp hp=>I.pin p (List.mem_append_right _ (List.mem_append_left _ hp))
theorem vh {iter:Expr} {body:List Stmt} {wi:TI} {g:TG} {tb:TS} {pos:Pos} (hp:PassesOwn (model X.prog X.w) X.A X.env X.xe) (hc:X.calm=true) (hi:PI X tg iter wi) (hg:PG X tg g) (hb:PSs X body tb)
  (hs:∀x,foldedSetIterable iter X.env x=pure x:=by intro _;rfl):PS X (.For tg iter body [] pos) (Bu wi g tb):=by
 intro pins s O H D I h;refine wpAny_For (thn (hi pins s O H _ I h) λv s1 h1=>thn h1 λitv s2 h2=>?_) hs;obtain⟨it,fp,tn,J,H2,e,I2,T,st2,f2,W,⟨m0,w0⟩,iD⟩:=h2;subst e;have stat:∀{H':Hp},(∀b∈fp,H' b=none)->∀b∈fp,jI X pins H' b:=λhn b hb=>⟨hn b hb,(f2 b hb).2⟩;refine codeAny_forLoop_any (λn s'=>∃i σ' H',Inv X pins σ' H' s'/\tn i s'.heap/\(∀b∈fp,H' b=none)/\W i n σ' H') ?_ m0 ⟨0,O,H2,I2,st2,λb hb=>(f2 b hb).1,w0⟩;rintro n s3 ⟨i,O3,H3,I3,st3,fr3,w3⟩;rcases iD i n O3 H3 w3 with⟨stop,qn⟩|⟨go,N,hN,step⟩
 ·refine wpAny_passesOwn hp (thn (T.done X rfl rfl rfl hc i pins s3 O3 H3 X.xe I3 (stat fr3) st3 stop) λr s4 ⟨hr,I4⟩=>?_);subst hr;exact wpAny_execs_nil ⟨O3,H3,I4,qn⟩
 ·refine wpAny_passesOwn hp (thn (T.item X rfl rfl rfl hc i pins s3 O3 H3 X.xe I3 (stat fr3) st3 go) λr s4 ⟨u,hr,h4⟩=>?_);subst hr;refine wpAny_passesOwn hp (thn h4 λ_ s5 ⟨x,H5,I5,r5,y5,st5,fr5⟩=>?_);have I5':=I5.pinned (stat fr5) (T.obj _ _ st5);refine wpAny_passesOwn hp (thn (hg _ s5 O3 H5 x u _ I5' r5 (step x H5 y5)) λ_ s6 ⟨O6,H6,I6,q6⟩=>?_);refine wpAny_passesOwn hp (thn (hb _ s6 O6 H6 _ I6 q6) λf s7 q7=>?_);have again:∀{O7:St} {H7:Hp},Inv X (pins++cc fp s5.heap) O7 H7 s7->N O7 H7->∃m,m<n/\∃i σ' H',Inv X pins σ' H' s7/\tn i s7.heap/\(∀b∈fp,H' b=none)/\W i m σ' H':=λ{O7 H7} I7 n7=>by
   obtain⟨m',hm,w7⟩:=hN O7 H7 n7;refine⟨m',hm,i+1,O7,H7,I7.unpinned,T.keep _ _ _ st5 λb hb o e=>(I7.pin (b,o) (List.mem_append_right _ (List.mem_append_right _ (eO hb e)))).1,λb hb=>?_,w7⟩;obtain⟨o,e,d⟩:=T.obj _ _ st5 b hb;exact(I7.pin (b,o) (List.mem_append_right _ (List.mem_append_right _ (eO hb e)))).2.1
  cases f with
  | next=>obtain⟨O7,H7,I7,n7⟩:=q7;exact again I7 n7
  | cont=>obtain⟨O7,H7,I7,n7⟩:=q7;exact again I7 n7
  | brk=>obtain⟨O7,H7,I7,q7⟩:=q7;exact⟨O7,H7,I7.unpinned,q7⟩
  | ret v=>obtain⟨x7,O7,H7,I7,r7,q7⟩:=q7;exact⟨x7,O7,H7,I7.unpinned,r7,q7⟩
end
theorem v6 {K:Frag} {a:Addr} {xs:List V} {g:TG} {tb:TS} {D:io} (Pv:Nat->St->Hp->Prop) (h0:Pv 0 O H) (hl:∀i O H,i<=xs.length->Pv i O H->SqL K H a xs)
  (hs:∀i x O H,xs[i]?=some x->Pv i O H->g x O H λO2 H2=>tb { D with nx:=Pv (i+1),ct:=Pv (i+1),bk:=D.nx } O2 H2) (hd:∀O H,Pv xs.length O H->D.nx O H) :
  ∃W:Nat->Nat->St->Hp->Prop,(∃m,W 0 m O H)/\∀i m O H,W i m O H ->
   ((Itl K a).stop i H/\D.nx O H)\/((Itl K a).go i H/\∃N:St->Hp->Prop,(∀σ' H',N σ' H'->∃m',m'<m/\W (i+1) m' σ' H')/\∀x H',(Itl K a).yld i H x H'->g x O H' λO2 H2=>tb { D with nx:=N,ct:=N,bk:=D.nx } O2 H2):=by
 refine⟨λi m O H=>m=xs.length-i/\i<=xs.length/\Pv i O H,⟨xs.length,by simp,Nat.zero_le _,h0⟩,?_⟩;rintro i m O H ⟨rfl,hi,p⟩;have q:=hl i O H hi p;by_cases hlt:i<xs.length
 ·refine .inr ⟨⟨xs,xs[i],q,by simp[hlt]⟩,Pv (i+1),λσ' H' p'=>⟨xs.length-(i+1),by omega,rfl,hlt,p'⟩,λx H' y=>?_⟩;obtain⟨e,y⟩:=y;subst e;exact hs i x O _ (y xs q) p
 ·have e:i=xs.length:=by omega
  subst e;exact .inl ⟨⟨xs,q,Nat.le_refl _⟩,hd O H p⟩
end L2
namespace L2
open PySem PySem.Spec PyProof.Rows
abbrev R2:=V->V->Hp->VK->Prop
def OpR (X:Cx) (f:Value->Value->Sem Value) (r:R2):Prop :=
 ∀(pins:List (Addr×Obj)) (s:Shared) (O:St) (H:Hp) (x y:V) (v u:Value) (Q:VK),Inv X pins O H s->RelV x v->RelV y u->r x y H Q ->
  wpAny (model X.prog X.w) X.A (f v u) (EP X pins O Q) X.xe s
def UnR (X:Cx) (f:Value->Sem Value) (r:V->Hp->VK->Prop):Prop :=
 ∀(pins:List (Addr×Obj)) (s:Shared) (O:St) (H:Hp) (x:V) (v:Value) (Q:VK),Inv X pins O H s->RelV x v->r x H Q ->
  wpAny (model X.prog X.w) X.A (f v) (EP X pins O Q) X.xe s
def iC (X:Cx) (f:Value) (r:List V->Hp->VK->Prop):Prop :=
 ∀(pins:List (Addr×Obj)) (s:Shared) (O:St) (H:Hp) (xs:List V) (us:List Value) (Q:VK),Inv X pins O H s->Vals xs us->r xs H Q ->
  wpAny (model X.prog X.w) X.A (call f us) (EP X pins O Q) X.xe s
def tOp (r:R2) (ta tb:TE):TE:=λO H Q=>ta O H λx H1=>tb O H1 λy H2=>r x y H2 Q
def tUn (r:V->Hp->VK->Prop) (ta:TE):TE:=λO H Q=>ta O H λx H1=>r x H1 Q
def rI (C:Int->Int->Prop) (g:Int->Int->V):R2:=λx y H Q=>∃i j,x=.int i/\y=.int j/\C i j/\Q (g i j) H
def rI0 (g:Int->Int->V):R2:=λx y H Q=>∃i j,x=.int i/\y=.int j/\Q (g i j) H
def rU (g:Int->V):V->Hp->VK->Prop:=λx H Q=>∃i,x=.int i/\Q (g i) H
variable {f:Value->Value->Sem Value} {r:R2}
section
variable {X:Cx} {a b c:Expr} {ta tb tc:TE} {pos:Pos}
theorem Bh (ha:PE X a ta) (hb:PE X b tb) {pins:List (Addr×Obj)} {s:Shared} {O:St} {H:Hp} {R:V->V->Hp->Prop} (I:Inv X pins O H s)
  (h:ta O H λx H1=>tb O H1 λy H2=>R x y H2) {Q:Value->Shared->Prop}
  (hf:∀v u s2 x y H2,Inv X pins O H2 s2->RelV x v->RelV y u->R x y H2->wpAny (model X.prog X.w) X.A (f v u) Q X.xe s2) :
  wpAny (model X.prog X.w) X.A (eval a X.env) (λv s₁=>wpAny (model X.prog X.w) X.A (eval b X.env) (λu s₂=>wpAny (model X.prog X.w) X.A (f v u) Q X.xe s₂) X.xe s₁) X.xe s:=by
 refine thn (ha pins s O H _ I h) λv s1 ⟨x,H1,I1,r1,q1⟩=>?_;refine thn (hb pins s1 O H1 _ I1 q1) λu s2 ⟨y,H2,I2,r2,q2⟩=>?_;exact hf v u s2 x y H2 I2 r1 r2 q2
theorem BU {op:Operator} (ho:OpR X (binaryOp op) r) (ha:PE X a ta) (hb:PE X b tb):PE X (.BinOp a op b pos) (tOp r ta tb):=by
 intro pins s O H Q I h;exact wpAny_BinOp (Bh ha hb I h λv u s2 x y H2 I2 rx ry q=>ho pins s2 O H2 x y v u Q I2 rx ry q)
theorem BT {op:UnaryOp} {r:V->Hp->VK->Prop} (ho:UnR X (unaryOp op) r) (ha:PE X a ta):PE X (.UnaryOp op a pos) (tUn r ta):=by
 intro pins s O H Q I h;exact UnaryOp_ (thn (ha pins s O H _ I h) λv s1 ⟨x,H1,I1,r1,q1⟩=>ho pins s1 O H1 x v Q I1 r1 q1)
theorem opI {C:Int->Int->Prop} {g:Int->Int->Int}
  (rule:∀(i j:Int) (t u:Tok) (s:Shared) (Q:Value->Shared->Prop) (E:Value->Shared->Prop),C i j->Q (.int (g i j) s.toks) { s with toks:=s.toks+1 }->wpAny (model X.prog X.w) X.A (f (.int i t) (.int j u)) Q E s) :
  OpR X f (rI C λi j=>.int (g i j)):=by
 intro pins s O H x y v u Q I rx ry h;obtain⟨i,j,rfl,rfl,hc,q⟩:=h;obtain⟨t,rfl⟩:=rx;obtain⟨t',rfl⟩:=ry;exact rule i j t t' s _ _ hc ⟨.int (g i j),H,I.tok _,⟨_,rfl⟩,q⟩
theorem CQ {g:Int->Int->Int}
  (rule:∀(i j:Int) (t u:Tok) (s:Shared) (Q:Value->Shared->Prop) (E:Value->Shared->Prop),Q (.int (g i j) s.toks) { s with toks:=s.toks+1 }->wpAny (model X.prog X.w) X.A (f (.int i t) (.int j u)) Q E s) :
  OpR X f (rI0 λi j=>.int (g i j)):=by
 intro pins s O H x y v u Q I rx ry h;obtain⟨i,j,rfl,rfl,q⟩:=h;obtain⟨t,rfl⟩:=rx;obtain⟨t',rfl⟩:=ry;exact rule i j t t' s _ _ ⟨.int (g i j),H,I.tok _,⟨_,rfl⟩,q⟩
theorem Af {g:Int->Int->Bool}
  (rule:∀(i j:Int) (t u:Tok) (s:Shared) (Q:Value->Shared->Prop) (E:Value->Shared->Prop),Q (.bool (g i j)) s->wpAny (model X.prog X.w) X.A (f (.int i t) (.int j u)) Q E s) :
  OpR X f (rI0 λi j=>.bl (g i j)):=by
 intro pins s O H x y v u Q I rx ry h;obtain⟨i,j,rfl,rfl,q⟩:=h;obtain⟨t,rfl⟩:=rx;obtain⟨t',rfl⟩:=ry;exact rule i j t t' s _ _ ⟨.bl (g i j),H,I,rfl,q⟩
def Cn (i j:Int):Prop:=0<j/\j<1073741824
def Cm (i j:Int):Prop:=0<=j/\j<=1000000/\i.natAbs<2 ^ 64
def CMul (i j:Int):Prop:=(-(2 ^ 64)<i/\i<2 ^ 64)\/(-(2 ^ 64)<j/\j<2 ^ 64)
theorem CMul.ok {i j:Int} (h:CMul i j):IntMulOk i j:=by
 rcases h with⟨h1,h2⟩|⟨h1,h2⟩
 ·exact .of_left (intBits_le_64 h1 h2)
 ·exact .of_right (intBits_le_64 h1 h2)
theorem op_add:OpR X (binaryOp .Add) (rI0 λi j=>.int (i+j)):=CQ λ_ _ _ _ _ _ _ q=>add_int q
theorem Ac:OpR X (binaryOp .Mult) (rI CMul λi j=>.int (i*j)):=opI λ_ _ _ _ _ _ _ hc q=>mul_int q hc.ok
theorem xU:OpR X (binaryOp .FloorDiv) (rI Cn λi j=>.int (i/j)):=opI λi j _ _ _ _ _ hc q=>by
 have h1:(0:Int)<j:=hc.1;have h2:j<1073741824:=hc.2;exact floordiv_int (by omega) (by rw[Int.fdiv_eq_ediv_of_nonneg i (by omega)];exact q) (.inl (PyProof.noPylong_small (by omega)))
theorem Ad:OpR X (binaryOp .Mod) (rI (λ_ j=>0<j) λi j=>.int (i%j)):=opI λi j _ _ _ _ _ hc q=>by
 have h1:(0:Int)<j:=hc;exact mod_int' (by omega) (by rw[Int.fmod_eq_emod_of_nonneg i (by omega)];exact q)
theorem Aa:OpR X (binaryOp .Pow) (rI Cm λi j=>.int (i ^ j.toNat)):=opI λ_ _ _ _ _ _ _ hc q=>pow_int_small hc.1 hc.2.1 hc.2.2 q
theorem unI {f:Value->Sem Value} {g:Int->Int}
  (rule:∀(i:Int) (t:Tok) (s:Shared) (Q:Value->Shared->Prop) (E:Value->Shared->Prop),Q (.int (g i) s.toks) { s with toks:=s.toks+1 }->wpAny (model X.prog X.w) X.A (f (.int i t)) Q E s) :
  UnR X f (rU λi=>.int (g i)):=by
 intro pins s O H x v Q I rx h;obtain⟨i,rfl,q⟩:=h;obtain⟨t,rfl⟩:=rx;exact rule i t s _ _ ⟨.int (g i),H,I.tok _,⟨_,rfl⟩,q⟩
theorem zm:UnR X (unaryOp .USub) (rU λi=>.int (-i)):=unI λ_ _ _ _ _ q=>neg_int q
end
variable {op:CmpOp} {r':R2}
section
variable {X:Cx} {a b c:Expr} {ta tb tc:TE} {pos:Pos}
theorem y_:OpR X (compareOp .Lt) (rI0 λi j=>.bl (decide (i<j))):=Af λ_ _ _ _ _ _ _ q=>lt_int q
theorem pk:OpR X (compareOp .LtE) (rI0 λi j=>.bl (decide (i<=j))):=Af λ_ _ _ _ _ _ _ q=>le_int q
theorem BV:OpR X (compareOp .Gt) (rI0 λi j=>.bl (decide (j<i))):=Af λ_ _ _ _ _ _ _ q=>gt_int q
theorem OpR.or (h:OpR X f r) (h':OpR X f r'):OpR X f (λx y H Q=>r x y H Q\/r' x y H Q):=by
 intro pins s O H x y v u Q I rx ry q;rcases q with q|q
 ·exact h pins s O H x y v u Q I rx ry q
 ·exact h' pins s O H x y v u Q I rx ry q
theorem kT (b:Expr) (h:op ≠ .In:=by decide) (h2:op ≠ .NotIn:=by decide):behindInMarks op b=false:=by
 have e1:(op==CmpOp.In)=false:=by cases op<;>first|rfl|exact absurd rfl h
 have e2:(op==CmpOp.NotIn)=false:=by cases op<;>first|rfl|exact absurd rfl h2
 cases b<;>simp[behindInMarks,e1,e2]
theorem xJ (ho:OpR X (compareOp op) r) (ha:PE X a ta) (hb:PE X b tb) (hm:behindInMarks op b=false):PE X (.Compare a [op] [b] pos) (tOp r ta tb):=by
 intro pins s O H Q I h;exact wpAny_Compare1 (Bh ha hb I h λv u s2 x y H2 I2 rx ry q=>ho pins s2 O H2 x y v u Q I2 rx ry q) hm
def y4 (t:TE):TT:=λO H Q=>t O H λx H'=>∃k,x=.bl k/\Q k H'
theorem rY (ho:OpR X (compareOp op) r) (ha:PE X a ta) (hb:PE X b tb) (hm:behindInMarks op b=false):PT X (.Compare a [op] [b] pos) (y4 (tOp r ta tb)):=by
 intro pins s O H Q I h;refine wpAny_isTrue_Compare1 (thn (ha pins s O H _ I h) λv s1 ⟨x,H1,I1,r1,q1⟩=>thn (hb pins s1 O H1 _ I1 q1) λu s2 ⟨y,H2,I2,r2,q2⟩ =>
  thn (ho pins s2 O H2 x y v u _ I2 r1 r2 q2) λc s3 ⟨z,H3,I3,r3,k,e,q3⟩=>?_) hm
 subst e;cases r3;exact wpAny_truthy_bool ⟨H3,I3,q3⟩
def qG (r r':R2) (ta tb tc:TE):TE:=λO H Q=>ta O H λx H1=>tb O H1 λy H2=>r x y H2 λz H3=>∃k,z=.bl k /\
 (if k=true then tc O H3 λw' H4=>r' y w' H4 Q else Q (.bl false) H3)
theorem vA {op':CmpOp} (ho:OpR X (compareOp op) r) (ho':OpR X (compareOp op') r') (ha:PE X a ta) (hb:PE X b tb) (hc:PE X c tc)
  (hm:lastMarks [op,op'] [b,c]=false:=by with_unfolding_all rfl):PE X (.Compare a [op,op'] [b,c] pos) (qG r r' ta tb tc):=by
 intro pins s O H Q I h;refine Compare_chain (thn (ha pins s O H _ I h) λv s1 ⟨x,H1,I1,r1,q1⟩=>chain_link (thn (hb pins s1 O H1 _ I1 q1) λu s2 ⟨y,H2,I2,r2,q2⟩ =>
  thn (ho pins s2 O H2 x y v u _ I2 r1 r2 q2) λd s3 ⟨z,H3,I3,r3,k,e,q3⟩=>?_)) hm
 subst e;cases r3;refine wpAny_truthy_bool ?_;cases k with
 | false=>exact ite_ff ⟨.bl false,H3,I3,rfl,q3⟩
 | true=>exact ite_tt (chain_last (thn (hc pins s3 O H3 _ I3 q3) λw' s4 ⟨z',H4,I4,r4,q4⟩=>ho' pins s4 O H4 y z' u w' Q I4 r2 r4 q4))
theorem u_ {op':CmpOp} (ho:OpR X (compareOp op) r) (ho':OpR X (compareOp op') r') (ha:PE X a ta) (hb:PE X b tb) (hc:PE X c tc)
  (hm:lastMarks [op,op'] [b,c]=false:=by with_unfolding_all rfl):PT X (.Compare a [op,op'] [b,c] pos) (y4 (qG r r' ta tb tc)):=by
 intro pins s O H Q I h;refine isTrue_chain (thn (ha pins s O H _ I h) λv s1 ⟨x,H1,I1,r1,q1⟩=>test_link (thn (hb pins s1 O H1 _ I1 q1) λu s2 ⟨y,H2,I2,r2,q2⟩ =>
  thn (ho pins s2 O H2 x y v u _ I2 r1 r2 q2) λd s3 ⟨z,H3,I3,r3,k,e,q3⟩=>?_)) hm
 subst e;cases r3;refine wpAny_truthy_bool ?_;cases k with
 | false =>
  obtain⟨k',e',q'⟩:=q3;cases e';exact ite_ff ⟨H3,I3,q'⟩
 | true =>
  refine ite_tt (test_last (thn (hc pins s3 O H3 _ I3 q3) λw' s4 ⟨z',H4,I4,r4,q4⟩=>thn (ho' pins s4 O H4 y z' u w' _ I4 r2 r4 q4) λd' s5 ⟨z2,H5,I5,r5,k2,e2,q5⟩=>?_));subst e2;cases r5;exact wpAny_truthy_bool ⟨H5,I5,q5⟩
theorem og:(sizeLine:Nat)<2 ^ 63:=by rw[sizeLine_eq];decide
theorem mQ {x:V} {us:List Value} (r:Vals [x] us):∃u,us=[u]/\RelV x u:=by
 cases r with
 | cons r1 r2=>cases r2;exact⟨_,rfl,r1⟩
theorem Bp {x y:V} {us:List Value} (r:Vals [x,y] us):∃u w',us=[u,w']/\RelV x u/\RelV y w':=by
 cases r with
 | cons r1 r2 =>
  cases r2 with
  | cons r3 r4=>cases r4;exact⟨_,_,rfl,r1,r3⟩
theorem nh (hc:X.calm=true):iC X (.builtin "max") (λxs H Q=>∃i j,xs=[.int i,.int j]/\Q (.int (if j>i then j else i)) H):=by
 intro pins s O H xs us Q I r h;obtain⟨i,j,rfl,q⟩:=h;obtain⟨u,w',rfl,⟨t,rfl⟩,⟨t',rfl⟩⟩:=Bp r;refine max_two_ints (I.ok.hd hc) λh' tk k=>⟨_,H,I.kept k,?_,q⟩;by_cases hj:j>i
 ·rw[if_pos hj,if_pos hj];exact⟨_,rfl⟩
 ·rw[if_neg hj,if_neg hj];exact⟨_,rfl⟩
end
end L2
namespace L2
open PySem PySem.Spec PyProof.Rows
structure ObjM (h:Heap) (x dx C:Addr) (mA:Str->Option Value):Prop where
 obj:h.get? x=some (instObj C dx)
 ns:h.Ns1 dx mA
 ne:dx≠x
theorem t_ {h:Heap} {dx:Addr} {mA:Str->Option Value} (n:h.Ns1 dx mA):∃od,h.get? dx=some od/\∀name,PySem.W.lookIn name od=some (mA name):=by
 obtain⟨o,es,ep,ho,hd,hk,_,hm⟩:=n;refine⟨o,ho,λname=>?_⟩;have e:=hm name;unfold nsFind findBy at e;rw[<- Array.find?_toList]at e;unfold PySem.W.lookIn;rw[hd];dsimp only;split
 ·rename_i y q;rw[q]at e;exact congrArg some e
 ·rename_i q;rw[q]at e;have a:es.toList.any (·.refKey)=false:=by
   rw[List.any_eq_false];intro y hy;obtain⟨z,t,hkey⟩:=hk y (Array.mem_toList_iff.mp hy);simp[DictEntry.refKey,hkey]
  have a':¬ es.toList.any (·.refKey)=true:=by rw[a];exact Bool.false_ne_true
  rw[if_neg a'];exact congrArg some e
variable {C:Addr}
theorem ObjM.look {h:Heap} {x dx:Addr} {mA:Str->Option Value} (I:ObjM h x dx C mA):∃od,InstAt h x (instObj C dx) C (some od)/\∀name,PySem.W.lookIn name od=some (mA name) :=
 let ⟨od,ho,hl⟩:=t_ I.ns
 ⟨od,⟨I.obj,rfl,rfl,ho⟩,hl⟩
variable {Q:Value->Shared->Prop}
section
variable {prog:Program} {w:World} {A:Around} {E:Value->Shared->Prop} {s:Shared} {K:Frag} {x dx C f:Addr} {mA:Str->Option Value} {name:Str} {v:Value}
theorem yg {expr:Bool} (X:K.In s.heap) (I:ObjM s.heap x dx C mA) (hg:plainGet K C name=true) (hh:hasDictIn K C=true)
  (ha:findIn K (.ref C) name=some none) (hv:mA name=some v) (hv':PySem.W.handedIn v=true) (h:Q v { s with toks:=s.toks+1 }) :
  wpAny (model prog w) A (getAttr (.ref x) name expr) Q E s:=by
 obtain⟨od,J,hl⟩:=I.look;exact PySem.W.get_value X J (PySem.W.plainGet_of hg).1 (PySem.W.findObj_own hh ha rfl (by rw[hl,hv])) hv' h
theorem xj {ns:List Str} {Q:Unit->Shared->Prop} (X:K.In s.heap) (I:ObjM s.heap x dx C mA)
  (hs:findIn K (.ref C) "__setattr__"=some (some (.builtin "object.__setattr__"))) (hp:PySem.W.plainOver K C=true) (ht:PySem.W.takerIn K C name=some none) (hh:hasDictIn K C=true)
  (hw:PySem.Within mA ns) (hsz:ns.length<=sizeLine)
  (h:∀h',ObjM h' x dx C (λy=>if y=name then some v else mA y)->Heap.SameBut dx s.heap h'->Q () { s with heap:=h',toks:=s.toks+2 }) :
  wpAny (model prog w) A (setAttr (.ref x) name v) Q E s:=by
 obtain⟨od,J,hl⟩:=I.look;refine PySem.W.set_plain X J hs (PySem.W.osa_open (s:={ s with toks:=s.toks+1 }) (r:=none) X J hp ht λb=>?_);obtain⟨cd,hc,hd'⟩:=PySem.W.any_some hh;have hx:s.heap.get? x=some ⟨.ref C,some dx,.plain,#[]⟩:=I.obj;refine wpAny_bind (wpAny_pure (wpAny_bind (wpAny_bind (wpAny_loadPart hx (wpAny_bind (PySem.W.Looks.here (s:={ s with toks:=s.toks+1 }) (PySem.W.looks_clsIn X hc) ?_))))));rw[hd'];refine wpAny_pure (a:=some dx) (wpAny_bind (wpAny_pure (wpAny_bind ?_)));refine wpAny_nsSet1 (s:={ s with toks:=s.toks+1 }) I.ns λh' hn2 hs2=>?_;obtain⟨oD,esD,epD,hoD,hdD,hcD⟩:=hn2.count (PySem.Within.cons name v hw);refine wpAny_bind (wpAny_lookBehind hoD (by rw[hdD];exact pastItsLine_dict (Nat.le_trans hcD (by rw[List.length_cons];omega))) ?_);exact wpAny_pure (h _ ⟨(hs2.2 _ (Ne.symm I.ne)).trans I.obj,hn2,I.ne⟩ hs2)
theorem vN {R:Result->Shared->Prop} {vs:List Value} {kw:List (Str×Value)} (X:K.In s.heap) (hm:PySem.W.makesIn K C=true)
  (hi:findIn K (.ref C) "__init__"=some (some (.ref f))) (hf:PySem.W.typeIn K (.ref f)=some (.type "function"))
  (h:codeAny (model prog w) (A.under (.builtin "type.__call__" ⟨.ref C::vs,kw⟩)) (.call (.ref f) ⟨.ref (s.heap.objs.size+1)::vs,kw⟩) (PySem.W.InitBack (s.heap.objs.size+1) R)
   {s with heap:=(s.heap.push emptyDict).push (instObj C s.heap.objs.size) }) :
  codeAny (model prog w) A (.call (.ref C) ⟨vs,kw⟩) R s:=by
 obtain⟨hh,g,d,t,os⟩:=s;exact PySem.W.make_core (PySem.W.makes_of X hm) (PySem.W.looks_findIn X hi) (λself=>PySem.W.bind_fn X self hf) (.inl rfl) h
end
def gg (f:Str) (v:V):List (Str×V)->List (Str×V)
 | []=>[(f,v)]
 | (g,x)::r=>if g=f then(g,v)::r else(g,x)::gg f v r
theorem jL (f g:Str) (v:V):∀fs:List (Str×V),(gg f v fs).lookup g=if g=f then some v else fs.lookup g
 | []=>by
  show List.lookup g [(f,v)]=_;by_cases h:g=f
  ·have hb:(g==f)=true:=beq_iff_eq.mpr h;simp only[List.lookup,hb,if_pos h]
  ·have hb:(g==f)=false:=beq_eq_false_iff_ne.mpr h;simp only[List.lookup,hb,if_neg h]
 | (k,x)::r=>by
  have ih:=jL f g v r;rw[show gg f v ((k,x)::r)=(if k=f then(k,v)::r else(k,x)::gg f v r)from rfl];by_cases hk:k=f
  ·rw[if_pos hk];by_cases h:g=k
   ·have hb:(g==k)=true:=beq_iff_eq.mpr h;simp only[List.lookup,hb,if_pos (h.trans hk)]
   ·have hb:(g==k)=false:=beq_eq_false_iff_ne.mpr h;simp only[List.lookup,hb,if_neg (λe:g=f=>h (e.trans hk.symm))]
  ·rw[if_neg hk];by_cases h:g=k
   ·have hb:(g==k)=true:=beq_iff_eq.mpr h;simp only[List.lookup,hb,if_neg (λe:g=f=>hk (h.symm.trans e))]
   ·have hb:(g==k)=false:=beq_eq_false_iff_ne.mpr h;simp only[List.lookup,hb];exact ih
theorem ju (f:Str) (v:V):∀fs:List (Str×V),f∈(gg f v fs).map (·.1)/\∀g,g∈fs.map (·.1)->g∈(gg f v fs).map (·.1)
 | []=>⟨by simp[gg],λg h=>by simp at h⟩
 | (k,x)::r=>by
  obtain⟨i1,i2⟩:=ju f v r;rw[show gg f v ((k,x)::r)=(if k=f then(k,v)::r else(k,x)::gg f v r)from rfl];by_cases hk:k=f
  ·rw[if_pos hk];subst hk;exact⟨by simp,λg h=>by simpa using h⟩
  ·rw[if_neg hk];refine⟨?_,λg h=>?_⟩
   ·rw[List.map_cons];exact List.mem_cons_of_mem _ i1
   ·rw[List.map_cons]at h ⊢;rcases List.mem_cons.mp h with e|e
    ·exact List.mem_cons.mpr (.inl e)
    ·exact List.mem_cons_of_mem _ (i2 g e)
theorem jM (f:Str) (v:V):∀fs:List (Str×V),(gg f v fs).length<=fs.length+1
 | []=>by simp[gg]
 | (k,x)::r=>by
  have ih:=jM f v r;rw[show gg f v ((k,x)::r)=(if k=f then(k,v)::r else(k,x)::gg f v r)from rfl];by_cases hk:k=f
  ·rw[if_pos hk,List.length_cons,List.length_cons];omega
  ·rw[if_neg hk,List.length_cons,List.length_cons];omega
theorem RelO.some_of {v:V} {o:Option Value} (r:RelO (some v) o):∃u,o=some u/\RelV v u:=by
 cases o with
 | none=>exact(show False from r).elim
 | some u=>exact⟨u,rfl,r⟩
variable {u:Value}
theorem ud {v:V} (r:RelV v u):PySem.W.handedIn u=true:=by
 cases v with
 | non=>cases(show u=Value.none from r);rfl
 | bl b=>cases(show u=Value.bool b from r);rfl
 | int i=>obtain⟨t,e⟩:=(show ∃t,u=Value.int i t from r);cases e;rfl
 | str x=>obtain⟨t,e⟩:=(show ∃t,u=Value.str x t from r);cases e;rfl
 | byt b=>obtain⟨t,e⟩:=(show ∃t,u=Value.bytes b t from r);cases e;rfl
 | flt b=>obtain⟨t,e⟩:=(show ∃t,u=Value.float b t from r);cases e;rfl
 | ref a=>cases(show u=Value.ref a from r);rfl
 | ty n=>cases(show u=Value.type n from r);rfl
section
variable {P:Program} {w:World} {H H':Hp} {h h':Heap} {a C dx:Addr} {fs fs':List (Str×V)}
theorem ol (hok:HOk P w H h) (e:H a=some (.ins C dx fs)):∃mA,ObjM h a dx C mA/\(∀f,RelO (fs.lookup f) (mA f))/\PySem.Within mA (fs.map (·.1))/\fs.length<=1000/\H dx=some (.own a):=by
 obtain⟨d,z,ne,ob,mA,n,r,q⟩:=(show ObjOk P w H h a (.ins C dx fs)from hok a _ e);exact⟨mA,⟨ob,n,ne⟩,r,q,z,d⟩
end
structure Cls (K:Frag) (C:Addr):Prop where
 pg:plainGet K C Str.empty=true
 hd:hasDictIn K C=true
 po:PySem.W.plainOver K C=true
 sa:findIn K (.ref C) "__setattr__"=some (some (.builtin "object.__setattr__"))
theorem Cls.get {K:Frag} (c:Cls K C) (f:Str):plainGet K C f=true:=c.pg
def NoAttr (K:Frag) (C:Addr) (f:Str):Prop:=findIn K (.ref C) f=some none
theorem NoAttr.taker {K:Frag} {f:Str} (n:NoAttr K C f):PySem.W.takerIn K C f=some none:=by
 unfold PySem.W.takerIn;rw[show findIn K (.ref C) f=some none from n];rfl
section
variable {X:Cx} {pins:List (Addr×Obj)} {O:St} {H:Hp} {s:Shared} {a C dx:Addr} {fs:List (Str×V)} {f:Str} {v:V} {A:Around} {E:Value->Shared->Prop}
theorem q_ {b:Bool} (I:Inv X pins O H s) (e:H a=some (.ins C dx fs)) (c:Cls X.K C) (n:NoAttr X.K C f) (l:fs.lookup f=some v)
  (h:∀u s',Inv X pins O H s'->RelV v u->Q u s'):wpAny (model X.prog X.w) A (getAttr (.ref a) f b) Q E s:=by
 obtain⟨mA,DP,r,_,_,_⟩:=ol I.hok e;obtain⟨u,hu,ru⟩:=RelO.some_of (v:=v) (o:=mA f) (by rw[<- l];exact r f);exact yg I.kIn DP (c.get f) c.hd n hu (ud ru) (h u _ (I.tok _) ru)
theorem qJ {y:V} {Q:Unit->Shared->Prop} (I:Inv X pins O H s) (e:H a=some (.ins C dx fs)) (c:Cls X.K C) (n:NoAttr X.K C f) (hl:fs.length<1000) (ry:RelV y u)
  (h:∀s',Inv X pins O (upd H a (.ins C dx (gg f y fs))) s'->Q () s'):wpAny (model X.prog X.w) A (setAttr (.ref a) f u) Q E s:=by
 obtain⟨mA,DP,r,wi,_,ho⟩:=ol I.hok e;have hz:(fs.map (·.1)).length<=sizeLine:=by rw[List.length_map,sizeLine_eq];omega
 refine xj I.kIn DP c.sa c.po n.taker c.hd wi hz λh' O' sb=>h _ ?_;have hd:∃o,h'.get? dx=some o:=let ⟨o,_,_,e',_⟩:=O'.ns;⟨o,e'⟩;refine I.write (x:=a) (e:=dx) (by rw[e];exact True.intro) (.inr ho) (λb q hb z=>(sb.2 b hb).trans z) hd ?_;refine⟨by rw[au DP.ne];exact ho,?_,DP.ne,O'.obj,_,O'.ns,λg=>?_,λg hg=>?_⟩
 ·have:=jM f y fs;omega
 ·show RelO ((gg f y fs).lookup g) (if g=f then some u else mA g);rw[jL];by_cases q:g=f
  ·rw[if_pos q,if_pos q];exact ry
  ·rw[if_neg q,if_neg q];exact r g
 ·by_cases q:g=f
  ·rw[q];exact(ju f y fs).1
  ·refine(ju f y fs).2 g (wi g λz=>hg ?_);show(if g=f then some u else mA g)=none;rw[if_neg q];exact z
theorem Inv.made (I:Inv X pins O H s):Inv X pins O (upd (upd H s.heap.objs.size (.own (s.heap.objs.size+1))) (s.heap.objs.size+1) (.ins C s.heap.objs.size []))
  {s with heap:=(s.heap.push emptyDict).push (instObj C s.heap.objs.size) }:=by
 have e1:(s.heap.push emptyDict).get? s.heap.objs.size=some emptyDict:=Heap.get?_push_size s.heap rfl;have e2:((s.heap.push emptyDict).push (instObj C s.heap.objs.size)).get? (s.heap.objs.size+1)=some (instObj C s.heap.objs.size):=by
  have:=Heap.get?_push_size (s.heap.push emptyDict) (o:=instObj C s.heap.objs.size) rfl;rwa[Heap.size_push]at this
 have e3:(s.heap.push emptyDict).Ns s.heap.objs.size (λ_=>none):=⟨emptyDict,#[],_,e1,rfl,(λe he=>absurd he (by simp)),λ_=>rfl⟩;have I1:=I.laid (a:=s.heap.objs.size) (o:=.own (s.heap.objs.size+1)) (h':=s.heap.push emptyDict) (t':=s.toks) (λb u q=>Heap.get?_push_of_some _ q) (Nat.le_refl _) ⟨_,e1⟩;refine I1.laid (a:=s.heap.objs.size+1) (o:=.ins C s.heap.objs.size []) (t':=s.toks) (λb u q=>Heap.get?_push_of_some _ q) (Nat.le_of_eq (Heap.size_push _ _)) ?_;have ne:s.heap.objs.size≠s.heap.objs.size+1:=Nat.ne_of_lt (Nat.lt_succ_self _);refine⟨by rw[au ne,aJ],Nat.zero_le _,ne,e2,λ_=>none,(Heap.Ns1.of_empty e3).at λo q=>Heap.get?_push_of_some _ q,λ_=>True.intro,λy hy=>absurd rfl hy⟩
theorem yS {prog:Program} {w:World} {env:Env} {e:Expr} {f:Str} {pos:Pos} {s:Shared} (hb:attributeBase e f env (eval e env)=eval e env)
  (h:wpAny (model prog w) A (eval e env) (λo s₁=>wpAny (model prog w) A (getAttr o f true) Q E s₁) E s):wpAny (model prog w) A (eval (.Attribute e f pos) env) Q E s :=
 Attribute_any_ h (by rw[arm_eval_Attribute,hb])
end
def CH (K:Frag) (ta:TE) (f:Str):TE:=λO H Q=>ta O H λx H1=>∃a C dx fs v,x=.ref a/\H1 a=some (.ins C dx fs)/\Cls K C/\NoAttr K C f/\fs.lookup f=some v/\Q v H1
def nI (K:Frag) (ta tv:TE) (f:Str):TS:=λD O H=>tv O H λy H1=>ta O H1 λx H2=>∃a C dx fs,x=.ref a/\H2 a=some (.ins C dx fs)/\Cls K C/\NoAttr K C f/\fs.length<1000 /\
 D.nx O (upd H2 a (.ins C dx (gg f y fs)))
section
variable {X:Cx} {o e value:Expr} {f:Str} {pos pos' tpos:Pos} {ta tv:TE}
theorem zZ (he:PE X e ta) (hb:attributeBase e f X.env (eval e X.env)=eval e X.env):PE X (.Attribute e f pos) (CH X.K ta f):=by
 intro pins s O H Q I h;refine yS hb (thn (he pins s O H _ I h) λu s1 ⟨x,H1,I1,rx,a,C,dx,fs,v,ex,ea,c,n,l,q⟩=>?_);subst ex;obtain rfl:u=Value.ref a:=rx;exact q_ I1 ea c n l λu' s2 I2 ru=>⟨v,H1,I2,ru,q⟩
theorem zQ (ha:PE X o ta) (hv:PE X value tv) (hs:swapsWith value (some (.Attribute o f pos')) pos.line X.env=pure false):PS X (.Assign [.Attribute o f pos'] value pos) (nI X.K ta tv f):=by
 intro pins s O H D I h;refine plainObj_wpAny_Assign_Attribute (thn (hv pins s O H _ I h) λu s1 ⟨y,H1,I1,ry,q⟩=>thn (ha pins s1 O H1 _ I1 q) λov s2 ⟨x,H2,I2,rx,a,C,dx,fs,ex,ea,c,n,l,q2⟩=>?_) hs;subst ex;obtain rfl:ov=Value.ref a:=rx;exact qJ I2 ea c n l ry λs3 I3=>⟨O,_,I3,q2⟩
end
section
variable {X:Cx} {pins:List (Addr×Obj)} {O:St} {H:Hp} {s:Shared} {A:Around} {E:Value->Shared->Prop} {Q:Value->Shared->Prop} {c:Value} {b:Bool}
inductive jH (K:Frag) (H:Hp):V->Value->Prop where
 | non:jH K H .non (.type "NoneType")
 | bl (x:Bool):jH K H (.bl x) (.type "bool")
 | int (i:Int):jH K H (.int i) (.type "int")
 | str (x:Str):jH K H (.str x) (.type "str")
 | flt (x:UInt64):jH K H (.flt x) (.type "float")
 | lst {a:Addr} {xs:List V} (e:H a=some (.lst xs)):jH K H (.ref a) (.type "list")
 | frz {a:Addr} {o:Obj} {xs:List V} (e:H a=some (.frz o (.lst xs))):jH K H (.ref a) (.type "list")
 | tup {a:Addr} {xs:List V} (e:H a=some (.tup xs)):jH K H (.ref a) (.type "tuple")
 | dK {a:Addr} {kvs:List (Key×V)} (e:H a=some (.dK kvs)):jH K H (.ref a) (.type "dict")
 | dT {a:Addr} {kvs:List (List Key×V)} (e:H a=some (.dT kvs)):jH K H (.ref a) (.type "dict")
 | ins {a C dx:Addr} {fs:List (Str×V)} (e:H a=some (.ins C dx fs)) (cl:Cls K C) (ha:findIn K (.ref C) "__class__"=some (some (.builtin "object.__class__")))
   (hn:specialIn K (.builtin "object.__class__") "__get__"=some (some (.builtin "getset_descriptor.__get__"))) (htk:takesIn K (.builtin "object.__class__")=some true)
   (hm:mroIn K C (.type "object")=some true):jH K H (.ref a) (.ref C)
theorem ua {x:V} {t:Value} (I:Inv X pins O H s) (rx:RelV x u) (ty:jH X.K H x t) (e:kitOne X.K t c=some b) (h:∀tk,Q (.bool b) { s with toks:=tk }) :
  wpAny (model X.prog X.w) A (call (.builtin "isinstance") [u,c]) Q E s:=by
 cases ty with
 | non=>cases(show u=Value.none from rx);exact kia_one PySem.W.kitx_none I.kIn True.intro e (λz=>nomatch z) h
 | bl y=>cases(show u=Value.bool y from rx);exact kia_one PySem.W.kitx_bool I.kIn True.intro e (λz=>nomatch z) h
 | int i=>obtain⟨t,q⟩:=(show ∃t,u=Value.int i t from rx);cases q;exact kia_one PySem.W.kitx_int I.kIn True.intro e (λz=>nomatch z) h
 | str y=>obtain⟨t,q⟩:=(show ∃t,u=Value.str y t from rx);cases q;exact kia_one PySem.W.kitx_str I.kIn True.intro e (λz=>nomatch z) h
 | flt y=>obtain⟨t,q⟩:=(show ∃t,u=Value.float y t from rx);cases q;exact kia_one PySem.W.kitx_float I.kIn True.intro e (λz=>nomatch z) h
 | @lst a xs ea =>
  cases(show u=Value.ref a from rx);obtain⟨_,_,n,_,h1⟩:=(show ObjOk X.prog X.w H s.heap a (.lst xs)from I.hok a _ ea);exact kia_one PySem.W.kitx_list I.kIn ⟨_,h1,rfl⟩ e (λz=>nomatch z) h
 | @frz a ob xs ea =>
  cases(show u=Value.ref a from rx);obtain⟨_,_,_,n,_,h1⟩:=(show ObjOk X.prog X.w H s.heap a (.frz ob (.lst xs))from I.hok a _ ea);exact kia_one PySem.W.kitx_list I.kIn ⟨_,h1,rfl⟩ e (λz=>nomatch z) h
 | @tup a xs ea =>
  cases(show u=Value.ref a from rx);obtain⟨_,_,_,p⟩:=(show ObjOk X.prog X.w H s.heap a (.tup xs)from I.hok a _ ea);obtain⟨o,h1,h2,_⟩:=p;exact kia_one PySem.W.kitx_tuple I.kIn ⟨o,h1,h2⟩ e (λz=>nomatch z) h
 | @dK a kvs ea =>
  cases(show u=Value.ref a from rx);obtain⟨_,_,vs,_,p⟩:=(show ObjOk X.prog X.w H s.heap a (.dK kvs)from I.hok a _ ea);obtain⟨o,es,ep,h1,h2,_⟩:=p;exact kia_one PySem.W.kitx_dict I.kIn ⟨o,h1,h2.1⟩ e (λz=>nomatch z) h
 | @dT a kvs ea =>
  cases(show u=Value.ref a from rx);obtain⟨_,_,xs,_,o,es,ep,h1,h2,_⟩:=(show ObjOk X.prog X.w H s.heap a (.dT kvs)from I.hok a _ ea);exact kia_one PySem.W.kitx_dict I.kIn ⟨o,h1,h2.1⟩ e (λz=>nomatch z) h
 | @ins a C dx fs ea cl ha hn htk hm =>
  cases(show u=Value.ref a from rx);obtain⟨mA,DP,_⟩:=ol I.hok ea;obtain⟨od,J,_⟩:=DP.look;exact kia_one (PySem.W.kitx_own (cl.get _) cl.hd ha hn htk hm) I.kIn J e (λz=>nomatch z) h
end
end L2
namespace L2
open PySem PySem.Spec PyProof.Rows
structure Room (k:Nat) (A:Around):Prop where
 hd:A.handled=none
 dp:A.depth+3*k+5<recursionLimit
 un:A.units+16*k+200<cLine
variable {k:Nat} {A:Around}
theorem Room.mono {j:Nat} (r:Room k A) (h:j<=k):Room j A:=⟨r.hd,by have:=r.dp;omega,by have:=r.un;omega⟩
theorem Room.deeper (r:Room (k+1) A) (env:Env):Room k (A.deeper env) :=
 ⟨r.hd,by have:=r.dp;show A.depth+1+3*k+5<_;omega,by have:=r.un;show A.units+3+16*k+200<_;omega⟩
variable {us:List Value}
theorem qV {C:Addr} {kw:List (Str×Value)}:(A.under (.builtin "type.__call__" ⟨.ref C::us,kw⟩)).depth=A.depth+1:=by
 first|rfl|simp[Around.under,Code.weight,Code.isCreation,Code.isGuard,Code.isCaller,Code.frames,Code.isFrame,guardIds]
theorem qU {C:Addr} {kw:List (Str×Value)}:(A.under (.builtin "type.__call__" ⟨.ref C::us,kw⟩)).units=A.units+1:=by
 first|rfl|simp[Around.under,Code.cUnits,Code.frames,Code.isFrame]
theorem Room.make (r:Room (k+1) A) (C:Addr) (us:List Value) (kw:List (Str×Value)):Room k (A.under (.builtin "type.__call__" ⟨.ref C::us,kw⟩)) :=
 ⟨r.hd,by have:=r.dp;rw[qV];omega,by have:=r.un;rw[qU];omega⟩
theorem Room.depth (r:Room k A):A.depth<recursionLimit:=by have:=r.dp;omega
def CD:TA:=λ_ H Q=>Q [] H
def Bv (ta:TE) (tr:TA):TA:=λO H Q=>ta O H λx H1=>tr O H1 λxs H2=>Q (x::xs) H2
section
variable {X:Cx} {e:Expr} {es:List Expr} {te:TE} {t:TA} {pos:Pos}
theorem ce:PA X [] CD:=λ_ _ _ _ H Q I h=>Calls.spliced_nil ⟨[],H,I,.nil,h⟩
theorem bh (ha:PE X e te) (hr:PA X es t) (hs:starEach (e::es) X.env=(false,eval e X.env)::starEach es X.env:=by rfl):PA X (e::es) (Bv te t):=by
 intro pos pins s O H Q I h;rw[hs];show wpAny _ _ (spliced ((false,eval e X.env)::backTo pos (starEach es X.env))) _ _ s;refine Calls.spliced_cons (thn (ha pins s O H _ I h) λu s1 ⟨x,H1,I1,r1,q1⟩=>?_);exact thn (hr pos pins s1 O H1 _ I1 q1) λus s2 ⟨xs,H2,I2,r2,q2⟩=>⟨x::xs,H2,I2,.cons r1 r2,q2⟩
def Cy (t:TA):TE:=λO H Q=>t O H λxs H1=>xs.length<=sizeLine/\∀p,H1 p=none->Q (.ref p) (upd H1 p (.tup xs))
def CF (t:TA):TE:=λO H Q=>t O H λxs H1=>xs.length<=sizeLine/\∀p,H1 p=none->Q (.ref p) (upd H1 p (.lst xs))
theorem vv {x1} (h:PA X es t):PE X (.Tuple es x1 pos) (Cy t):=by
 intro pins s O H Q I hq;refine wpAny_Tuple_spliced (thn (h pos pins s O H _ I hq) λus s1 ⟨xs,H1,I1,r,z,q⟩=>⟨by rw[<- r.length];exact z,?_⟩);have hf:H1 s1.heap.objs.size=none:=I1.hok.fresh (Nat.le_refl _);refine⟨.ref s1.heap.objs.size,upd H1 s1.heap.objs.size (.tup xs),I1.laid (t':=s1.toks) (λb u e=>Heap.get?_push_of_some _ e) (Nat.le_refl _) ?_,rfl,q _ hf⟩;exact⟨z,us,r,⟨_,Heap.get?_push_size _ rfl,rfl,_,rfl⟩⟩
theorem vx (h:PA X es t):PE X (.List es pos) (CF t):=by
 intro pins s O H Q I hq;refine wpAny_List_spliced (thn (h pos pins s O H _ I hq) λus s1 ⟨xs,H1,I1,r,z,q⟩=>⟨by rw[<- r.length];exact z,?_⟩);have hf:H1 s1.heap.objs.size=none:=I1.hok.fresh (Nat.le_refl _);refine⟨.ref s1.heap.objs.size,upd H1 s1.heap.objs.size (.lst xs),I1.laid (t':=s1.toks) (λb u e=>Heap.get?_push_of_some _ e) (Nat.le_refl _) ?_,rfl,q _ hf⟩;exact⟨z,us,0,r,Heap.get?_push_size _ rfl⟩
end
abbrev Sp:=List V->Hp->VK->XK->Prop
abbrev CXT:=List Env->Hp->Shared->XK->Value->Shared->Prop
structure Env0 (P:Program) (w:World) (K:Frag) (mg:Str->Option Value) (base:Heap) (A:Around) (outer:List Env) (s:Shared) (H:Hp):Prop where
 frames:A.frames=some outer
 mod:Mod K mg base
 bs:∀b o,base.get? b=some o->s.heap.get? b=some o/\H b=none
 bsz:base.objs.size<=s.heap.objs.size
 funs:s.heap.FunFrames base outer
 frf:∀b∈frs outer,H b=none
 hok:HOk P w H s.heap
 bare:AllBare s.gens
def CE (outer:List Env) (P:Program) (w:World) (H:Hp) (s:Shared) (Q:VK) (u:Value) (s':Shared):Prop :=
 ∃v H',s'.os=s.os/\AllBare s'.gens/\Un (frs outer) [] H H' s.heap s'.heap/\HOk P w H' s'.heap/\RelV v u/\Q v H'
def CR (CX:CXT) (outer:List Env) (P:Program) (w:World) (H:Hp) (s:Shared) (Q:VK) (E:XK) (r:Result) (s':Shared):Prop :=
 match r with
 | .ok (.ret u)=>CE outer P w H s Q u s'
 | .ok _=>False
 | .error e=>CX outer H s E e s'
structure FnOk (P:Program) (w:World) (K:Frag) (mg:Str->Option Value) (base:Heap) (CX:CXT) (k:Nat) (f:Addr) (fd:FuncData) (ps:List Str) (sp:Sp):Prop where
 len:∀vs H Q E,sp vs H Q E->vs.length=ps.length
 run:∀(A:Around) (outer:List Env) (s:Shared) (H:Hp) (args:Args) (us:List Value) (vs:List V) (Q:VK) (E:XK),Room k A->Env0 P w K mg base A outer s H->BindsTo s fd args (ps.zip us)->Vals vs us->sp vs H Q E ->
  codeAny (model P w) A (.call (.ref f) args) (CR CX outer P w H s Q E) s
variable {P:Program} {w:World} {K:Frag} {mg:Str->Option Value} {CX:CXT} {f:Addr} {ps:List Str}
theorem FnOk.imp {base:Heap} {fd:FuncData} {sp sp':Sp} (F:FnOk P w K mg base CX k f fd ps sp)
  (h:∀vs H Q E,sp' vs H Q E->sp vs H Q E):FnOk P w K mg base CX k f fd ps sp' :=
 ⟨λvs H Q E q=>F.len vs H Q E (h _ _ _ _ q),λA outer s H args us vs Q E hr he hb hv hs=>F.run A outer s H args us vs Q E hr he hb hv (h _ _ _ _ hs)⟩
variable {s:Shared} {H:Hp}
theorem Env0.make {base:Heap} {outer:List Env} (e:Env0 P w K mg base A outer s H) (C:Addr) (us:List Value) (kw:List (Str×Value)) :
  Env0 P w K mg base (A.under (.builtin "type.__call__" ⟨.ref C::us,kw⟩)) outer s H:=⟨by first|exact e.frames|(simpa[Around.under,Code.envs,Code.isFrame,pushEnvs]using e.frames),e.mod,e.bs,e.bsz,e.funs,e.frf,e.hok,e.bare⟩
section
variable {X:Cx} {pins:List (Addr×Obj)} {O:St} {H:Hp} {s s':Shared}
theorem Inv.env0 (I:Inv X pins O H s):Env0 X.prog X.w X.K X.mg X.base X.A X.stack s H :=
 ⟨I.ok.frames,I.ok.mod,I.bs,Nat.le_trans I.ok.bsz I.sz,I.stack,I.stkFree,I.hok,I.bare⟩
theorem Inv.after {Q:VK} {u:Value} (I:Inv X pins O H s) (h:CE X.stack X.prog X.w H s Q u s'):EP X pins O Q u s':=by
 obtain⟨v,H',os,bare,un,hok,r,q⟩:=h;obtain⟨hh,g,d,t,os'⟩:=s';obtain rfl:os'=s.os:=os;exact⟨v,H',I.call (h':=hh) (g':=g) (d':=d) (t':=t) (ch:=[]) un hok bare (λb z=>absurd z (by simp)),r,q⟩
end
def Binds (K:Frag) (fd:FuncData) (ps:List Str) (ds:List Value):Prop :=
 ∀(s:Shared) (us:List Value),K.In s.heap->(us++ds).length=ps.length->BindsTo s fd ⟨us,[]⟩ (ps.zip (us++ds))
theorem Binds.all {fd:FuncData} (h:∀us:List Value,us.length=ps.length->bindArgs fd ⟨us,[]⟩=pure (ps.zip us)):Binds K fd ps []:=λs us _ hl=>by
 rw[List.append_nil]at hl ⊢;exact .of_eq (h us hl)
def oY (CX:CXT) (X:Cx) (E:XK):Prop:=∀(pins:List (Addr×Obj)) (O:St) (H:Hp) (s:Shared) (e:Value) (s':Shared),Inv X pins O H s->CX X.stack H s E e s'->X.xe e s'
variable {vs:List V}
section
variable {X:Cx} {CX:CXT} {k:Nat} {f C:Addr} {fd:FuncData} {ps:List Str} {sp:Sp} {dvs:List V} {ds:List Value} {E:XK} {x m:Str} {p pos apos:Pos} {e o:Expr} {es:List Expr} {ta:TE} {t:TA}
theorem nK {pins:List (Addr×Obj)} {O:St} {Q:VK} (F:FnOk X.prog X.w X.K X.mg X.base CX k f fd ps sp) (hr:Room k X.A) (hb:Binds X.K fd ps ds) (hd:Vals dvs ds) (hx:oY CX X E)
  (I:Inv X pins O H s) (r:Vals vs us) (h:sp (vs++dvs) H Q E):wpAny (model X.prog X.w) X.A (call (.ref f) us) (EP X pins O Q) X.xe s:=by
 have r2:Vals (vs++dvs) (us++ds):=r.append hd;have hl:(us++ds).length=ps.length:=by rw[<- r2.length];exact F.len _ _ _ _ h
 refine wpAny_call (codeAny_mono (F.run X.A X.stack s H ⟨us,[]⟩ (us++ds) (vs++dvs) Q E hr I.env0 (hb s us I.kIn hl) r2 h) λr s' hq=>?_);cases r with
 | error e=>exact hx pins O H s e s' I hq
 | ok fl =>
  cases fl with
  | ret u=>exact I.after hq
  | next=>exact False.elim hq
  | brk=>exact False.elim hq
  | cont=>exact False.elim hq
structure Mk (K:Frag) (C f:Addr):Prop where
 makes:PySem.W.makesIn K C=true
 init:findIn K (.ref C) "__init__"=some (some (.ref f))
 fn:PySem.W.isFn K (.ref f)=true
 kp:keepIn K (.ref C)=true
theorem u0 {pins:List (Addr×Obj)} {O:St} {Q:VK} (M:Mk X.K C f) (F:FnOk X.prog X.w X.K X.mg X.base CX k f fd ps sp) (hr:Room (k+1) X.A) (hb:Binds X.K fd ps ds) (hd:Vals dvs ds)
  (hx:oY CX X E) (I:Inv X pins O H s) (r:Vals vs us)
  (h:∀x dx,H x=none->H dx=none->dx≠x->sp (.ref x::(vs++dvs)) (upd (upd H dx (.own x)) x (.ins C dx [])) (λv H2=>v=.non/\Q (.ref x) H2) E) :
  wpAny (model X.prog X.w) X.A (call (.ref C) us) (EP X pins O Q) X.xe s:=by
 have hq:=h (s.heap.objs.size+1) s.heap.objs.size (I.hok.fresh (Nat.le_succ _)) (I.hok.fresh (Nat.le_refl _)) (Nat.ne_of_lt (Nat.lt_succ_self _));have I2:=Inv.made (C:=C) I;have r2:Vals (V.ref (s.heap.objs.size+1)::(vs++dvs)) (Value.ref (s.heap.objs.size+1)::(us++ds)):=.cons rfl (r.append hd);have hl:(Value.ref (s.heap.objs.size+1)::us++ds).length=ps.length:=by
  have e:=r2.length;rw[F.len _ _ _ _ hq]at e;exact e.symm
 refine wpAny_call (vN (f:=f) I.kIn M.makes M.init (beq_iff_eq.mp M.fn) (codeAny_mono (F.run _ X.stack _ _ ⟨Value.ref (s.heap.objs.size+1)::us,[]⟩ (Value.ref (s.heap.objs.size+1)::(us++ds)) _ _ E (hr.make C us [])
  (I2.env0.make C us []) (hb _ (Value.ref (s.heap.objs.size+1)::us) I2.kIn hl) r2 hq) λr s' hq'=>?_))
 cases r with
 | error e=>exact hx pins O _ _ e s' I2 hq'
 | ok fl =>
  cases fl with
  | ret u =>
   obtain⟨v,H',I3,rv,ev,q3⟩:=I2.after hq';subst ev;exact⟨rv,⟨V.ref (s.heap.objs.size+1),H',I3,rfl,q3⟩⟩
  | next=>exact False.elim hq'
  | brk=>exact False.elim hq'
  | cont=>exact False.elim hq'
end
section
variable {X:Cx} {CX:CXT} {k:Nat} {f C:Addr} {fd:FuncData} {ps ks:List Str} {sp:Sp} {E:XK} {x m:Str} {p pos apos kpos:Pos} {e o:Expr} {es:List Expr} {kws:List Keyword} {te ta:TE} {t tk:TA} {nm:Option Str}
variable {g:List Value->List Value->List Value} {gV:List V->List V->List V}
end
structure ax (N P:List Str) (sc:Scope):Prop where
 kind:sc.kind=.function
 co:sc.isCoroutine=false
 gen:sc.isGenerator=false
 nd:N.Nodup
 pre:N.take P.length=P
 par:∀x∈P,sc.names.lookup x=some .local\/sc.names.lookup x=some .cell
 nofree:∀y∈sc.names,y.2 ≠ .free
theorem nj {kindOf:Str->Option NameKind} {x:Str}:∀{binds:List (Str×Value)} {m:Str->Option Value},(∀v,(x,v)∉binds)->bindL kindOf binds m x=m x
 | [],_,_=>rfl
 | (n,v)::r,m,h=>by
  unfold bindL;rw[nj λw hw=>h w (List.mem_cons_of_mem _ hw)];split
  ·have:x≠n:=by rintro rfl;exact h v List.mem_cons_self
   simp[this]
  ·rfl
theorem nq {kindOf:Str->Option NameKind} {x:Str}:∀{binds:List (Str×Value)} {m:Str->Option Value},(∀v,(x,v)∉binds)->bindC kindOf binds m x=m x
 | [],_,_=>rfl
 | (n,v)::r,m,h=>by
  unfold bindC;rw[nq λw hw=>h w (List.mem_cons_of_mem _ hw)];split
  ·rfl
  ·have:x≠n:=by rintro rfl;exact h v List.mem_cons_self
   simp[this]
theorem nl {kindOf:Str->Option NameKind} {x:Str} {v:Value}:∀{P:List Str} {vs:List Value} {i:Nat} {m:Str->Option Value},P.Nodup->P[i]?=some x->vs[i]?=some v->kindOf x=some .local ->
  bindL kindOf (P.zip vs) m x=some v
 | [],_,_,_,_,h,_,_=>by simp at h
 | _::_,[],_,_,_,_,h,_=>by simp at h
 | p::P,w::vs,0,m,nd,h1,h2,hk=>by
  simp at h1 h2;subst h1;subst h2;show bindL kindOf ((p,w)::P.zip vs) m p=_;unfold bindL;rw[nj λv hv=>(List.nodup_cons.mp nd).1 (List.of_mem_zip hv).1,if_pos hk];simp
 | p::P,w::vs,i+1,m,nd,h1,h2,hk=>by
  show bindL kindOf ((p,w)::P.zip vs) m x=_;unfold bindL;exact nl (i:=i) (List.nodup_cons.mp nd).2 (by simpa using h1) (by simpa using h2) hk
theorem nr {kindOf:Str->Option NameKind} {x:Str} {v:Value}:∀{P:List Str} {vs:List Value} {i:Nat} {m:Str->Option Value},P.Nodup->P[i]?=some x->vs[i]?=some v->kindOf x≠some .local ->
  bindC kindOf (P.zip vs) m x=some v
 | [],_,_,_,_,h,_,_=>by simp at h
 | _::_,[],_,_,_,_,h,_=>by simp at h
 | p::P,w::vs,0,m,nd,h1,h2,hk=>by
  simp at h1 h2;subst h1;subst h2;show bindC kindOf ((p,w)::P.zip vs) m p=_;unfold bindC;rw[nq λv hv=>(List.nodup_cons.mp nd).1 (List.of_mem_zip hv).1,if_neg hk];simp
 | p::P,w::vs,i+1,m,nd,h1,h2,hk=>by
  show bindC kindOf ((p,w)::P.zip vs) m x=_;unfold bindC;exact nr (i:=i) (List.nodup_cons.mp nd).2 (by simpa using h1) (by simpa using h2) hk
def start (N:List Str) (vs:List V):St:=vs.map some++List.replicate (N.length-vs.length) none
def gw (CX:CXT) (P:Program) (w:World) (K:Frag) (mg:Str->Option Value) (base:Heap) (N:List Str) (qual:Str) (scope:Scope) (f:Addr) (cd:Value) (A:Around) (outer:List Env) (s:Shared) (H:Hp) (E:XK):Cx where
 prog:=P
 w:=w
 K:=K
 mg:=mg
 base:=base
 A:=A.deeper (envOfC qual scope s.heap.objs.size f cd)
 N:=N
 s₀:=s
 H₀:=H
 env:=envOfC qual scope s.heap.objs.size f cd
 outer:=outer
 stack:=envOfC qual scope s.heap.objs.size f cd::outer
 ex:=[]
 calm:=true
 fn:=λ_=>true
 pn:=[]
 xe:=λe s'=>wpAny (model P w) (A.deeper (envOfC qual scope s.heap.objs.size f cd)) (leaving (envOfC qual scope s.heap.objs.size f cd) e) (λ_ s''=>CX outer H s E e s'') (λe' s''=>CX outer H s E e' s'') s'
theorem qr {sc:Scope} {n:Nat} {x:Str} (h:sc.names.lookup x=some .cell):∃c,(cellsFrom n sc.names []).lookup x=some c:=by
 have q:=cellsFrom_some sc.names n [] (.inl h);exact Option.isSome_iff_exists.mp q
theorem m7 {base:Heap} {N:List Str} {qual:Str} {scope:Scope} {cd:Value} {outer:List Env} {s1:Shared} {E:XK}
  (S:ax N ps scope) (hd:A.handled=none) (e0:Env0 P w K mg base A outer s H) (hl:vs.length=ps.length) (r:Vals vs us)
  (x:InCallC s s.heap.objs.size (bindL (envOfC qual scope s.heap.objs.size f cd).kindOf (ps.zip us) λ_=>none) (cellsFrom (s.heap.objs.size+1) scope.names []) (bindC (envOfC qual scope s.heap.objs.size f cd).kindOf (ps.zip us) λ_=>none) s1) :
  Inv (gw CX P w K mg base N qual scope f cd A outer s H E) [] (start N vs) H s1:=by
 have hpl:ps.length<=N.length:=by have:=congrArg List.length S.pre;rw[List.length_take]at this;omega
 obtain⟨h1,tk,rfl,hk⟩:=x.done;have noA:∀b:Addr,b∉(gw CX P w K mg base N qual scope f cd A outer s H E).ex:=λb z=>absurd (show b∈([]:List Addr)from z) (by simp);refine⟨⟨e0.mod,S.kind,rfl,rfl,Nat.le_refl _,λy z c h1 h2=>?_,λy hy=>?_,λy c _ h=>?_,λ_=>hd,Around.frames_deeper e0.frames,.inr ⟨rfl,rfl⟩,λb z=>absurd z (noA b),e0.bs,e0.bsz,λb _ _=>noA b,λb z=>absurd z (noA b),e0.funs,e0.frf⟩,
  rfl,e0.bare,Un.kept hk,⟨_,x.toInCall.ns,λi y v h1 h2 h3=>?_⟩,λy c h=>⟨_,x.cell y c h⟩,e0.hok.fresh (Nat.le_refl _),λy c h=>?_,λp hp=>absurd (show p∈([]:List (Addr×Obj))from hp) (by simp),e0.hok.kept hk,?_⟩
 ·exact name_of_addr x.apart (PySem.mem_of_lookup h1) (PySem.mem_of_lookup h2)
 ·have hy:scope.names.lookup y=some .cell\/scope.names.lookup y=some .free:=hy;rcases hy with hy|hy
  ·exact qr hy
  ·exact absurd rfl (S.nofree _ (PySem.mem_of_lookup hy))
 ·exact Nat.le_of_lt (x.above y c (PySem.mem_of_lookup h))
 ·have hi:i<vs.length:=by
   unfold start at h2;by_cases hi:i<vs.length
   ·exact hi
   ·rw[List.getElem?_append_right (by simpa using hi)]at h2;rw[List.getElem?_replicate]at h2;split at h2<;>cases h2
  have ha:vs[i]?=some v:=by
   unfold start at h2;rw[List.getElem?_append_left (by simpa using hi),List.getElem?_map]at h2;cases e:vs[i]? with
   | none=>rw[e]at h2;cases h2
   | some a=>rw[e]at h2;cases h2;rfl
  obtain⟨u,hu,rv⟩:=r.get ha;have hp:ps[i]?=some y:=by
   rw[<- S.pre,List.getElem?_take_of_lt (by omega)];exact h1
  have ndP:ps.Nodup:=by rw[<- S.pre];exact S.nd.sublist (List.take_sublist _ _)
  refine⟨u,rv,?_⟩;rcases S.par y (List.mem_of_getElem? hp)with k|k
  ·exact .inl ⟨k,nl ndP hp hu k⟩
  ·obtain⟨c,e⟩:=qr (n:=s.heap.objs.size+1) k;refine .inr ⟨.inl k,c,e,?_⟩;have q:=x.cell y c e;rw[nr ndP hp hu (by show scope.names.lookup y≠_;rw[k];decide)]at q;exact q
 ·exact e0.hok.fresh (Nat.le_of_lt (x.above y c (PySem.mem_of_lookup h)))
 ·unfold start;show _=N.length;rw[List.length_append,List.length_map,List.length_replicate];omega
theorem zc {base:Heap} {name qual:Str} {params:Arguments} {body:List Stmt} {scope:Scope} {dV kV doc pm cdv ct oc:Value} {an od:Option Addr}
  {osl:Array (Option Value)} {N:List Str} {sp:Sp} (lk:K.lookup f=some ⟨oc,od,.func (fnOf name qual params body scope dV kV doc pm an cdv ct),osl⟩) (hcd:codeIn K cdv qual=true) (S:ax N ps scope)
  (len:∀vs H Q E,sp vs H Q E->vs.length=ps.length)
  (hbody:∀(A:Around) (outer:List Env) (s:Shared) (H:Hp) (vs:List V) (Q:VK) (E:XK),Room k (A.deeper (envOfC qual scope s.heap.objs.size f cdv))->sp vs H Q E ->
   ∃t,PSs (gw CX P w K mg base N qual scope f cdv A outer s H E) body t/\t { nx:=λ_ H'=>Q .non H',rt:=Q } (start N vs) H) :
  FnOk P w K mg base CX (k+1) f (fnOf name qual params body scope dV kV doc pm an cdv ct) ps sp:=by
 refine⟨len,λA outer s H args us vs Q E hr e0 hb r hsp=>?_⟩;have hl:=len _ _ _ _ hsp;have KX:K.In s.heap:=e0.mod.kin.keeps λb o e=>(e0.bs b o e).1;have lim:s.heap.NoLimit:=e0.mod.nolimit.keeps λb o e=>(e0.bs b o e).1;have hkind:∀y∈ps.zip us,scope.names.lookup y.1=some .local\/(scope.names.lookup y.1=some .cell/\((cellsFrom (s.heap.objs.size+1) scope.names []).lookup y.1).isSome=true):=λ⟨n,v⟩ hy=>by
  rcases S.par n (List.of_mem_zip hy).1 with q|q
  ·exact .inl q
  ·exact .inr ⟨q,cellsFrom_some _ _ _ (.inl q)⟩
 refine codeAny_call_function hr.depth (KX _ _ lk) rfl S.co S.gen rfl (PySem.W.codeRec_of KX hcd) (hb _ _ _ _ ?_);refine wpAny_newFunctionEnv_cells S.kind hkind λenv he s1 x=>?_;subst he;refine⟨lim.keeps x.toInCall.keep,codeAny_func ?_⟩;obtain⟨t,ht,hq⟩:=hbody A outer s H vs Q E (hr.deeper _) hsp;have I:Inv (gw CX P w K mg base N qual scope f cdv A outer s H E) [] (start N vs) H s1:=m7 S hr.hd e0 hl r x;refine wpAny_mono (ht [] s1 (start N vs) H _ I hq) (λfl s' hs=>?_) λe s' hs=>hs;have fin:∀{σ':St} {H':Hp} {v:V} {u:Value},Inv (gw CX P w K mg base N qual scope f cdv A outer s H E) [] σ' H' s'->RelV v u->Q v H'->CE outer P w H s Q u s' :=
  λ{σ' H' v u} J rv q=>⟨v,H',J.os,J.bare,J.base,J.hok,rv,q⟩
 cases fl with
 | ret u =>
  obtain⟨v,σ',H',J,rv,q⟩:=hs;exact fin J rv q
 | next =>
  obtain⟨σ',H',J,q⟩:=hs;exact fin (v:=V.non) (u:=Value.none) J rfl q
 | brk =>
  obtain⟨_,_,_,q⟩:=hs;exact False.elim q
 | cont =>
  obtain⟨_,_,_,q⟩:=hs;exact False.elim q
end L2
namespace L2
open PySem PySem.Spec PyProof.Rows
section
variable {X:Cx} {x:Str} {p pos:Pos} {e:Expr} {es:List Expr} {t:TA} {id T:String} {r:List V->Hp->VK->Prop}
def tCB (r:List V->Hp->VK->Prop) (t:TA):TE:=λO H Q=>t O H λvs H1=>r vs H1 Q
theorem fE (hc:iC X (.builtin id) r) (hg:Gl X x) (hm:X.mg x=none) (hv:bootBuiltins x=some (.builtin id)) (ha:PA X (e::es) t) (hn:x ≠ "__name__":=by decide) (hdb:(x==("__debug__":Str))=false:=by decide)
  (he:starEach (e::es) X.env=(false,eval e X.env)::starEach es X.env:=by rfl) (hpl:(backTo pos (starEach es X.env)).any (·.1)=false:=by rfl):PE X (.Call (.Name x p) (e::es) [] pos) (tCB r t):=by
 intro pins s O H Q I h;refine wpAny_Call_Name_kw (gL I hg hm hv ?_ hn hdb);exact PyProof.Rows.callWith_builtin1 (thn (ha pos pins s O H _ I h) λus s1 ⟨vs,H1,I1,r1,q1⟩=>hc pins s1 O H1 vs us Q I1 r1 q1) he hpl
theorem bN (hc:iC X (.type T) r) (hg:Gl X x) (hm:X.mg x=none) (hv:bootBuiltins x=some (.type T)) (ha:PA X (e::es) t) (hn:x ≠ "__name__":=by decide) (hdb:(x==("__debug__":Str))=false:=by decide)
  (he:starEach (e::es) X.env=(false,eval e X.env)::starEach es X.env:=by rfl) (hpl:(backTo pos (starEach es X.env)).any (·.1)=false:=by rfl):PE X (.Call (.Name x p) (e::es) [] pos) (tCB r t):=by
 intro pins s O H Q I h;refine wpAny_Call_Name_kw (gL I hg hm hv ?_ hn hdb);exact PyProof.Rows.callWith_type1 (thn (ha pos pins s O H _ I h) λus s1 ⟨vs,H1,I1,r1,q1⟩=>hc pins s1 O H1 vs us Q I1 r1 q1) he hpl
end
end L2
namespace HT
open PySem PyProof.Rows
section
open PySem.SeqAt
open PySem.AutoSeq1 (wpAny_loadPart')
open PySem.MeetsSeq PySem.MeetsSeq2 PySem.MeetsSeq3
end
section
variable {prog:Program} {w:World} {A:Around} {E:Value->Shared->Prop} {s:Shared}
def sIx (n d:Nat):Option Int->Nat
 | none=>d
 | some v=>if v<0 then(v+(n:Int)).toNat else min v.toNat n
end
end HT
namespace L2
open PySem PySem.Spec PyProof.Rows
abbrev TO:=St->Hp->(Option Int->Hp->Prop)->Prop
def PO (X:Cx) (e:Option Expr) (t:TO):Prop :=
 ∀(pins:List (Addr×Obj)) (s:Shared) (O:St) (H:Hp) (Q:Option Int->Hp->Prop),Inv X pins O H s->t O H Q ->
  wpAny (model X.prog X.w) X.A (evalPart e X.env) (λu s'=>∃o H',Inv X pins O H' s'/\IsPart u o/\Q o H') X.xe s
def xh:TO:=λ_ H Q=>Q none H
def Br (t:TE):TO:=λO H Q=>t O H λx H1=>∃i,x=.int i/\Q (some i) H1
theorem q8 {ns:List Int}:∀{us:List Value},Vals (ns.map V.int) us->IntsAre us ns:=by
 induction ns with
 | nil=>intro us r;rw[List.map_nil]at r;cases r;exact .nil
 | cons n ns ih =>
  intro us r;rw[List.map_cons]at r;cases r with
  | cons r1 r2 =>
   obtain⟨t,e⟩:=r1;subst e;exact .cons n t (ih r2)
section
variable {X:Cx} {e:Expr} {te:TE} {lo hi:Option Expr} {tl th:TO} {pos p2:Pos}
theorem xB:PO X none xh:=by
 intro pins s O H Q I h;rw[evalPart_none];exact wpAny_pure ⟨none,H,I,.none,h⟩
theorem xA (h:PE X e te):PO X (some e) (Br te):=by
 intro pins s O H Q I hw;rw[evalPart_some];refine thn (h pins s O H _ I hw) λu s1 ⟨x,H1,I1,r1,q1⟩=>?_;obtain⟨i,rfl,q⟩:=q1;obtain⟨t,rfl⟩:=r1;exact⟨some i,H1,I1,.int i t,q⟩
def SlR (X:Cx) (r:V->Option Int->Option Int->Hp->VK->Prop):Prop :=
 ∀(pins:List (Addr×Obj)) (s:Shared) (O:St) (H:Hp) (x:V) (v vl vu:Value) (lo hi:Option Int) (sl:Addr) (Q:VK),Inv X pins O H s->RelV x v->s.heap.IsSliceOf sl vl vu .none->IsPart vl lo->IsPart vu hi->r x lo hi H Q ->
  ∃T id,typeLookup (.type T) "__getitem__"=pure (some (.builtin id))/\s.TypeIs v T/\wpAny (model X.prog X.w) X.A (getItem v (.ref sl)) (EP X pins O Q) X.xe s
def tSl (r:V->Option Int->Option Int->Hp->VK->Prop) (te:TE) (tl th:TO):TE:=λO H Q=>te O H λx H1=>tl O H1 λl H2=>th O H2 λu H3=>r x l u H3 Q
theorem ph {r:V->Option Int->Option Int->Hp->VK->Prop} (hr:SlR X r) (he:PE X e te) (hl:PO X lo tl) (hu:PO X hi th):PE X (.Subscript e (.Slice lo hi none p2) pos) (tSl r te tl th):=by
 intro pins s O H Q I h;refine Subscript_ (thn (he pins s O H _ I h) λv s1 ⟨x,H1,I1,r1,q1⟩=>?_);refine wpAny_Slice (thn (hl pins s1 O H1 _ I1 q1) λvl s2 ⟨l,H2,I2,pl,q2⟩=>thn (hu pins s2 O H2 _ I2 q2) λvu s3 ⟨u,H3,I3,pu,q3⟩=>?_);rw[evalPart_none];refine wpAny_pure ?_;have I4:Inv X pins O H3 { s3 with heap:=s3.heap.push { cls:=.type "slice",data:=.fields #[vl,vu,.none] } }:=I3.kept (t':=s3.toks) λb ob q=>Heap.get?_push_of_some _ q;obtain⟨T,id,hT,ht,hg⟩:=hr pins { s3 with heap:=s3.heap.push { cls:=.type "slice",data:=.fields #[vl,vu,.none] } } O H3 x v vl vu l u s3.heap.objs.size Q I4 r1 (Heap.IsSliceOf.new ..) pl pu q3;show wpAny (model X.prog X.w) X.A (subscriptTail e (.Slice lo hi none p2) v (.ref s3.heap.objs.size)) (EP X pins O Q) X.xe { s3 with heap:=s3.heap.push { cls:=.type "slice",data:=.fields #[vl,vu,.none] } };exact tail_any (ops:=[.ref s3.heap.objs.size,v]) ht hT hg (by with_unfolding_all rfl)
def um (xs:List V) (lo hi:Option Int):List V:=(xs.drop (HT.sIx xs.length 0 lo)).take (HT.sIx xs.length xs.length hi-HT.sIx xs.length 0 lo)
theorem qm (xs:List V) (lo hi:Option Int):(um xs lo hi).length<=xs.length:=by
 unfold um;rw[List.length_take,List.length_drop];omega
end
end L2
namespace L2
open PySem PySem.Spec PyProof.Rows
def ixN (n:Nat) (i:Int):Option Nat:=if 0<=i then(if i<n then some i.toNat else none)else if -(n:Int)<=i then some (i+n).toNat else none
def atI {Y:Type} (xs:List Y) (i:Int):Option Y:=(ixN xs.length i).bind λj=>xs[j]?
theorem yb {n:Nat} {i:Int} {j:Nat} (h:ixN n i=some j):seqIndex? i n=some j/\j<n/\-(n:Int)<=i/\i<n:=by
 unfold ixN at h;by_cases h0:0<=i
 ·rw[if_pos h0]at h;by_cases h1:i<n
  ·rw[if_pos h1]at h;have e:i.toNat=j:=Option.some.inj h;exact⟨by rw[seqIndex_of h0 h1,e],by omega,by omega,h1⟩
  ·rw[if_neg h1]at h;cases h
 ·rw[if_neg h0]at h;by_cases h1:-(n:Int)<=i
  ·rw[if_pos h1]at h;have e:(i+n).toNat=j:=Option.some.inj h;exact⟨by rw[seqIndex_neg (by omega) h1,e],by omega,h1,by omega⟩
  ·rw[if_neg h1]at h;cases h
theorem oW {Y:Type} {xs:List Y} {i:Int} {v:Y} (h:atI xs i=some v):∃j,seqIndex? i xs.length=some j/\xs[j]?=some v/\j<xs.length/\-(xs.length:Int)<=i/\i<xs.length:=by
 unfold atI at h;cases e:ixN xs.length i with
 | none=>rw[e]at h;cases h
 | some j =>
  rw[e]at h;obtain⟨h1,h2,h3,h4⟩:=yb e;exact⟨j,h1,h,h2,h3,h4⟩
def ii (b:Expr):Prop:=∀o i,subscripted b false o i=operate [o,i] (getItem o i)
def IxR (X:Cx) (r:R2):Prop :=
 ∀(value slice:Expr) (pins:List (Addr×Obj)) (s:Shared) (O:St) (H:Hp) (x y:V) (v u:Value) (Q:VK),Inv X pins O H s->RelV x v->RelV y u->r x y H Q ->
  subscripted slice false v u=operate [v,u] (getItem v u)->wpAny (model X.prog X.w) X.A (subscriptTail value slice v u) (EP X pins O Q) X.xe s
def MtR (X:Cx) (id:String) (r:V->List V->Hp->VK->Prop):Prop :=
 ∀(pins:List (Addr×Obj)) (s:Shared) (O:St) (H:Hp) (x:V) (xs:List V) (v:Value) (us:List Value) (Q:VK),Inv X pins O H s->RelV x v->Vals xs us->r x xs H Q ->
  wpAny (model X.prog X.w) X.A (call (.builtin id) (v::us)) (EP X pins O Q) X.xe s
section
variable {X:Cx} {a b:Expr} {ta tb:TE} {pos:Pos}
theorem IxR.or {r r':R2} (h:IxR X r) (h':IxR X r'):IxR X (λx y H Q=>r x y H Q\/r' x y H Q):=by
 intro value slice pins s O H x y v u Q I rx ry q hs;rcases q with q|q
 ·exact h value slice pins s O H x y v u Q I rx ry q hs
 ·exact h' value slice pins s O H x y v u Q I rx ry q hs
theorem sd {r:R2} (hr:IxR X r) (ha:PE X a ta) (hb:PE X b tb) (hs:ii b):PE X (.Subscript a b pos) (tOp r ta tb):=by
 intro pins s O H Q I h;exact Subscript_ (Bh ha hb I h λv u s2 x y H2 I2 rx ry q=>hr a b pins s2 O H2 x y v u Q I2 rx ry q (hs _ _))
def BG (K:Frag):R2:=λx y H Q=>∃p xs i v,x=.ref p/\y=.int i/\SqL K H p xs/\atI xs i=some v/\Q v H
def BE (K:Frag):R2:=λx y H Q=>∃p xs i v,x=.ref p/\y=.int i/\SqT K H p xs/\atI xs i=some v/\Q v H
def BF:R2:=λx y H Q=>∃z i c,x=.str z/\y=.int i/\z.length<=sizeLine/\atI z.cps.toList i=some c/\Q (.str ⟨#[c]⟩) H
theorem ix_list:IxR X (BG X.K):=by
 intro value slice pins s O H x y v u Q I rx ry h hs;obtain⟨p,xs,i,z,rfl,rfl,hq,he,q⟩:=h;cases rx;obtain⟨t,rfl⟩:=ry;obtain⟨its,r,pl,hz⟩:=I.list hq;obtain⟨j,h1,h2,h3,h4,h5⟩:=oW he;obtain⟨w,ew,rw'⟩:=r.get h2;have hl:=r.length;have hn:=og;have fin:EP X pins O Q w s:=⟨z,H,I,rw',q⟩;by_cases h0:0<=i
 ·have hj:i.toNat=j:=by
   rw[seqIndex_of h0 h5]at h1;exact Option.some.inj h1
  exact item_listR pl.isList h0 (by omega) (by rw[hj];simpa using ew) fin hs
 ·have hj:(i+(its.toArray.size:Int)).toNat=j:=by
   rw[seqIndex_neg (by omega) h4]at h1;rw[List.size_toArray,<- hl];exact Option.some.inj h1
  exact subscriptTail_builtinR (x:=w) pl.isList.typeIs slot_list_getitem.lookup
   (wpAny_getItem_list_neg (Q:=λr s'=>r=w/\EP X pins O Q r s') pl.isList (by omega) (by rw[List.size_toArray]<;>omega) (by omega) (by rw[hj];simpa using ew) ⟨rfl,fin⟩) hs
theorem ix_tup:IxR X (BE X.K):=by
 intro value slice pins s O H x y v u Q I rx ry h hs;obtain⟨p,xs,i,z,rfl,rfl,hq,he,q⟩:=h;cases rx;obtain⟨t,rfl⟩:=ry;obtain⟨its,r,pl,hz⟩:=I.tuple hq;obtain⟨j,h1,h2,h3,h4,h5⟩:=oW he;obtain⟨w,ew,rw'⟩:=r.get h2;have hl:=r.length;have hn:=og;have fin:EP X pins O Q w s:=⟨z,H,I,rw',q⟩;exact subscriptTail_builtinR (x:=w) pl.typeIs slot_tuple_getitem.lookup
  (getItem_tuple (j:=j) (Q:=λr s'=>r=w/\EP X pins O Q r s') pl (by omega) (by omega) (by rw[List.size_toArray,<- hl];exact h1) (by simpa using ew) ⟨rfl,fin⟩) hs
theorem Av:IxR X BF:=by
 intro value slice pins s O H x y v u Q I rx ry h hs;obtain⟨z,i,c,rfl,rfl,hz,he,q⟩:=h;obtain⟨t,rfl⟩:=rx;obtain⟨t',rfl⟩:=ry;obtain⟨j,h1,h2,h3,h4,h5⟩:=oW he;have hl:z.cps.toList.length=z.length:=by simp[Str.length]
 rw[hl]at h1 h4 h5;have hn:=og;exact tail_any (typeIs_str s z t) slot_str_getitem.lookup (getItem_str (c:=c) (by
  have e1:decide (i < -(2 ^ 63:Int))=false:=decide_eq_false (by omega);have e2:decide (i ≥ 2 ^ 63)=false:=decide_eq_false (by omega);rw[e1,e2,Bool.or_false]) (by rw[h1];simpa using h2) ⟨.str ⟨#[c]⟩,H,I.tok _,⟨_,rfl⟩,q⟩) hs
def rIx (K:Frag):R2:=λx y H Q=>BG K x y H Q\/BE K x y H Q\/BF x y H Q
theorem qY:IxR X (rIx X.K):=ix_list.or (ix_tup.or Av)
theorem nC (lo hi:Option Int) (n:Nat):(sliceBounds lo hi none n).1=((HT.sIx n 0 lo:Nat):Int)/\(sliceBounds lo hi none n).2.1=((HT.sIx n n hi:Nat):Int)/\(sliceBounds lo hi none n).2.2=1:=by
 refine⟨?_,?_,rfl⟩
 ·cases lo with
  | none=>simp[sliceBounds,HT.sIx]
  | some i =>
   simp only[sliceBounds,HT.sIx,Option.getD_none,show(1:Int)>0 by decide,if_true];by_cases h:i<0
   ·simp only[h,if_true]<;>omega
   ·simp only[h,if_false]<;>omega
 ·cases hi with
  | none=>simp[sliceBounds,HT.sIx]
  | some i =>
   simp only[sliceBounds,HT.sIx,Option.getD_none,show(1:Int)>0 by decide,if_true];by_cases h:i<0
   ·simp only[h,if_true]<;>omega
   ·simp only[h,if_false]<;>omega
theorem mj (its:List Value) (lo hi:Option Int):slicePick its.toArray lo hi none=((its.drop (HT.sIx its.length 0 lo)).take (HT.sIx its.length its.length hi-HT.sIx its.length 0 lo)).toArray:=by
 obtain⟨h1,h2,h3⟩:=nC lo hi its.toArray.size;unfold slicePick;rw[h1,h2,h3];simp only[sliceRange_one,pick_run,List.size_toArray]<;>rfl
def CL (K:Frag):V->Option Int->Option Int->Hp->VK->Prop:=λx lo hi H Q=>∃a xs,x=.ref a/\SqL K H a xs/\∀p,H p=none->Q (.ref p) (upd H p (.lst (um xs lo hi)))
theorem rM:SlR X (CL X.K):=by
 intro pins s O H x v vl vu lo hi sl Q I rx hs pl pu h;obtain⟨a,xs,rfl,hx,q⟩:=h;cases rx;obtain⟨its,r,ht,hz⟩:=I.list hx;have hlen:=r.length;refine⟨"list",_,slot_list_getitem.lookup,ht.isList.typeIs,?_⟩;refine wpAny_getItem_list_slice ht.isList hs pl pu .none (by simp) ?_ (by rw[List.size_toArray]<;>omega);rw[mj,<- hlen];refine⟨.ref s.heap.objs.size,_,I.laid (t':=s.toks) (o:=.lst (um xs lo hi)) (λb ob q=>Heap.get?_push_of_some _ q) (Nat.le_refl _) ?_,rfl,q _ (I.hok.fresh (Nat.le_refl _))⟩;exact⟨Nat.le_trans (qm xs lo hi) hz,_,0,(r.drop (HT.sIx xs.length 0 lo)).take (HT.sIx xs.length xs.length hi-HT.sIx xs.length 0 lo),Heap.get?_push_size _ rfl⟩
theorem jc:iC X (.builtin "len") (λxs H Q=>∃p ys,xs=[.ref p]/\(SqL X.K H p ys\/SqT X.K H p ys)/\Q (.int ys.length) H):=by
 intro pins s O H xs us Q I r h;obtain⟨p,ys,rfl,hq,q⟩:=h;obtain⟨u,rfl,rx⟩:=mQ r;cases rx;have hn:=og;rcases hq with hq|hq
 ·obtain⟨its,r',pl,hz⟩:=I.list hq;have hlen:=r'.length;exact Calls.call_len_list pl.isList (by simp only[List.size_toArray]<;>omega) ⟨.int ys.length,H,I.tok _,⟨s.toks+1,by rw[List.size_toArray,hlen]⟩,q⟩
 ·obtain⟨its,r',pl,hz⟩:=I.tuple hq;have hlen:=r'.length;exact len_tuple pl (by simp only[List.size_toArray]<;>omega) ⟨.int ys.length,H,I.tok _,⟨s.toks+1,by rw[List.size_toArray,hlen]⟩,q⟩
theorem jb:iC X (.type "list") (λxs H Q=>∃p ys,xs=[.ref p]/\(SqL X.K H p ys\/SqT X.K H p ys)/\∀l,H l=none->Q (.ref l) (upd H l (.lst ys))):=by
 intro pins s O H xs us Q I r h;obtain⟨p,ys,rfl,hq,q⟩:=h;obtain⟨u,rfl,rx⟩:=mQ r;cases rx;have fin:∀(its:List Value),Vals ys its->ys.length<=sizeLine->∀(h':Heap) (c':Nat),(∀b o',s.heap.get? b=some o'->h'.get? b=some o') ->
   h'.get? s.heap.objs.size=some { cls:=.type "list",dict:=none,data:=.seq its.toArray c',slots:=#[] }->EP X pins O Q (.ref s.heap.objs.size) { s with heap:=h' }:=λits r' hz h' c' kp e =>
  ⟨.ref s.heap.objs.size,_,I.laid (t':=s.toks) kp (Nat.le_refl _) (show ObjOk X.prog X.w _ h' _ (.lst ys)from⟨hz,its,c',r',e⟩),rfl,q _ (I.hok.fresh (Nat.le_refl _))⟩
 rcases hq with hq|hq
 ·obtain⟨its,r',pl,hz⟩:=I.list hq;have hlen:=r'.length;obtain⟨o,ho,hc,n,hd⟩:=pl.isList;exact call_list_seq p (.inl rfl) ho hc hd (λh' c' kp e=>fin its r' hz h' c' kp e) (by simp only[List.size_toArray]<;>omega)
 ·obtain⟨its,r',pl,hz⟩:=I.tuple hq;have hlen:=r'.length;obtain⟨o,ho,hc,n,hd⟩:=pl;exact call_list_seq p (.inr rfl) ho hc hd (λh' c' kp e=>fin its r' hz h' c' kp e) (by simp only[List.size_toArray]<;>omega)
theorem cJ:iC X (.type "tuple") (λxs H Q=>∃p ys,xs=[.ref p]/\((SqL X.K H p ys/\∀l,H l=none->Q (.ref l) (upd H l (.tup ys)))\/(SqT X.K H p ys/\Q (.ref p) H))):=by
 intro pins s O H xs us Q I r h;obtain⟨p,ys,rfl,h⟩:=h;obtain⟨u,rfl,rx⟩:=mQ r;cases rx;rcases h with⟨hq,q⟩|⟨hq,q⟩
 ·obtain⟨its,r',pl,hz⟩:=I.list hq;have hlen:=r'.length;refine call_tuple_list pl.isList (λh' kp=>?_) (by simp only[List.size_toArray]<;>omega);have I1:Inv X pins O H { s with heap:=h' }:=I.kept (t':=s.toks) kp;have I2:Inv X pins O (upd H h'.objs.size (.tup ys)) { s with heap:=h'.push { cls:=.type "tuple",data:=.seq its.toArray } } :=
   I1.laid (t':=s.toks) (λb o e=>Heap.get?_push_of_some _ e) (Nat.le_refl _) (show ObjOk X.prog X.w _ _ _ (.tup ys)from⟨hz,its,r',IsTup.new _ _⟩)
  exact⟨.ref h'.objs.size,_,I2,rfl,q _ (I1.hok.fresh (Nat.le_refl _))⟩
 ·obtain⟨its,r',pl,hz⟩:=I.tuple hq;exact call_tuple_same pl ⟨.ref p,H,I,rfl,q⟩
def tyV (K:Frag) (T:String) (x:V) (H:Hp):Prop:=match x with
 | .str _=>T="str"
 | .int _=>T="int"
 | .ref p=>(T="list"/\∃xs,SqL K H p xs)\/(T="tuple"/\∃o,K.lookup p=some o/\o.cls=.type "tuple"/\o.dict=none) \/
   (T="dict"/\((∃kvs,H p=some (.dK kvs))\/∃kvs,H p=some (.dT kvs)))\/(T="set"/\∃S n,H p=some (.set S n))
 | _=>False
theorem zn {pins:List (Addr×Obj)} {O:St} {H:Hp} {s:Shared} {T:String} {x:V} {v:Value} (I:Inv X pins O H s) (r:RelV x v) (ty:tyV X.K T x H) :
  s.TypeIs v T/\∀a,v=.ref a->∃ob,s.heap.get? a=some ob/\ob.dict=none:=by
 cases x with
 | str z =>
  obtain⟨t,rfl⟩:=r;cases(show T="str" from ty);exact⟨typeIs_str s z t,λ_ e=>nomatch e⟩
 | int i =>
  obtain⟨t,rfl⟩:=r;cases(show T="int" from ty);exact⟨typeIs_int s i t,λ_ e=>nomatch e⟩
 | ref p =>
  cases r;rcases ty with⟨rfl,xs,hq⟩|⟨rfl,o,hk,hc,hd⟩|⟨rfl,hk⟩|⟨rfl,S,n,hk⟩
  ·obtain⟨its,_,pl,_⟩:=I.list hq;refine⟨pl.isList.typeIs,λa e=>?_⟩;cases e;obtain⟨o,n,e,c,hd,_⟩:=pl;exact⟨o,e,hd⟩
  ·refine⟨⟨o,I.kIn p o hk,hc⟩,λa e=>?_⟩;cases e;exact⟨o,I.kIn _ o hk,hd⟩
  ·have z:∃o,s.heap.get? p=some o/\o.ExactDict:=by
    rcases hk with⟨kvs,hk⟩|⟨kvs,hk⟩
    ·obtain⟨_,_,_,_,o,_,_,e,ex,_⟩:=I.hok p _ hk;exact⟨o,e,ex⟩
    ·obtain⟨_,_,_,_,o,_,_,e,ex,_⟩:=I.hok p _ hk;exact⟨o,e,ex⟩
   obtain⟨o,e,ex⟩:=z;refine⟨⟨o,e,ex.1⟩,λa e2=>?_⟩;cases e2;exact⟨o,e,ex.2.1⟩
  ·obtain⟨o,_,_,_,e,ex,_⟩:=I.hok p _ hk;refine⟨⟨o,e,ex.1⟩,λa e2=>?_⟩;cases e2;exact⟨o,e,ex.2.1⟩
 | _=>exact False.elim ty
def tBM (K:Frag) (T:String) (r:V->List V->Hp->VK->Prop) (to:TE) (t:TA):TE:=λO H Q=>to O H λx H1=>tyV K T x H1/\t O H1 λxs H2=>r x xs H2 Q
variable {o e:Expr} {es:List Expr} {to:TE} {t:TA} {name:Str} {apos cpos:Pos} {T id:String} {r:V->List V->Hp->VK->Prop}
theorem jK (pa:PlainAttrs T) (slot:Slot T name id) (hty:typeOf (.builtin id)=pure (.type "method_descriptor")) (hm:MtR X id r) (ho:PE X o to) (ha:PA X (e::es) t)
  (hbase:attributeBase o name X.env (eval o X.env)=eval o X.env:=by rfl)
  (hfew:((backTo cpos (starEach (e::es) X.env)).all (λx=>!x.1)&&(backToKw cpos (keywordEach [] X.env)).all (λx=>x.1.isSome)
   && decide ((e::es).length+([]:List Keyword).length+(if([]:List Keyword).isEmpty then 0 else 1)<30))=true:=by rfl)
  (hline:(apos.endLine==cpos.line)=true:=by rfl) (hs:starEach (e::es) X.env=(false,eval e X.env)::starEach es X.env:=by rfl) (hplain:(backTo cpos (starEach es X.env)).any (·.1)=false:=by rfl) :
  PE X (.Call (.Attribute o name apos) (e::es) [] cpos) (tBM X.K T r to t):=by
 intro pins s O H Q I h;refine wpAny_Call_method_late hbase hfew hline rfl (thn (ho pins s O H _ I h) λv s1 ⟨x,H1,I1,r1,ty,q1⟩=>?_);obtain⟨h1,h2⟩:=zn I1 r1 ty;refine⟨T,id,pa,slot,hty,h1,h2,?_⟩;have hA:=ha cpos pins s1 O H1 _ I1 q1;rw[hs]at hA ⊢;refine Calls.callWith_builtin (by show(false||(backTo cpos (starEach es X.env)).any (·.1))=false;rw[hplain]<;>rfl) (Calls.evalArgs_plain ?_);exact thn hA λus s2 ⟨vs,H2,I2,r2,q2⟩=>hm pins s2 O H2 x vs v us Q I2 r1 r2 q2
end
end L2
namespace L2
open PySem PySem.Spec PyProof.Rows
def MtM (X:Cx) (id:String) (r:V->List V->Hp->VK->Prop):Prop :=
 ∀(pins:List (Addr×Obj)) (s:Shared) (O:St) (H:Hp) (x:V) (xs:List V) (v:Value) (us:List Value) (Q:VK),Inv X pins O H s->RelV x v->Vals xs us->r x xs H Q ->
  wpAny (model X.prog X.w) X.A (call (.builtin id) (v::us)) (EP X pins O Q) X.xe s
theorem Vals.one:∀{x:V} {us:List Value},Vals [x] us->∃u,us=[u]/\RelV x u
 | _,_,.cons r .nil=>⟨_,rfl,r⟩
theorem Vals.two:∀{x y:V} {us:List Value},Vals [x,y] us->∃u v,us=[u,v]/\RelV x u/\RelV y v
 | _,_,_,.cons r (.cons q .nil)=>⟨_,_,rfl,r,q⟩
section
variable {X:Cx} {pins:List (Addr×Obj)} {O:St} {H:Hp} {s:Shared} {l b:Addr} {xs ys zs:List V}
theorem Inv.lset {its its':List Value} {n:Nat} {f:Array Value->Array Value} {t':Nat} (I:Inv X pins O H s) (hH:H l=some (.lst xs))
  (e:s.heap.get? l=some { cls:=.type "list",data:=.seq its.toArray n }) (hf:f its.toArray=its'.toArray) (hv:Vals ys its') (hz:ys.length<=sizeLine) :
  Inv X pins O (upd H l (.lst ys)) { s with heap:=s.heap.update l (Obj.mapSeq f),toks:=t' }:=by
 have q:=PySem.IsL.update e f;rw[hf]at q;refine I.write (x:=l) (e:=l) (by rw[hH];exact trivial) (.inl rfl) (λb' u hb hu=>(Heap.get?_update_other s.heap (Obj.mapSeq f) (Ne.symm hb)).trans hu) ⟨_,q⟩ ?_;exact⟨hz,its',_,hv,q⟩
theorem Inv.lnew {its:List Value} {t':Nat} (I:Inv X pins O H s) (hv:Vals ys its) (hz:ys.length<=sizeLine) :
  Inv X pins O (upd H s.heap.objs.size (.lst ys)) { s with heap:=s.heap.push { cls:=.type "list",data:=.seq its.toArray },toks:=t' } :=
 I.laid (λ_ _ q=>Heap.get?_push_of_some _ q) (Nat.le_refl _) ⟨hz,its,0,hv,Heap.get?_push_size _ rfl⟩
theorem Inv.fresh (I:Inv X pins O H s):H s.heap.objs.size=none:=I.hok.fresh (Nat.le_refl _)
theorem Inv.lstM (I:Inv X pins O H s) (hH:H l=some (.lst xs)):xs.length<=sizeLine/\∃(its:List Value) (n:Nat),Vals xs its/\xs.length=its.length/\s.heap.get? l=some { cls:=.type "list",data:=.seq its.toArray n }:=by
 obtain⟨z,its,n,r,e⟩:=I.hok l _ hH;exact⟨z,its,n,r,r.length,e⟩
end
section
variable {X:Cx}
def nM:V->List V->Hp->VK->Prop:=λx vs H Q=>∃l xs y,x=.ref l/\vs=[y]/\H l=some (.lst xs)/\xs.length<sizeLine/\Q .non (upd H l (.lst (xs++[y])))
theorem jt:MtM X "list.append" nM:=by
 intro pins s O H x vs v us Q I rx rv h;obtain⟨l,xs,y,rfl,rfl,hH,hz,q⟩:=h;cases rx;obtain⟨u,rfl,ru⟩:=rv.one;obtain⟨z,its,n,r,hl,e⟩:=I.lstM hH;refine call_meets F.slot_list_append ⟨_,e,rfl⟩ F.entry_list_append (F.args_list_append_2 _ _) (PySem.list_append l its.toArray n u (by rw[List.size_toArray];omega)) ⟨e,?_⟩;refine⟨.non,_,I.lset (its':=its++[u]) hH e (by simp) (r.append (.cons ru .nil)) ?_,rfl,q⟩;rw[List.length_append,List.length_singleton];omega
def zE:R2:=λx y H Q=>∃l b xs zs,x=.ref l/\y=.ref b/\H l=some (.lst xs)/\H b=some (.lst zs)/\xs.length+zs.length<=sizeLine/\∀p,H p=none->Q (.ref p) (upd H p (.lst (xs++zs)))
theorem Ae:OpR X (binaryOp .Add) zE:=by
 intro pins s O H x y v u Q I rx ry h;obtain⟨l,b,xs,zs,rfl,rfl,hH,hB,hz,q⟩:=h;cases rx;cases ry;obtain⟨z,its,n,r,hl,e⟩:=I.lstM hH;obtain⟨z2,its2,n2,r2,hl2,e2⟩:=I.lstM hB;refine PySem.P.add_list e e2 ?_ (by rw[List.size_toArray,List.size_toArray];omega);have ea:its.toArray++its2.toArray=(its++its2).toArray:=by simp
 rw[ea];exact⟨.ref _,_,I.lnew (t':=s.toks) (r.append r2) (by rw[List.length_append];omega),rfl,q _ I.fresh⟩
end
section
variable {prog:Program} {w:World} {A:Around} {E:Value->Shared->Prop} {s:Shared}
end
section
variable {X:Cx}
end
end L2
namespace Att
open PySem PySem.W PySem.Calls PyProof.Rows
theorem j4 {P:Params} {h:Heap}:∀(ns:List Int) (vs:List Value),WellAll P h vs (ns.map WData.int)->IntsAre vs ns:=by
 intro ns
 induction ns with
 | nil =>
  intro vs w;rw[List.map_nil]at w;cases w;exact .nil
 | cons n ns ih =>
  intro vs w;rw[List.map_cons]at w;cases w with
  | cons a b =>
   cases a;exact .cons _ _ (ih _ b)
theorem tS {l:OpenLaw} {n:Nat} (hn:l.most=some n) {P:Params} {h:Heap} {args:List WData} {vals:List Value}
  (hpre:l.row.toRowW.claim.pre args=true) (hwl:WellAll P h vals args) :
  ∃a vs ns,vals=[Value.ref a]/\args=[WData.list (ns.map WData.int)]/\h.get? a=some { cls:=.type "list",data:=.seq vs.toArray }/\IntsAre vs ns/\ns.length<=n:=by
 have hsh:WShape.hasAll [] args [.list .int]=true:=(pre_splitW hpre).1;have hc:l.pre.holds [] { args:=args }=true:=(pre_splitW hpre).2;obtain⟨d,r,rfl,h1,h2⟩:=hasAllW_cons hsh;obtain rfl:=hasAllW_nil h2;obtain⟨xs,rfl,h3⟩:=hasW_list h1;obtain⟨ns,rfl⟩:=items_int h3;have hlen:ns.length<=n:=by
  unfold OpenLaw.pre at hc;have h4:(WTm.not (.lt (.lit (.int (n:Int))) (.len (.arg 0)))).holds [] { args:=[.list (ns.map .int)] }=true:=by
   have h4:=(holds_andW hc).1;rw[hn]at h4;exact h4
  have h5:=condW_of h4 (w_not (w_lt w_lit (w_len_list (w_arg rfl))));rw[List.length_map]at h5;refine Nat.le_of_not_lt λq=>?_;have q':(n:Int)<((ns.length:Nat):Int):=by omega
  first
   | (rw[decide_eq_true q']at h5;exact absurd h5 (by decide))
   | (simp at h5;omega)
 cases hwl with
 | cons w1 w2 =>
  cases w2;cases w1 with
  | list ho hall=>exact⟨_,_,ns,rfl,rfl,ho,j4 ns _ hall,hlen⟩
theorem tX (l:OpenLaw) (args:List WData):l.row.toRowW.claim.post args (.bool true) args=true :=
 postW_of (r:=l.row.toRowW) (X:=(true==true))
  (show WShape.has [] (.bool true) .bool=true by first|rfl|decide|simp[WShape.has,WShape.arms,WShape.armsAll])
  (show(WTm.eq .res (.lit (.bool true))).value [] { args:=args,res:=some (.bool true),after:=args }=some (.bool (true==true))from w_eq_bool (w_res rfl) w_lit) rfl
theorem attach_call {l:OpenLaw} {n:Nat} {q:Program} {loose:List Str} {XP:(Str->Option Value)->Heap->Prop} {YP:World->Heap->Prop} {d:DefRec}
  (hn:l.most=some n) (hdf:d.params.defaults=[])
  (call:∀(w:World) (s₀ s₁:Shared) (mg mb:Str->Option Value) (fa:Addr) (o:Obj) (pm cd doc:Value) (a:Addr) (vs:List Value) (ns:List Int),
   Ground q loose [] XP w s₀ mg mb s₁.heap->YP w s₁.heap ->
   s₁.heap.get? fa=some o->o.data=.func (docDef d.name d.params d.body d.scope pm cd doc)->s₁.heap.CodeRec cd d.name->mg d.name=some (.ref fa) ->
   s₁.heap.get? a=some { cls:=.type "list",data:=.seq vs.toArray }->IntsAre vs ns->ns.length<=n->s₁.gens=#[] ->
   codeAny (model l.prog w) callerA (.call (.ref fa) ⟨[.ref a],[]⟩) (λr s'=>r=.ok (.ret (.bool true))/\OldK s₁.heap s'.heap/\s'.os=s₁.os/\AllBare s'.gens) s₁) :
  WalkO q loose XP YP l.row.toRowW d [] (λf vs=>PySem.call f vs):=by
 intro w s₀ s₁ mg mb G DQ fa o pm cd doc dV kV ho hd hcd hD hmg hg args vals as hpre hlay hrd hwl hlo;obtain rfl:dV=.none:=Dflts.none hD hdf;obtain rfl:kV=.none:=Dflts.noKw hD;obtain⟨a,vs,ns,rfl,rfl,hobj,hints,hlen⟩:=tS hn hpre hwl;refine enter_call (codeAny_mono (call w s₀ s₁ mg mb fa o pm cd doc a vs ns G DQ ho (fd_plain hd) hcd hmg hobj hints hlen hg) λr s' hq=>?_);obtain⟨rfl,h2,h3,h4⟩:=hq;exact⟨.inl ⟨.bool true,.bool true,[],rfl,λ_=>rfl,.bool true,tX l _,λ_=>⟨List.Pairwise.nil,λ_ hm=>(nomatch hm)⟩⟩,h2,h3,h4⟩
section
variable {prog:Program} {w:World} {A:Around} {E:Value->Shared->Prop} {s:Shared} {K:Frag}
end
end Att
namespace L2
open PySem PySem.Spec PyProof.Rows
theorem mP:∀{vs:List Value} {ns:List Int},IntsAre vs ns->Vals (ns.map V.int) vs
 | _,_,.nil=>.nil
 | _,_,.cons n t h=>.cons ⟨t,rfl⟩ (mP h)
def Bk (H:Hp):Prop:=∀b,H b=none\/∃o xs,H b=some (.frz o (.lst xs))
theorem vR {P:Program} {w:World} {K:Frag} {mg mb:Str->Option Value} {CX:CXT} {k:Nat} {fa a:Addr} {fd:FuncData} {x:Str} {sp:Sp} {s₁:Shared} {vs:List Value} {ns:List Int}
  (KX:K.In s₁.heap) (hns:s₁.heap.Ns mainGlobals mg) (hb:s₁.heap.Ns builtinsNs mb) (hbb:∀x:Str,x ≠ "__name__"->mb x=bootBuiltins x) (hlim:s₁.heap.NoLimit) (hg:s₁.gens=#[])
  (ha:s₁.heap.get? a=some { cls:=.type "list",data:=.seq vs.toArray }) (hi:IntsAre vs ns) (hl:ns.length<=sizeLine) (hr:Room k callerA)
  (F:∀base:Heap,K.In base->base.Ns mainGlobals mg->FnOk P w K mg base CX k fa fd [x] sp) (hbind:∀(s:Shared) (u:Value),BindsTo s fd ⟨[u],[]⟩ [(x,u)])
  (hsp:∀H:Hp,Bk H->SqL K H a (ns.map V.int)->sp [.ref a] H (λv _=>v=.bl true) λ_ _ _=>False)
  (hCX:∀H e s',CX [] H s₁ (λ_ _ _=>False) e s'->False) :
  codeAny (model P w) callerA (.call (.ref fa) ⟨[.ref a],[]⟩) (λr s'=>r=.ok (.ret (.bool true))/\OldK s₁.heap s'.heap/\s'.os=s₁.os/\AllBare s'.gens) s₁:=by
 have rv:=mP hi;have lenV:=hi.length;have core:∀H:Hp,Bk H->SqL K H a (ns.map V.int)->HOk P w H s₁.heap->(∀b,H b≠none->b=a)->(H a≠none->K.lookup a=none) ->
   codeAny (model P w) callerA (.call (.ref fa) ⟨[.ref a],[]⟩) (λr s'=>r=.ok (.ret (.bool true))/\OldK s₁.heap s'.heap/\s'.os=s₁.os/\AllBare s'.gens) s₁:=by
  intro H hO hS hok hA hK;have base_of:∀{b:Addr} {o:Obj},s₁.heap.get? b=some o->H b=none->(om s₁.heap H).get? b=some o:=λe n=>vX e n;have noA:∀{b:Addr} {o:Obj} {es:Array DictEntry} {ep:Nat},s₁.heap.get? b=some o->o.data=.dict es ep->H b=none:=λ{b o es ep} e d=>by
   cases q:H b with
   | none=>rfl
   | some u =>
    have e':b=a:=hA b (by rw[q];simp);subst e';rw[ha]at e;cases e;have d':Data.seq vs.toArray _=Data.dict es ep:=d;cases d'
  have nsK:∀{b:Addr} {m:Str->Option Value},s₁.heap.Ns b m->(om s₁.heap H).Ns b m:=λ{b m} ⟨o,es,ep,e,d,r⟩=>⟨o,es,ep,base_of e (noA e d),d,r⟩;have hKb:K.In (om s₁.heap H):=λb o e=>base_of (KX b o e) (by
   cases q:H b with
   | none=>rfl
   | some u =>
    have e':b=a:=hA b (by rw[q];simp);subst e';rw[hK (by rw[q];simp)]at e;cases e)
  have hM:Mod K mg (om s₁.heap H):=⟨hKb,nsK hns,⟨mb,nsK hb,hbb⟩,let ⟨mc,h1,h2⟩:=hlim;⟨mc,nsK h1,h2⟩⟩;have e0:Env0 P w K mg (om s₁.heap H) callerA [] s₁ H:=⟨rfl,hM,λb o e=>xV e,Nat.le_of_eq (uc _ _),trivial,λb hb=>absurd (show b∈([]:List Addr)from hb) (by simp),hok,.of_eq hg⟩;refine codeAny_mono ((F _ hKb (nsK hns)).run callerA [] s₁ H ⟨[.ref a],[]⟩ [.ref a] [.ref a] _ _ hr e0 (hbind s₁ (.ref a)) (.cons rfl .nil) (hsp H hO hS)) λr s' h=>?_;cases r with
  | error e=>exact(hCX H e s' h).elim
  | ok fl =>
   cases fl with
   | next=>exact False.elim h
   | brk=>exact False.elim h
   | cont=>exact False.elim h
   | ret u =>
    obtain⟨v,H',os,bare,un,hok',r',q⟩:=h;have q':v=.bl true:=q;subst q';obtain rfl:u=Value.bool true:=r';refine⟨rfl,OldK.of_keep λb o e=>?_,os,bare⟩;cases q:H b with
    | none=>exact un.keep b o e q (by intro z;exact absurd (show b∈([]:List Addr)from z) (by simp)) (by simp)
    | some u =>
     rcases hO b with z|⟨ob,xs,z⟩
     ·rw[q]at z;cases z
     ·have z2:=un.frzs b ob _ z;obtain⟨e1,_⟩:=hok b _ z;obtain⟨e2,_⟩:=hok' b _ z2;rw[e]at e1;cases e1;exact e2
 cases hk:K.lookup a with
 | some o =>
  have e:=KX a o hk;rw[ha]at e;cases e;refine core (λ_=>none) (λ_=>.inl rfl) (.inr ⟨_,vs.toArray,_,hk,rfl,rfl,rfl,by rw[List.size_toArray,lenV];exact hl,by simpa using rv⟩) (λb u z=>by have z':(none:Option HO)=some u:=z;cases z') (λb z=>absurd rfl z) λz=>absurd rfl z
 | none =>
  refine core (λb=>if b=a then some (.frz { cls:=.type "list",data:=.seq vs.toArray } (.lst (ns.map V.int)))else none) (λb=>?_) (.inl (.inr ⟨{ cls:=.type "list",data:=.seq vs.toArray },if_pos rfl⟩)) (λb u z=>?_) (λb z=>?_) λ_=>hk
  ·by_cases hb:b=a
   ·exact .inr ⟨_,_,if_pos hb⟩
   ·exact .inl (if_neg hb)
  ·by_cases hb:b=a
   ·have z':=(if_pos hb).symm.trans z;cases z';subst hb;exact⟨ha,by rw[List.length_map];exact hl,vs,_,rv,ha⟩
   ·have z':=(if_neg hb).symm.trans z;cases z'
  ·by_cases hb:b=a
   ·exact hb
   ·exact absurd (if_neg hb) z
end L2
namespace L2
open PySem PySem.Spec PyProof.Rows
theorem walk_of {l:PySem.W.OpenLaw} {n k:Nat} {q:Program} {loose:List Str} {XP:(Str->Option Value)->Heap->Prop} {YP:World->Heap->Prop} {d:DefRec} {K:Params->Frag} {CX:World->CXT} {sp:World->Sp} {x:Str}
  (hn:l.most=some n) (hn2:n<=sizeLine) (hdf:d.params.defaults=[]) (hr:Room k callerA)
  (hY:∀(w:World) (h:Heap),YP w h->(K w.params).In h)
  (F:∀(w:World) (mg:Str->Option Value) (fa:Addr) (h:Heap),(K w.params).In h->h.Ns mainGlobals mg->mg d.name=some (.ref fa) ->
   ∃fd:FuncData,(∀(s:Shared) (u:Value),BindsTo s fd ⟨[u],[]⟩ [(x,u)]) /\
    ∀base:Heap,(K w.params).In base->base.Ns mainGlobals mg->FnOk l.prog w (K w.params) mg base (CX w) k fa fd [x] (sp w))
  (hsp:∀(w:World) (H:Hp) (a:Addr) (ns:List Int),ns.length<=n->Bk H->SqL (K w.params) H a (ns.map V.int)->sp w [.ref a] H (λv _=>v=.bl true) λ_ _ _=>False)
  (hCX:∀(w:World) (H:Hp) (s:Shared) (e:Value) (s':Shared),CX w [] H s (λ_ _ _=>False) e s'->False) :
  PySem.W.WalkO q loose XP YP l.row.toRowW d [] (λf vs=>PySem.call f vs):=by
 refine Att.attach_call hn hdf λw s₀ s₁ mg mb fa o pm cd doc a vs ns G DQ ho hd hcd hmg hobj hints hlen hg=>?_;have KX:=hY w _ DQ;obtain⟨fd,hb,hF⟩:=F w mg fa _ KX G.T.g hmg;exact vR KX G.T.g G.T.b G.T.builtins G.T.nolimit hg hobj hints (Nat.le_trans hlen hn2) hr hF hb (λH hO hS=>hsp w H a ns hlen hO hS) λH e s'=>hCX w H s₁ e s'
end L2
namespace L2
open PySem PySem.Spec PyProof.Rows
def yf (s:Stmt) (j:Nat):Stmt:=match s with
 | .ClassDef _ _ _ body _ _ _ _ _ _ _=>body.getD j (.Pass ⟨0,0,0,0⟩)
 | _=>.Pass ⟨0,0,0,0⟩
def ig (s:Stmt):Arguments:=match s with
 | .FunctionDef _ a _ _ _ _ _ _ _ _=>a
 | _=>{ posonlyargs:=[],args:=[],vararg:=none,kwonlyargs:=[],kw_defaults:=[],kwarg:=none,defaults:=[] }
def bM (s:Stmt):List Stmt:=match s with
 | .FunctionDef _ _ b _ _ _ _ _ _ _=>b
 | _=>[]
def ai (s:Stmt):Scope:=match s with
 | .FunctionDef _ _ _ _ _ _ sc _ _ _=>sc
 | _=>{ kind:=.function,names:=[],isGenerator:=false,isCoroutine:=false }
abbrev CX0:CXT:=λ_ _ _ _ _ _=>False
abbrev E0:XK:=λ_ _ _=>False
theorem pi {X:Cx}:oY CX0 X E0:=λ_ _ _ _ _ _ _ h=>h.elim
structure Fun (K:Frag) (x qual:Str) (st:Stmt) (f:Addr) (fd:FuncData):Prop where
 ex:∃(oc:Value) (od:Option Addr) (kV doc pm:Value) (an:Option Addr) (cdv ct:Value) (osl:Array (Option Value)),
  fd=fnOf x qual (ig st) (bM st) (ai st) .none kV doc pm an cdv ct/\K.lookup f=some ⟨oc,od,.func fd,osl⟩/\codeIn K cdv qual=true
 kp:keepIn K (.ref f)=true
variable {x qual:Str} {st:Stmt} {f:Addr}
section
variable {P:Program} {w:World} {K:Frag} {mg:Str->Option Value} {base:Heap}
theorem Fun.ok {fd:FuncData} {N ps:List Str} {k:Nat} {sp:Sp} (F:Fun K x qual st f fd) (S:ax N ps (ai st)) (len:∀vs H Q E,sp vs H Q E->vs.length=ps.length)
  (hbody:∀(cdv:Value) (A:Around) (outer:List Env) (s:Shared) (H:Hp) (vs:List V) (Q:VK) (E:XK),Room k (A.deeper (envOfC qual (ai st) s.heap.objs.size f cdv))->sp vs H Q E ->
   ∃t,PSs (gw CX0 P w K mg base N qual (ai st) f cdv A outer s H E).nox (bM st) t/\t { nx:=λ_ H'=>Q .non H',rt:=Q } (start N vs) H):FnOk P w K mg base CX0 (k+1) f fd ps sp:=by
 obtain⟨oc,od,kV,doc,pm,an,cdv,ct,osl,rfl,lk,hcd⟩:=F.ex;refine zc lk hcd S len λA outer s H vs Q E hr hsp=>?_;obtain⟨t,h,q⟩:=hbody cdv A outer s H vs Q E hr hsp;exact⟨t,h.nox,q⟩
theorem Fun.binds {fd:FuncData} {ps:List Str} (F:Fun K x qual st f fd)
  (h:∀(kV doc pm:Value) (an:Option Addr) (cdv ct:Value) (us:List Value),us.length=ps.length->bindArgs (fnOf x qual (ig st) (bM st) (ai st) .none kV doc pm an cdv ct) ⟨us,[]⟩=pure (ps.zip us)):Binds K fd ps []:=by
 obtain⟨oc,od,kV,doc,pm,an,cdv,ct,osl,rfl,lk,hcd⟩:=F.ex;exact .all (h kV doc pm an cdv ct)
theorem aU {oc:Value} {od an:Option Addr} {osl:Array (Option Value)} {kV doc pm cdv ct:Value} (l:K.lookup f=some ⟨oc,od,.func (fnOf x qual (ig st) (bM st) (ai st) .none kV doc pm an cdv ct),osl⟩)
  (c:codeIn K cdv qual=true) (k:keepIn K (.ref f)=true):Fun K x qual st f (fnOf x qual (ig st) (bM st) (ai st) .none kV doc pm an cdv ct):=⟨⟨oc,od,kV,doc,pm,an,cdv,ct,osl,rfl,l,c⟩,k⟩
end
section
variable {X:Cx}
theorem pv (i:Nat) {pos:Pos} (hN:X.N[i]?=some x:=by rfl) (hv:Vis X.env.scope x:=by first|exact Or.inl rfl|exact Or.inr (Or.inl rfl)|exact Or.inr (Or.inr rfl)) (hd:(x==("__debug__":Str))=false:=by decide)
  (hcd:(x==("__classdict__":Str))=false:=by decide):PE X (.Name x pos) (du i):=zW hN hv hd hcd
end
theorem Ay {A B:Prop} (h:B):if false=true then A else B:=by
 rw[if_neg Bool.false_ne_true];exact h
theorem Ax {A B:Prop} (h:A):if true=true then A else B:=by
 rw[if_pos rfl];exact h
def Same (H H':Hp):Prop:=∀b o,H b=some o->H' b=some o
theorem Same.refl (H:Hp):Same H H:=λ_ _ h=>h
theorem Same.trans {H H1 H2:Hp} (a:Same H H1) (b:Same H1 H2):Same H H2:=λc o h=>b c o (a c o h)
theorem Same.seq {K:Frag} {H H':Hp} {a:Addr} {xs:List V} (e:Same H H') (h:SqL K H a xs):SqL K H' a xs:=by
 rcases h with(h|⟨o,h⟩)|h
 ·exact .inl (.inl (e _ _ h))
 ·exact .inl (.inr ⟨o,e _ _ h⟩)
 ·exact .inr h
end L2
set_option compiler.extract_closed false
set_option genSizeOf true
set_option genInjectivity true
set_option autoImplicit false
namespace DL
open PySem PySem.Spec PyProof.Rows L2
abbrev St:=L2.St
def exN (c:Nat):Str:=match c with
 | 0=>"NoHall"
 | 1=>"NoArrow"
 | 2=>"NoBox"
 | 3=>"NoPicture"
 | 4=>"NoReading"
 | 5=>"NoThing"
 | _=>"NoSending"
structure KeepBut (fs ch:List Addr) (h h':Heap):Prop where
 kp:∀b o,h.get? b=some o->b∉fs->b∉ch->h'.get? b=some o
 sl:∀b o,h.get? b=some o->b∈fs->b∉ch->∃sl,h'.get? b=some { o with slots:=sl }
 th:∀b o,h.get? b=some o->∃o',h'.get? b=some o'
theorem lO (f:Array Value->Array Value) (o:Obj):(Obj.mapFields f o).dict=o.dict:=by
 obtain⟨c,d,dt,sl⟩:=o;cases dt<;>rfl
structure dC (h:Heap) (e:Addr) (cls:Value) (ch:List Addr):Prop where
 mem:e∈ch
 at_:∃oe vs,h.get? e=some oe/\oe.cls=cls/\oe.dict=none/\oe.data=.fields vs/\1<vs.size/\(vs[1]?=some .none\/∃T oT ts fl,vs[1]?=some (.ref T)/\T≠e/\T∈ch/\h.get? T=some oT/\oT.data=.fields ts/\ts[3]?=some fl)
 thr:∀b∈ch,∃o vs,h.get? b=some o/\o.data=.fields vs
def zi (h:Heap) (e:Addr):Prop:=∃oe vs T,h.get? e=some oe/\oe.data=.fields vs/\vs[1]?=some (.ref T)
variable {ch:List Addr} {Q:Unit->Shared->Prop} {env:Env} {outer:List Env} {L:Addr}
section
variable {M:Model} {A:Around} {E:Value->Shared->Prop} {s:Shared}
theorem KeepBut.trans {fs:List Addr} {h1 h2 h3:Heap} (a:KeepBut fs ch h1 h2) (b:KeepBut fs ch h2 h3):KeepBut fs ch h1 h3:=by
 refine⟨λc o q nf nc=>b.kp c o (a.kp c o q nf nc) nf nc,λc o q nf nc=>?_,λc o q=>?_⟩
 ·obtain⟨sl,q2⟩:=a.sl c o q nf nc;obtain⟨sl',q3⟩:=b.sl c _ q2 nf nc;exact⟨sl',q3⟩
 ·obtain⟨o',q2⟩:=a.th c o q;exact b.th c o' q2
theorem iG {fs:List Addr} {e:Addr} {cls:Value} {fr:Option Addr} (x:dC s.heap e cls ch) (k:∀h',KeepBut fs ch s.heap h'->dC h' e cls ch->Q () { s with heap:=h' }):wpAny M A (setFlight (.ref e) fr) Q E s:=by
 obtain⟨hm,⟨oe,vs,he,hc,hdc,hd,hsz,h1⟩,thr⟩:=id x;unfold setFlight;rcases h1 with h1|⟨T,oT,ts,fl,h1,nT,mT,hT,dT,h3⟩
 ·refine wpAny_bind (wpAny_field he hd h1 ?_);rw[if_neg (by decide)];exact wpAny_pure (k s.heap ⟨λb o q _ _=>q,λb o q _ _=>⟨o.slots,q⟩,λb o q=>⟨o,q⟩⟩ x)
 ·refine wpAny_bind (wpAny_field he hd h1 ?_);rw[if_pos (show(Value.ref T != Value.none)=true from by simp)];refine wpAny_setField hT dT (Array.getElem?_eq_some_iff.mp h3).1 (k _ ?_ ?_)
  ·have no:∀b,b∉ch->T≠b:=λb nc z=>nc (z▸mT);refine⟨λb o q _ nc=>(Heap.get?_update_other _ _ (no b nc)).trans q,λb o q _ nc=>⟨o.slots,(Heap.get?_update_other _ _ (no b nc)).trans q⟩,λb o q=>?_⟩;by_cases hb:b=T
   ·subst hb;exact⟨_,Heap.get?_update_self _ hT (Obj.isFreed_of_fields (Obj.data_mapFields dT _))⟩
   ·exact⟨o,(Heap.get?_update_other _ _ (Ne.symm hb)).trans q⟩
  ·have hT':=Heap.get?_update_self (Obj.mapFields (·.setIfInBounds 3 (fr.elim Value.none λf=>rawInt f))) hT (Obj.isFreed_of_fields (Obj.data_mapFields dT _));refine⟨hm,⟨oe,vs,(Heap.get?_update_other _ _ nT).trans he,hc,hdc,hd,hsz,.inr ⟨T,_,_,fr.elim Value.none λf=>rawInt f,h1,nT,mT,hT',Obj.data_mapFields dT _,?_⟩⟩,λb hb=>?_⟩
   ·have:=(Array.getElem?_eq_some_iff.mp h3).1;simp[this]
   ·by_cases hbT:b=T
    ·subst hbT;exact⟨_,_,hT',Obj.data_mapFields dT _⟩
    ·obtain⟨o,ws,q1,q2⟩:=thr b hb;exact⟨o,ws,(Heap.get?_update_other _ _ (Ne.symm hbT)).trans q1,q2⟩
theorem sZ {base:Heap} {e:Addr} {oe:Obj} {vs:Array Value} {head:Value} {hadNext:Bool}
  (hfr:A.frames=some (env::outer)) (hl:s.heap.FunFrames base (env::outer)) (hf:env.frame=some L) (hm:e∈ch) (he:s.heap.get? e=some oe) (hdc:oe.dict=none) (hd:oe.data=.fields vs) (hsz:1<vs.size) (thr:∀b∈ch,∃o ws,s.heap.get? b=some o/\o.data=.fields ws)
  (k:∀h' T,KeepBut (frs (env::outer)) ch s.heap h'->s.heap.get? T=none->dC h' e oe.cls (T::ch)->zi h' e->Q () { s with heap:=h' }) :
  wpAny M A (do let a <- frameOf env;let pl <- entryPlaceOf L hadNext;let b <- EntryCells.newEntry head a .none (rawInt L) .none pl;setField (.ref e) 1 b) Q E s:=by
 have nofr:∀b∈ch,b∉frs (env::outer):=λb hb hm=>by
  obtain⟨o,ws,q1,q2⟩:=thr b hb;obtain⟨_,o',q3,q4⟩:=hl.mem hm;rw[q1]at q3;cases q3;exact q4 _ q2
 refine wpAny_bind (wpAny_frameOf_fun hfr hl hf λh1 hs=>?_);refine wpAny_bind (wpAny_entryPlaceOf λpl hpl=>?_);unfold EntryCells.newEntry newFields;refine wpAny_bind (wpAny_newObj_type ?_ (hpl.sizeOk5 _ _ _ _ _));have g1:∀b o,b∉frs (env::outer)->s.heap.get? b=some o->h1.get? b=some o:=λb o hb q=>(hs.2.1 b hb).trans q;have e1:=g1 e oe (nofr e hm) he;generalize hot:({ cls:=.type "traceback",dict:=none,data:=.fields ([head,.ref L,.none,rawInt L,.none]++(if pl.isEmpty then List.replicate 6 Value.none else pl)).toArray }:Obj)=ot;have e2:=Heap.get?_push_of_some ot e1;refine wpAny_setField e2 hd hsz ?_;have ne:h1.objs.size≠e:=Nat.ne_of_gt (Heap.lt_size e1);have d3:=Obj.data_mapFields hd (·.setIfInBounds 1 (Value.ref h1.objs.size));have e3:=Heap.get?_update_self (Obj.mapFields (·.setIfInBounds 1 (Value.ref h1.objs.size))) e2 (Obj.isFreed_of_fields d3);have dt:ot.data=.fields ([head,.ref L,.none,rawInt L,.none]++(if pl.isEmpty then List.replicate 6 Value.none else pl)).toArray:=by rw[<- hot]
 have nft:ot.isFreed=false:=Obj.isFreed_of_fields dt;have t3:((h1.push ot).update e (Obj.mapFields (·.setIfInBounds 1 (Value.ref h1.objs.size)))).get? h1.objs.size=some ot:=(Heap.get?_update_other _ _ ne.symm).trans (Heap.get?_push_size h1 nft);have at1:(vs.setIfInBounds 1 (Value.ref h1.objs.size))[1]?=some (.ref h1.objs.size):=by simp[hsz]
 refine k _ h1.objs.size ?_ ?_ ?_ ⟨_,_,_,e3,d3,at1⟩
 ·have stay:∀b o,b≠e->h1.get? b=some o->((h1.push ot).update e (Obj.mapFields (·.setIfInBounds 1 (Value.ref h1.objs.size)))).get? b=some o:=λb o nb q=>by
   rw[Heap.get?_update_other _ _ (Ne.symm nb)];exact Heap.get?_push_of_some _ q
  refine⟨λb o q nf nc=>stay b o (λz=>nc (z▸hm)) (g1 b o nf q),λb o q _ nc=>?_,λb o q=>?_⟩
  ·obtain⟨sl,q2⟩:=hs.2.2 b o q;exact⟨sl,stay b _ (λz=>nc (z▸hm)) q2⟩
  ·by_cases hb:b=e
   ·subst hb;exact⟨_,e3⟩
   ·obtain⟨sl,q2⟩:=hs.2.2 b o q;exact⟨_,stay b _ hb q2⟩
 ·cases q:s.heap.get? h1.objs.size with
  | none=>rfl
  | some o =>
   obtain⟨sl,q2⟩:=hs.2.2 _ o q;exact absurd (Heap.lt_size q2) (Nat.lt_irrefl _)
 ·refine⟨List.mem_cons_of_mem _ hm,⟨_,_,e3,Obj.cls_mapFields _ _,(lO _ _).trans hdc,d3,by simpa using hsz,.inr ⟨h1.objs.size,_,_,rawInt L,at1,ne,List.mem_cons_self,t3,dt,?_⟩⟩,λb hb=>?_⟩
  ·simp
  ·rcases List.mem_cons.mp hb with z|hb
   ·subst z;exact⟨_,_,t3,dt⟩
   ·by_cases hbe:b=e
    ·subst hbe;exact⟨_,_,e3,d3⟩
    ·obtain⟨o,ws,q1,q2⟩:=thr b hb;have q3:=g1 b o (nofr b hb) q1;refine⟨o,ws,?_,q2⟩;rw[Heap.get?_update_other _ _ (Ne.symm hbe)];exact Heap.get?_push_of_some _ q3
theorem pz {base:Heap} {e:Addr} {cls:Value}
  (hfr:A.frames=some (env::outer)) (hl:s.heap.FunFrames base (env::outer)) (hf:env.frame=some L) (x:dC s.heap e cls ch)
  (k:∀h' ch',KeepBut (frs (env::outer)) ch s.heap h'->(∀b∈ch',b∈ch\/s.heap.get? b=none)->dC h' e cls ch'->zi h' e->Q () { s with heap:=h' }) :
  wpAny M A (noteFrame (.ref e) env) Q E s:=by
 obtain⟨hm,⟨oe,vs,he,hc,hdc,hd,hsz,h1⟩,thr⟩:=id x;subst hc;have new:∀(T:Addr),s.heap.get? T=none->∀b∈T::ch,b∈ch\/s.heap.get? b=none:=λT nT b hb=>by
  rcases List.mem_cons.mp hb with rfl|hb
  ·exact .inr nT
  ·exact .inl hb
 unfold noteFrame;simp only[hf];rcases h1 with h1|⟨T,oT,ts,fl,h1,nT,mT,hT,dT,h3⟩
 ·refine wpAny_bind (wpAny_field he hd h1 ?_);rw[if_neg (by decide)];exact sZ hfr hl hf hm he hdc hd hsz thr λh' T kb nT x' tb=>k h' (T::ch) kb (new T nT) x' tb
 ·refine wpAny_bind (wpAny_field he hd h1 ?_);rw[if_pos (show(Value.ref T != Value.none)=true from by simp)];refine wpAny_bind (wpAny_field hT dT h3 ?_);by_cases hfl:(fl==rawInt L)=true
  ·rw[if_pos hfl];exact wpAny_pure (k s.heap ch ⟨λb o q _ _=>q,λb o q _ _=>⟨o.slots,q⟩,λb o q=>⟨o,q⟩⟩ (λb hb=>.inl hb) x ⟨oe,vs,T,he,hd,h1⟩)
  ·rw[if_neg hfl];refine wpAny_bind (wpAny_setField hT dT (Array.getElem?_eq_some_iff.mp h3).1 ?_);have oth:∀b,b≠T->(s.heap.update T (Obj.mapFields (·.setIfInBounds 3 Value.none))).get? b=s.heap.get? b:=λb hb=>Heap.get?_update_other _ _ (Ne.symm hb);have dT':=Obj.data_mapFields dT (·.setIfInBounds 3 Value.none);have hT':=Heap.get?_update_self (Obj.mapFields (·.setIfInBounds 3 Value.none)) hT (Obj.isFreed_of_fields dT');have kb:KeepBut (frs (env::outer)) ch s.heap (s.heap.update T (Obj.mapFields (·.setIfInBounds 3 Value.none))):=by
    refine⟨λb o q _ nc=>(oth b λz=>nc (z▸mT)).trans q,λb o q _ nc=>⟨o.slots,(oth b λz=>nc (z▸mT)).trans q⟩,λb o q=>?_⟩;by_cases hb:b=T
    ·subst hb;exact⟨_,hT'⟩
    ·exact⟨o,(oth b hb).trans q⟩
   refine sZ hfr (hl.of_keeps λb o hb hnf=>⟨o,(oth b λz=>?_).trans hb,rfl⟩) hf hm ((oth e (Ne.symm nT)).trans he) hdc hd hsz (λb hb=>?_) λh' T' kb' nT' x' tb=>k h' (T'::ch) (kb.trans kb') (new T' ?_) x' tb
   ·subst z;rw[hT]at hb;cases hb;exact hnf _ dT
   ·by_cases hbT:b=T
    ·subst hbT;exact⟨_,_,hT',dT'⟩
    ·obtain⟨o,ws,q1,q2⟩:=thr b hb;exact⟨o,ws,(oth b hbT).trans q1,q2⟩
   ·cases q:s.heap.get? T' with
    | none=>rfl
    | some o=>obtain⟨o',q2⟩:=kb.th _ o q;rw[nT']at q2;cases q2
theorem KeepBut.wide {fs ch':List Addr} {h h' g:Heap} (k:KeepBut fs ch' h' g) (hn:∀b∈ch',b∈ch\/h.get? b=none) (k0:KeepBut fs ch h h'):KeepBut fs ch h g:=by
 have nn:∀b o,h.get? b=some o->b∉ch->b∉ch':=λb o q nc hb=>by
  rcases hn b hb with z|z
  ·exact nc z
  ·rw[q]at z;cases z
 refine⟨λb o q nf nc=>k.kp b o (k0.kp b o q nf nc) nf (nn b o q nc),λb o q nf nc=>?_,λb o q=>?_⟩
 ·obtain⟨sl,q2⟩:=k0.sl b o q nf nc;obtain⟨sl',q3⟩:=k.sl b _ q2 nf (nn b o q nc);exact⟨sl',q3⟩
 ·obtain⟨o',q2⟩:=k0.th b o q;exact k.th b o' q2
theorem mY {base:Heap} {e:Addr} {cls:Value}
  (hfr:A.frames=some (env::outer)) (hl:s.heap.FunFrames base (env::outer)) (hf:env.frame=some L) (x:dC s.heap e cls ch)
  (k:∀h' ch',KeepBut (frs (env::outer)) ch s.heap h'->(∀b∈ch',b∈ch\/s.heap.get? b=none)->dC h' e cls ch'->Q () { s with heap:=h' }) :
  wpAny M A (noteFrame (.ref e) env) (λ_ s'=>wpAny M A (setFlight (.ref e) none) Q E s') E s :=
 pz hfr hl hf x λh1 ch1 k1 n1 x1 _=>iG (fs:=frs (env::outer)) x1 λh2 k2 x2=>k h2 ch1 (k2.wide n1 k1) n1 x2
end
variable {X:Cx} {O:St} {H:Hp} {s:Shared}
theorem _root_.L2.Inv.frn {pins:List (Addr×Obj)} (I:Inv X pins O H s):∀b∈X.fs,H b=none:=λb hb=>by
 obtain⟨_,o,ho,_⟩:=I.ok.funs.mem hb;exact I.base.free b o ho (I.ok.frf b hb) λz=>I.ok.exfs b z hb
def oZ (X:Cx) (pins:List (Addr×Obj)) (H:Hp) (b:Addr):Prop :=
 H b=none/\X.s₀.heap.get? b=none/\b≠X.env.locals/\b∉frs X.stack/\(∀x c,X.env.cells.lookup x=some c->c≠b)/\∀p∈X.pn++pins,p.1≠b
variable {o:HO}
section
variable {X:Cx} {pins:List (Addr×Obj)} {O:St} {H:Hp} {s:Shared} {h':Heap} {ch:List Addr}
theorem ub {P:Program} {w:World} {H:Hp} {h:Heap} (x:HOk P w H h) {a:Addr} (e:H a=some o):∃u,h.get? a=some u:=by
 have q:=x a o e;clear e
 induction o with
 | lst xs=>obtain⟨_,its,n,_,e1⟩:=q;exact⟨_,e1⟩
 | tup xs=>obtain⟨_,its,_,o,e1,_⟩:=q;exact⟨_,e1⟩
 | dK kvs=>obtain⟨_,_,vs,_,o,es,ep,e1,_⟩:=q;exact⟨_,e1⟩
 | dT kvs=>obtain⟨_,_,xs,_,o,es,ep,e1,_⟩:=q;exact⟨_,e1⟩
 | set S n=>obtain⟨o,es,ep,et,e1,_⟩:=q;exact⟨_,e1⟩
 | ins C dx fs=>obtain⟨_,_,_,e1,_⟩:=q;exact⟨_,e1⟩
 | own y=>exact q
 | xd fs=>obtain⟨mA,⟨o,es,ep,e1,_⟩,_⟩:=q;exact⟨_,e1⟩
 | rng lo hi=>obtain⟨t,u,v,e1⟩:=q;exact⟨_,e1⟩
 | frz ob u _=>exact⟨_,q.1⟩
 | tbl ps=>exact⟨_,q⟩
 | met f y=>exact⟨_,q⟩
 | ext φ=>exact q.2.1
theorem Inv.callX (I:Inv X pins O H s) (k:KeepBut (frs X.stack) ch s.heap h') (hch:∀b∈ch,oZ X pins H b):Inv X pins O H { s with heap:=h' }:=by
 have neL:∀b o,X.s₀.heap.get? b=some o->b≠X.env.locals:=λb o e=>Nat.ne_of_lt (Nat.lt_of_lt_of_le (Heap.lt_size e) I.ok.above);have nch:∀b o,X.s₀.heap.get? b=some o->b∉ch:=λb o e hb=>by rw[(hch b hb).2.1]at e;cases e
 have any:∀b o,s.heap.get? b=some o->b∉ch->∃sl,h'.get? b=some { o with slots:=sl }:=λb o q n=>by
  by_cases hb:b∈frs X.stack
  ·exact k.sl b o q hb n
  ·exact⟨o.slots,k.kp b o q hb n⟩
 have kept:∀b o,s.heap.get? b=some o->b≠X.env.locals->b∉X.fs->b∉ch->h'.get? b=some o:=λb o q n1 n2 n3=>k.kp b o q (λz=>(List.mem_cons.mp (I.stkSub b z)).elim n1 n2) n3;have nol:X.env.locals∉ch:=λz=>(hch _ z).2.2.1 rfl;have cel:∀x c,X.env.cells.lookup x=some c->∀v,s.heap.IsCell c v->h'.IsCell c v:=λx c e v zz1=>by
  obtain⟨o,ho,hd⟩:=zz1;obtain⟨sl,q⟩:=any c o ho λz=>(hch c z).2.2.2.2.1 x c e rfl;exact⟨_,q,hd⟩
 have trk:∀a o u,H a=some o->s.heap.get? a=some u->h'.get? a=some u:=λa o u e q=>by
  refine k.kp a u q (λz=>?_) λz=>by rw[(hch a z).1]at e;cases e
  rcases List.mem_cons.mp (I.stkSub a z)with z|z
  ·rw[z,I.free]at e;cases e
  ·rw[I.frn a z]at e;cases e
 refine⟨I.ok,I.os,I.bare,⟨λb o e n hb hx=>?_,λb o e n hb hx=>?_,I.base.free,λb o e hx=>?_,I.base.tups,I.base.frzs,I.base.tbls⟩,?_,λx c e=>?_,I.free,I.freeC,λp hp=>?_,λa o e=>?_,I.len⟩
 ·exact kept b o (I.base.keep b o e n hb hx) (neL b o e) hb (nch b o e)
 ·obtain⟨sl,q⟩:=I.base.slot b o e n hb hx;obtain⟨sl',q'⟩:=any b _ q (nch b o e);exact⟨sl',q'⟩
 ·obtain⟨o',q⟩:=I.base.there b o e hx;exact k.th b o' q
 ·obtain⟨m,⟨o,es,ep,ho,hd,r⟩,hl⟩:=I.loc;obtain⟨sl,q⟩:=any _ o ho nol;refine⟨m,⟨_,es,ep,q,hd,r⟩,λi x v h1 h2 h3=>?_⟩;obtain⟨u,ru,lk⟩:=hl i x v h1 h2 h3;refine⟨u,ru,?_⟩;rcases lk with lk|⟨kk,c,hc,ic⟩
  ·exact .inl lk
  ·exact .inr ⟨kk,c,hc,cel x c hc _ ic⟩
 ·obtain⟨v,q⟩:=I.cell x c e;exact⟨v,cel x c e v q⟩
 ·obtain⟨q1,q2,q3,q4,q5⟩:=I.pin p hp;exact⟨kept _ _ q1 q3 q4 λz=>(hch _ z).2.2.2.2.2 p hp rfl,q2,q3,q4,q5⟩
 ·refine(I.hok a o e).stay (λb u hb q=>?_) (λb q=>q) λb xs q=>q;rcases hb with rfl|hb
  ·exact trk _ _ _ e q
  ·exact trk _ _ _ hb q
end
inductive D where
 | non|bl (b:Bool)|int (i:Int)|lst (xs:List D)|tup (xs:List D)|ob (e r t:D)|scr (ns:List Int)|exn (c:Nat)
abbrev KA:=Int×Int×List Int
inductive OK where
 | s|l (k:OK)|p (j k:OK)
 deriving DecidableEq
inductive Slt where
 | shr (d:D)|own (xs:List D)|dic (kvs:List (KA×D))|tre (k:OK) (d:D)
abbrev Rho:=List (Option Slt)
structure RB where
 rho:Rho
 ad:Nat->List Addr
instance:Coe RB Rho:=⟨RB.rho⟩
inductive R (Y:Type) where
 | val (a:Y)|exc (c:Nat)|bad
def R.bind {Y β:Type}:R Y->(Y->R β)->R β
 | .val a,f=>f a
 | .exc c,_=>.exc c
 | .bad,_=>.bad
inductive Out where
 | nx (U:Rho)|rt (d:D)|bk (U:Rho)|ct (U:Rho)
def exP (K:Frag) (c:Nat) (a:Addr):Heap->Prop:=λh=>∃ox Cc,h.get? a=some ox/\ox.cls=.ref Cc/\ox.dict=none/\(∃vs,ox.data=.fields vs)/\nsIn K mainGlobals (exN c)=some (some (.ref Cc))
def B9 (e r t:V):List (Str×V):=[("ends",e),("rests",r),("table",t)]
mutual
inductive Has (K:Frag) (C:Addr) (H:Hp):V->D->Prop where
 | non:Has K C H .non .non
 | bl (b:Bool):Has K C H (.bl b) (.bl b)
 | int (i:Int):Has K C H (.int i) (.int i)
 | lst {a:Addr} {vs:List V} {xs:List D}:H a=some (.lst vs)->HasL K C H vs xs->Has K C H (.ref a) (.lst xs)
 | tup {a:Addr} {vs:List V} {xs:List D}:H a=some (.tup vs)->HasL K C H vs xs->Has K C H (.ref a) (.tup xs)
 | scr {a:Addr} {ns:List Int}:SqL K H a (ns.map V.int)->Has K C H (.ref a) (.scr ns)
 | exn {a:Addr} {c:Nat}:H a=some (.ext (exP K c a))->Has K C H (.ref a) (.exn c)
 | ob {a dx:Addr} {ve vr vt:V} {e r t:D}:H a=some (.ins C dx (B9 ve vr vt))->Has K C H ve e->Has K C H vr r->Has K C H vt t->Has K C H (.ref a) (.ob e r t)
inductive HasL (K:Frag) (C:Addr) (H:Hp):List V->List D->Prop where
 | nil:HasL K C H [] []
 | cons {v:V} {d:D} {vs:List V} {ds:List D}:Has K C H v d->HasL K C H vs ds->HasL K C H (v::vs) (d::ds)
end
section
variable {K:Frag} {C:Addr} {H H':Hp}
mutual
theorem Has.mono (s:Same H H'):∀{v:V} {d:D},Has K C H v d->Has K C H' v d
 | _,_,.non=>.non
 | _,_,.bl b=>.bl b
 | _,_,.int i=>.int i
 | _,_,.lst q h=>.lst (s _ _ q) (HasL.mono s h)
 | _,_,.tup q h=>.tup (s _ _ q) (HasL.mono s h)
 | _,_,.scr q=>.scr (s.seq q)
 | _,_,.exn q=>.exn (s _ _ q)
 | _,_,.ob q a b c=>.ob (s _ _ q) (Has.mono s a) (Has.mono s b) (Has.mono s c)
theorem HasL.mono (s:Same H H'):∀{vs:List V} {ds:List D},HasL K C H vs ds->HasL K C H' vs ds
 | _,_,.nil=>.nil
 | _,_,.cons a b=>.cons (Has.mono s a) (HasL.mono s b)
end
theorem HasL.len:∀{vs:List V} {ds:List D},HasL K C H vs ds->vs.length=ds.length
 | _,_,.nil=>rfl
 | _,_,.cons _ b=>by simp[HasL.len b]
theorem HasL.app:∀{vs:List V} {ds:List D} {ws:List V} {es:List D},HasL K C H vs ds->HasL K C H ws es->HasL K C H (vs++ws) (ds++es)
 | _,_,_,_,.nil,h=>h
 | _,_,_,_,.cons a b,h=>.cons a (HasL.app b h)
theorem HasL.get:∀{vs:List V} {ds:List D} {i:Nat} {d:D},HasL K C H vs ds->ds[i]?=some d->∃v,vs[i]?=some v/\Has K C H v d
 | _,_,_,_,.nil,e=>by simp at e
 | _,_,0,_,.cons a _,e=>by simp at e;subst e;exact⟨_,rfl,a⟩
 | _,_,i+1,d,.cons _ b,e=>by
  obtain⟨v,h1,h2⟩:=HasL.get (i:=i) (d:=d) b (by simpa using e);exact⟨v,by simpa using h1,h2⟩
theorem HasL.get':∀{vs:List V} {ds:List D} {i:Nat} {v:V},HasL K C H vs ds->vs[i]?=some v->∃d,ds[i]?=some d/\Has K C H v d
 | _,_,_,_,.nil,e=>by simp at e
 | _,_,0,_,.cons a _,e=>by simp at e;subst e;exact⟨_,rfl,a⟩
 | _,_,i+1,v,.cons _ b,e=>by
  obtain⟨d,h1,h2⟩:=HasL.get' (i:=i) (v:=v) b (by simpa using e);exact⟨d,by simpa using h1,h2⟩
theorem HasL.drop:∀{vs:List V} {ds:List D} (n:Nat),HasL K C H vs ds->HasL K C H (vs.drop n) (ds.drop n)
 | _,_,0,h=>h
 | _,_,_+1,.nil=>.nil
 | _,_,n+1,.cons _ b=>HasL.drop n b
theorem HasL.take:∀{vs:List V} {ds:List D} (n:Nat),HasL K C H vs ds->HasL K C H (vs.take n) (ds.take n)
 | _,_,0,_=>.nil
 | _,_,_+1,.nil=>.nil
 | _,_,n+1,.cons a b=>.cons a (HasL.take n b)
theorem HasL.ints:∀ns:List Int,HasL K C H (ns.map V.int) (ns.map D.int)
 | []=>.nil
 | n::ns=>.cons (.int n) (HasL.ints ns)
end
def vU:Slt->Bool
 | .shr _=>false
 | _=>true
def Own (U:RB) (O:St) (b:Addr):Prop:=∃i:Nat,b∈U.ad i
open Classical in
def msk (U:RB) (O:St) (H:Hp):Hp:=λb=>if Own U O b then none else H b
section
variable {U:RB} {O:St} {H H':Hp} {b:Addr} {o:HO}
theorem msk_some:msk U O H b=some o↔¬ Own U O b/\H b=some o:=by
 unfold msk;by_cases h:Own U O b
 ·rw[if_pos h];exact⟨λe=>(by cases e),λe=>absurd h e.1⟩
 ·rw[if_neg h];exact⟨λe=>⟨h,e⟩,λe=>e.2⟩
theorem msk_sub:Same (msk U O H) H:=λb o e=>(msk_some.mp e).2
theorem aO (s:Same H H'):Same (msk U O H) (msk U O H'):=λb o e=>msk_some.mpr ⟨(msk_some.mp e).1,s _ _ (msk_some.mp e).2⟩
end
def kj (k:KA):Int:=reduceHash (Builtin.Tuple.tupleHashOf [hashInt k.1,hashInt k.2.1,reduceHash (Builtin.Tuple.tupleHashOf (k.2.2.map hashInt))])
def De (x:KA×Addr×Value):DictEntry:=⟨kj x.1,.ref x.2.1,x.2.2⟩
def dOk (a:Addr) (xs:List (KA×Addr×Value)) (h:Heap):Prop:=(a==sysModules)=false/\xs.length<=100001/\∃o es ep,h.get? a=some o/\o.ExactDict/\o.data=.dict es ep/\es.toList=xs.map De
def ja (a:Addr) (xs:List (KA×Addr×Value)):HO:=.ext (dOk a xs)
def KeyIn (M:Hp) (k:KA) (a:Addr):Prop:=∃ta,M a=some (.tup [.int k.1,.int k.2.1,.ref ta])/\M ta=some (.tup (k.2.2.map V.int))
def EntOk (K:Frag) (C:Addr) (M:Hp) (p:KA×D) (q:KA×Addr×Value):Prop:=p.1=q.1/\KeyIn M p.1 q.2.1/\∃v,RelV v q.2.2/\Has K C M v p.2
structure DicAt (K:Frag) (C:Addr) (M H:Hp) (a:Addr) (kvs:List (KA×D)):Prop where
 ex:∃xs,H a=some (ja a xs)/\(xs.map (·.1)).Nodup/\Paired (EntOk K C M) kvs xs
variable {M M':Hp}
theorem KeyIn.mono {k:KA} {a:Addr} (m:Same M M') (h:KeyIn M k a):KeyIn M' k a:=by
 obtain⟨ta,h1,h2⟩:=h;exact⟨ta,m _ _ h1,m _ _ h2⟩
variable {K:Frag} {C:Addr}
theorem EntOk.mono {p:KA×D} {q:KA×Addr×Value} (m:Same M M') (h:EntOk K C M p q):EntOk K C M' p q:=by
 obtain⟨h1,h2,v,h3,h4⟩:=h;exact⟨h1,h2.mono m,v,h3,h4.mono m⟩
variable {H':Hp}
theorem DicAt.mono {a:Addr} {kvs:List (KA×D)} (e:∀o,H a=some o->H' a=some o) (m:Same M M') (h:DicAt K C M H a kvs):DicAt K C M' H' a kvs:=by
 obtain⟨xs,h1,h2,h3⟩:=h.ex;exact⟨xs,e _ h1,h2,Paired.mapP h3 λp q z=>z.mono m⟩
mutual
inductive Tre (K:Frag) (C:Addr) (M H:Hp):OK->V->D->List Addr->Prop where
 | s {v:V} {d:D}:Has K C M v d->Tre K C M H .s v d []
 | l {k:OK} {a:Addr} {vs:List V} {xs:List D} {A:List Addr}:H a=some (.lst vs)->TreP K C M H (vs.map λ_=>k) vs xs A->a∉A->Tre K C M H (.l k) (.ref a) (.lst xs) (a::A)
 | p {j k:OK} {a:Addr} {vs:List V} {xs:List D} {A:List Addr}:H a=some (.tup vs)->TreP K C M H [j,k] vs xs A->Tre K C M H (.p j k) (.ref a) (.tup xs) A
inductive TreP (K:Frag) (C:Addr) (M H:Hp):List OK->List V->List D->List Addr->Prop where
 | nil:TreP K C M H [] [] [] []
 | cons {k:OK} {ks:List OK} {v:V} {vs:List V} {d:D} {ds:List D} {A B:List Addr}:Tre K C M H k v d A->TreP K C M H ks vs ds B->(∀a∈A,a∉B)->TreP K C M H (k::ks) (v::vs) (d::ds) (A++B)
end
structure Stay (A:List Addr) (H H':Hp):Prop where
 at_:∀a∈A,∀o,H a=some o->H' a=some o
 tup:∀a vs,H a=some (.tup vs)->H' a=some (.tup vs)
variable {A:List Addr}
section
variable {K:Frag} {C:Addr} {H H' M M':Hp}
theorem Stay.of (s:Same H H'):Stay A H H':=⟨λa _ o e=>s a o e,λa vs e=>s a _ e⟩
theorem Stay.sub {B:List Addr} (h:Stay A H H') (hs:∀a∈B,a∈A):Stay B H H':=⟨λa ha=>h.at_ a (hs a ha),h.tup⟩
mutual
theorem Tre.stay (m:Same M M'):∀{k:OK} {v:V} {d:D} {A:List Addr},Stay A H H'->Tre K C M H k v d A->Tre K C M' H' k v d A
 | _,_,_,_,_,.s h=>.s (h.mono m)
 | _,_,_,_,y,.l e h n=>.l (y.at_ _ List.mem_cons_self _ e) (TreP.stay m (y.sub λ_ ha=>List.mem_cons_of_mem _ ha) h) n
 | _,_,_,_,y,.p e h=>.p (y.tup _ _ e) (TreP.stay m y h)
theorem TreP.stay (m:Same M M'):∀{ks:List OK} {vs:List V} {ds:List D} {A:List Addr},Stay A H H'->TreP K C M H ks vs ds A->TreP K C M' H' ks vs ds A
 | _,_,_,_,_,.nil=>.nil
 | _,_,_,_,y,.cons h t n=>.cons (Tre.stay m (y.sub λ_ ha=>List.mem_append_left _ ha) h) (TreP.stay m (y.sub λ_ ha=>List.mem_append_right _ ha) t) n
end
mutual
theorem Tre.has (m:Same M H):∀{k:OK} {v:V} {d:D} {A:List Addr},Tre K C M H k v d A->Has K C H v d
 | _,_,_,_,.s h=>h.mono m
 | _,_,_,_,.l e h _=>.lst e (TreP.has m h)
 | _,_,_,_,.p e h=>.tup e (TreP.has m h)
theorem TreP.has (m:Same M H):∀{ks:List OK} {vs:List V} {ds:List D} {A:List Addr},TreP K C M H ks vs ds A->HasL K C H vs ds
 | _,_,_,_,.nil=>.nil
 | _,_,_,_,.cons h t _=>.cons (Tre.has m h) (TreP.has m t)
end
mutual
theorem Tre.lists:∀{k:OK} {v:V} {d:D} {A:List Addr},Tre K C M H k v d A->∀a∈A,∃vs,H a=some (.lst vs)
 | _,_,_,_,.s _,a,ha=>by cases ha
 | _,_,_,_,.l e h _,a,ha=>by
  rcases List.mem_cons.mp ha with rfl|ha
  ·exact⟨_,e⟩
  ·exact TreP.lists h a ha
 | _,_,_,_,.p _ h,a,ha=>TreP.lists h a ha
theorem TreP.lists:∀{ks:List OK} {vs:List V} {ds:List D} {A:List Addr},TreP K C M H ks vs ds A->∀a∈A,∃vs,H a=some (.lst vs)
 | _,_,_,_,.nil,a,ha=>by cases ha
 | _,_,_,_,.cons h t _,a,ha=>by
  rcases List.mem_append.mp ha with ha|ha
  ·exact Tre.lists h a ha
  ·exact TreP.lists t a ha
end
theorem TreP.len:∀{ks:List OK} {vs:List V} {ds:List D} {A:List Addr},TreP K C M H ks vs ds A->vs.length=ds.length/\ks.length=ds.length
 | _,_,_,_,.nil=>⟨rfl,rfl⟩
 | _,_,_,_,.cons _ t _=>⟨congrArg Nat.succ t.len.1,congrArg Nat.succ t.len.2⟩
theorem TreP.flat:∀{vs us:List V} {ds:List D} {A:List Addr},TreP K C M H (us.map λ_=>OK.s) vs ds A->A=[]/\HasL K C M vs ds
 | [],us,_,_,h=>by cases us with
  | nil=>cases h;exact⟨rfl,.nil⟩
  | cons _ _=>cases h
 | v::vs,us,_,_,h=>by cases us with
  | nil=>cases h
  | cons _ us=>cases h with
   | cons h t _=>cases h with
    | s h=>obtain⟨e,t'⟩:=TreP.flat t;subst e;exact⟨rfl,.cons h t'⟩
end
def SlotOk (K:Frag) (C:Addr) (M H:Hp) (A:List Addr):Slt->Option (Option V)->Prop
 | .shr d,o=>∃v,o=some (some v)/\Has K C M v d
 | .own xs,o=>∃a vs,o=some (some (.ref a))/\a∈A/\H a=some (.lst vs)/\HasL K C M vs xs
 | .dic kvs,o=>∃a,o=some (some (.ref a))/\a∈A/\DicAt K C M H a kvs
 | .tre k d,o=>∃v B,o=some (some v)/\(∀a∈B,a∈A)/\Tre K C M H k v d B
structure Rel (K:Frag) (C:Addr) (H0:Hp) (U:RB) (O:St) (H:Hp):Prop where
 len:U.rho.length=O.length
 keep:Same H0 (msk U O H)
 at_:∀(i:Nat) sl,U.rho[i]?=some (some sl)->SlotOk K C (msk U O H) H (U.ad i) sl O[i]?
 inj:∀(i j:Nat) a,a∈U.ad i->a∈U.ad j->i=j
 kin:∀(i:Nat) a,a∈U.ad i->(∃vs,H a=some (.lst vs))\/∃xs,H a=some (ja a xs)
 bnd:∀(i:Nat) a,a∈U.ad i->i<U.rho.length
def uA (K:Frag) (C:Addr) (H0:Hp) (U:Rho) (O:St) (H:Hp):Prop:=∃β:RB,β.rho=U/\Rel K C H0 β O H
def RB.put (U:RB) (i:Nat) (sl:Slt) (A:List Addr):RB:=⟨U.rho.set i (some sl),λj=>if j=i then(if i<U.rho.length then A else[])else U.ad j⟩
variable {vs:List V} {sl:Slt} {i j:Nat} {σ':St} {Y:Type} {v:V} {d:D} {xs:List D}
section
variable {K:Frag} {C:Addr} {H0 H H' M M':Hp} {U:RB} {O:St}
theorem SlotOk.stay {o:Option (Option V)} (y:Stay A H H') (m:Same M M') (h:SlotOk K C M H A sl o):SlotOk K C M' H' A sl o:=by
 cases sl with
 | shr d=>obtain⟨v,e,h⟩:=h;exact⟨v,e,h.mono m⟩
 | own xs=>obtain⟨a,vs,e,n,q,h⟩:=h;exact⟨a,vs,e,n,y.at_ _ n _ q,h.mono m⟩
 | dic kvs=>obtain⟨a,e,n,h⟩:=h;exact⟨a,e,n,h.mono (λo q=>y.at_ _ n _ q) m⟩
 | tre k d=>obtain⟨v,B,e,n,h⟩:=h;exact⟨v,B,e,n,h.stay m (y.sub n)⟩
theorem SlotOk.mono {o:Option (Option V)} (s:Same H H') (m:Same M M') (h:SlotOk K C M H A sl o):SlotOk K C M' H' A sl o:=h.stay (.of s) m
theorem Rel.mono (r:Rel K C H0 U O H) (s:Same H H'):Rel K C H0 U O H' :=
 ⟨r.len,r.keep.trans (aO s),λi sl e=>(r.at_ i sl e).mono s (aO s),r.inj,λi a h=>(r.kin i a h).imp (λ⟨vs,e⟩=>⟨vs,s _ _ e⟩) λ⟨xs,e⟩=>⟨xs,s _ _ e⟩,r.bnd⟩
theorem Rel.rebase (r:Rel K C H0 U O H):Rel K C (msk U O H) U O H:=⟨r.len,Same.refl _,r.at_,r.inj,r.kin,r.bnd⟩
theorem Rel.base {H1:Hp} (r:Rel K C H0 U O H) (s:Same H1 H0):Rel K C H1 U O H:=⟨r.len,s.trans r.keep,r.at_,r.inj,r.kin,r.bnd⟩
theorem Rel.ownAt (r:Rel K C H0 U O H) {b:Addr} (h:Own U O b):H b≠none:=by
 obtain⟨i,h⟩:=h;rcases r.kin i b h with⟨vs,e⟩|⟨xs,e⟩<;>(rw[e];exact λz=>by cases z)
theorem Rel.new (r:Rel K C H0 U O H) {p:Addr} (h:H p=none):msk U O (upd H p o) p=some o :=
 msk_some.mpr ⟨λz=>r.ownAt z h,aJ⟩
theorem ay {p:Addr} (h:H p=none):Same H (upd H p o):=λb u e=>by
 rw[au (aR e h)];exact e
theorem eM {a:Addr} (h:a∈(U.put i sl A).ad j):(j=i/\i<U.rho.length/\a∈A)\/(j≠i/\a∈U.ad j):=by
 unfold RB.put at h;dsimp only at h;split at h
 ·rename_i e;split at h
  ·exact .inl ⟨e,‹_›,h⟩
  ·cases h
 ·exact .inr ⟨‹_›,h⟩
theorem zI {sl':Slt} (h:(U.put i sl A).rho[j]?=some (some sl')):(j=i/\i<U.rho.length/\sl'=sl)\/(j≠i/\U.rho[j]?=some (some sl')):=by
 unfold RB.put at h;dsimp only at h;by_cases e:i=j
 ·subst e;rw[List.getElem?_set]at h;simp only[if_true]at h;split at h
  ·cases h;exact .inl ⟨rfl,‹_›,rfl⟩
  ·cases h
 ·rw[List.getElem?_set_ne e]at h;exact .inr ⟨λz=>e z.symm,h⟩
theorem zH {a:Addr} (hi:i<U.rho.length):(U.put i sl A).ad i=A:=by
 unfold RB.put;dsimp only;rw[if_pos rfl,if_pos hi]
theorem kg (h:j≠i):(U.put i sl A).ad j=U.ad j:=by
 unfold RB.put;dsimp only;rw[if_neg h]
theorem Rel.put (r:Rel K C H0 U O H) (hl:σ'.length=O.length) (ho:∀j:Nat,j≠i->σ'[j]?=O[j]?)
  (fr:∀a∈A,a∈U.ad i\/H a=none) (st:∀j:Nat,j≠i->Stay (U.ad j) H H') (ks:∀b o,msk U O H b=some o->H' b=some o) (kA:∀a∈A,(∃vs,H' a=some (.lst vs))\/∃xs,H' a=some (ja a xs))
  (h:i<U.rho.length->Same (msk U O H) (msk (U.put i sl A) σ' H')->SlotOk K C (msk (U.put i sl A) σ' H') H' A sl σ'[i]?):Rel K C H0 (U.put i sl A) σ' H':=by
 have own:∀b,Own (U.put i sl A) σ' b->Own U O b\/H b=none:=λb z=>by
  obtain⟨j,z⟩:=z;rcases eM z with⟨_,_,z⟩|⟨_,z⟩
  ·rcases fr b z with z|z
   ·exact .inl ⟨i,z⟩
   ·exact .inr z
  ·exact .inl ⟨j,z⟩
 have sub:Same (msk U O H) (msk (U.put i sl A) σ' H'):=λb o e=>by
  obtain⟨h1,h2⟩:=msk_some.mp e;refine msk_some.mpr ⟨λz=>?_,ks b o e⟩;rcases own b z with z|z
  ·exact h1 z
  ·rw[z]at h2;cases h2
 have kin':∀(j:Nat) a,j≠i->a∈U.ad j->(∃vs,H' a=some (.lst vs))\/∃xs,H' a=some (ja a xs):=λj a hj ha=>(r.kin j a ha).imp (λ⟨vs,e⟩=>⟨vs,(st j hj).at_ a ha _ e⟩) λ⟨xs,e⟩=>⟨xs,(st j hj).at_ a ha _ e⟩;refine⟨?_,r.keep.trans sub,λj sl' e=>?_,λj k a x y=>?_,λj a x=>?_,λj a x=>?_⟩
 ·show(U.rho.set i (some sl)).length=_;rw[List.length_set,hl];exact r.len
 ·rcases zI e with⟨rfl,hi,rfl⟩|⟨hj,e⟩
  ·rw[zH (a:=0) hi];exact h hi sub
  ·rw[kg hj,ho j hj];exact(r.at_ j sl' e).stay (st j hj) sub
 ·rcases eM x with⟨rfl,_,x⟩|⟨hj,x⟩
  ·rcases eM y with⟨rfl,_,_⟩|⟨hk,y⟩
   ·rfl
   ·rcases fr a x with x|x
    ·exact r.inj _ _ a x y
    ·exact absurd x (r.ownAt ⟨k,y⟩)
  ·have x':=x;rcases eM y with⟨rfl,_,y⟩|⟨hk,y⟩
   ·rcases fr a y with y|y
    ·exact r.inj _ _ a x' y
    ·exact absurd y (r.ownAt ⟨j,x'⟩)
   ·exact r.inj _ _ a x' y
 ·rcases eM x with⟨_,_,x⟩|⟨hj,x⟩
  ·exact kA a x
  ·exact kin' j a hj x
 ·show j<(U.rho.set i (some sl)).length;rw[List.length_set];rcases eM x with⟨rfl,hi,_⟩|⟨_,x⟩
  ·exact hi
  ·exact r.bnd j a x
theorem Rel.e (r:Rel K C H0 U O H):uA K C H0 U.rho O H:=⟨U,rfl,r⟩
theorem ke {l:List Y} {a:Y}:(l.set i a).length=l.length:=List.length_set
theorem nF {O:St} (h:i<O.length):(O.set i (some v))[i]?=some (some v):=by
 rw[List.getElem?_set];simp[h]
theorem Rel.setShr (r:Rel K C H0 U O H) (h:Has K C (msk U O H) v d):Rel K C H0 (U.put i (.shr d) []) (O.set i (some v)) H :=
 r.put ke (λj hj=>List.getElem?_set_ne λz=>hj z.symm) (λa ha=>by cases ha) (λj _=>.of (Same.refl _)) (λb o e=>(msk_some.mp e).2) (λa ha=>by cases ha) λhi s=>⟨v,nF (by rw[<- r.len];exact hi),h.mono s⟩
theorem Rel.setOwn (r:Rel K C H0 U O H) {a:Addr} (hn:H a=none) (h:HasL K C (msk U O H) vs xs):Rel K C H0 (U.put i (.own xs) [a]) (O.set i (some (.ref a))) (upd H a (.lst vs)) :=
 r.put ke (λj hj=>List.getElem?_set_ne λz=>hj z.symm) (λb hb=>.inr (by cases List.mem_singleton.mp hb;exact hn)) (λj _=>.of (ay hn)) (λb o e=>ay hn b o (msk_some.mp e).2)
  (λb hb=>.inl (by cases List.mem_singleton.mp hb;exact⟨vs,aJ⟩)) λhi s=>⟨a,vs,nF (by rw[<- r.len];exact hi),List.mem_singleton.mpr rfl,aJ,h.mono s⟩
theorem Rel.apart (r:Rel K C H0 U O H) {a:Addr} (ha:a∈U.ad i) (hj:j≠i):Stay (U.ad j) H (upd H a o):=by
 refine⟨λb hb u e=>?_,λb vs e=>?_⟩
 ·rw[au λ(z:b=a)=>hj (r.inj j i b hb (z▸ha))];exact e
 ·have:b≠a:=λz=>by
   subst z;rcases r.kin i b ha with⟨us,e'⟩|⟨xs,e'⟩<;>(rw[e]at e';cases e')
  rw[au this];exact e
theorem Rel.shown (r:Rel K C H0 U O H) {a:Addr} (ha:a∈U.ad i):∀b u,msk U O H b=some u->upd H a o b=some u:=λb u e=>by
 obtain⟨h1,h2⟩:=msk_some.mp e;rw[au λ(z:b=a)=>h1 ⟨i,z▸ha⟩];exact h2
theorem Rel.write (r:Rel K C H0 U O H) {a:Addr} {ys:List D} {ws:List V} (e:U.rho[i]?=some (some (.own xs))) (q:O[i]?=some (some (.ref a))) (h:HasL K C (msk U O H) ws ys) :
  Rel K C H0 (U.put i (.own ys) [a]) O (upd H a (.lst ws)):=by
 obtain⟨b,vs,e1,ha,_,_⟩:=r.at_ i _ e;rw[q]at e1;cases e1;exact r.put rfl (λj _=>rfl) (λb hb=>.inl (by cases List.mem_singleton.mp hb;exact ha)) (λj hj=>r.apart ha hj) (r.shown ha) (λb hb=>.inl (by cases List.mem_singleton.mp hb;exact⟨ws,aJ⟩))
  λhi s=>⟨a,ws,q,List.mem_singleton.mpr rfl,aJ,h.mono s⟩
theorem Rel.freeze (r:Rel K C H0 U O H) (e:U.rho[i]?=some (some (.own xs))):Rel K C H0 (U.put i (.shr (.lst xs)) []) O H:=by
 obtain⟨a,vs,q,ha,h1,h2⟩:=r.at_ i _ e;refine r.put rfl (λj _=>rfl) (λb hb=>by cases hb) (λj _=>.of (Same.refl _)) (λb o z=>(msk_some.mp z).2) (λb hb=>by cases hb) λhi s=>⟨_,q,.lst (msk_some.mpr ⟨λz=>?_,h1⟩) (h2.mono s)⟩;obtain⟨j,z⟩:=z;rcases eM z with⟨_,_,z⟩|⟨hj,z⟩
 ·cases z
 ·exact hj (r.inj j i a z ha)
mutual
theorem Tre.share (s:Same M M'):∀{k:OK} {v:V} {d:D} {A:List Addr},Tre K C M H k v d A->(∀a∈A,∀o,H a=some o->M' a=some o)->(∀a vs,H a=some (.tup vs)->M' a=some (.tup vs))->Has K C M' v d
 | _,_,_,_,.s h,_,_=>h.mono s
 | _,_,_,_,.l e h _,f,t=>.lst (f _ List.mem_cons_self _ e) (TreP.share s h (λa ha=>f a (List.mem_cons_of_mem _ ha)) t)
 | _,_,_,_,.p e h,f,t=>.tup (t _ _ e) (TreP.share s h f t)
theorem TreP.share (s:Same M M'):∀{ks:List OK} {vs:List V} {ds:List D} {A:List Addr},TreP K C M H ks vs ds A->(∀a∈A,∀o,H a=some o->M' a=some o)->(∀a vs,H a=some (.tup vs)->M' a=some (.tup vs))->HasL K C M' vs ds
 | _,_,_,_,.nil,_,_=>.nil
 | _,_,_,_,.cons h t _,f,u=>.cons (Tre.share s h (λa ha=>f a (List.mem_append_left _ ha)) u) (TreP.share s t (λa ha=>f a (List.mem_append_right _ ha)) u)
end
theorem Rel.tups (r:Rel K C H0 U O H) {a:Addr} (e:H a=some (.tup vs)):¬ Own U O a:=λ⟨i,h⟩=>by
 rcases r.kin i a h with⟨us,e'⟩|⟨xs,e'⟩<;>(rw[e]at e';cases e')
theorem Rel.thaw (r:Rel K C H0 U O H) {k:OK} (e:U.rho[i]?=some (some (.tre k d))):Rel K C H0 (U.put i (.shr d) []) O H:=by
 obtain⟨v,A,q,hA,h⟩:=r.at_ i _ e;have own:∀b,Own (U.put i (.shr d) []) O b->Own U O b/\b∉U.ad i:=λb z=>by
  obtain⟨j,z⟩:=z;rcases eM z with⟨_,_,z⟩|⟨hj,z⟩
  ·cases z
  ·exact⟨⟨j,z⟩,λy=>hj (r.inj j i b z y)⟩
 refine r.put rfl (λj _=>rfl) (λb hb=>by cases hb) (λj _=>.of (Same.refl _)) (λb o z=>(msk_some.mp z).2) (λb hb=>by cases hb) λhi s=>⟨_,q,h.share s (λa ha o e=>?_) λa vs e=>?_⟩
 ·exact msk_some.mpr ⟨λz=>(own a z).2 (hA a ha),e⟩
 ·exact msk_some.mpr ⟨λz=>r.tups e (own a z).1,e⟩
end
def Fly (X:Cx) (pins:List (Addr×Obj)) (c:Nat) (H:Hp) (e:Value) (s:Shared):Prop:=∃ea Cc ch,e=.ref ea/\X.mg (exN c)=some (.ref Cc)/\dC s.heap ea (.ref Cc) ch/\∀b∈ch,oZ X pins H b
def XE (X:Cx) (c:Nat) (O:St) (H:Hp):Prop:=∀pins H' e s',Inv X pins O H' s'->Same H H'->Fly X pins c H' e s'->X.xe e s'
def XS (X:Cx) (c:Nat) (H0:Hp):Prop:=∀pins σ' H' e s',Inv X pins σ' H' s'->Same H0 H'->Fly X pins c H' e s'->X.xe e s'
variable {c:Nat}
theorem XE.mono (s:Same H H') (h:XE X c O H):XE X c O H':=λpins H2 e s' I s2 f=>h pins H2 e s' I (s.trans s2) f
theorem XS.mono (s:Same H H') (h:XS X c H):XS X c H':=λpins O H2 e s' I s2 f=>h pins O H2 e s' I (s.trans s2) f
theorem XS.xe (s:Same H H') (h:XS X c H):XE X c O H':=λpins H2 e s' I s2 f=>h pins O H2 e s' I (s.trans s2) f
inductive Brw (K:Frag) (C:Addr) (M H:Hp):V->D->Prop where
 | cl {v:V} {d:D}:Has K C M v d->Brw K C M H v d
 | own {a:Addr} {vs:List V} {xs:List D}:H a=some (.lst vs)->HasL K C M vs xs->Brw K C M H (.ref a) (.lst xs)
theorem Brw.mono (m:Same M M') (s:Same H H') (h:Brw K C M H v d):Brw K C M' H' v d:=by
 cases h with
 | cl h=>exact .cl (h.mono m)
 | own e h=>exact .own (s _ _ e) (h.mono m)
section
variable (C:Addr) (X:Cx)
abbrev bV (H0:Hp) (U:RB) (O:St) (H:Hp):Prop:=Rel X.K C H0 U O H
abbrev oX (H0:Hp) (U:Rho) (O:St) (H:Hp):Prop:=uA X.K C H0 U O H
abbrev cj (U:RB) (O:St) (H:Hp) (v:V) (d:D):Prop:=Has X.K C (msk U O H) v d
abbrev fq (U:RB) (O:St) (H:Hp) (v:List V) (d:List D):Prop:=HasL X.K C (msk U O H) v d
abbrev Bl (U:RB) (O:St) (H:Hp) (v:V) (d:D):Prop:=Brw X.K C (msk U O H) H v d
def pV (Rl:Hp->V->D->Prop) (r:R D) (O:St) (H:Hp) (Q:VK):Prop:=match r with
 | .val d=>∀v H',Same H H'->Rl H' v d->Q v H'
 | .exc c=>XE X c O H
 | .bad=>False
def pB (r:R Bool) (O:St) (H:Hp) (Q:Bool->Hp->Prop):Prop:=match r with
 | .val b=>∀H',Same H H'->Q b H'
 | .exc c=>XE X c O H
 | .bad=>False
def pL (Rl:Hp->List V->List D->Prop) (r:R (List D)) (O:St) (H:Hp) (Q:List V->Hp->Prop):Prop:=match r with
 | .val d=>∀v H',Same H H'->Rl H' v d->Q v H'
 | .exc c=>XE X c O H
 | .bad=>False
def teC (F:Rho->R D):TE:=λO H Q=>∃U:RB,(∃H0,bV C X H0 U O H)/\pV X (cj C X U O) (F U) O H Q
def teB (F:Rho->R D):TE:=λO H Q=>∃U:RB,(∃H0,bV C X H0 U O H)/\pV X (Bl C X U O) (F U) O H Q
def ttD (F:Rho->R Bool):TT:=λO H Q=>∃U:RB,(∃H0,bV C X H0 U O H)/\pB X (F U) O H Q
def taD (F:Rho->R (List D)):TA:=λO H Q=>∃U:RB,(∃H0,bV C X H0 U O H)/\pL X (fq C X U O) (F U) O H Q
def ED (e:Expr) (F:Rho->R D):Prop:=PE X e (teC C X F)
def EB (e:Expr) (F:Rho->R D):Prop:=PE X e (teB C X F)
def TD (e:Expr) (F:Rho->R Bool):Prop:=PT X e (ttD C X F)
def AD (es:List Expr) (F:Rho->R (List D)):Prop:=PA X es (taD C X F)
def pS (o:R Out) (H0:Hp) (Dn:io):Prop:=match o with
 | .val (.nx ρ')=>∀σ' H',oX C X H0 ρ' σ' H'->Dn.nx σ' H'
 | .val (.bk ρ')=>∀σ' H',oX C X H0 ρ' σ' H'->Dn.bk σ' H'
 | .val (.ct ρ')=>∀σ' H',oX C X H0 ρ' σ' H'->Dn.ct σ' H'
 | .val (.rt d)=>∀v H',Same H0 H'->Has X.K C H' v d->Dn.rt v H'
 | .exc c=>XS X c H0
 | .bad=>False
def tsD (F:Rho->R Out):TS:=λDn O H=>∃U H0,oX C X H0 U O H/\pS C X (F U) H0 Dn
def SD (st:Stmt) (F:Rho->R Out):Prop:=PS X st (tsD C X F)
def SDs (st:List Stmt) (F:Rho->R Out):Prop:=PSs X st (tsD C X F)
end
variable {a b:Expr} {r:R2} {F Fa Fb:Rho->R D} {x:Str} {pos:Pos} {f:D->D->R D} {op:CmpOp} {rest es:List Expr} {n:Nat}
section
variable {C:Addr} {X:Cx} {U:RB} {O:St} {H H':Hp}
theorem aA {e:Expr} {t t':TE} (h:PE X e t) (hw:∀O H Q,t' O H Q->t O H Q):PE X e t':=λpins s O H Q I q=>h pins s O H Q I (hw O H Q q)
theorem iR {e:Expr} {t t':TT} (h:PT X e t) (hw:∀O H Q,t' O H Q->t O H Q):PT X e t':=λpins s O H Q I q=>h pins s O H Q I (hw O H Q q)
theorem ki {e:List Expr} {t t':TA} (h:PA X e t) (hw:∀O H Q,t' O H Q->t O H Q):PA X e t':=λpos pins s O H Q I q=>h pos pins s O H Q I (hw O H Q q)
theorem aY {e:Stmt} {t t':TS} (h:PS X e t) (hw:∀D O H,t' D O H->t D O H):PS X e t':=λpins s O H Q I q=>h pins s O H Q I (hw Q O H q)
theorem eN {e:List Stmt} {t t':TS} (h:PSs X e t) (hw:∀D O H,t' D O H->t D O H):PSs X e t':=λpins s O H Q I q=>h pins s O H Q I (hw Q O H q)
theorem pV.mono {Rl:Hp->V->D->Prop} {r:R D} {Q:VK} (s:Same H H') (h:pV X Rl r O H Q):pV X Rl r O H' Q:=by
 cases r with
 | val d=>exact λv H2 s2 q=>h v H2 (s.trans s2) q
 | exc c=>exact XE.mono s h
 | bad=>exact h
theorem pB.mono {r:R Bool} {Q:Bool->Hp->Prop} (s:Same H H') (h:pB X r O H Q):pB X r O H' Q:=by
 cases r with
 | val d=>exact λH2 s2=>h H2 (s.trans s2)
 | exc c=>exact XE.mono s h
 | bad=>exact h
theorem pL.mono {Rl:Hp->List V->List D->Prop} {r:R (List D)} {Q:List V->Hp->Prop} (s:Same H H') (h:pL X Rl r O H Q):pL X Rl r O H' Q:=by
 cases r with
 | val d=>exact λv H2 s2 q=>h v H2 (s.trans s2) q
 | exc c=>exact XE.mono s h
 | bad=>exact h
theorem aF {Rl:Hp->V->D->Prop} {r:R D} {k:D->R Y} {P:R Y->Hp->Prop} {Q:VK} (hexc:∀c,P (.exc c) H->XE X c O H) (hbad:P .bad H->False) (h:P (r.bind k) H)
  (hk:∀d v H1,Same H H1->Rl H1 v d->P (k d) H->Q v H1):pV X Rl r O H Q:=by
 cases r with
 | val d=>exact λv H1 s q=>hk d v H1 s q h
 | exc c=>exact hexc c h
 | bad=>exact hbad h
theorem iT {r:R Bool} {k:Bool->R Y} {P:R Y->Hp->Prop} {Q:Bool->Hp->Prop} (hexc:∀c,P (.exc c) H->XE X c O H) (hbad:P .bad H->False) (h:P (r.bind k) H)
  (hk:∀d H1,Same H H1->P (k d) H->Q d H1):pB X r O H Q:=by
 cases r with
 | val d=>exact λH1 s=>hk d H1 s h
 | exc c=>exact hexc c h
 | bad=>exact hbad h
theorem ck {Rl:Hp->List V->List D->Prop} {r:R (List D)} {k:List D->R Y} {P:R Y->Hp->Prop} {Q:List V->Hp->Prop} (hexc:∀c,P (.exc c) H->XE X c O H) (hbad:P .bad H->False) (h:P (r.bind k) H)
  (hk:∀d v H1,Same H H1->Rl H1 v d->P (k d) H->Q v H1):pL X Rl r O H Q:=by
 cases r with
 | val d=>exact λv H1 s q=>hk d v H1 s q h
 | exc c=>exact hexc c h
 | bad=>exact hbad h
theorem EB.of {e:Expr} (h:ED C X e F):EB C X e F:=aA h λO H Q yy0=>by
 obtain⟨U,r,q⟩:=yy0;exact⟨U,r,by
  cases z:F U with
  | val d=>rw[z]at q;exact λv H' s h=>q v H' s (.cl h)
  | exc c=>rw[z]at q;exact q
  | bad=>rw[z]at q;exact q⟩
def vr (i:Nat):Rho->R D:=λU=>match U[i]? with
 | some (some (.shr d))=>.val d
 | _=>.bad
def vb (i:Nat):Rho->R D:=λU=>match U[i]? with
 | some (some (.shr d))=>.val d
 | some (some (.own xs))=>.val (.lst xs)
 | some (some (.tre (.l .s) (.lst xs)))=>.val (.lst xs)
 | _=>.bad
theorem AV (h:PE X (.Name x pos) (du i)):ED C X (.Name x pos) (vr i):=by
 refine aA h λO H Q zz0=>?_;obtain⟨U,⟨H0,r⟩,q⟩:=zz0;unfold vr at q;split at q
 ·rename_i d e;obtain⟨v,e1,h1⟩:=r.at_ i _ e;exact⟨v,e1,q v H (Same.refl _) h1⟩
 ·exact q.elim
theorem A9 (h:PE X (.Name x pos) (du i)):EB C X (.Name x pos) (vb i):=by
 refine aA h λO H Q zz1=>?_;obtain⟨U,⟨H0,r⟩,q⟩:=zz1;unfold vb at q;split at q
 ·rename_i d e;obtain⟨v,e1,h1⟩:=r.at_ i _ e;exact⟨v,e1,q v H (Same.refl _) (.cl h1)⟩
 ·rename_i xs e;obtain⟨a,vs,e1,_,h1,h2⟩:=r.at_ i _ e;exact⟨_,e1,q _ H (Same.refl _) (.own h1 h2)⟩
 ·rename_i xs e;obtain⟨v,B,e1,_,h⟩:=r.at_ i _ e;cases h with
  | l h1 h2 _=>exact⟨_,e1,q _ H (Same.refl _) (.own h1 h2.flat.2)⟩
 ·exact q.elim
def kd (d:D):Rho->R D:=λ_=>.val d
theorem aM {i j pos}:ED C X (.Constant (.int i) j pos) (kd (.int i)):=aA zY λO H Q yy1=>by
 obtain⟨U,r,q⟩:=yy1;exact q _ H (Same.refl _) (.int i)
theorem dn {i j pos}:ED C X (.Constant (.bool i) j pos) (kd (.bl i)):=aA sg λO H Q yy2=>by
 obtain⟨U,r,q⟩:=yy2;exact q _ H (Same.refl _) (.bl i)
theorem lM {i:Int} {t:Tok} (hg:Gl X x) (hm:X.mg x=some (.int i t)) (hd:(x==("__debug__":Str))=false:=by decide):ED C X (.Name x pos) (kd (.int i)) :=
  aA (se (v:=.int i) hg hm ⟨t,rfl⟩ hd) λO H Q yy4=>by
   obtain⟨U,r,q⟩:=yy4;exact q _ H (Same.refl _) (.int i)
def bin (f:D->D->R D) (a b:Rho->R D):Rho->R D:=λU=>(a U).bind λx=>(b U).bind λy=>f x y
def OpD (C:Addr) (X:Cx) (r:R2) (f:D->D->R D):Prop:=∀U O H v w x y z (Q:VK),(∃H0,bV C X H0 U O H)->Bl C X U O H v x->Bl C X U O H w y->f x y=.val z->(∀u H',Same H H'->cj C X U O H' u z->Q u H')->r v w H Q
def dk (f:D->D->R D):Prop:=∀x y c,f x y ≠ .exc c
theorem nA (hf:dk f) (ho:OpD C X r f) {O:St} {H:Hp} {Q:VK} (h:teC C X (bin f Fa Fb) O H Q):tOp r (teB C X Fa) (teB C X Fb) O H Q:=by
 obtain⟨U,⟨H0,r0⟩,q⟩:=h;refine⟨U,⟨H0,r0⟩,aF (P:=λz H=>pV X (cj C X U O) z O H Q) (λ_ h=>h) (λh=>h) q λx v H1 s1 h1 q1=>?_⟩;refine⟨U,⟨H0,r0.mono s1⟩,aF (P:=λz H=>pV X (cj C X U O) z O H Q) (λ_ h=>h) (λh=>h) (q1.mono s1) λy w H2 s2 h2 q2=>?_⟩;cases e:f x y with
 | val z =>
  rw[e]at q2;exact ho U O H2 v w x y z Q ⟨H0,(r0.mono s1).mono s2⟩ (h1.mono (aO s2) s2) h2 e λu H3 s3 h3=>q2 u H3 (s2.trans s3) h3
 | exc c=>exact(hf x y c e).elim
 | bad=>rw[e]at q2;exact q2.elim
theorem qk {op:Operator} (h:OpR X (binaryOp op) r) (hf:dk f) (ho:OpD C X r f) (ha:EB C X a Fa) (hb:EB C X b Fb) :
  ED C X (.BinOp a op b pos) (bin f Fa Fb):=aA (BU h ha hb) λO H Q q=>nA hf ho q
theorem A8 (h:OpR X (compareOp op) r) (hf:dk f) (ho:OpD C X r f) (ha:EB C X a Fa) (hb:EB C X b Fb) (hm:behindInMarks op b=false) :
  ED C X (.Compare a [op] [b] pos) (bin f Fa Fb):=aA (xJ h ha hb hm) λO H Q q=>nA hf ho q
theorem Cd (h:IxR X r) (hf:dk f) (ho:OpD C X r f) (ha:EB C X a Fa) (hb:EB C X b Fb) (hs:ii b) :
  ED C X (.Subscript a b pos) (bin f Fa Fb):=aA (sd h ha hb hs) λO H Q q=>nA hf ho q
def asB:D->R Bool
 | .bl b=>.val b
 | _=>.bad
def tst (F:Rho->R D):Rho->R Bool:=λU=>(F U).bind asB
theorem Brw.int {H:Hp} {i:Int} (h:Brw K C M H v (.int i)):v=.int i:=by
 cases h with
 | cl h=>cases h;rfl
theorem Brw.bl {H:Hp} {i:Bool} (h:Brw K C M H v (.bl i)):v=.bl i:=by
 cases h with
 | cl h=>cases h;rfl
theorem Has.bl' {i:Bool} (h:Has K C M v (.bl i)):v=.bl i:=by cases h;rfl
theorem Bw {O:St} {H:Hp} {Q:Bool->Hp->Prop} (h:ttD C X (tst F) O H Q):teC C X F O H λx H1=>∃c,x=.bl c/\Q c H1:=by
 obtain⟨U,⟨H0,r0⟩,q⟩:=h;refine⟨U,⟨H0,r0⟩,aF (P:=λz H=>pB X z O H Q) (λ_ h=>h) (λh=>h) q λx v H1 s1 h1 q1=>?_⟩;cases x with
 | bl b=>exact⟨b,Has.bl' h1,q1 H1 s1⟩
 | _=>exact q1.elim
theorem cq {e:Expr} (h:ED C X e F) (he:∀whole,isTrue e X.env whole=(do let v <- whole;standAt e.pos;holding [v] (truthy v)):=by intro _;rfl):TD C X e (tst F) :=
 iR (zO h he) λO H Q q=>Bw q
theorem jk (h:OpR X (compareOp op) r) (hf:dk f) (ho:OpD C X r f) (ha:EB C X a Fa) (hb:EB C X b Fb) (hm:behindInMarks op b=false) :
  TD C X (.Compare a [op] [b] pos) (tst (bin f Fa Fb)):=iR (rY h ha hb hm) λO H Q q=>by
 obtain⟨U,r0,q⟩:=q;refine nA hf ho ⟨U,r0,?_⟩;exact aF (P:=λz H=>pB X z O H Q) (λ_ h=>h) (λh=>h) q λx v H1 s1 h1 q1=>by
  cases x with
  | bl b=>exact⟨b,Has.bl' h1,q1 H1 s1⟩
  | _=>exact q1.elim
def uu (a b:Rho->R Bool):Rho->R Bool:=λU=>(a U).bind λx=>if x=true then b U else .val false
def orB (a b:Rho->R Bool):Rho->R Bool:=λU=>(a U).bind λx=>if x=true then .val true else b U
def cU (a:Rho->R Bool):Rho->R Bool:=λU=>(a U).bind λx=>.val (!x)
def WD (C:Addr) (X:Cx) (e:Expr) (F:Rho->R Bool):Prop:=PW X e (ttD C X F)
theorem rX {e:Expr} {t t':TT} (h:PW X e t) (hw:∀O H Q,t' O H Q->t O H Q):PW X e t':=λwh pins s O H Q I q=>h wh pins s O H Q I (hw O H Q q)
theorem rJ {F:Rho->R Bool} (h:TD C X a F):WD C X (.BoolOp .And [a] pos) F:=xy h
theorem dq {F:Rho->R Bool} (h:TD C X a F):WD C X (.BoolOp .Or [a] pos) F:=zF h
theorem uF {Fa Fb:Rho->R Bool} (ha:TD C X a Fa) (hb:WD C X (.BoolOp .And (b::rest) pos) Fb):WD C X (.BoolOp .And (a::b::rest) pos) (uu Fa Fb) :=
  rX (zG ha hb) λO H Q yy5=>by
   obtain⟨U,⟨H0,r0⟩,q⟩:=yy5;exact⟨U,⟨H0,r0⟩,iT (P:=λz H=>pB X z O H Q) (λ_ h=>h) (λh=>h) q λx H1 s1 q1=>by
    cases x with
    | true=>rw[if_pos rfl];rw[if_pos rfl]at q1;exact⟨U,⟨H0,r0.mono s1⟩,q1.mono s1⟩
    | false=>rw[if_neg Bool.false_ne_true];rw[if_neg Bool.false_ne_true]at q1;exact q1 H1 s1⟩
theorem eK {Fa Fb:Rho->R Bool} (ha:TD C X a Fa) (hb:WD C X (.BoolOp .Or (b::rest) pos) Fb):WD C X (.BoolOp .Or (a::b::rest) pos) (orB Fa Fb) :=
  rX (BL ha hb) λO H Q yy6=>by
   obtain⟨U,⟨H0,r0⟩,q⟩:=yy6;exact⟨U,⟨H0,r0⟩,iT (P:=λz H=>pB X z O H Q) (λ_ h=>h) (λh=>h) q λx H1 s1 q1=>by
    cases x with
    | false=>rw[if_neg Bool.false_ne_true];rw[if_neg Bool.false_ne_true]at q1;exact⟨U,⟨H0,r0.mono s1⟩,q1.mono s1⟩
    | true=>rw[if_pos rfl];rw[if_pos rfl]at q1;exact q1 H1 s1⟩
theorem iE {e:Expr} {F:Rho->R Bool} (h:WD C X e F):TD C X e F:=h.pt
theorem b_ {F:Rho->R Bool} (h:TD C X a F):TD C X (.UnaryOp .Not a pos) (cU F) :=
  iR (zP h) λO H Q yy7=>by
   obtain⟨U,r0,q⟩:=yy7;exact⟨U,r0,iT (P:=λz H=>pB X z O H Q) (λ_ h=>h) (λh=>h) q λx H1 s1 q1=>q1 H1 s1⟩
def wW (a b:Rho->R D):Rho->R D:=λU=>(a U).bind λx=>(asB x).bind λc=>if c=true then b U else .val (.bl false)
theorem wA {op} (h:ED C X a F):ED C X (.BoolOp op [a] pos) F:=zX h
theorem rm (ha:ED C X a Fa) (hb:ED C X (.BoolOp .And (b::rest) pos) Fb):ED C X (.BoolOp .And (a::b::rest) pos) (wW Fa Fb) :=
  aA (z4 ha hb) λO H Q yy8=>by
   obtain⟨U,⟨H0,r0⟩,q⟩:=yy8;exact⟨U,⟨H0,r0⟩,aF (P:=λz H=>pV X (cj C X U O) z O H Q) (λ_ h=>h) (λh=>h) q λx v H1 s1 h1 q1=>by
    cases x with
    | bl c =>
      refine⟨c,Has.bl' h1,?_⟩;cases c with
      | true=>exact Ax ⟨U,⟨H0,r0.mono s1⟩,q1.mono s1⟩
      | false=>exact Ay (q1 _ H1 s1 (.bl false))
    | _=>exact q1.elim⟩
def aN:Rho->R (List D):=λ_=>.val []
def aC (a:Rho->R D) (r:Rho->R (List D)):Rho->R (List D):=λU=>(a U).bind λx=>(r U).bind λxs=>.val (x::xs)
theorem ah:AD C X [] aN:=ki ce λO H Q yy12=>by
 obtain⟨U,r0,q⟩:=yy12;exact q [] H (Same.refl _) .nil
theorem ac {e:Expr} {Fr:Rho->R (List D)} (ha:ED C X e Fa) (hr:AD C X es Fr) (hs:starEach (e::es) X.env=(false,eval e X.env)::starEach es X.env:=by rfl):AD C X (e::es) (aC Fa Fr) :=
  ki (bh ha hr hs) λO H Q yy13=>by
   obtain⟨U,⟨H0,r0⟩,q⟩:=yy13;exact⟨U,⟨H0,r0⟩,aF (P:=λz H=>pL X (fq C X U O) z O H Q) (λ_ h=>h) (λh=>h) q λx v H1 s1 h1 q1 =>
    ⟨U,⟨H0,r0.mono s1⟩,ck (P:=λz H=>pL X (fq C X U O) z O H Q) (λ_ h=>h) (λh=>h) (q1.mono s1) λxs vs H2 s2 h2 q2=>q2 _ H2 s2 (.cons (h1.mono (aO s2)) h2)⟩⟩
def LIM:Nat:=100000
theorem oh (h:n<=LIM):n<=sizeLine:=Nat.le_trans h (by decide)
theorem Ao (h:n<=LIM):n<sizeLine:=Nat.lt_of_le_of_lt h (by decide)
def mkT (xs:List D):R D:=if xs.length<=LIM then .val (.tup xs)else .bad
def mkL (xs:List D):R D:=if xs.length<=LIM then .val (.lst xs)else .bad
def eT (a:Rho->R (List D)):Rho->R D:=λU=>(a U).bind mkT
def eL (a:Rho->R (List D)):Rho->R D:=λU=>(a U).bind mkL
theorem cO {x1} {F : Rho -> R (List D)} (h : AD C X es F) : ED C X (.Tuple es x1 pos) (eT F) :=
  aA (vv h) fun O H Q yy14 => by
   obtain ⟨U, ⟨H0, r0⟩, q⟩ := yy14
   exact ⟨U, ⟨H0, r0⟩, ck (P := fun z H => pV X (cj C X U O) z O H Q) (fun _ h => h) (fun h => h) q fun xs vs H1 s1 h1 q1 => by
    unfold mkT at q1
    split at q1
    · rename_i hl
      refine ⟨by rw [h1.len]; exact oh hl, fun p hp => q1 _ _ (s1.trans (ay hp)) ?_⟩
      exact .tup ((r0.mono s1).new hp) (h1.mono (aO (ay hp)))
    · exact q1.elim⟩
theorem ci {F : Rho -> R (List D)} (h : AD C X es F) : ED C X (.List es pos) (eL F) :=
  aA (vx h) fun O H Q yy15 => by
   obtain ⟨U, ⟨H0, r0⟩, q⟩ := yy15
   exact ⟨U, ⟨H0, r0⟩, ck (P := fun z H => pV X (cj C X U O) z O H Q) (fun _ h => h) (fun h => h) q fun xs vs H1 s1 h1 q1 => by
    unfold mkL at q1
    split at q1
    · rename_i hl
      refine ⟨by rw [h1.len]; exact oh hl, fun p hp => q1 _ _ (s1.trans (ay hp)) ?_⟩
      exact .lst ((r0.mono s1).new hp) (h1.mono (aO (ay hp)))
    · exact q1.elim⟩
end
section
variable {C:Addr} {X:Cx} {U:RB} {O:St} {H H':Hp}
def iI (f:Int->Int->R D):D->D->R D
 | .int i,.int j=>f i j
 | _,_=>.bad
theorem hW {f:Int->Int->R D} (h:∀i j c,f i j ≠ .exc c):dk (iI f):=by
 intro x y c;cases x<;>cases y<;>simp[iI]<;>exact h _ _ c
theorem vF {g:Int->Int->V} {f:Int->Int->R D} (h:∀i j z,f i j=.val z->∀K C H,Has K C H (g i j) z):OpD C X (rI0 g) (iI f):=by
 intro U O H v w x y z Q r hx hy e k;cases x with
 | int i =>
  cases y with
  | int j=>exact⟨i,j,hx.int,hy.int,k _ H (Same.refl _) (h i j z e _ _ _)⟩
  | _=>cases e
 | _=>cases e
theorem ss {P:Int->Int->Prop} {g:Int->Int->V} {f:Int->Int->R D} (h:∀i j z,f i j=.val z->P i j/\∀K C H,Has K C H (g i j) z):OpD C X (rI P g) (iI f):=by
 intro U O H v w x y z Q r hx hy e k;cases x with
 | int i =>
  cases y with
  | int j=>exact⟨i,j,hx.int,hy.int,(h i j z e).1,k _ H (Same.refl _) ((h i j z e).2 _ _ _)⟩
  | _=>cases e
 | _=>cases e
def gi (i j:Int):R D:=if(-(2 ^ 64)<i/\i<2 ^ 64)\/(-(2 ^ 64)<j/\j<2 ^ 64)then .val (.int (i*j))else .bad
def a_ (i j:Int):R D:=if 0<j then .val (.int (i%j))else .bad
def cV (i j:Int):R D:=if 0<j/\j<1073741824 then .val (.int (i/j))else .bad
def mH (i j:Int):R D:=if 0<=j/\j<=1000000/\i.natAbs<2 ^ 64 then .val (.int (i ^ j.toNat))else .bad
def flt (i j:Int):R D:=.val (.bl (decide (i<j)))
def fgt (i j:Int):R D:=.val (.bl (decide (j<i)))
theorem xO:OpD C X (rI CMul λi j=>.int (i*j)) (iI gi):=ss λi j z e=>by
 unfold gi at e;split at e
 ·cases e;exact⟨‹_›,λ_ _ _=>.int _⟩
 ·cases e
theorem xP:OpD C X (rI (λ_ j=>0<j) λi j=>.int (i%j)) (iI a_):=ss λi j z e=>by
 unfold a_ at e;split at e
 ·cases e;exact⟨‹_›,λ_ _ _=>.int _⟩
 ·cases e
theorem xQ:OpD C X (rI Cn λi j=>.int (i/j)) (iI cV):=ss λi j z e=>by
 unfold cV at e;split at e
 ·cases e;exact⟨‹_›,λ_ _ _=>.int _⟩
 ·cases e
theorem xN:OpD C X (rI Cm λi j=>.int (i ^ j.toNat)) (iI mH):=ss λi j z e=>by
 unfold mH at e;split at e
 ·cases e;exact⟨‹_›,λ_ _ _=>.int _⟩
 ·cases e
theorem z8:OpD C X (rI0 λi j=>.bl (decide (i<j))) (iI flt):=vF λi j z e=>by cases e;exact λ_ _ _=>.bl _
theorem z_:OpD C X (rI0 λi j=>.bl (decide (j<i))) (iI fgt):=vF λi j z e=>by cases e;exact λ_ _ _=>.bl _
theorem zK:dk (iI gi):=hW λi j c e=>by unfold gi at e;split at e<;>cases e
theorem zL:dk (iI a_):=hW λi j c e=>by unfold a_ at e;split at e<;>cases e
theorem zM:dk (iI cV):=hW λi j c e=>by unfold cV at e;split at e<;>cases e
theorem zJ:dk (iI mH):=hW λi j c e=>by unfold mH at e;split at e<;>cases e
theorem BN:dk (iI flt):=hW λi j c e=>by cases e
theorem BP:dk (iI fgt):=hW λi j c e=>by cases e
def dm:D->D->R D
 | .int i,.int j=>.val (.int (i+j))
 | .lst xs,.lst ys=>if xs.length+ys.length<=LIM then .val (.lst (xs++ys))else .bad
 | _,_=>.bad
theorem Brw.lst {K:Frag} {M H:Hp} {v:V} {xs:List D} (s:Same M H) (h:Brw K C M H v (.lst xs)):∃a vs,v=.ref a/\H a=some (.lst vs)/\HasL K C M vs xs:=by
 cases h with
 | cl h=>cases h with
  | lst q h=>exact⟨_,_,rfl,s _ _ q,h⟩
 | own e h=>exact⟨_,_,rfl,e,h⟩
theorem Brw.tup {K:Frag} {M H:Hp} {v:V} {xs:List D} (s:Same M H) (h:Brw K C M H v (.tup xs)):∃a vs,v=.ref a/\H a=some (.tup vs)/\HasL K C M vs xs:=by
 cases h with
 | cl h=>cases h with
  | tup q h=>exact⟨_,_,rfl,s _ _ q,h⟩
theorem Brw.scr {K:Frag} {M H:Hp} {v:V} {ns:List Int} (s:Same M H) (h:Brw K C M H v (.scr ns)):∃a,v=.ref a/\SqL K H a (ns.map V.int):=by
 cases h with
 | cl h=>cases h with
  | scr q=>exact⟨_,rfl,s.seq q⟩
theorem xR:OpD C X (λx y H Q=>rI0 (λi j=>.int (i+j)) x y H Q\/zE x y H Q) dm:=by
 intro U O H v w x y z Q r hx hy e k;obtain⟨H0,r⟩:=r;cases x with
 | int i =>
  cases y with
  | int j=>cases e;exact .inl ⟨i,j,hx.int,hy.int,k _ H (Same.refl _) (.int _)⟩
  | _=>cases e
 | lst xs =>
  cases y with
  | lst ys =>
   simp only[dm]at e;split at e
   ·rename_i hl;cases e;obtain⟨a,vs,rfl,q1,h1⟩:=hx.lst msk_sub;obtain⟨b,ws,rfl,q2,h2⟩:=hy.lst msk_sub;refine .inr ⟨a,b,vs,ws,rfl,rfl,q1,q2,by rw[h1.len,h2.len];exact oh hl,λp hp=>k _ _ (ay hp) ?_⟩;exact .lst (r.new hp) ((h1.app h2).mono (aO (ay hp)))
   ·cases e
  | _=>cases e
 | _=>cases e
theorem zN:dk dm:=by
 intro x y c e;unfold dm at e;split at e
 ·cases e
 ·split at e<;>cases e
 ·cases e
theorem xM:OpR X (binaryOp .Add) (λx y H Q=>rI0 (λi j=>.int (i+j)) x y H Q\/zE x y H Q):=op_add.or Ae
def fix:D->D->R D
 | .lst xs,.int i=>match atI xs i with
  | some d=>.val d
  | none=>.bad
 | .tup xs,.int i=>match atI xs i with
  | some d=>.val d
  | none=>.bad
 | .scr ns,.int i=>match atI ns i with
  | some d=>.val (.int d)
  | none=>.bad
 | _,_=>.bad
theorem y7:dk fix:=by
 intro x y c e;unfold fix at e;split at e
 ·split at e<;>cases e
 ·split at e<;>cases e
 ·split at e<;>cases e
 ·cases e
theorem yT {β:Type} (f:Y->β) (xs:List Y) (i:Int):L2.atI (xs.map f) i=(L2.atI xs i).map f:=by
 unfold L2.atI;rw[List.length_map];cases ixN xs.length i with
 | none=>rfl
 | some j=>simp
theorem HasL.atI {K:Frag} {vs:List V} {xs:List D} {i:Int} {d:D} (h:HasL K C H vs xs) (e:atI xs i=some d):∃v,L2.atI vs i=some v/\Has K C H v d:=by
 unfold L2.atI at e ⊢;rw[h.len];cases q:ixN xs.length i with
 | none=>rw[q]at e;cases e
 | some j =>
  rw[q]at e;exact h.get e
theorem vC:OpD C X (rIx X.K) fix:=by
 intro U O H v w x y z Q r hx hy e k;unfold fix at e;split at e
 ·rename_i xs i;split at e
  ·rename_i d q;cases e;obtain⟨a,vs,rfl,q1,h1⟩:=hx.lst msk_sub;obtain⟨u,q2,h2⟩:=h1.atI q;exact .inl ⟨a,vs,i,u,rfl,hy.int,SqL.of q1,q2,k _ H (Same.refl _) h2⟩
  ·cases e
 ·rename_i xs i;split at e
  ·rename_i d q;cases e;obtain⟨a,vs,rfl,q1,h1⟩:=hx.tup msk_sub;obtain⟨u,q2,h2⟩:=h1.atI q;exact .inr (.inl ⟨a,vs,i,u,rfl,hy.int,SqT.of q1,q2,k _ H (Same.refl _) h2⟩)
  ·cases e
 ·rename_i ns i;split at e
  ·rename_i d q;cases e;obtain⟨a,rfl,q1⟩:=hx.scr msk_sub;exact .inl ⟨a,_,i,.int d,rfl,hy.int,q1,by rw[yT,q];rfl,k _ H (Same.refl _) (.int d)⟩
  ·cases e
 ·cases e
theorem eR (ha:EB C X a Fa) (hb:EB C X b Fb):ED C X (.BinOp a .Add b pos) (bin dm Fa Fb):=qk xM zN xR ha hb
theorem oA (ha:EB C X a Fa) (hb:EB C X b Fb):ED C X (.BinOp a .Mult b pos) (bin (iI gi) Fa Fb):=qk Ac zK xO ha hb
theorem cP (ha:EB C X a Fa) (hb:EB C X b Fb):ED C X (.BinOp a .Mod b pos) (bin (iI a_) Fa Fb):=qk Ad zL xP ha hb
theorem fm (ha:EB C X a Fa) (hb:EB C X b Fb):ED C X (.BinOp a .FloorDiv b pos) (bin (iI cV) Fa Fb):=qk xU zM xQ ha hb
theorem AW (ha:EB C X a Fa) (hb:EB C X b Fb):ED C X (.BinOp a .Pow b pos) (bin (iI mH) Fa Fb):=qk Aa zJ xN ha hb
theorem yY (ha:EB C X a Fa) (hb:EB C X b Fb):TD C X (.Compare a [.Lt] [b] pos) (tst (bin (iI flt) Fa Fb)):=jk y_ BN z8 ha hb (kT _)
theorem yZ (ha:EB C X a Fa) (hb:EB C X b Fb):TD C X (.Compare a [.Gt] [b] pos) (tst (bin (iI fgt) Fa Fb)):=jk BV BP z_ ha hb (kT _)
theorem aq (ha:EB C X a Fa) (hb:EB C X b Fb) (hs:ii b:=by exact λ_ _=>rfl):ED C X (.Subscript a b pos) (bin fix Fa Fb):=Cd qY y7 vC ha hb hs
def im:D->R D
 | .int i=>.val (.int (-i))
 | _=>.bad
def una (f:D->R D) (a:Rho->R D):Rho->R D:=λU=>(a U).bind f
theorem iH (h:EB C X a F):ED C X (.UnaryOp .USub a pos) (una im F) :=
  aA (BT zm h) λO H Q yy0=>by
   obtain⟨U,r0,q⟩:=yy0;exact⟨U,r0,aF (P:=λz H=>pV X (cj C X U O) z O H Q) (λ_ h=>h) (λh=>h) q λx v H1 s1 h1 q1=>by
    cases x with
    | int i=>exact⟨i,h1.int,q1 _ H1 s1 (.int _)⟩
    | _=>exact q1.elim⟩
def chn (f g:Int->Int->Bool) (a b c:Rho->R D):Rho->R D:=λU=>(a U).bind λx=>(b U).bind λy=>match x,y with
 | .int i,.int j=>if f i j=true then(c U).bind λz=>match z with
   | .int k=>.val (.bl (g j k))
   | _=>.bad
  else .val (.bl false)
 | _,_=>.bad
end
variable {g:Int->Int->Bool} {k:Nat} {p:Pos} {Fc:Rho->R D} {st:Stmt} {H0:Hp}
section
variable {C:Addr} {X:Cx} {U:RB} {O:St} {H H':Hp}
theorem mS {f:Int->Int->Bool} {O:St} {H:Hp} {Q:VK} (h:teC C X (chn f g Fa Fb Fc) O H Q) :
  qG (rI0 λi j=>.bl (f i j)) (rI0 λi j=>.bl (g i j)) (teB C X Fa) (teB C X Fb) (teB C X Fc) O H Q:=by
 obtain⟨U,⟨H0,r0⟩,q⟩:=h;refine⟨U,⟨H0,r0⟩,aF (P:=λz H=>pV X (cj C X U O) z O H Q) (λ_ h=>h) (λh=>h) q λx v H1 s1 h1 q1=>?_⟩;refine⟨U,⟨H0,r0.mono s1⟩,aF (P:=λz H=>pV X (cj C X U O) z O H Q) (λ_ h=>h) (λh=>h) (q1.mono s1) λy w H2 s2 h2 q2=>?_⟩;cases x with
 | int i =>
  cases y with
  | int j =>
   refine⟨i,j,h1.int,h2.int,f i j,rfl,?_⟩;cases e:f i j with
   | false =>
    simp only[e,Bool.false_eq_true,if_false]at q2 ⊢;exact q2 _ H2 s2 (.bl false)
   | true =>
    simp only[e,if_true]at q2 ⊢;refine⟨U,⟨H0,(r0.mono s1).mono s2⟩,aF (P:=λz H=>pV X (cj C X U O) z O H Q) (λ_ h=>h) (λh=>h) (q2.mono s2) λz w' H3 s3 h3 q3=>?_⟩;cases z with
    | int k=>exact⟨j,k,h2.int,h3.int,q3 _ H3 s3 (.bl _)⟩
    | _=>exact q3.elim
  | _=>exact q2.elim
 | _=>exact q2.elim
theorem wB {c:Expr} {op':CmpOp} {f:Int->Int->Bool} (ho:OpR X (compareOp op) (rI0 λi j=>.bl (f i j))) (ho':OpR X (compareOp op') (rI0 λi j=>.bl (g i j)))
  (ha:EB C X a Fa) (hb:EB C X b Fb) (hc:EB C X c Fc) (hm:lastMarks [op,op'] [b,c]=false:=by with_unfolding_all rfl):ED C X (.Compare a [op,op'] [b,c] pos) (chn f g Fa Fb Fc) :=
 aA (vA ho ho' ha hb hc hm) λO H Q q=>mS q
theorem o3 {c:Expr} {op':CmpOp} {f:Int->Int->Bool} (ho:OpR X (compareOp op) (rI0 λi j=>.bl (f i j))) (ho':OpR X (compareOp op') (rI0 λi j=>.bl (g i j)))
  (ha:EB C X a Fa) (hb:EB C X b Fb) (hc:EB C X c Fc) (hm:lastMarks [op,op'] [b,c]=false:=by with_unfolding_all rfl):TD C X (.Compare a [op,op'] [b,c] pos) (tst (chn f g Fa Fb Fc)) :=
 iR (u_ ho ho' ha hb hc hm) λO H Q q=>by
  obtain⟨U,r0,q⟩:=q;refine mS ⟨U,r0,?_⟩;exact aF (P:=λz H=>pB X z O H Q) (λ_ h=>h) (λh=>h) q λx v H1 s1 h1 q1=>by
   cases x with
   | bl b=>exact⟨b,Has.bl' h1,q1 H1 s1⟩
   | _=>exact q1.elim
def eD (f:Nat):D->R D
 | .ob e r t=>match f with
  | 0=>.val e
  | 1=>.val r
  | _=>.val t
 | _=>.bad
theorem dS {e:Expr} {f:Str} (h:EB C X e F) (c:Cls X.K C) (n:NoAttr X.K C f) (hb:attributeBase e f X.env (eval e X.env)=eval e X.env)
    (hk:∀ve vr vt,(B9 ve vr vt).lookup f=some (match k with|0=>ve|1=>vr|_=>vt)):ED C X (.Attribute e f pos) (una (eD k) F) :=
  aA (zZ h hb) λO H Q yy0=>by
   obtain⟨U,r0,q⟩:=yy0;exact⟨U,r0,aF (P:=λz H=>pV X (cj C X U O) z O H Q) (λ_ h=>h) (λh=>h) q λx v H1 s1 h1 q1=>by
    cases x with
    | ob de dr dt =>
      cases h1 with
      | cl h1 =>
        cases h1 with
        | @ob a dx ve vr vt _ _ _ e1 g1 g2 g3 =>
          refine⟨a,C,dx,_,_,rfl,msk_sub _ _ e1,c,n,hk ve vr vt,?_⟩
          match k with
          | 0=>exact q1 _ H1 s1 g1
          | 1=>exact q1 _ H1 s1 g2
          | _+2=>exact q1 _ H1 s1 g3
    | _=>exact q1.elim⟩
def aL:D->R D
 | .lst xs=>.val (.int xs.length)
 | .tup xs=>.val (.int xs.length)
 | .scr ns=>.val (.int ns.length)
 | _=>.bad
theorem AY {e:Expr} (h:EB C X e F) (hg:Gl X "len") (hm:X.mg "len"=none) (hst:starEach [e] X.env=(false,eval e X.env)::starEach [] X.env:=by rfl)
    (hs:∀t:TA,PA X [e] t->PE X (.Call (.Name "len" p) [e] [] pos) (tCB (λxs H Q=>∃p ys,xs=[.ref p]/\(SqL X.K H p ys\/SqT X.K H p ys)/\Q (.int ys.length) H) t):=by
      exact λt ha=>fE jc (by assumption) (by assumption) PySem.boot_len ha):ED C X (.Call (.Name "len" p) [e] [] pos) (una aL F) :=
  aA (hs _ (bh h ce hst)) λO H Q yy1=>by
   obtain⟨U,r0,q⟩:=yy1;exact⟨U,r0,aF (P:=λz H=>pV X (cj C X U O) z O H Q) (λ_ h=>h) (λh=>h) q λx v H1 s1 h1 q1=>by
    cases x with
    | lst xs =>
      obtain⟨a,vs,rfl,e1,h2⟩:=h1.lst msk_sub;exact⟨a,vs,rfl,.inl (SqL.of e1),q1 _ H1 s1 (by rw[h2.len];exact .int _)⟩
    | tup xs =>
      obtain⟨a,vs,rfl,e1,h2⟩:=h1.tup msk_sub;exact⟨a,vs,rfl,.inr (SqT.of e1),q1 _ H1 s1 (by rw[h2.len];exact .int _)⟩
    | scr ns =>
      obtain⟨a,rfl,e1⟩:=h1.scr msk_sub;exact⟨a,_,rfl,.inl e1,q1 _ H1 s1 (by rw[List.length_map];exact .int _)⟩
    | _=>exact q1.elim⟩
def yk:List D->R D
 | [.int i,.int j]=>.val (.int (if j>i then j else i))
 | _=>.bad
def yH (F:Rho->R (List D)):Rho->R D:=λU=>(F U).bind yk
theorem AX {F : Rho -> R (List D)} (hc : X.calm = true) (h : AD C X [a, b] F) (hg : Gl X "max") (hm : X.mg "max" = none)
    (hs : ∀ t : TA, PA X [a, b] t -> PE X (.Call (.Name "max" p) [a, b] [] pos) (tCB (fun xs H Q => ∃ i j, xs = [.int i, .int j] /\ Q (.int (if j > i then j else i)) H) t) := by
      exact fun t ha => fE (nh (by assumption)) (by assumption) (by assumption) PySem.boot_max ha) : ED C X (.Call (.Name "max" p) [a, b] [] pos) (yH F) :=
  aA (hs _ h) fun O H Q yy2 => by
   obtain ⟨U, r0, q⟩ := yy2
   exact ⟨U, r0, ck (P := fun z H => pV X (cj C X U O) z O H Q) (fun _ h => h) (fun h => h) q fun xs vs H1 s1 h1 q1 => by
    unfold yk at q1
    split at q1
    · rename_i i j
      cases h1 with
      | cons a1 b1 => cases b1 with
        | cons a2 b2 => cases b2; cases a1; cases a2; exact ⟨i, j, rfl, q1 _ H1 s1 (.int _)⟩
    · exact q1.elim⟩
def pF (Rl:Hp->List V->List D->Prop) (r:R (List D)) (O:St) (H:Hp) (Q:VK):Prop:=match r with
 | .val xs=>∀a vs H1,Same H H1->H1 a=none->Rl H1 vs xs->Q (.ref a) (upd H1 a (.lst vs))
 | .exc c=>XE X c O H
 | .bad=>False
variable (C X) in
def teF (F:Rho->R (List D)):TE:=λO H Q=>∃U:RB,(∃H0,bV C X H0 U O H)/\pF (X:=X) (fq C X U O) (F U) O H Q
variable (C X) in
def FD (e:Expr) (F:Rho->R (List D)):Prop:=PE X e (teF C X F)
def An (r:R (List D)):R D:=r.bind λxs=>.val (.lst xs)
def eLs (F:Rho->R (List D)):Rho->R D:=λU=>An (F U)
theorem cH {e:Expr} {F:Rho->R (List D)} (h:FD C X e F):ED C X e (eLs F):=aA h λO H Q yy3=>by
 obtain⟨U,⟨H0,r0⟩,q⟩:=yy3;exact⟨U,⟨H0,r0⟩,by
  unfold eLs at q;cases e:F U with
  | val xs =>
    rw[e]at q;exact λa vs H1 s1 hn h1=>q _ _ (s1.trans (ay hn)) (.lst ((r0.mono s1).new hn) (h1.mono (aO (ay hn))))
  | exc c=>rw[e]at q;exact q
  | bad=>rw[e]at q;exact q⟩
def lim (r:R (List D)):R (List D):=r.bind λxs=>if xs.length<=LIM then .val xs else .bad
def jA (F:Rho->R (List D)):Rho->R (List D):=λU=>lim (F U)
theorem lC {F : Rho -> R (List D)} (h : AD C X es F) : FD C X (.List es pos) (jA F) :=
  aA (vx h) fun O H Q yy4 => by
   obtain ⟨U, ⟨H0, r0⟩, q⟩ := yy4
   exact ⟨U, ⟨H0, r0⟩, ck (P := fun z H => pF (X := X) (fq C X U O) z O H Q) (fun _ h => h) (fun h => h) q fun xs vs H1 s1 h1 q1 => by
    split at q1
    · rename_i hl
      exact ⟨by rw [h1.len]; exact oh hl, fun p hp => q1 p vs H1 s1 hp h1⟩
    · exact q1.elim⟩
def itD:D->R (List D)
 | .lst xs=>.val xs
 | .tup xs=>.val xs
 | .scr ns=>.val (ns.map .int)
 | _=>.bad
def fIt (F:Rho->R D):Rho->R (List D):=λU=>(F U).bind itD
theorem yo {e:Expr} (h:EB C X e F) (hg:Gl X "list") (hm:X.mg "list"=none) (hst:starEach [e] X.env=(false,eval e X.env)::starEach [] X.env:=by rfl)
    (hs:∀t:TA,PA X [e] t->PE X (.Call (.Name "list" p) [e] [] pos) (tCB (λxs H Q=>∃p ys,xs=[.ref p]/\(SqL X.K H p ys\/SqT X.K H p ys)/\∀l,H l=none->Q (.ref l) (upd H l (.lst ys))) t):=by
      exact λt ha=>bN jb (by assumption) (by assumption) PySem.boot_list ha):FD C X (.Call (.Name "list" p) [e] [] pos) (fIt F) :=
  aA (hs _ (bh h ce hst)) λO H Q yy5=>by
   obtain⟨U,r0,q⟩:=yy5;exact⟨U,r0,aF (P:=λz H=>pF (X:=X) (fq C X U O) z O H Q) (λ_ h=>h) (λh=>h) q λx v H1 s1 h1 q1=>by
    cases x with
    | lst xs =>
      obtain⟨a,vs,rfl,e1,h2⟩:=h1.lst msk_sub;exact⟨a,vs,rfl,.inl (SqL.of e1),λl hl=>q1 l vs H1 s1 hl h2⟩
    | tup xs =>
      obtain⟨a,vs,rfl,e1,h2⟩:=h1.tup msk_sub;exact⟨a,vs,rfl,.inr (SqT.of e1),λl hl=>q1 l vs H1 s1 hl h2⟩
    | scr ns =>
      obtain⟨a,rfl,e1⟩:=h1.scr msk_sub;exact⟨a,_,rfl,.inl e1,λl hl=>q1 l _ H1 s1 hl (HasL.ints ns)⟩
    | _=>exact q1.elim⟩
def ik:D->R D
 | .lst xs=>.val (.tup xs)
 | .tup xs=>.val (.tup xs)
 | _=>.bad
theorem i_ {e:Expr} (h:EB C X e F) (hg:Gl X "tuple") (hm:X.mg "tuple"=none) (hst:starEach [e] X.env=(false,eval e X.env)::starEach [] X.env:=by rfl)
    (hs:∀t:TA,PA X [e] t->PE X (.Call (.Name "tuple" p) [e] [] pos) (tCB (λxs H Q=>∃p ys,xs=[.ref p]/\((SqL X.K H p ys/\∀l,H l=none->Q (.ref l) (upd H l (.tup ys)))\/(SqT X.K H p ys/\Q (.ref p) H))) t):=by
      exact λt ha=>bN cJ (by assumption) (by assumption) PySem.boot_tuple ha):ED C X (.Call (.Name "tuple" p) [e] [] pos) (una ik F) :=
  aA (hs _ (bh h ce hst)) λO H Q yy6=>by
   obtain⟨U,⟨H0,r0⟩,q⟩:=yy6;exact⟨U,⟨H0,r0⟩,aF (P:=λz H=>pV X (cj C X U O) z O H Q) (λ_ h=>h) (λh=>h) q λx v H1 s1 h1 q1=>by
    cases x with
    | lst xs =>
      obtain⟨a,vs,rfl,e1,h2⟩:=h1.lst msk_sub;exact⟨a,vs,rfl,.inl ⟨SqL.of e1,λl hl=>q1 _ _ (s1.trans (ay hl)) (.tup ((r0.mono s1).new hl) (h2.mono (aO (ay hl))))⟩⟩
    | tup xs =>
      cases h1 with
      | cl h1 =>
        cases h1 with
        | tup e1 h2=>exact⟨_,_,rfl,.inr ⟨SqT.of (msk_sub _ _ e1),q1 _ H1 s1 (.tup e1 h2)⟩⟩
    | _=>exact q1.elim⟩
def sq (a b:Rho->R Out):Rho->R Out:=λU=>(a U).bind λo=>match o with
 | .nx ρ'=>b ρ'
 | o=>.val o
def nxt:Rho->R Out:=λU=>.val (.nx U)
def asg (i:Nat) (e:Rho->R D):Rho->R Out:=λU=>(e U).bind λd=>.val (.nx (U.set i (some (.shr d))))
def own (i:Nat) (e:Rho->R (List D)):Rho->R Out:=λU=>(e U).bind λxs=>.val (.nx (U.set i (some (.own xs))))
def ret (e:Rho->R D):Rho->R Out:=λU=>(e U).bind λd=>.val (.rt d)
def drp (e:Rho->R D):Rho->R Out:=λU=>(e U).bind λ_=>.val (.nx U)
def iff (t:Rho->R Bool) (a b:Rho->R Out):Rho->R Out:=λU=>(t U).bind λc=>if c=true then a U else b U
def bad:Rho->R Out:=λ_=>.bad
theorem aK:SDs C X [] nxt:=eN xz λD O H yy7=>by
 obtain⟨_,H0,⟨U,rfl,r⟩,q⟩:=yy7;exact q O H r.e
theorem aj {rest:List Stmt} {F G:Rho->R Out} (h1:SD C X st F) (h2:SDs C X rest G):SDs C X (st::rest) (sq F G) :=
 eN (gH h1 h2) λD O H zz0=>by
  obtain⟨_,H0,⟨U,rfl,r⟩,q⟩:=zz0;refine⟨U,H0,r.e,?_⟩;unfold sq at q;cases e:F U with
  | val o =>
   rw[e]at q;cases o with
   | nx ρ'=>exact λσ' H' r'=>⟨ρ',H0,r',q⟩
   | rt d=>exact q
   | bk ρ'=>exact q
   | ct ρ'=>exact q
  | exc c=>rw[e]at q;exact q
  | bad=>rw[e]at q;exact q
theorem ag {F:Rho->R Out} (h:SD C X st F):SDs C X [st] F:=hZ h
theorem cg {Dn:io} {U:RB} {O:St} {H:Hp} (r:bV C X H0 U O H) (h:pS C X (.exc c) H0 Dn):XE X c O H:=XS.xe (r.keep.trans msk_sub) h
theorem zw {e:Expr} {pos':Pos} (hN:X.N.Nodup) (hi:X.N[i]?=some x) (hx:Loc X.env.scope x) (he:ED C X e F) (hs:swapsWith e (some (.Name x pos')) pos.line X.env=pure false:=by rfl)
    (hf:X.fn x=true\/X.env.scope.names.lookup x=some .local:=by first|exact .inl rfl|exact .inr rfl|assumption):SD C X (.Assign [.Name x pos'] e pos) (asg i F) :=
  aY (kO hN hi hx he hs hf) λD O H yy8=>by
   obtain⟨_,H0,⟨U,rfl,r⟩,q⟩:=yy8;exact⟨U,⟨H0,r⟩,aF (P:=λz _=>pS C X z H0 D) (λc h=>cg r h) (λh=>h) q λd v H1 s1 h1 q1=>q1 _ _ ⟨_,rfl,(r.mono s1).setShr h1⟩⟩
theorem kF {e:Expr} {pos':Pos} {F:Rho->R (List D)} (hN:X.N.Nodup) (hi:X.N[i]?=some x) (hx:Loc X.env.scope x) (he:FD C X e F) (hs:swapsWith e (some (.Name x pos')) pos.line X.env=pure false:=by rfl)
    (hf:X.fn x=true\/X.env.scope.names.lookup x=some .local:=by first|exact .inl rfl|exact .inr rfl|assumption):SD C X (.Assign [.Name x pos'] e pos) (own i F) :=
  aY (kO hN hi hx he hs hf) λD O H yy9=>by
   obtain⟨_,H0,⟨U,rfl,r⟩,q⟩:=yy9;exact⟨U,⟨H0,r⟩,by
    unfold own at q;cases e:F U with
    | val xs =>
      rw[e]at q;exact λa vs H1 s1 hn h1=>q _ _ ⟨_,rfl,(r.mono s1).setOwn hn h1⟩
    | exc c=>rw[e]at q;exact cg r q
    | bad=>rw[e]at q;exact q⟩
theorem aQ {e:Expr} (he:ED C X e F):SD C X (.Return (some e) pos) (ret F) :=
  aY (qO he) λD O H yy10=>by
   obtain⟨_,H0,⟨U,rfl,r⟩,q⟩:=yy10;exact⟨U,⟨H0,r⟩,aF (P:=λz _=>pS C X z H0 D) (λc h=>cg r h) (λh=>h) q λd v H1 s1 h1 q1=>q1 v H1 ((r.mono s1).keep.trans msk_sub) (h1.mono msk_sub)⟩
theorem kf {e:Expr} (he:EB C X e F) (hs:swapsWith e none pos.line X.env=pure false:=by rfl):SD C X (.Expr e pos) (drp F) :=
  aY (h7 he hs) λD O H yy11=>by
   obtain⟨_,H0,⟨U,rfl,r⟩,q⟩:=yy11;exact⟨U,⟨H0,r⟩,aF (P:=λz _=>pS C X z H0 D) (λc h=>cg r h) (λh=>h) q λd v H1 s1 h1 q1=>q1 _ _ (r.mono s1).e⟩
theorem bf {c:Expr} {a b:List Stmt} {Ft:Rho->R Bool} {Fa Fb:Rho->R Out} (hc:TD C X c Ft) (ha:SDs C X a Fa) (hb:SDs C X b Fb):SD C X (.If c a b pos) (iff Ft Fa Fb) :=
  aY (BR hc ha hb) λD O H yy12=>by
   obtain⟨_,H0,⟨U,rfl,r⟩,q⟩:=yy12;exact⟨U,⟨H0,r⟩,iT (P:=λz _=>pS C X z H0 D) (λc h=>cg r h) (λh=>h) q λc H1 s1 q1=>by
    cases c with
    | true=>exact Ax ⟨U,H0,(r.mono s1).e,q1⟩
    | false=>exact Ay ⟨U,H0,(r.mono s1).e,q1⟩⟩
theorem fv:SD C X st bad:=aY vg λD O H yy13=>by
 obtain⟨_,H0,⟨U,rfl,r⟩,q⟩:=yy13;exact q
theorem xl {st:List Stmt}:SDs C X st bad:=eN tW λD O H yy14=>by
 obtain⟨_,H0,⟨U,rfl,r⟩,q⟩:=yy14;exact q
def frz (i:Nat) (U:Rho):Rho:=match U[i]? with
 | some (some (.own xs))=>U.set i (some (.shr (.lst xs)))
 | some (some (.tre _ d))=>U.set i (some (.shr d))
 | _=>U
theorem Rel.frz {K:Frag} {H0:Hp} {U:Rho} (r:uA K C H0 U O H) (i:Nat):uA K C H0 (DL.frz i U) O H:=by
 obtain⟨U,rfl,r⟩:=r;unfold DL.frz;split
 ·exact⟨_,rfl,r.freeze ‹_›⟩
 ·exact⟨_,rfl,r.thaw ‹_›⟩
 ·exact r.e
theorem xk {sts:List Stmt} {F:Rho->R Out} (i:Nat) (h:SDs C X sts F):SDs C X sts (λU=>F (frz i U)):=eN h λD O H yy16=>by
 obtain⟨U,H0,r,q⟩:=yy16;exact⟨frz i U,H0,Rel.frz r i,q⟩
def app (i:Nat) (e:Rho->R D):Rho->R Out:=λU=>match U[i]? with
 | some (some (.own xs))=>(e U).bind λd=>if xs.length<LIM then .val (.nx (U.set i (some (.own (xs++[d])))))else .bad
 | _=>.bad
theorem jo {e:Expr} {ap cp:Pos} (hv:PE X (.Name x p) (du i)) (he:ED C X e F)
  (hs:∀{to:TE} {t:TA},PE X (.Name x p) to->PA X [e] t->PS X (.Expr (.Call (.Attribute (.Name x p) "append" ap) [e] [] cp) pos) (kz (tBM X.K "list" nM to t)):=by
   exact λho ha=>h7 (jK PySem.F.plainAttrs_list PySem.F.slot_list_append PySem.F.type_list_append jt ho ha))
  (hst:starEach [e] X.env=(false,eval e X.env)::starEach [] X.env:=by rfl) :
  SD C X (.Expr (.Call (.Attribute (.Name x p) "append" ap) [e] [] cp) pos) (app i F) :=
 aY (hs hv (bh he ce hst)) λD O H zz1=>by
  obtain⟨_,H0,⟨U,rfl,r⟩,q⟩:=zz1;unfold app at q;split at q
  ·rename_i xs e0;obtain⟨a,vs,e1,_,h1,h2⟩:=r.at_ i _ e0;refine⟨_,e1,.inl ⟨rfl,_,SqL.of h1⟩,U,⟨H0,r⟩,aF (P:=λz _=>pS C X z H0 D) (λc h=>cg r h) (λh=>h) q λd v H1 s1 h3 q1=>?_⟩;split at q1
   ·rename_i hl;have h2':=h2.mono (aO (U:=U) (O:=O) s1);refine⟨a,vs,v,rfl,rfl,s1 _ _ h1,by rw[h2.len];exact Nat.lt_of_lt_of_le hl (by decide),?_⟩;exact q1 _ _ ⟨_,rfl,(r.mono s1).write e0 e1 (h2'.app (.cons h3 .nil))⟩
   ·exact q1.elim
  ·exact q.elim
end
def AF:HO->Bool
 | .lst _=>true
 | .ins _ _ _=>true
 | .own _=>true
 | .ext _=>true
 | _=>false
structure Hid (H:Hp) (h:Heap) (zs:List Addr):Prop where
 kind:∀z∈zs,∃o,H z=some o/\AF o=true
 insd:∀z∈zs,∀c dx fs,H z=some (.ins c dx fs)->dx∈zs
 own:∀z∈zs,∀a,H z=some (.own a)->a∈zs
 obj:∀z∈zs,∃o,h.get? z=some o/\∀v,o.data ≠ .cell v
def cut (zs:List Addr) (H:Hp):Hp:=λb=>if b∈zs then none else H b
def jn (zs:List Addr) (H M:Hp):Hp:=λb=>if b∈zs then H b else M b
variable {zs:List Addr}
theorem cut_some {b:Addr}:cut zs H b=some o↔b∉zs/\H b=some o:=by
 unfold cut;by_cases h:b∈zs
 ·rw[if_pos h];exact⟨λe=>(by cases e),λe=>absurd h e.1⟩
 ·rw[if_neg h];exact⟨λe=>⟨h,e⟩,λe=>e.2⟩
theorem dB {b:Addr} (h:b∈zs):cut zs H b=none:=by unfold cut;rw[if_pos h]
theorem fM {b:Addr} (h:b∈zs):jn zs H M b=H b:=by unfold jn;rw[if_pos h]
theorem aZ {b:Addr} (h:b∉zs):jn zs H M b=M b:=by unfold jn;rw[if_neg h]
section
variable {X:Cx} {pins:List (Addr×Obj)} {O:St} {H M:Hp} {s s':Shared} {zs:List Addr}
theorem _root_.L2.Inv.hide (I:Inv X pins O H s) (Z:Hid H s.heap zs):Inv X (pins++cc zs s.heap) O (cut zs H) s:=by
 have nk:∀b o,H b=some o->AF o=false->b∉zs:=λb o e k hb=>by
  obtain⟨o',e',k'⟩:=Z.kind b hb;rw[e]at e';cases e';rw[k]at k';cases k'
 have nz:∀b,H b=none->b∉zs:=λb e hb=>by
  obtain⟨o',e',k'⟩:=Z.kind b hb;rw[e]at e';cases e'
 have none':∀b,H b=none->cut zs H b=none:=λb e=>by unfold cut;split<;>first|rfl|exact e
 have I1:Inv X pins O (cut zs H) s:=by
  refine⟨I.ok,I.os,I.bare,⟨I.base.keep,I.base.slot,λb o q n hx=>none' b (I.base.free b o q n hx),I.base.there,λb xs e=>?_,λb o u e=>?_,λb ps e=>?_⟩,I.loc,I.cell,none' _ I.free,λx c e=>none' _ (I.freeC x c e),λp hp=>?_,λa o e=>?_,I.len⟩
  ·have e1:=I.base.tups b xs e;exact cut_some.mpr ⟨nk b _ e1 rfl,e1⟩
  ·have e1:=I.base.frzs b o u e;exact cut_some.mpr ⟨nk b _ e1 rfl,e1⟩
  ·obtain⟨more,e1⟩:=I.base.tbls b ps e;exact⟨more,cut_some.mpr ⟨nk b _ e1 rfl,e1⟩⟩
  ·obtain⟨h1,h2,h3⟩:=I.pin p hp;exact⟨h1,none' _ h2,h3⟩
  ·obtain⟨h1,h2⟩:=cut_some.mp e;refine(I.hok a o h2).stay (λb u _ q=>q) (λb q=>cut_some.mpr ⟨λhb=>h1 (Z.own b hb a q),q⟩) λb xs q=>cut_some.mpr ⟨nk b _ q rfl,q⟩
 refine I1.pins_of λp hp=>?_;rcases List.mem_append.mp hp with hp|hp
 ·exact I1.pin p (List.mem_append_right _ hp)
 ·obtain⟨h1,h2⟩:=h_ hp;obtain⟨o',e',k'⟩:=Z.kind p.1 h1;obtain⟨o,e,d⟩:=Z.obj p.1 h1;rw[h2]at e;cases e;refine⟨h2,dB h1,λz=>?_,λz=>?_,d⟩
  ·rw[z,I.free]at e';cases e'
  ·rw[I.frn _ z]at e';cases e'
theorem _root_.L2.Inv.showG {pins' pins'':List (Addr×Obj)} (I:Inv X pins O H s) (Z:Hid H s.heap zs) (J:Inv X pins' σ' M s') (h1:∀p∈cc zs s.heap,p∈pins') (h2:∀p∈pins'',p∈pins'/\H p.1=none):Inv X pins'' σ' (jn zs H M) s'/\∀z∈zs,M z=none:=by
 have nk:∀b o,H b=some o->AF o=false->b∉zs:=λb o e k hb=>by
  obtain⟨o',e',k'⟩:=Z.kind b hb;rw[e]at e';cases e';rw[k]at k';cases k'
 have nz:∀b,H b=none->b∉zs:=λb e hb=>by
  obtain⟨o',e',k'⟩:=Z.kind b hb;rw[e]at e';cases e'
 have pin:∀z∈zs,∀o,s.heap.get? z=some o->s'.heap.get? z=some o/\M z=none:=λz hz o e=>by
  have q:=J.pin (z,o) (List.mem_append_right _ (h1 _ (eO hz e)));exact⟨q.1,q.2.1⟩
 have mz:∀z∈zs,M z=none:=λz hz=>by
  obtain⟨o,e,_⟩:=Z.obj z hz;exact(pin z hz o e).2
 have none':∀b,H b=none->M b=none->jn zs H M b=none:=λb e e'=>by rw[aZ (nz b e)];exact e'
 refine⟨⟨J.ok,J.os,J.bare,⟨J.base.keep,J.base.slot,λb o q n hx=>none' b (I.base.free b o q n hx) (J.base.free b o q n hx),J.base.there,λb xs e=>?_,λb o u e=>?_,λb ps e=>?_⟩,J.loc,J.cell,none' _ I.free J.free,λx c e=>none' _ (I.freeC x c e) (J.freeC x c e),λp hp=>?_,λa o e=>?_,J.len⟩,mz⟩
 ·rw[aZ (nk b _ (I.base.tups b xs e) rfl)];exact J.base.tups b xs e
 ·rw[aZ (nk b _ (I.base.frzs b o u e) rfl)];exact J.base.frzs b o u e
 ·obtain⟨more,e1⟩:=I.base.tbls b ps e;rw[aZ (nk b _ e1 rfl)];exact J.base.tbls b ps e
 ·rcases List.mem_append.mp hp with hp|hp
  ·obtain⟨q1,q2,q3⟩:=J.pin p (List.mem_append_left _ hp);exact⟨q1,none' _ (I.pin p (List.mem_append_left _ hp)).2.1 q2,q3⟩
  ·obtain⟨q1,q2,q3⟩:=J.pin p (List.mem_append_right _ (h2 p hp).1);exact⟨q1,none' _ (h2 p hp).2 q2,q3⟩
 ·by_cases ha:a∈zs
  ·rw[fM ha]at e;obtain⟨o',e',k'⟩:=Z.kind a ha;rw[e]at e';cases e';have ok:=I.hok a o e;have same:∀u,s.heap.get? a=some u->s'.heap.get? a=some u:=λu q=>(pin a ha u q).1;cases o with
   | lst xs=>obtain⟨z,its,n,r,e1⟩:=ok;exact⟨z,its,n,r,same _ e1⟩
   | own y=>obtain⟨u,e1⟩:=ok;exact⟨u,same _ e1⟩
   | ext φ=>obtain⟨p,⟨u,e1⟩,st⟩:=ok;exact⟨st _ _ p λo q=>same o q,⟨u,same _ e1⟩,st⟩
   | ins c dx fs =>
    obtain⟨d,z,ne,e1,mA,⟨od,es,ep,e2,rest⟩,r⟩:=ok;have hd:dx∈zs:=Z.insd a ha c dx fs e;exact⟨by rw[fM hd];exact d,z,ne,same _ e1,mA,⟨od,es,ep,(pin dx hd _ e2).1,rest⟩,r⟩
   | _=>cases k'
  ·rw[aZ ha]at e;refine(J.hok a o e).stay (λb u _ q=>q) (λb q=>?_) λb xs q=>?_
   ·rw[aZ λhb=>by rw[mz b hb]at q;cases q];exact q
   ·rw[aZ λhb=>by rw[mz b hb]at q;cases q];exact q
theorem _root_.L2.Inv.show' (I:Inv X pins O H s) (Z:Hid H s.heap zs) (J:Inv X (pins++cc zs s.heap) O M s'):Inv X pins O (jn zs H M) s'/\∀z∈zs,M z=none :=
 I.showG Z J (λp hp=>List.mem_append_right _ hp) λp hp=>⟨List.mem_append_left _ hp,(I.pin p (List.mem_append_right _ hp)).2.1⟩
end
def bj (U:RB) (O:St):List Addr:=(List.range U.rho.length).flatMap U.ad
variable {U:RB}
theorem eQ {b:Addr} (hb:∀(i:Nat) a,a∈U.ad i->i<U.rho.length):b∈bj U O↔Own U O b:=by
 unfold bj;rw[List.mem_flatMap];exact⟨λ⟨i,_,h⟩=>⟨i,h⟩,λ⟨i,h⟩=>⟨i,List.mem_range.mpr (hb i b h),h⟩⟩
theorem cA (hb:∀(i:Nat) a,a∈U.ad i->i<U.rho.length):msk U O H=cut (bj U O) H:=by
 funext b
 unfold msk cut;by_cases h:Own U O b
 ·rw[if_pos h,if_pos ((eQ hb).mpr h)]
 ·rw[if_neg h,if_neg λz=>h ((eQ hb).mp z)]
theorem Rel.hid {pins:List (Addr×Obj)} (r:bV C X H0 U O H) (I:Inv X pins O H s):Hid H s.heap (bj U O):=by
 have key:∀z∈bj U O,(∃vs,H z=some (.lst vs))\/∃xs,H z=some (ja z xs):=λz hz=>by
  obtain⟨i,h⟩:=(eQ r.bnd).mp hz;exact r.kin i z h
 refine⟨λz hz=>?_,λz hz c dx fs e=>?_,λz hz a e=>?_,λz hz=>?_⟩
 ·rcases key z hz with⟨vs,e⟩|⟨vs,e⟩<;>exact⟨_,e,rfl⟩
 ·rcases key z hz with⟨vs,e'⟩|⟨vs,e'⟩<;>(rw[e]at e';cases e')
 ·rcases key z hz with⟨vs,e'⟩|⟨vs,e'⟩<;>(rw[e]at e';cases e')
 ·rcases key z hz with⟨vs,e'⟩|⟨vs,e'⟩
  ·obtain⟨_,its,n,_,e1⟩:=I.hok z _ e';exact⟨_,e1,λv q=>by cases q⟩
  ·obtain⟨⟨_,_,o,es,ep,e1,_,e2,_⟩,_⟩:=I.hok z _ e';exact⟨o,e1,λv q=>by rw[e2]at q;cases q⟩
def spD (K:Frag) (C:Addr) (n:Nat) (den:List D->R D):Sp:=λvs H Q _=>vs.length=n/\∃ds,HasL K C H vs ds/\match den ds with
 | .val d=>∀v H',Same H H'->Has K C H' v d->Q v H'
 | _=>False
section
variable {C:Addr} {X:Cx}
def noex:R D->R D
 | .val d=>.val d
 | _=>.bad
def cal (n:Nat) (den:List D->R D) (a:Rho->R (List D)):Rho->R D:=λU=>(a U).bind λds=>if ds.length=n then noex (den ds)else .bad
theorem yF {CX:CXT} {f:Addr} {fd:FuncData} {ps:List Str} {den:List D->R D} {e:Expr} {Fa:Rho->R (List D)}
  (F:FnOk X.prog X.w X.K X.mg X.base CX k f fd ps (spD X.K C n den)) (hr:Room k X.A) (hg:Gl X x) (hm:X.mg x=some (.ref f)) (hk:keepIn X.K (.ref f)=true) (hb:Binds X.K fd ps []) (hx:oY CX X E0)
  (ha:AD C X (e::es) Fa) (hdb:(x==("__debug__":Str))=false:=by decide) (he:starEach (e::es) X.env=(false,eval e X.env)::starEach es X.env:=by rfl) (hpl:(backTo pos (starEach es X.env)).any (·.1)=false:=by rfl) :
  ED C X (.Call (.Name x p) (e::es) [] pos) (cal n den Fa):=by
 rintro pins s O H Q I ⟨U,⟨H0,r0⟩,q⟩;refine wpAny_Call_Name_kw (da I hg hm ?_ hdb);refine callWith_K (h₀:=X.base) I.ok.mod.kin hk (thn (ha pos pins s O H (λvs H1=>∃ds d,ds.length=n/\Same H H1/\fq C X U O H1 vs ds/\den ds=.val d/\∀v H',Same H H'->cj C X U O H' v d->Q v H') I
  ⟨U,⟨H0,r0⟩,ck (P:=λz H=>pV X (cj C X U O) z O H Q) (λ_ h=>h) (λh=>h) q λds vs H1 s1 h1 q1=>?_⟩) λus s1 ⟨vs,H1,I1,rv,ds,d,hl,s1',h1,e1,q1⟩=>⟨I1.kIn,?_⟩) he hpl
 ·split at q1
  ·rename_i hl;cases e1:den ds with
   | val d=>rw[e1]at q1;exact⟨ds,d,hl,s1,h1,e1,q1⟩
   | exc c=>rw[e1]at q1;exact q1.elim
   | bad=>rw[e1]at q1;exact q1.elim
  ·exact q1.elim
 ·have r1:=r0.mono s1';have Z:=Rel.hid r1 I1;have J:=I1.hide Z;refine thn (nK (E:=E0) (Q:=λv M'=>Same (cut (bj U O) H1) M'/\Has X.K C M' v d) F hr hb .nil hx J rv ?_) λu s2 ⟨v,M',J2,ru,sm,hv⟩=>?_
  ·rw[List.append_nil];refine⟨h1.len.trans hl,ds,by rw[<- cA r0.bnd];exact h1,?_⟩;rw[e1];exact λv H' s2 h2=>⟨s2,h2⟩
  ·obtain⟨I2,mz⟩:=I1.show' Z J2;have sj:Same H1 (jn (bj U O) H1 M'):=λb o eb=>by
    by_cases hb:b∈bj U O
    ·rw[fM hb];exact eb
    ·rw[aZ hb];exact sm b o (cut_some.mpr ⟨hb,eb⟩)
   have em:msk U O (jn (bj U O) H1 M')=M':=by
    rw[cA r0.bnd]
    funext b
    by_cases hb:b∈bj U O
    ·rw[dB hb,mz b hb]
    ·unfold cut;rw[if_neg hb,aZ hb]
   exact⟨v,_,I2,ru,q1 v _ (s1'.trans sj) (by show Has _ _ (msk U O _) v d;rw[em];exact hv)⟩
end
def tgN (i:Nat):D->Rho->Option Rho:=λx U=>some (U.set i (some (.shr x)))
def tg2 (i j:Nat):D->Rho->Option Rho:=λx U=>match x with
 | .tup [a,b]=>some ((U.set i (some (.shr a))).set j (some (.shr b)))
 | _=>none
variable {tg:Expr} {ix:List Nat} {T:D->Rho->Option Rho}
section
variable {C:Addr} {X:Cx}
variable (C X) in
def gtD (ix:List Nat) (T:D->Rho->Option Rho):TG:=λv O H Q=>∃(U:RB) (H0:Hp) (x:D) (ρ':Rho),bV C X H0 U O H/\cj C X U O H v x/\T x U=some ρ'/\∀(σ':St) (β:RB),β.rho=ρ'->(∀j:Nat,β.ad j=if j∈ix then[]else U.ad j)->bV C X H0 β σ' H->(∀j:Nat,j∉ix->σ'[j]?=O[j]?)->Q σ' H
variable (C X) in
def GD (tg:Expr) (ix:List Nat) (T:D->Rho->Option Rho):Prop:=PG X tg (gtD C X ix T)
theorem r_ {t t':TG} (h:PG X tg t) (hw:∀v O H Q,t' v O H Q->t v O H Q):PG X tg t':=λpins s O H v u Q I r q=>h pins s O H v u Q I r (hw v O H Q q)
theorem nQ (j:Nat):(U.put i (.shr d) []).ad j=if j=i then[]else U.ad j:=by
 unfold RB.put;dsimp only;split
 ·split<;>rfl
 ·rfl
theorem sv:Same (msk U O H) (msk (U.put i (.shr d) []) σ' H):=λb o eb=>by
 obtain⟨h1,h2⟩:=msk_some.mp eb;refine msk_some.mpr ⟨λ⟨j,z⟩=>?_,h2⟩;rcases eM z with⟨_,_,z⟩|⟨_,z⟩
 ·cases z
 ·exact h1 ⟨j,z⟩
theorem yh (hN:X.N.Nodup) (hi:X.N[i]?=some x) (hx:Loc X.env.scope x) (hf:X.fn x=true\/X.env.scope.names.lookup x=some .local:=by first|exact .inl rfl|exact .inr rfl|assumption) :
  GD C X (.Name x pos) [i] (tgN i):=r_ (aE hN hi hx hf) λv O H Q zz0=>by
 obtain⟨U,H0,x,ρ',r,h,e,k⟩:=zz0;cases e;exact k _ _ rfl (λj=>by rw[nQ];by_cases e1:j=i<;>simp[e1]) (r.setShr h) λj hj=>List.getElem?_set_ne λz=>hj (by simp[z])
theorem cr {y:Str} {px py:Pos} (hc:X.calm=true) (h1:PG X (.Name x px) (gA i)) (h2:PG X (.Name y py) (gA j))
  (hs1:(assignEach [.Name x px,.Name y py] X.env).map (·.2)=assign (.Name x px) X.env::(assignEach [.Name y py] X.env).map (·.2):=by rfl)
  (hs2:(assignEach [.Name y py] X.env).map (·.2)=assign (.Name y py) X.env::(assignEach [] X.env).map (·.2):=by rfl)
  (hn:(assignEach [.Name x px,.Name y py] X.env).length=2:=by rfl) (hst:(assignEach [.Name x px,.Name y py] X.env).findIdx? (·.1)=none:=by rfl) :
  GD C X (.Tuple [.Name x px,.Name y py] n pos) [i,j] (tg2 i j):=r_ (zV hc (pf h1 (pf h2 xH hs2) hs1) hn hst) λv O H Q zz1=>by
 obtain⟨U,H0,d,ρ',r,h,e,k⟩:=zz1;unfold tg2 at e;split at e
 ·rename_i a b;cases e;cases h with
  | tup q hl =>
   cases hl with
   | @cons va _ _ _ ha hl =>
    cases hl with
    | @cons vb _ _ _ hb hl =>
     cases hl;refine⟨_,_,rfl,SqT.of (msk_sub _ _ q),rfl,va,_,rfl,vb,_,rfl,rfl,?_⟩;have r1:=r.setShr (i:=i) ha;refine k _ _ rfl (λm=>?_) (r1.setShr (i:=j) (hb.mono sv)) λm hm=>?_
     ·rw[nQ,nQ];by_cases e1:m=i<;>by_cases e2:m=j<;>simp[e1,e2]
     ·rw[List.getElem?_set_ne λz=>hm (by simp[z]),List.getElem?_set_ne λz=>hm (by simp[z])]
 ·cases e
def asT (T:D->Rho->Option Rho) (e:Rho->R D):Rho->R Out:=λU=>(e U).bind λd=>match T d U with
 | some ρ'=>.val (.nx ρ')
 | none=>.bad
theorem zx {e : Expr} (he : ED C X e F) (hg : GD C X tg ix T) (hs : swapsWithSole [tg] e pos.line X.env = pure false := by rfl) (hw : swappedStores [tg] e X.env = pure none := by rfl)
    (h1 : (assignEach [tg] X.env).map (·.2) = [assign tg X.env] := by rfl) : SD C X (.Assign [tg] e pos) (asT T F) :=
  aY (qP he hg hs hw h1) fun D O H yy0 => by
   obtain ⟨_, H0, ⟨U, rfl, r⟩, q⟩ := yy0
   exact ⟨U, ⟨H0, r⟩, aF (P := fun z _ => pS C X z H0 D) (fun c h => cg r h) (fun h => h) q fun d v H1 s1 h1 q1 => by
    split at q1
    · rename_i ρ' e1
      exact ⟨U, H0, d, ρ', r.mono s1, h1, e1, fun σ' β eb _ r' _ => q1 σ' H1 ⟨β, eb, r'⟩⟩
    · exact q1.elim⟩
structure lW (K:Frag) (C:Addr) (J:It) (xs:List D) (M:Hp):Prop where
 go:∀(i:Nat) x H2,Same M H2->xs[i]?=some x->J.go i H2/\∀v H3,J.yld i H2 v H3->Same H2 H3/\∀U O,(∀b,Own U O b->H2 b≠none)->Same M (msk U O H2)->Has K C (msk U O H3) v x
 stop:∀H2,Same M H2->J.stop xs.length H2
variable (C X) in
def itI (F:Rho->R (List D)):TI:=λO H Rk=>∃U:RB,(∃H0,bV C X H0 U O H)/\match F U with
 | .val xs=>∀J H',Same H H'->lW X.K C J xs (msk U O H')->Rk J H'
 | .exc c=>XE X c O H
 | .bad=>False
variable (C X) in
def ID (tg iter:Expr) (F:Rho->R (List D)):Prop:=PI X tg iter (itI C X F)
theorem kh {e:Expr} {t t':TI} (h:PI X tg e t) (hw:∀O H Q,t' O H Q->t O H Q):PI X tg e t':=λpins s O H R I q=>h pins s O H R I (hw O H R q)
theorem tL {a:Addr} (e:M a=some (.lst vs)) (h:HasL K C M vs xs):lW K C (Itl K a) xs M where
 go:=λi x H2 s hx=>by
  obtain⟨v,e1,h1⟩:=h.get hx;refine⟨⟨vs,v,SqL.of (s _ _ e),e1⟩,λv' H3 y=>?_⟩;obtain⟨rfl,y⟩:=y;have e2:=y vs (SqL.of (s _ _ e));rw[e1]at e2;cases e2;exact⟨Same.refl _,λU O _ m=>h1.mono m⟩
 stop:=λH2 s=>⟨vs,SqL.of (s _ _ e),by rw[h.len];exact Nat.le_refl _⟩
theorem uH {a:Addr} (e:M a=some (.tup vs)) (h:HasL K C M vs xs):lW K C (Itt K a) xs M where
 go:=λi x H2 s hx=>by
  obtain⟨v,e1,h1⟩:=h.get hx;refine⟨⟨vs,v,SqT.of (s _ _ e),e1⟩,λv' H3 y=>?_⟩;obtain⟨rfl,y⟩:=y;have e2:=y vs (SqT.of (s _ _ e));rw[e1]at e2;cases e2;exact⟨Same.refl _,λU O _ m=>h1.mono m⟩
 stop:=λH2 s=>⟨vs,SqT.of (s _ _ e),by rw[h.len];exact Nat.le_refl _⟩
theorem uI {a:Addr} {ns:List Int} (e:SqL K M a (ns.map V.int)):lW K C (Itl K a) (ns.map D.int) M where
 go:=λi x H2 s hx=>by
  obtain⟨v,e1,h1⟩:=(HasL.ints (K:=K) (C:=C) (H:=M) ns).get hx;refine⟨⟨_,v,s.seq e,e1⟩,λv' H3 y=>?_⟩;obtain⟨rfl,y⟩:=y;have e2:=y _ (s.seq e);rw[e1]at e2;cases e2;exact⟨Same.refl _,λU O _ m=>h1.mono m⟩
 stop:=λH2 s=>⟨_,s.seq e,by simp⟩
def rng (lo:Int) (n:Nat):List D:=(List.range n).map λ(k:Nat)=>D.int (lo+(k:Int))
theorem uJ {lo:Int}:lW K C (Itr lo n) (rng lo n) M where
 go:=λi x H2 s hx=>by
  have hi:i<n:=by have:=(List.getElem?_eq_some_iff.mp hx).1;simpa[rng]using this
  refine⟨hi,λv H3 y=>?_⟩;obtain⟨rfl,rfl⟩:=y;refine⟨Same.refl _,λU O _ m=>?_⟩;have:x=.int (lo+(i:Int)):=by
   unfold rng at hx;rw[List.getElem?_map,List.getElem?_range hi]at hx;exact(Option.some.inj hx).symm
  rw[this];exact .int _
 stop:=λH2 s=>by simp[rng,Itr]
theorem zU {l:Expr} {tl:TE} (hl:PE X l tl):PI X tg l (λO H R=>tl O H λx H1=>∃a,x=.ref a/\(((∃xs,SqL X.K H1 a xs)/\R (Itl X.K a) H1)\/((∃xs,SqT X.K H1 a xs)/\R (Itt X.K a) H1))):=by
 intro pins s O H R I h;refine thn (hl pins s O H _ I h) λv s1 zz3=>?_;obtain⟨x,H1,I1,r1,q1⟩:=zz3;obtain⟨a,e,q1⟩:=q1;subst e;cases r1;rcases q1 with⟨⟨xs,hq⟩,q⟩|⟨⟨xs,hq⟩,q⟩
 ·obtain⟨its,rv,p,hz⟩:=I1.list hq;refine wpAny_pyIter_list p.isList ?_;refine⟨s1.heap.objs.size,[s1.heap.objs.size],_,_,H1,rfl,I1.kept (t':=s1.toks) λb o e=>Heap.get?_push_of_some _ e,mR a _,⟨_,Heap.get?_push_size _ rfl,rfl,rfl⟩,λb hb=>?_,q⟩;have e:b=s1.heap.objs.size:=by simpa using hb
  subst e;exact I1.fpOk (Nat.le_refl _) (I1.hok.fresh (Nat.le_refl _))
 ·obtain⟨its,rv,p,hz⟩:=I1.tuple hq;refine wpAny_pyIter_tuple (show s1.heap.IsTuple a its.toArray from p) ?_;refine⟨s1.heap.objs.size,[s1.heap.objs.size],_,_,H1,rfl,I1.kept (t':=s1.toks) λb o e=>Heap.get?_push_of_some _ e,qC a _,⟨_,Heap.get?_push_size _ rfl,rfl,rfl⟩,λb hb=>?_,q⟩;have e:b=s1.heap.objs.size:=by simpa using hb
  subst e;exact I1.fpOk (Nat.le_refl _) (I1.hok.fresh (Nat.le_refl _))
theorem cE {e:Expr} (h:ED C X e F):ID C X tg e (fIt F):=kh (zU h) λO H R yy2=>by
 obtain⟨U,⟨H0,r⟩,q⟩:=yy2;exact⟨U,⟨H0,r⟩,by
  unfold fIt at q;cases e:F U with
  | val d =>
    rw[e]at q;intro v H1 s1 h1;cases h1 with
    | lst e1 h1=>exact⟨_,rfl,.inl ⟨⟨_,SqL.of (msk_sub _ _ e1)⟩,q _ H1 s1 (tL e1 h1)⟩⟩
    | tup e1 h1=>exact⟨_,rfl,.inr ⟨⟨_,SqT.of (msk_sub _ _ e1)⟩,q _ H1 s1 (uH e1 h1)⟩⟩
    | scr e1=>exact⟨_,rfl,.inl ⟨⟨_,msk_sub.seq e1⟩,q _ H1 s1 (uI e1)⟩⟩
    | _=>exact q.elim
  | exc c=>rw[e]at q;exact q
  | bad=>rw[e]at q;exact q⟩
def mq:List D->R (List D)
 | [.int j]=>if -(2 ^ 62)<=j/\j<2 ^ 62 then .val (rng 0 j.toNat)else .bad
 | _=>.bad
def bW (F:Rho->R (List D)):Rho->R (List D):=λU=>(F U).bind mq
theorem bD {F : Rho -> R (List D)} (hg : Gl X "range") (hm : X.mg "range" = none) (ha : AD C X [a] F) (hs : starEach [a] X.env = [(false, eval a X.env)] := by rfl) :
    ID C X tg (.Call (.Name "range" p) [a] [] pos) (bW F) := kh (tY hg hm ha hs) fun O H R yy3 => by
     obtain ⟨U, ⟨H0, r⟩, q⟩ := yy3
     exact ⟨U, ⟨H0, r⟩, by
  unfold bW at q
  cases e : F U with
  | val ds =>
    rw [e] at q
    dsimp only [DL.R.bind] at q
    intro vs H1 s1 h1
    unfold mq at q
    split at q
    · rename_i e0
      split at e0
      · rename_i j
        split at e0
        · rename_i hj
          cases e0
          cases h1 with
          | cons a b => cases a; cases b; exact ⟨j, rfl, hj.1, hj.2, q _ H1 s1 uJ⟩
        · cases e0
      · cases e0
    · rename_i e0
      split at e0
      · split at e0 <;> cases e0
      · cases e0
    · exact q.elim
  | exc c => rw [e] at q; exact q
  | bad => rw [e] at q; exact q⟩
def bu (T:D->Rho->Option Rho) (F:Rho->R Out):List D->Rho->R Out
 | [],U=>.val (.nx U)
 | x::xs,U=>match T x U with
  | some U1=>(F U1).bind λo=>match o with
   | .nx U2=>bu T F xs U2
   | .ct U2=>bu T F xs U2
   | .bk U2=>.val (.nx U2)
   | .rt d=>.val (.rt d)
  | none=>.bad
def bq (src:Rho->R (List D)) (T:D->Rho->Option Rho) (F:Rho->R Out):Rho->R Out:=λU=>(src U).bind λxs=>bu T F xs U
theorem v5 {src:Rho->R (List D)} {F:Rho->R Out} {D:io} (h:tsD C X (bq src T F) D O H):Bu (itI C X src) (gtD C X ix T) (tsD C X F) D O H:=by
 obtain⟨_,H0,⟨U,rfl,r⟩,q⟩:=h;refine⟨U,⟨H0,r⟩,?_⟩;unfold bq at q;cases e:src U with
 | exc c=>rw[e]at q;exact cg r q
 | bad=>rw[e]at q;exact q
 | val xs =>
  rw[e]at q;intro J H1 s1 wk;have r1:=r.mono s1;have hM:Same H0 (msk U O H1):=r1.keep;refine⟨λi m σ' H'=>m=xs.length-i/\i<=xs.length/\∃ρ':RB,bV C X (msk U O H1) ρ' σ' H'/\pS C X (bu T F (xs.drop i) ρ') H0 D,⟨xs.length,rfl,Nat.zero_le _,U,r1.rebase,q⟩,?_⟩;rintro i m σ' H' ⟨rfl,hi,ρ',r',q'⟩;have sm:Same (msk U O H1) H':=r'.keep.trans msk_sub;by_cases hlt:i<xs.length
  ·have ex:xs[i]?=some xs[i]:=by simp[hlt]
   have ed:xs.drop i=xs[i]::xs.drop (i+1):=List.drop_eq_getElem_cons hlt;rw[ed]at q';obtain⟨go,yld⟩:=wk.go i _ H' sm ex;refine .inr ⟨go,λO2 H2=>∃U2:RB,bV C X (msk U O H1) U2 O2 H2/\pS C X (bu T F (xs.drop (i+1)) U2) H0 D,λO2 H2 ⟨U2,r2,q2⟩=>⟨xs.length-(i+1),by omega,rfl,hlt,U2,r2,q2⟩,λv H3 y=>?_⟩;obtain⟨s3,hv⟩:=yld v H3 y;have hv':=hv ρ' σ' (λb ob=>r'.ownAt ob) r'.keep;unfold bu at q';split at q'
   ·rename_i U1 e1;refine⟨ρ',_,xs[i],U1,r'.mono s3,hv',e1,λO2 β eb _ r2 _=>⟨U1,_,⟨β,eb,r2⟩,?_⟩⟩;cases eF:F U1 with
    | val o =>
     rw[eF]at q';cases o with
     | nx U2=>exact λO4 H4 ⟨β4,e4,r4⟩=>⟨β4,r4,by rw[e4];exact q'⟩
     | ct U2=>exact λO4 H4 ⟨β4,e4,r4⟩=>⟨β4,r4,by rw[e4];exact q'⟩
     | bk U2=>exact λO4 H4 ⟨β4,e4,r4⟩=>q' O4 H4 ⟨β4,e4,r4.base hM⟩
     | rt d=>exact λv4 H4 s4 h4=>q' v4 H4 (hM.trans s4) h4
    | exc c=>rw[eF]at q';exact XS.mono hM q'
    | bad=>rw[eF]at q';exact q'
   ·exact q'.elim
  ·have ei:i=xs.length:=by omega
   subst ei;rw[List.drop_length]at q';exact .inl ⟨wk.stop H' sm,q' σ' H' (r'.base hM).e⟩
theorem br {iter:Expr} {body:List Stmt} {src:Rho->R (List D)} {F:Rho->R Out} (hp:PassesOwn (model X.prog X.w) X.A X.env X.xe) (hc:X.calm=true) (hi:ID C X tg iter src) (hg:GD C X tg ix T) (hb:SDs C X body F)
  (hs:∀x,foldedSetIterable iter X.env x=pure x:=by intro _;rfl):SD C X (.For tg iter body [] pos) (bq src T F) :=
 aY (vh hp hc hi hg hb hs) λD O H h=>v5 h
end
def st0 (N:List Str) (ds:List D):Rho:=ds.map (λd=>some (.shr d))++List.replicate (N.length-ds.length) none
def fin:R Out->R D
 | .val (.nx _)=>.val .non
 | .val (.rt d)=>.val d
 | .val _=>.bad
 | .exc c=>.exc c
 | .bad=>.bad
variable {N:List Str}
theorem xi {ds:List D} (h:(st0 N ds)[i]?=some (some sl)):∃d,sl=.shr d/\ds[i]?=some d:=by
 unfold st0 at h;by_cases hi:i<ds.length
 ·rw[List.getElem?_append_left (by simpa using hi),List.getElem?_map]at h;cases e:ds[i]? with
  | none=>rw[e]at h;cases h
  | some d=>rw[e]at h;cases h;exact⟨d,rfl,rfl⟩
 ·rw[List.getElem?_append_right (by simpa using hi),List.getElem?_replicate]at h;split at h<;>cases h
theorem hU {ds:List D} (h:HasL K C H vs ds):uA K C H (st0 N ds) (L2.start N vs) H:=by
 have sub:Same H (msk ⟨st0 N ds,λ_=>[]⟩ (L2.start N vs) H):=λb o e=>msk_some.mpr ⟨λ⟨_,z⟩=>(List.not_mem_nil z).elim,e⟩;refine⟨⟨st0 N ds,λ_=>[]⟩,rfl,?_,sub,λi sl e=>?_,λi j a z=>(List.not_mem_nil z).elim,λi a z=>(List.not_mem_nil z).elim,λi a z=>(List.not_mem_nil z).elim⟩
 ·show(st0 N ds).length=_;unfold st0 L2.start;simp[h.len]
 ·obtain⟨d,rfl,e1⟩:=xi e;obtain⟨v,e2,h2⟩:=h.get e1;refine⟨v,?_,h2.mono sub⟩;have hi:i<vs.length:=(List.getElem?_eq_some_iff.mp e2).1;unfold L2.start;rw[List.getElem?_append_left (by simpa using hi),List.getElem?_map,e2];rfl
section
variable {P:Program} {w:World} {K:Frag} {mg:Str->Option Value} {base:Heap} {C:Addr}
theorem bc {qual:Str} {f:Addr} {fd:FuncData} {ps:List Str} {den:Rho->R Out} (F:Fun K x qual st f fd) (sc:ax N ps (ai st))
  (hb:∀(cdv:Value) (A:Around) (outer:List Env) (s:Shared) (H:Hp) (E:XK),Room k (A.deeper (envOfC qual (ai st) s.heap.objs.size f cdv)) ->
   SDs C (gw CX0 P w K mg base N qual (ai st) f cdv A outer s H E).nox (bM st) den) :
  FnOk P w K mg base CX0 (k+1) f fd ps (spD K C ps.length λds=>fin (den (st0 N ds))):=by
 refine F.ok sc (λvs H Q E h=>h.1) (λcdv A outer s H vs Q E hr h=>⟨_,hb cdv A outer s H E hr,?_⟩);obtain⟨_,ds,h,q⟩:=h;refine⟨st0 N ds,H,hU h,?_⟩;dsimp only at q;cases e:den (st0 N ds)with
 | val o =>
  rw[e]at q;cases o with
  | nx ρ'=>exact λσ' H' ⟨_,_,r⟩=>q _ H' (r.keep.trans msk_sub) .non
  | rt d=>exact λv H' s' h'=>q v H' s' h'
  | bk ρ'=>exact q.elim
  | ct ρ'=>exact q.elim
 | exc c=>rw[e]at q;exact q.elim
 | bad=>rw[e]at q;exact q.elim
end
def yB (scope:Scope) (env:Env) (L:Addr) (cs:List (Str×Addr)):Env :=
 {scope:=relabel scope env,locals:=L,globals:=env.globals,cells:=cs,qual:=env.qual,func:=none,code:=env.code,frame:=env.frame,builtins:=env.builtins }
def Az (o:Option NameKind):Bool:=match o with
 | some .cell=>true
 | _=>false
def kc (o:Option NameKind):Bool:=match o with
 | some .cell=>true
 | some .free=>true
 | _=>false
def cxC (X:Cx) (N':List Str) (scope:Scope) (L:Addr) (cs:List (Str×Addr)) (s:Shared) (H:Hp) (fp:List Addr):Cx :=
 {prog:=X.prog,w:=X.w,K:=X.K,mg:=X.mg,base:=X.base,A:=X.A,N:=N',s₀:=s,H₀:=H,env:=yB scope X.env L cs,outer:=X.stack,stack:=X.stack,ex:=fp,
  fn:=λx=>Az (scope.names.lookup x),calm:=X.calm,pn:=[],xe:=λ_ _=>False }
def wM (N:List Str) (env:Env) (sc:Scope):List Str->Nat->Bool
 | [],_=>true
 | x::r,i=>(match sc.names.lookup x with
   | some .free=>(match N[i]? with|some y=>y==x|none=>false)&&kc (env.kindOf x)
   | some .local=>Nat.ble N.length i
   | some .cell=>Nat.ble N.length i
   | _=>true)&&wM N env sc r (i+1)
def fK (env:Env) (x:Str) (k:NameKind):Bool:=match k with
 | .free=>kc (env.kindOf x)
 | _=>true
def yP (env:Env):List (Str×NameKind)->Bool
 | []=>true
 | p::r=>fK env p.1 p.2&&yP env r
def lK (k:NameKind) (o:Option NameKind):Bool:=match k,o with
 | .local,some .local=>true
 | .local,_=>false
 | .free,some .free=>true
 | .free,_=>false
 | .cell,some .cell=>true
 | .cell,_=>false
 | _,_=>true
def yO (names:List (Str×NameKind)):List (Str×NameKind)->Bool
 | []=>true
 | p::r=>lK p.2 (names.lookup p.1)&&yO names r
theorem BZ {k:NameKind} {o:Option NameKind} (h:lK k o=true) (hk:k=.local\/k=.free\/k=.cell):o=some k:=by
 rcases hk with rfl|rfl|rfl
 ·cases o with
  | none=>cases h
  | some j=>cases j<;>first|rfl|cases h
 ·cases o with
  | none=>cases h
  | some j=>cases j<;>first|rfl|cases h
 ·cases o with
  | none=>cases h
  | some j=>cases j<;>first|rfl|cases h
def oP (N N':List Str) (env:Env) (sc:Scope):Bool:=wM N env sc N' 0&&(yP env sc.names&&(yO sc.names sc.names&&(Nat.ble N.length N'.length&&(match sc.kind with | .function=>true|_=>false))))
theorem lv {o:Option NameKind} (h:kc o=true):o=some .cell\/o=some .free:=by
 unfold kc at h;split at h<;>simp_all
theorem tG {N:List Str} {env:Env} {sc:Scope}:∀{l:List Str} {k i:Nat} {x:Str},wM N env sc l k=true->l[i]?=some x ->
  (sc.names.lookup x=some .free->N[k+i]?=some x/\kc (env.kindOf x)=true)/\((sc.names.lookup x=some .local\/sc.names.lookup x=some .cell)->N.length<=k+i)
 | [],_,_,_,_,e=>by simp at e
 | y::r,k,0,x,h,e=>by
  simp at e;subst e;rw[wM,Bool.and_eq_true]at h;obtain⟨h,_⟩:=h;refine⟨λz=>?_,λz=>?_⟩
  ·rw[z]at h;simp only[Bool.and_eq_true]at h;obtain⟨h1,h2⟩:=h;refine⟨?_,h2⟩;split at h1
   ·rename_i w e1;rw[Nat.add_zero,e1,beq_iff_eq.mp h1]
   ·cases h1
  ·rcases z with z|z<;>(rw[z]at h;exact Nat.le_of_ble_eq_true h)
 | y::r,k,i+1,x,h,e=>by
  rw[wM,Bool.and_eq_true]at h;have q:=tG (k:=k+1) (i:=i) (x:=x) h.2 (by simpa using e);rw[show k+(i+1)=k+1+i by omega];exact q
theorem oO {env:Env}:∀{l:List (Str×NameKind)} {x:Str},yP env l=true->(x,NameKind.free)∈l->kc (env.kindOf x)=true
 | [],_,_,h=>by cases h
 | p::r,x,h,m=>by
  have h:fK env p.1 p.2=true/\yP env r=true:=Bool.and_eq_true_iff.mp h;rcases List.mem_cons.mp m with e|m
  ·subst e;exact h.1
  ·exact oO h.2 m
theorem kt {names:List (Str×NameKind)}:∀{l:List (Str×NameKind)} {x:Str} {k:NameKind},yO names l=true->(x,k)∈l->(k=.local\/k=.free\/k=.cell)->names.lookup x=some k
 | [],_,_,_,h,_=>by cases h
 | p::r,x,k,h,m,hk=>by
  have h:lK p.2 (names.lookup p.1)=true/\yO names r=true:=Bool.and_eq_true_iff.mp h;rcases List.mem_cons.mp m with e|m
  ·subst e;exact BZ h.1 hk
  ·exact kt h.2 m hk
def cSt (x:Str) (k:NameKind) (o:Option Addr) (acc:List (Str×Addr)):List (Str×Addr):=match k,o with
 | .free,some c=>(x,c)::acc
 | _,_=>acc
def cy (env:Env):List (Str×NameKind)->List (Str×Addr)->List (Str×Addr)
 | [],acc=>acc
 | p::r,acc=>cy env r (cSt p.1 p.2 (env.cells.lookup p.1) acc)
theorem oU {k:NameKind} {o:Option Addr} {acc:List (Str×Addr)} (h:k ≠ .free):cSt x k o acc=acc:=by
 cases k with
 | free=>exact absurd rfl h
 | _=>rfl
theorem lT {k:NameKind} {acc:List (Str×Addr)}:cSt x k none acc=acc:=by cases k<;>rfl
theorem oM {scope:Scope} (h:∀x,(x,NameKind.free)∈scope.names->∃c,env.cells.lookup x=some c):closureFor scope env=pure (cy env scope.names []):=by
 unfold closureFor;have gen:∀(l:List (Str×NameKind)) (acc:List (Str×Addr)) (f:Str×NameKind->List (Str×Addr)->Sem (ForInStep (List (Str×Addr)))),(∀x,(x,NameKind.free)∈l->∃c,env.cells.lookup x=some c) ->
   (∀n k cs,f (n,k) cs=if(k==NameKind.free)=true then(do let a <- cellOf env n;pure (ForInStep.yield ((n,a)::cs)))else pure (ForInStep.yield cs))->forIn l acc f=pure (cy env l acc):=by
  intro l
  induction l with
  | nil=>intro acc f _ _;rfl
  | cons y r ih =>
   intro acc f hc hf;obtain⟨n,k⟩:=y;rw[List.forIn_cons,hf];have ih':=λacc=>ih acc f (λx hx=>hc x (List.mem_cons_of_mem _ hx)) hf;by_cases hk:k=.free
   ·subst hk;obtain⟨c,e⟩:=hc n List.mem_cons_self;rw[if_pos (by rfl)];unfold cellOf;rw[e];simp only[pure_bind];rw[ih'];show pure (cy env r ((n,c)::acc))=pure (cy env r (cSt n .free (env.cells.lookup n) acc));rw[e];rfl
   ·have hb:(k==NameKind.free)=false:=by simpa using hk
    rw[hb,if_neg Bool.false_ne_true,pure_bind];show forIn r acc f=_;rw[ih'];show _=pure (cy env r (cSt n k (env.cells.lookup n) acc));rw[oU hk]
 dsimp only;rw[gen scope.names [] _ h]
 ·rfl
 ·intro n k cs;cases hb:k==NameKind.free<;>simp[hb]
theorem lS {env:Env}:∀{l:List (Str×NameKind)} {acc:List (Str×Addr)} {x:Str} {c:Addr},(cy env l acc).lookup x=some c->(∀c',acc.lookup x=some c'->env.cells.lookup x=some c')->env.cells.lookup x=some c
 | [],acc,x,c,e,h=>h c e
 | (y,k)::r,acc,x,c,e,h=>by
  have e:(cy env r (cSt y k (env.cells.lookup y) acc)).lookup x=some c:=e;refine lS e λc' e'=>?_;by_cases hk:k=.free
  ·subst hk;cases e0:env.cells.lookup y with
   | none=>rw[e0,lT]at e';exact h c' e'
   | some c0 =>
    rw[e0]at e';have e':((y,c0)::acc).lookup x=some c':=e';rw[List.lookup_cons]at e';cases hb:x==y with
    | true=>rw[hb]at e';cases e';rw[beq_iff_eq.mp hb];exact e0
    | false=>rw[hb]at e';exact h c' e'
  ·rw[oU hk]at e';exact h c' e'
theorem jC {env:Env} {x:Str} {c:Addr} (hc:env.cells.lookup x=some c):∀{l:List (Str×NameKind)} {acc:List (Str×Addr)},((x,NameKind.free)∈l\/acc.lookup x=some c)->(cy env l acc).lookup x=some c
 | [],acc,h=>h.elim (λz=>by cases z) id
 | (y,k)::r,acc,h=>by
  show(cy env r (cSt y k (env.cells.lookup y) acc)).lookup x=some c;refine jC hc ?_;rcases h with h|h
  ·rcases List.mem_cons.mp h with e|h
   ·cases e;right;rw[hc];show((x,c)::acc).lookup x=some c;rw[List.lookup_cons,beq_self_eq_true]
   ·exact .inl h
  ·right;by_cases hk:k=.free
   ·subst hk;cases e0:env.cells.lookup y with
    | none=>rw[lT];exact h
    | some c0 =>
     show((y,c0)::acc).lookup x=some c;rw[List.lookup_cons];cases hb:x==y with
     | true=>rw[<- beq_iff_eq.mp hb,hc]at e0;exact e0.symm
     | false=>exact h
   ·rw[oU hk];exact h
theorem ku:∀{names:List (Str×NameKind)} {n:Nat} {acc:List (Str×Addr)} {x:Str} {c:Addr},(cellsFrom n names acc).lookup x=some c->acc.lookup x=some c\/(n<=c/\(x,NameKind.cell)∈names)
 | [],_,_,_,_,e=>.inl e
 | (y,k)::r,n,acc,x,c,e=>by
  unfold cellsFrom at e;split at e
  ·rename_i hk;rcases ku e with q|⟨q,m⟩
   ·rw[List.lookup_cons]at q;cases hb:x==y with
    | true=>rw[hb]at q;cases q;rw[beq_iff_eq.mp hb,beq_iff_eq.mp hk];exact .inr ⟨Nat.le_refl _,List.mem_cons_self⟩
    | false=>rw[hb]at q;exact .inl q
   ·exact .inr ⟨Nat.le_of_succ_le q,List.mem_cons_of_mem _ m⟩
  ·rcases ku e with q|⟨q,m⟩
   ·exact .inl q
   ·exact .inr ⟨q,List.mem_cons_of_mem _ m⟩
theorem oQ:∀{names:List (Str×NameKind)} {n:Nat} {acc:List (Str×Addr)} {x:Str},(x,NameKind.cell)∉names->(cellsFrom n names acc).lookup x=acc.lookup x
 | [],_,_,_,_=>rfl
 | (y,k)::r,n,acc,x,h=>by
  unfold cellsFrom;split
  ·rename_i hk;rw[oQ λm=>h (List.mem_cons_of_mem _ m),List.lookup_cons];cases hb:x==y with
   | true=>exact absurd (by rw[beq_iff_eq.mp hb,beq_iff_eq.mp hk];exact List.mem_cons_self) h
   | false=>rfl
  ·exact oQ λm=>h (List.mem_cons_of_mem _ m)
theorem rH {M:Model} {A:Around} {E:Value->Shared->Prop} {scope:Scope} {cl:List (Str×Addr)} {Q:Env->Shared->Prop}
  (h:Q { scope:=scope,locals:=s.heap.objs.size,globals:=env.globals,cells:=cellsFrom (s.heap.objs.size+1) scope.names cl,qual:=env.qual,func:=none,code:=env.code,frame:=env.frame,builtins:=env.builtins }
   {s with heap:=pushCells (s.heap.push { cls:=.type "dict",data:=.dict #[] }) scope.names }):wpAny M A (newFunctionEnv scope env.globals cl [] env.qual none .none (some env)) Q E s:=by
 simp only[newFunctionEnv,Option.isSome_some,if_true];refine wpAny_bind (wpAny_alloc ?_);refine wpAny_bind (wpAny_layCells _ (λname kind cells=>by cases hkc:kind==NameKind.cell<;>simp[hkc]) _ _ _ _ ?_);rw[show({ s with heap:=s.heap.push { cls:=.type "dict",data:=.dict #[] } }:Shared).heap.objs.size=s.heap.objs.size+1 from Heap.size_push ..];exact wpAny_pure h
structure yV (ix:List Nat) (T:D->Rho->Option Rho):Prop where
 len:∀x U ρ',T x U=some ρ'->ρ'.length=U.length
 out:∀x U ρ',T x U=some ρ'->∀j:Nat,j∉ix->ρ'[j]?=U[j]?
 shr:∀x U ρ',T x U=some ρ'->∀(j:Nat) sl,j∈ix->ρ'[j]?=some (some sl)->vU sl=false
theorem cL:yV [i] (tgN i) where
 len:=λx U ρ' e=>by cases e;simp
 out:=λx U ρ' e j hj=>by cases e;exact List.getElem?_set_ne λz=>hj (by simp[z])
 shr:=λx U ρ' e j sl hj h=>by
  cases e;have:j=i:=by simpa using hj
  subst this;rw[List.getElem?_set]at h;simp only[if_true]at h;split at h<;>cases h
  rfl
theorem rN {U:Rho} (h:(U.set i (some (.shr d)))[j]?=some (some sl)) (hn:i≠j->vU sl=false):vU sl=false:=by
 by_cases hj:i=j
 ·subst hj;rw[List.getElem?_set]at h;simp only[if_true]at h;split at h<;>cases h
  rfl
 ·exact hn hj
theorem uP:yV [i,j] (tg2 i j) where
 len:=λx U ρ' e=>by
  unfold tg2 at e;split at e
  ·cases e;simp
  ·cases e
 out:=λx U ρ' e k hk=>by
  unfold tg2 at e;split at e
  ·cases e;rw[List.getElem?_set_ne λz=>hk (by simp[z]),List.getElem?_set_ne λz=>hk (by simp[z])]
  ·cases e
 shr:=λx U ρ' e k sl hk h=>by
  unfold tg2 at e;split at e
  ·cases e;refine rN h λhj=>?_;rw[List.getElem?_set_ne hj]at h;refine rN h λhi=>?_;simp at hk;rcases hk with rfl|rfl
   ·exact absurd rfl hi
   ·exact absurd rfl hj
  ·cases e
def noE {Y:Type}:R Y->R Y
 | .val a=>.val a
 | _=>.bad
def gY (T:D->Rho->Option Rho) (t:Rho->R Bool) (e:Rho->R D):List D->Rho->R (List D)
 | [],_=>.val []
 | x::xs,U=>match T x U with
  | some U1=>(noE (t U1)).bind λb=>if b=true then(noE (e U1)).bind λd=>(gY T t e xs U).bind λds=>.val (d::ds)else gY T t e xs U
  | none=>.bad
variable {C:Addr} {X:Cx}
variable (C X) in
def qA (ifs:List Expr) (t:Rho->R Bool):Prop:=∀(pins:List (Addr×Obj)) (s:Shared) (O:St) (H:Hp) (Q:Bool->Hp->Prop),Inv X pins O H s->ttD C X t O H Q ->
 wpAny (model X.prog X.w) X.A (forIn ifs true λc r=>if r=true then do let ok <- isTrue c X.env (eval c X.env);pure (ForInStep.yield ok)else pure (ForInStep.yield r)) (TP X pins O Q) X.xe s
def tT:Rho->R Bool:=λ_=>.val true
theorem bw:qA C X [] tT:=λpins s O H Q I zz0=>by
 obtain⟨U,r,q⟩:=zz0;rw[List.forIn_nil];exact wpAny_pure ⟨H,I,q H (Same.refl _)⟩
theorem sE {c:Expr} {t:Rho->R Bool} (h:TD C X c t):qA C X [c] t:=λpins s O H Q I q=>by
 rw[List.forIn_cons,if_pos rfl];refine wpAny_bind (wpAny_bind (thn (h pins s O H Q I q) λb s1 z=>wpAny_pure ?_));show wpAny _ _ (forIn [] b _) _ _ s1;rw[List.forIn_nil];exact wpAny_pure z
def RB.ext (U:RB) (m:Nat):RB:=⟨U.rho++List.replicate m none,U.ad⟩
theorem qR {β:RB} (h:∀j,β.ad j=U.ad j):msk β σ'=msk U O:=by
 have e:β.ad=U.ad:=funext h
 funext G b
 unfold msk Own;rw[e]
theorem rV {m:Nat} (r:Rel K C H0 U O H) (hl:σ'.length=U.rho.length+m) (hp:∀j:Nat,j<U.rho.length->σ'[j]?=O[j]?) :
  Rel K C H0 (U.ext m) σ' H/\msk (U.ext m) σ'=msk U O:=by
 have at':∀(i:Nat) sl,(U.rho++List.replicate m none)[i]?=some (some sl)->U.rho[i]?=some (some sl)/\i<U.rho.length:=λi sl e=>by
  by_cases hi:i<U.rho.length
  ·rw[List.getElem?_append_left hi]at e;exact⟨e,hi⟩
  ·rw[List.getElem?_append_right (by omega),List.getElem?_replicate]at e;split at e<;>cases e
 have em:msk (U.ext m) σ'=msk U O:=qR λ_=>rfl;refine⟨⟨?_,by rw[em];exact r.keep,λi sl e=>?_,r.inj,r.kin,λi a z=>?_⟩,em⟩
 ·show(U.rho++List.replicate m none).length=_;simp[hl]
 ·obtain⟨e1,hi⟩:=at' i sl e;rw[em,hp i hi];exact r.at_ i sl e1
 ·show i<(U.rho++List.replicate m none).length;rw[List.length_append];exact Nat.lt_of_lt_of_le (r.bnd i a z) (Nat.le_add_right _ _)
theorem Ak {β:RB} {O1:St} (h:∀j:Nat,β.ad j=if j∈ix then[]else U.ad j) (hix:∀j∈ix,U.ad j=[]):msk β O1=msk U O:=qR λj=>by
 rw[h j];split
 ·exact(hix j ‹_›).symm
 ·rfl
end DL
namespace DL
open PySem PySem.Spec PyProof.Rows L2
variable {scope:Scope} {pos:Pos} {env:Env}
theorem oK {prog:Program} {w:World} {A:Around} {R:Result->Shared->Prop} {s:Shared} {elt target iter:Expr} {ifs:List Expr} {it acc:Value} (I:Nat->Shared->Prop)
  (iD:∀n s,I n s->wpAny (model prog w) A (pyNext it) (λr s₁=>match r with
   | none=>R (.ok .next) s₁
   | some v=>wpAny (model prog w) A (letOwnedTupleGo target it v) (λ_ s₀=>wpAny (model prog w) A (assign target env v) (λ_ s₂ =>
     wpAny (model prog w) A (forIn ifs true λc r=>if r=true then do let ok <- isTrue c env (eval c env);pure (ForInStep.yield ok)else pure (ForInStep.yield r)) (λok s₃ =>
      if ok=true then wpAny (model prog w) A (eval elt env) (λx s₄ =>
       wpAny (model prog w) A (call (.builtin "list.append") [acc,x]) (λ_ s₅=>∃m,m<n/\I m s₅) (λ_ _=>False) s₄) (λ_ _=>False) s₃
      else ∃m,m<n/\I m s₃) (λ_ _=>False) s₂) (λ_ _=>False) s₀) (λ_ _=>False) s₁) (λ_ _=>False) s)
  (n:Nat) (h:I n s):codeAny (model prog w) A (.compLoop (.ListComp elt [⟨target,iter,ifs,0⟩] scope pos) 0 it acc env) R s:=by
 refine codeAny_loop rfl I (λn s hI=>?_) n h;show wpAny _ A ((compTurn (.ListComp elt [⟨target,iter,ifs,0⟩] scope pos) 0 it acc env).onRaise (λx=>do noteFrame x env;theTreesLotGoes x)) _ _ s;refine wpAny_noted ?_;rw[compTurn_list];refine wpAny_bind (wpAny_standAt (wpAny_bind (wpAny_mono (iD n s hI) (λr s₁ h₁=>?_) λ_ _ h'=>h'.elim)));cases r with
 | none=>exact wpAny_pure h₁
 | some v =>
  refine wpAny_bind (wpAny_mono h₁ (λ_ s₀ h₀=>?_) λ_ _ h'=>h'.elim);refine wpAny_bind (wpAny_mono h₀ (λ_ s₂ h₂=>wpAny_bind (wpAny_mono h₂ (λok s₃ h₃=>?_) λ_ _ h'=>h'.elim)) λ_ _ h'=>h'.elim);cases ok with
  | false=>exact wpAny_pure ⟨rfl,h₃⟩
  | true =>
   exact wpAny_bind (wpAny_bind (wpAny_mono h₃ (λx s₄ h₄=>wpAny_bind (wpAny_mono h₄ (λ_ s₅ h₅=>wpAny_pure (wpAny_pure ⟨rfl,h₅⟩)) λ_ _ h'=>h'.elim)) λ_ _ h'=>h'.elim))
theorem rB:∀{names:List (Str×NameKind)} {n:Nat} {acc:List (Str×Addr)},(∀x y c,acc.lookup x=some c->acc.lookup y=some c->x=y)->(∀x c,acc.lookup x=some c->c<n) ->
  ∀x y c,(cellsFrom n names acc).lookup x=some c->(cellsFrom n names acc).lookup y=some c->x=y
 | [],_,_,h,_=>h
 | (z,k)::r,n,acc,h,hb=>by
  unfold cellsFrom;split
  ·refine rB (λx y c e1 e2=>?_) (λx c e=>?_)
   ·rw[List.lookup_cons]at e1 e2;cases b1:x==z with
    | true =>
     rw[b1]at e1;cases e1;cases b2:y==z with
     | true=>rw[beq_iff_eq.mp b1,beq_iff_eq.mp b2]
     | false=>rw[b2]at e2;exact absurd (hb y _ e2) (Nat.lt_irrefl _)
    | false =>
     rw[b1]at e1;cases b2:y==z with
     | true=>rw[b2]at e2;cases e2;exact absurd (hb x _ e1) (Nat.lt_irrefl _)
     | false=>rw[b2]at e2;exact h x y c e1 e2
   ·rw[List.lookup_cons]at e;cases b1:x==z with
    | true=>rw[b1]at e;cases e;exact Nat.lt_succ_self _
    | false=>rw[b1]at e;exact Nat.lt_succ_of_lt (hb x c e)
  ·exact rB h hb
theorem oR:∀{names:List (Str×NameKind)} {h:Heap} {acc:List (Str×Addr)} {x:Str} {c:Addr},(cellsFrom h.objs.size names acc).lookup x=some c->acc.lookup x=some c\/(pushCells h names).IsCell c none
 | [],_,_,_,_,e=>.inl e
 | (y,k)::r,h,acc,x,c,e=>by
  unfold cellsFrom at e;unfold pushCells;split at e
  ·rename_i hk;rw[if_pos hk];have e':(cellsFrom (h.push { cls:=.type "cell",data:=.cell none }).objs.size r ((y,h.objs.size)::acc)).lookup x=some c:=by rw[Heap.size_push];exact e
   rcases oR e' with q|q
   ·rw[List.lookup_cons]at q;cases b1:x==y with
    | true =>
     rw[b1]at q;cases q;exact .inr ⟨_,pushCells_keeps r _ _ _ (Heap.get?_push_size _ rfl),rfl⟩
    | false=>rw[b1]at q;exact .inl q
   ·exact .inr q
  ·rename_i hk;rw[if_neg hk];exact oR e
theorem ng {env:Env}:∀{l:List (Str×NameKind)} {acc:List (Str×Addr)} {x:Str} {c:Addr},(cy env l acc).lookup x=some c->acc.lookup x=some c\/(x,NameKind.free)∈l
 | [],acc,x,c,e=>.inl e
 | (y,k)::r,acc,x,c,e=>by
  have e:(cy env r (cSt y k (env.cells.lookup y) acc)).lookup x=some c:=e;rcases ng e with q|q
  ·by_cases hk:k=.free
   ·subst hk;cases e0:env.cells.lookup y with
    | none=>rw[e0,lT]at q;exact .inl q
    | some c0 =>
     rw[e0]at q;have q:((y,c0)::acc).lookup x=some c:=q;rw[List.lookup_cons]at q;cases hb:x==y with
     | true=>rw[beq_iff_eq.mp hb];exact .inr List.mem_cons_self
     | false=>rw[hb]at q;exact .inl q
   ·rw[oU hk]at q;exact .inl q
  ·exact .inr (List.mem_cons_of_mem _ q)
def reK (env:Env) (n:Str) (k:NameKind):NameKind:=if(k == .free&&env.scope.kind == .function&&env.kindOf n==some .cell)=true then .cell else k
theorem rW {env:Env}:∀{names:List (Str×NameKind)} {x:Str},
  (names.map λ(p:Str×NameKind)=>if(p.2 == .free&&env.scope.kind == .function&&env.kindOf p.1==some .cell)=true then(p.1,NameKind.cell)else(p.1,p.2)).lookup x=(names.lookup x).map (reK env x)
 | [],_=>rfl
 | (n,k)::r,x=>by
  have ih:=rW (env:=env) (names:=r) (x:=x);rw[List.map_cons];have e:(if(k == .free&&env.scope.kind == .function&&env.kindOf n==some .cell)=true then(n,NameKind.cell)else(n,k))=(n,reK env n k):=by
   unfold reK;split<;>rfl
  show List.lookup x ((if(k == .free&&env.scope.kind == .function&&env.kindOf n==some .cell)=true then(n,NameKind.cell)else(n,k))::_)=_;rw[e,List.lookup_cons,List.lookup_cons];cases hb:x==n with
  | true=>rw[beq_iff_eq.mp hb];rfl
  | false=>exact ih
variable {x:Str}
theorem gf:(relabel scope env).names.lookup x=(scope.names.lookup x).map (reK env x):=rW
theorem jp {k:NameKind}:(k=.free/\(reK env x k=.free\/reK env x k=.cell))\/(k ≠ .free/\reK env x k=k):=by
 unfold reK;by_cases hk:k=.free
 ·subst hk;left;refine⟨rfl,?_⟩;split<;>simp
 ·right;refine⟨hk,?_⟩;have:(k==NameKind.free)=false:=by simpa using hk
  rw[this];rfl
variable {H:Hp}
theorem yM:cut [] H=H:=by
 funext b
 unfold cut;rw[if_neg List.not_mem_nil]
variable {U:RB} {O:St}
theorem iW {zs:List Addr}:msk U O (cut zs H)=cut zs (msk U O H):=by
 funext b
 unfold msk cut;by_cases h:Own U O b<;>by_cases h':b∈zs<;>simp[h,h']
theorem oI {zs:List Addr}:Same (cut zs H) H:=λb o e=>(cut_some.mp e).2
variable {H':Hp}
theorem fC {b:Addr} (s:Same H H') (h:H' b=none):H b=none:=by
 cases e:H b with
 | none=>rfl
 | some o=>rw[s b o e]at h;cases h
variable {k:OK} {F:Rho->R D} {H0:Hp}
section
variable {C:Addr} {X:Cx}
def pK (C:Addr) (X:Cx) (k:OK) (U:RB) (r:R D) (O:St) (H:Hp) (Q:VK):Prop:=match r with
 | .val d=>∀v H' A,Same H H'->(∀a∈A,H a=none)->Tre X.K C (cut A (msk U O H')) H' k v d A->Q v H'
 | .exc c=>XE X c O H
 | .bad=>False
variable (C X) in
def teK (k:OK) (F:Rho->R D):TE:=λO H Q=>∃U:RB,(∃H0,bV C X H0 U O H)/\pK C X k U (F U) O H Q
variable (C X) in
def KD (k:OK) (e:Expr) (F:Rho->R D):Prop:=PE X e (teK C X k F)
theorem m4 {e:Expr} (h:ED C X e F):KD C X .s e F:=aA h λO H Q ⟨U,r,q⟩=>⟨U,r,by
 cases z:F U with
 | val d=>rw[z]at q;exact λv H' s h=>q v H' [] s (λa ha=>by cases ha) (.s (by rw[yM];exact h))
 | exc c=>rw[z]at q;exact q
 | bad=>rw[z]at q;exact q⟩
theorem Tre.free {v:V} {d:D} {A:List Addr} (r:bV C X H0 U O H) (s:Same H H') (hA:∀a∈A,H a=none) (h:Tre X.K C (cut A (msk U O H')) H' k v d A):cj C X U O H' v d :=
 h.share oI (λa ha o e=>msk_some.mpr ⟨λz=>r.ownAt z (hA a ha),e⟩) λa vs e=>msk_some.mpr ⟨λz=>(r.mono s).tups e z,e⟩
theorem Cb {e:Expr} (h:KD C X k e F):ED C X e F:=aA h λO H Q ⟨U,⟨H0,r⟩,q⟩=>⟨U,⟨H0,r⟩,by
 cases z:F U with
 | val d=>rw[z]at q;exact λv H' A s hA h=>q v H' s (h.free r s hA)
 | exc c=>rw[z]at q;exact q
 | bad=>rw[z]at q;exact q⟩
def trS (i:Nat) (k:OK) (e:Rho->R D):Rho->R Out:=λU=>(e U).bind λd=>.val (.nx (U.set i (some (.tre k d))))
theorem Rel.setTre {K:Frag} (r:Rel K C H0 U O H) {i:Nat} {v:V} {d:D} {A:List Addr} (s:Same H H') (hA:∀a∈A,H a=none) (h:Tre K C (cut A (msk U O H')) H' k v d A) :
  Rel K C H0 (U.put i (.tre k d) A) (O.set i (some v)) H':=by
 refine r.put ke (λj hj=>List.getElem?_set_ne λz=>hj z.symm) (λa ha=>.inr (hA a ha)) (λj _=>.of s) (λb o e=>s b o (msk_some.mp e).2) (λa ha=>.inl (h.lists a ha)) λhi _=>⟨v,A,nF (by rw[<- r.len];exact hi),λa ha=>ha,h.stay (λb o e=>?_) (.of (Same.refl _))⟩;obtain⟨h1,h2⟩:=cut_some.mp e;obtain⟨h3,h4⟩:=msk_some.mp h2;refine msk_some.mpr ⟨λ⟨j,z⟩=>?_,h4⟩;rcases eM z with⟨_,_,z⟩|⟨_,z⟩
 ·exact h1 z
 ·exact h3 ⟨j,z⟩
theorem zv {i:Nat} {e:Expr} {pos':Pos} (hN:X.N.Nodup) (hi:X.N[i]?=some x) (hx:Loc X.env.scope x) (he:KD C X k e F) (hs:swapsWith e (some (.Name x pos')) pos.line X.env=pure false:=by rfl)
    (hf:X.fn x=true\/X.env.scope.names.lookup x=some .local:=by first|exact .inl rfl|exact .inr rfl|assumption):SD C X (.Assign [.Name x pos'] e pos) (trS i k F) :=
  aY (kO hN hi hx he hs hf) λD O H yy=>by
   obtain⟨_,H0,⟨U,rfl,r⟩,q⟩:=yy;exact⟨U,⟨H0,r⟩,by
    unfold trS at q;cases z:F U with
    | val d=>rw[z]at q;exact λv H' A s hA h=>q _ _ ⟨_,rfl,r.setTre s hA h⟩
    | exc c=>rw[z]at q;exact cg r q
    | bad=>rw[z]at q;exact q⟩
end
variable {C:Addr} {X:Cx}
theorem yL {a:Addr} {o:HO} (h:H a=none):cut [a] (upd H a o)=H:=by
 funext b
 unfold cut;by_cases hb:b=a
 ·rw[if_pos (by simp[hb]),hb,h]
 ·rw[if_neg (by simp[hb]),au hb]
theorem w4 {a:Addr} {o:HO} (h:H a=some o):upd (cut [a] H) a o=H:=by
 funext b
 by_cases hb:b=a
 ·rw[hb,aJ,h]
 ·rw[au hb];unfold cut;rw[if_neg (by simp[hb])]
theorem lQ {N':List Str} {n:Nat} (hchk:oP X.N N' X.env scope=true) (hN:N'.length=X.N.length+n)
  {pins:List (Addr×Obj)} {H3:Hp} {s3:Shared} {fp:List Addr} (I3:Inv X pins O H3 s3) (hfp:∀b∈fp,b<s3.heap.objs.size) (f3:∀b∈fp,jI X pins H3 b) :
  Inv (cxC X N' scope s3.heap.objs.size (cellsFrom (s3.heap.objs.size+1) scope.names (cy X.env scope.names [])) s3 H3 fp) [] (O++List.replicate n none) H3
   {s3 with heap:=pushCells (s3.heap.push { cls:=.type "dict",data:=.dict #[] }) scope.names }:=by
 obtain⟨c1,hchk⟩:=Bool.and_eq_true_iff.mp hchk;obtain⟨c2,hchk⟩:=Bool.and_eq_true_iff.mp hchk;obtain⟨c3,hchk⟩:=Bool.and_eq_true_iff.mp hchk;obtain⟨c4,c5⟩:=Bool.and_eq_true_iff.mp hchk;have hkind:scope.kind=.function:=by
  revert c5;cases scope.kind<;>simp
 have keep:∀b o,s3.heap.get? b=some o->(pushCells (s3.heap.push { cls:=.type "dict",data:=.dict #[] }) scope.names).get? b=some o:=λb o e=>pushCells_keeps _ _ b o (Heap.get?_push_of_some _ e);have I4:Inv X pins O H3 { s3 with heap:=pushCells (s3.heap.push { cls:=.type "dict",data:=.dict #[] }) scope.names }:=I3.kept (t':=s3.toks) keep;have sz:(s3.heap.push { cls:=.type "dict",data:=.dict #[] }).objs.size=s3.heap.objs.size+1:=Heap.size_push ..;have fr:∀x,(x,NameKind.free)∈scope.names->∃c,X.env.cells.lookup x=some c:=λx hx=>I3.ok.has x (lv (oO c2 hx));have cl_old:∀x c,(cy X.env scope.names []).lookup x=some c->X.env.cells.lookup x=some c:=λx c e=>lS e λc' e'=>by cases e'
 have cl_lt:∀x c,(cy X.env scope.names []).lookup x=some c->c<s3.heap.objs.size:=λx c e=>by
  obtain⟨v,q⟩:=I3.cell x c (cl_old x c e);exact q.lt
 have look:∀x c,(cellsFrom (s3.heap.objs.size+1) scope.names (cy X.env scope.names [])).lookup x=some c ->
   X.env.cells.lookup x=some c\/(s3.heap.objs.size+1<=c/\(x,NameKind.cell)∈scope.names/\(pushCells (s3.heap.push { cls:=.type "dict",data:=.dict #[] }) scope.names).IsCell c none):=λx c e=>by
  rcases ku e with q|⟨q,m⟩
  ·exact .inl (cl_old x c q)
  ·rcases oR (h:=s3.heap.push { cls:=.type "dict",data:=.dict #[] }) (by rw[sz];exact e)with z|z
   ·exact absurd (Nat.lt_of_lt_of_le (cl_lt x c z) (Nat.le_of_succ_le q)) (Nat.lt_irrefl _)
   ·exact .inr ⟨q,m,z⟩
 have ok:(cxC X N' scope s3.heap.objs.size (cellsFrom (s3.heap.objs.size+1) scope.names (cy X.env scope.names [])) s3 H3 fp).Ok:=by
  refine⟨I3.ok.mod,hkind,I3.ok.glob,I3.ok.blt,Nat.le_refl _,λx y c e1 e2=>?_,λx hx=>?_,λx c hf e=>?_,I3.ok.hd,I3.ok.frames,.inl rfl,λb hb=>⟨?_,λx c e=>?_⟩,I3.bs,Nat.le_trans I3.ok.bsz I3.sz,λb o e hb=>?_,λb hb hz=>?_,I3.stack,I3.stkFree⟩
  ·exact rB (λx y c e1 e2=>I3.ok.inj x y c (cl_old x c e1) (cl_old y c e2)) (λx c e=>Nat.lt_succ_of_lt (cl_lt x c e)) x y c e1 e2
  ·have hx:(relabel scope X.env).names.lookup x=some .cell\/(relabel scope X.env).names.lookup x=some .free:=hx;rw[gf]at hx;cases e:scope.names.lookup x with
   | none=>rw[e]at hx;rcases hx with z|z<;>cases z
   | some k =>
    rw[e]at hx;have:k=.cell\/k=.free:=by
     rcases jp (env:=X.env) (x:=x) (k:=k)with⟨z,_⟩|⟨_,z⟩
     ·exact .inr z
     ·rcases hx with y|y
      ·left;have:=Option.some.inj y;rw[z]at this;exact this
      ·right;have:=Option.some.inj y;rw[z]at this;exact this
    refine Option.isSome_iff_exists.mp (cellsFrom_some _ _ _ ?_);rcases this with rfl|rfl
    ·exact .inl e
    ·obtain⟨c,ec⟩:=fr x (PySem.mem_of_lookup e);right;rw[jC ec (.inl (PySem.mem_of_lookup e))];rfl
  ·have hf:Az (scope.names.lookup x)=true:=hf;have e0:scope.names.lookup x=some .cell:=by
    unfold Az at hf;split at hf
    ·assumption
    ·cases hf
   rcases ku e with q|⟨q,m⟩
   ·rcases ng q with z|z
    ·cases z
    ·have:=kt c3 z (.inr (.inl rfl));rw[e0]at this;cases this
   ·exact Nat.le_of_succ_le q
  ·exact Nat.ne_of_lt (hfp b hb)
  ·rcases look x c e with q|⟨q,_,_⟩
   ·exact(f3 b hb).2.2.2.2.1 x c q
   ·exact λz=>absurd (Nat.lt_of_lt_of_le (z▸hfp b hb) (Nat.le_of_succ_le q)) (Nat.lt_irrefl _)
  ·rcases(f3 b hb).2.2.2.1 with z|z
   ·exact I3.ok.noex b o e z
   ·exact absurd (Nat.lt_of_lt_of_le (Nat.lt_of_lt_of_le (Heap.lt_size e) I3.ok.bsz) z) (Nat.lt_irrefl _)
  ·have:=I3.stkSub b hz;rcases List.mem_cons.mp this with z|z
   ·exact(f3 b hb).2.1 z
   ·exact(f3 b hb).2.2.1 z
 refine⟨ok,rfl,I3.bare,Un.kept keep,⟨λ_=>none,(Heap.Ns.new s3.heap (.type "dict")).keeps (pushCells_keeps _ _),λi x v h1 h2 h3=>?_⟩,λx c e=>?_,I3.hok.fresh (Nat.le_refl _),λx c e=>?_,λp hp=>absurd (show p∈([]:List (Addr×Obj))from hp) (by simp),I4.hok,?_⟩
 ·have hl:=I3.len;have hi:i<O.length:=by
   by_cases hi:i<O.length
   ·exact hi
   ·rw[List.getElem?_append_right (by omega),List.getElem?_replicate]at h2;split at h2<;>cases h2
  rw[List.getElem?_append_left hi]at h2;have h3:Vis (relabel scope X.env) x:=h3;obtain⟨g1,g2⟩:=tG c1 h1;rw[Nat.zero_add]at g1 g2;have e0:scope.names.lookup x=some .free:=by
   unfold Vis at h3;rw[gf]at h3;cases e:scope.names.lookup x with
   | none=>rw[e]at h3;rcases h3 with z|z|z<;>cases z
   | some k =>
    rw[e]at h3;rcases jp (env:=X.env) (x:=x) (k:=k)with⟨z,_⟩|⟨z0,z⟩
    ·rw[z]
    ·exfalso;have h3:some k=some NameKind.local\/some k=some NameKind.cell\/some k=some NameKind.free:=by
      have h4:some (reK X.env x k)=some NameKind.local\/some (reK X.env x k)=some NameKind.cell\/some (reK X.env x k)=some NameKind.free:=h3;rw[z]at h4;exact h4
     rcases h3 with y|y|y
     ·have:=g2 (.inl (e.trans y));omega
     ·have:=g2 (.inr (e.trans y));omega
     ·exact z0 (Option.some.inj y)
  obtain⟨e1,hk⟩:=g1 e0;have hk:=lv hk;obtain⟨m0,hn0,hl0⟩:=I4.loc;obtain⟨u,ru,lk⟩:=hl0 i x v e1 h2 (.inr hk);refine⟨u,ru,.inr ⟨?_,?_⟩⟩
  ·have:(relabel scope X.env).names.lookup x=some (reK X.env x .free):=by rw[gf,e0];rfl
   rcases jp (env:=X.env) (x:=x) (k:=.free)with⟨_,z|z⟩|⟨z,_⟩
   ·rw[z]at this;exact .inr this
   ·rw[z]at this;exact .inl this
   ·exact absurd rfl z
  ·rcases lk with⟨z,_⟩|⟨_,c,ec,q⟩
   ·rcases hk with y|y<;>(rw[z]at y;cases y)
   ·refine⟨c,?_,q⟩;show(cellsFrom _ scope.names _).lookup x=some c;rw[oQ λm=>by have:=kt c3 m (.inr (.inr rfl));rw[e0]at this;cases this];exact jC ec (.inl (PySem.mem_of_lookup e0))
 ·rcases look x c e with q|⟨_,_,q⟩
  ·exact I4.cell x c q
  ·exact⟨_,q⟩
 ·rcases look x c e with q|⟨q,_,_⟩
  ·exact I3.freeC x c q
  ·exact I3.hok.fresh (by omega)
 ·show _=N'.length;rw[List.length_append,List.length_replicate,hN,I3.len]
abbrev cxA (X:Cx) (N':List Str) (scope:Scope) (a:Addr) (H2:Hp) (s3:Shared) (fp:List Addr):Cx:=cxC X N' scope s3.heap.objs.size (cellsFrom (s3.heap.objs.size+1) scope.names (cy X.env scope.names [])) s3 (upd H2 a (.lst [])) fp
def zg (C:Addr) (X DQ:Cx) (k:OK) (T:D->Rho->Option Rho) (t:Rho->R Bool) (e:Rho->R D) (n:Nat) (a:Addr) (H2:Hp) (O:St) (U:RB) (fp:List Addr) (tn:Nat->Heap->Prop) (xs ds:List D) (m:Nat) (s:Shared):Prop :=
 ∃(i:Nat) (σ':St) (H':Hp) (vs:List V) (ds1 ds2:List D) (A:List Addr),m=xs.length+1-i/\i<=xs.length /\
   Inv DQ [] σ' H' s/\tn i s.heap/\(∀b∈fp,H' b=none) /\
   (∀j:Nat,j<U.rho.length->σ'[j]?=O[j]?)/\H' a=some (.lst vs)/\Same H2 (cut (a::A) H')/\TreP X.K C (msk U O (cut (a::A) H')) H' (vs.map λ_=>k) vs ds1 A/\a∉A /\
   gY T t e (xs.drop i) (U.rho++List.replicate n none)=.val ds2/\ds1++ds2=ds/\vs.length<=i
theorem TreP.app {K:Frag} {M H:Hp} {k:OK} {v:V} {d:D} {B:List Addr} (h:Tre K C M H k v d B):∀{ks:List OK} {vs:List V} {ds:List D} {A:List Addr},TreP K C M H ks vs ds A->(∀a∈A,a∉B)->∃A',(∀a,a∈A'↔a∈A\/a∈B)/\TreP K C M H (ks++[k]) (vs++[v]) (ds++[d]) A'
 | _,_,_,_,.nil,_=>⟨B++[],λa=>by simp,.cons h .nil λ_ _=>List.not_mem_nil⟩
 | _,_,_,_,.cons (A:=A1) (B:=A2) g t n,f=>by
  obtain⟨A',h1,h2⟩:=TreP.app h t λa ha=>f a (List.mem_append_right _ ha);refine⟨A1++A',λa=>by rw[List.mem_append,List.mem_append,h1 a,or_assoc],.cons g h2 λa ha hb=>?_⟩;rcases(h1 a).mp hb with hb|hb
  ·exact n a ha hb
  ·exact f a (List.mem_append_left _ ha) hb
theorem lR {tg elt iter:Expr} {ifs:List Expr} {N':List Str} {ix:List Nat} {T:D->Rho->Option Rho} {t:Rho->R Bool} {e:Rho->R D} {n:Nat}
  (hcalm:X.calm=true) (hchk:oP X.N N' X.env scope=true) (hN:N'.length=X.N.length+n) (hix:∀j∈ix,X.N.length<=j)
  (hg:∀L cs s H fp,GD C (cxC X N' scope L cs s H fp) tg ix T) (ht:∀L cs s H fp,qA C (cxC X N' scope L cs s H fp) ifs t) (he:∀L cs s H fp,KD C (cxC X N' scope L cs s H fp) k elt e)
  {pins:List (Addr×Obj)} {H2:Hp} {s2:Shared} {J:It} {fp:List Addr} {it:Addr} {tn:Nat->Heap->Prop} {xs ds:List D}
  (I2:Inv X pins O H2 s2) (r2:bV C X H0 U O H2) (TT:qy X.prog X.w X.K tg J fp it tn) (t0:tn 0 s2.heap) (f2:∀b∈fp,jI X pins H2 b) (wk:lW X.K C J xs (msk U O H2)) (hlen:xs.length<=LIM)
  (hd:gY T t e xs (U.rho++List.replicate n none)=.val ds) {R:Value->Addr->Result->Shared->Prop} {E:Value->Shared->Prop}
  (hR:∀a L vs A H' s1,Same H2 (cut (a::A) H')->(∀b∈a::A,H2 b=none)->H' a=some (.lst vs)->a∉A->TreP X.K C (msk U O (cut (a::A) H')) H' (vs.map λ_=>k) vs ds A->Inv X pins O H' s1->H' L=none->L≠X.env.locals->X.s₀.heap.objs.size<=L ->
   (∀x c,X.env.cells.lookup x=some c->c≠L)->(∀p∈X.pn++pins,p.1≠L)->(∃m,s1.heap.Ns L m)->R (.ref a) L (.ok .next) s1) :
  wpAny (model X.prog X.w) X.A (newList []) (λacc s₃=>wpAny (model X.prog X.w) X.A (newFunctionEnv scope X.env.globals (cy X.env scope.names []) [] X.env.qual none .none (some X.env)) (λcenv s₄ =>
   codeAny (model X.prog X.w) X.A (.compStart (.ListComp elt [⟨tg,iter,ifs,0⟩] scope pos) 0 (.ref it) acc { cenv with scope:=relabel scope X.env }) (R acc cenv.locals) s₄) E s₃) E s2:=by
 refine wpAny_newObj_type (rH ?_);have hfr2:H2 s2.heap.objs.size=none:=I2.fresh;have I3:=I2.lnew (its:=[]) (ys:=[]) (t':=s2.toks) .nil (Nat.zero_le _);have hfp:∀b∈fp,b<s2.heap.objs.size:=λb hb=>by
  obtain⟨o,eo,_⟩:=TT.obj 0 _ t0 b hb;exact Heap.lt_size eo
 have sz3:(s2.heap.push { cls:=.type "list",data:=.seq ([]:List Value).toArray }).objs.size=s2.heap.objs.size+1:=Heap.size_push ..;have f3:∀b∈fp,jI X pins (upd H2 s2.heap.objs.size (.lst [])) b:=λb hb=>⟨by rw[au (Nat.ne_of_lt (hfp b hb))];exact(f2 b hb).1,(f2 b hb).2⟩;have I4:=lQ (n:=n) hchk hN I3 (λb hb=>by rw[sz3];exact Nat.lt_succ_of_lt (hfp b hb)) f3;have keep:∀b o,s2.heap.get? b=some o->(pushCells ((s2.heap.push { cls:=.type "list",data:=.seq ([]:List Value).toArray }).push { cls:=.type "dict",data:=.dict #[] }) scope.names).get? b=some o:=λb o e =>
  pushCells_keeps _ _ b o (Heap.get?_push_of_some _ (Heap.get?_push_of_some _ e))
 have t4:tn 0 (pushCells ((s2.heap.push { cls:=.type "list",data:=.seq ([]:List Value).toArray }).push { cls:=.type "dict",data:=.dict #[] }) scope.names):=TT.keep 0 _ _ t0 λb hb o e=>keep b o e;generalize hs3:({ s2 with heap:=s2.heap.push { cls:=.type "list",data:=.seq ([]:List Value).toArray },toks:=s2.toks }:Shared)=s3 at I3 I4;have hH3:({ s2 with heap:=s2.heap.push { cls:=.type "list",data:=.seq ([]:List Value).toArray },toks:=s2.toks }:Shared).heap=s3.heap:=by rw[hs3]
 have t4':tn 0 (pushCells (s3.heap.push { cls:=.type "dict",data:=.dict #[] }) scope.names):=by rw[<- hH3];exact t4
 have hrl:U.rho.length=X.N.length:=r2.len.trans I2.len;generalize ha0:s2.heap.objs.size=a0 at *;have loop:∀s4:Shared,s4={ s3 with heap:=pushCells (s3.heap.push { cls:=.type "dict",data:=.dict #[] }) scope.names } ->
   codeAny (model X.prog X.w) X.A (.compLoop (.ListComp elt [⟨tg,iter,ifs,0⟩] scope pos) 0 (.ref it) (.ref a0) (yB scope X.env s3.heap.objs.size (cellsFrom (s3.heap.objs.size+1) scope.names (cy X.env scope.names []))))
    (R (.ref a0) s3.heap.objs.size) s4:=by
  rintro s4 rfl;refine oK (zg C X (cxA X N' scope a0 H2 s3 fp) k T t e n a0 H2 O U fp tn xs ds) ?_ (xs.length+1)
   ⟨0,_,_,[],[],ds,[],rfl,Nat.zero_le _,I4,t4',λb hb=>(f3 b hb).1,λj hj=>by rw[List.getElem?_append_left (by rw[<- r2.len];exact hj)],aJ,by rw[yL hfr2];exact Same.refl _,.nil,List.not_mem_nil,hd,rfl,Nat.le_refl _⟩
  rintro m s ⟨i,σ',H',vs,ds1,ds2,A,rfl,hi,I,tni,hfn,hpre,ha,sm,hv,hnA,hc,hds,hvl⟩;have lst:∀z∈a0::A,∃us,H' z=some (.lst us):=λz hz=>by
   rcases List.mem_cons.mp hz with rfl|hz
   ·exact⟨vs,ha⟩
   ·exact hv.lists z hz
  have Z:Hid H' s.heap (a0::A):=by
   refine⟨λz hz=>?_,λz hz c dx fs q=>?_,λz hz b q=>?_,λz hz=>?_⟩
   ·obtain⟨us,q⟩:=lst z hz;exact⟨_,q,rfl⟩
   ·obtain⟨us,q'⟩:=lst z hz;rw[q]at q';cases q'
   ·obtain⟨us,q'⟩:=lst z hz;rw[q]at q';cases q'
   ·obtain⟨us,q'⟩:=lst z hz;obtain⟨_,its,m,_,e1⟩:=I.hok _ _ q';exact⟨_,e1,λv q=>by cases q⟩
  have J0:=I.hide Z;have hM:∀b,H' b=none->cut (a0::A) H' b=none:=λb q=>by unfold cut;split<;>first|rfl|exact q
  have stat:∀{pn:List (Addr×Obj)} {G:Hp},(∀b∈fp,G b=none)->(∀p∈pn,∀b∈fp,p.1≠b)->∀b∈fp,jI (cxA X N' scope a0 H2 s3 fp) pn G b:=λ{pn G} h1 h2 b hb =>
   ⟨h1 b hb,(I.ok.exf b hb).1,I.ok.exfs b hb,.inl hb,(I.ok.exf b hb).2,λp hp=>h2 p hp b hb⟩
  have pna:∀p∈([]:List (Addr×Obj))++cc (a0::A) s.heap,∀b∈fp,p.1≠b:=λp hp b hb z=>by
   obtain⟨q1,_⟩:=h_ (show p∈cc (a0::A) s.heap from hp);obtain⟨us,q⟩:=lst _ q1;rw[z,hfn b hb]at q;cases q
  have sM:Same (msk U O H2) (cut (a0::A) H'):=msk_sub.trans sm;by_cases hlt:i<xs.length
  ·have ex:xs[i]?=some xs[i]:=by simp[hlt]
   have ed:xs.drop i=xs[i]::xs.drop (i+1):=List.drop_eq_getElem_cons hlt;obtain⟨go,yld⟩:=wk.go i _ _ sM ex;refine wpAny_mono (TT.item (cxA X N' scope a0 H2 s3 fp) rfl rfl rfl hcalm i _ s σ' _ (λ_ _=>False) J0 (stat (λb hb=>hM b (hfn b hb)) pna) tni go) (λr s1 zz0=>?_) λ_ _ z=>z;obtain⟨u,hr,h1⟩:=zz0;subst hr;refine thn h1 λ_ s5 zz1=>?_;obtain⟨x,H5,I5,r5,y5,t5,n5⟩:=zz1;obtain⟨s5',hx⟩:=yld x H5 y5;have hx5:Has X.K C (msk U O H5) x xs[i]:=hx U O (λb ob q=>by
    have h2:=r2.ownAt ob;cases q2:H2 b with
    | none=>exact h2 q2
    | some o=>rw[sm b o q2]at q;cases q) (aO sm)
   have r5':=r2.mono (sm.trans s5');obtain⟨re5,em5⟩:=rV (m:=n) r5' (σ':=σ') (by have q:=I5.len;rw[hrl];exact q.trans hN) hpre;have I5p:=I5.pinned (stat n5 pna) (TT.obj _ _ t5);rw[ed]at hc;unfold gY at hc;split at hc
   ·rename_i U1 eT;have ix0:∀j∈ix,(U.ext n).ad j=[]:=λj hj=>by
     have h2:=hix j hj;refine List.eq_nil_iff_forall_not_mem.mpr λb hb=>?_;have:=r2.bnd j b hb;omega
    refine thn (hg _ _ _ _ _ _ s5 σ' H5 x u (λO6 H6=>H6=H5/\∃β:RB,β.rho=U1/\(∀j:Nat,β.ad j=if j∈ix then[]else(U.ext n).ad j)/\bV C X H0 β O6 H5/\∀j:Nat,j∉ix->O6[j]?=σ'[j]?) I5p r5 ⟨_,H0,xs[i],U1,re5,by show Has _ _ (msk _ _ _) x _;rw[em5];exact hx5,eT,λO6 β q0 q3 q1 q2=>⟨rfl,β,q0,q3,q1,q2⟩⟩) λ_ s6 zz2=>?_;obtain⟨O6,H6,I6,eH,β,eβ,aβ,r6,p6⟩:=zz2;subst eH;subst eβ;have em6:msk β O6=msk U O:=(Ak aβ ix0).trans em5;have pre6:∀j:Nat,j<U.rho.length->O6[j]?=O[j]?:=λj hj=>by
     rw[p6 j λz=>by have:=hix j z;omega];exact hpre j hj
    cases et:t β with
    | exc c=>rw[et]at hc;cases hc
    | bad=>rw[et]at hc;cases hc
    | val b =>
     rw[et]at hc;refine thn (ht _ _ _ _ _ _ s6 O6 H6 (λb' H7=>b'=b/\Same H6 H7) I6 ⟨β,⟨H0,r6⟩,by rw[et];exact λH7 q=>⟨rfl,q⟩⟩) λb' s7 zz3=>?_;obtain⟨H7,I7,eb,s67⟩:=zz3;subst eb;have fin:∀{s9:Shared} {H9:Hp} {vs':List V} {ds1' ds2':List D} {A':List Addr},Inv (cxA X N' scope a0 H2 s3 fp) (cc fp s5.heap) O6 H9 s9 ->
       H9 a0=some (.lst vs')->Same H2 (cut (a0::A') H9)->TreP X.K C (msk U O (cut (a0::A') H9)) H9 (vs'.map λ_=>k) vs' ds1' A'->a0∉A'->gY T t e (xs.drop (i+1)) (U.rho++List.replicate n none)=.val ds2'->ds1'++ds2'=ds->vs'.length<=i+1 ->
       ∃m,m<xs.length+1-i/\zg C X (cxA X N' scope a0 H2 s3 fp) k T t e n a0 H2 O U fp tn xs ds m s9:=λ{s9 H9 vs' ds1' ds2' A'} I9 g1 g3 g4 g4' g5 g6 g7=>by
      refine⟨xs.length+1-(i+1),by omega,i+1,O6,H9,vs',ds1',ds2',A',rfl,hlt,I9.pins_of λp hp=>absurd hp (by simp),TT.keep _ _ _ t5 λb hb o eo=>(I9.pin (b,o) (List.mem_append_right _ (eO hb eo))).1,λb hb=>?_,pre6,g1,g3,g4,g4',g5,g6,g7⟩;obtain⟨o,eo,_⟩:=TT.obj _ _ t5 b hb;exact(I9.pin (b,o) (List.mem_append_right _ (eO hb eo))).2.1
     have h1pins:∀p∈cc (a0::A) s.heap,p∈(([]:List (Addr×Obj))++cc (a0::A) s.heap)++cc fp s5.heap:=λp hp=>List.mem_append_left _ hp;have h2pins:∀p∈cc fp s5.heap,p∈(([]:List (Addr×Obj))++cc (a0::A) s.heap)++cc fp s5.heap/\H' p.1=none:=λp hp=>⟨List.mem_append_right _ hp,hfn _ (h_ hp).1⟩;have s57:Same (cut (a0::A) H') H7:=s5'.trans s67;have back:∀{G:Hp},Same (cut (a0::A) H') G->(∀z∈a0::A,G z=none)->Stay A H' (jn (a0::A) H' G):=λ{G} sG mz=>⟨λb hb o q=>by rw[fM (List.mem_cons_of_mem _ hb)];exact q,λb us q=>by
      have nb:b∉a0::A:=λhb=>by obtain⟨ws,q'⟩:=lst b hb;rw[q]at q';cases q'
      rw[aZ nb];exact sG b _ (cut_some.mpr ⟨nb,q⟩)⟩
     cases b' with
     | false =>
      rw[if_neg Bool.false_ne_true];obtain⟨I8,mz⟩:=I.showG Z I7 h1pins h2pins;have eJ:cut (a0::A) (jn (a0::A) H' H7)=H7:=by
       funext b
       by_cases hb:b∈a0::A
       ·rw[dB hb,mz b hb]
       ·unfold cut;rw[if_neg hb,aZ hb]
      exact fin (A':=A) I8 (by rw[fM List.mem_cons_self];exact ha) (by rw[eJ];exact sm.trans s57) (by rw[eJ];exact hv.stay (aO s57) (back s57 mz)) hnA hc hds (Nat.le_succ_of_le hvl)
     | true =>
      rw[if_pos rfl];cases ee:e β with
      | exc c=>rw[ee]at hc;cases hc
      | bad=>rw[ee]at hc;cases hc
      | val d =>
       rw[ee]at hc;refine thn (he _ _ _ _ _ _ s7 O6 H7 (λy H8=>∃B,Same H7 H8/\(∀b∈B,H7 b=none)/\Tre X.K C (cut B (msk U O H8)) H8 k y d B) I7 ⟨β,⟨H0,r6.mono s67⟩,by rw[ee];exact λy H8 B q1 q2 q3=>⟨B,q1,q2,by rw[<- em6];exact q3⟩⟩) λyv s8 zz4=>?_;obtain⟨y,H8,I8,ry,B,s78,hB,hy⟩:=zz4;obtain⟨I9,mz⟩:=I.showG Z I8 h1pins h2pins;have s8':Same (cut (a0::A) H') H8:=s57.trans s78;cases ec:gY T t e (xs.drop (i+1)) (U.rho++List.replicate n none)with
       | exc c=>simp only[noE,DL.R.bind,ec,if_true]at hc;cases hc
       | bad=>simp only[noE,DL.R.bind,ec,if_true]at hc;cases hc
       | val ds3 =>
        simp only[noE,DL.R.bind,ec,if_true]at hc;cases hc;refine thn (jt _ s8 O6 _ (.ref a0) [y] (.ref a0) [yv] (λ_ H9=>H9=upd (jn (a0::A) H' H8) a0 (.lst (vs++[y]))) I9 rfl (.cons ry .nil)
         ⟨_,vs,y,rfl,rfl,by rw[fM List.mem_cons_self];exact ha,Ao (by omega),rfl⟩) λ_ s9 ⟨_,H9,I10,_,eH9⟩=>?_
        have lB:∀b∈B,b∉a0::A:=λb hb hz=>by
         obtain⟨us,q⟩:=hy.lists b hb;rw[mz b hz]at q;cases q
        have at9:∀b,b≠a0->H9 b=jn (a0::A) H' H8 b:=λb hb=>by rw[eH9,au hb]
        have eJ:∀A',(∀b,b∈A'↔b∈A\/b∈B)->cut (a0::A') H9=cut B H8:=λA' hA'=>by
         funext b
         by_cases hb:b∈a0::A
         ·have:b∈a0::A':=by
           rcases List.mem_cons.mp hb with z|z
           ·exact z▸List.mem_cons_self
           ·exact List.mem_cons_of_mem _ ((hA' b).mpr (.inl z))
          rw[dB this];unfold cut;split
          ·rfl
          ·exact(mz b hb).symm
         ·have nb:b≠a0:=λz=>hb (z▸List.mem_cons_self);by_cases hb2:b∈B
          ·rw[dB hb2,dB (List.mem_cons_of_mem _ ((hA' b).mpr (.inr hb2)))]
          ·have:b∉a0::A':=λz=>by
            rcases List.mem_cons.mp z with z|z
            ·exact nb z
            ·rcases(hA' b).mp z with z|z
             ·exact hb (List.mem_cons_of_mem _ z)
             ·exact hb2 z
           unfold cut;rw[if_neg this,if_neg hb2,at9 b nb,aZ hb]
        have sB:Same (cut (a0::A) H') (cut B H8):=λb o q=>cut_some.mpr ⟨λhb=>absurd (hB b hb) (by rw[s57 b o q];exact λz=>by cases z),s8' b o q⟩;have st1:Stay A H' H9:=by
         refine⟨λb hb o q=>?_,λb us q=>?_⟩
         ·rw[at9 b λz=>hnA (z▸hb)];exact(back s8' mz).at_ b hb o q
         ·rw[at9 b λz=>by rw[z,ha]at q;cases q];exact(back s8' mz).tup b us q
        have st2:Stay B H8 H9:=by
         refine⟨λb hb o q=>?_,λb us q=>?_⟩
         ·rw[at9 b λz=>lB b hb (z▸List.mem_cons_self),aZ (lB b hb)];exact q
         ·have nb:b∉a0::A:=λhz=>by rw[mz b hz]at q;cases q
          rw[at9 b λz=>nb (z▸List.mem_cons_self),aZ nb];exact q
        have g1:TreP X.K C (msk U O (cut B H8)) H9 (vs.map λ_=>k) vs ds1 A:=hv.stay (aO sB) st1;have g2:Tre X.K C (msk U O (cut B H8)) H9 k y d B:=hy.stay (by rw[iW];exact Same.refl _) st2;obtain⟨A',hA',g3⟩:=TreP.app g2 g1 λb hb hb2=>lB b hb2 (List.mem_cons_of_mem _ hb);refine fin (A':=A') (vs':=vs++[y]) (ds1':=ds1++[d]) (ds2':=ds3) I10 (by rw[eH9];exact aJ) (by rw[eJ A' hA'];exact sm.trans sB) (by rw[eJ A' hA',List.map_append];exact g3) (λz=>?_) ec (by rw[<- hds];simp) (by rw[List.length_append,List.length_singleton];omega);rcases(hA' a0).mp z with z|z
        ·exact hnA z
        ·exact lB a0 z List.mem_cons_self
   ·cases hc
  ·have ei:i=xs.length:=by omega
   subst ei;rw[List.drop_length]at hc;cases hc;rw[List.append_nil]at hds;subst hds;refine wpAny_mono (TT.done (cxA X N' scope a0 H2 s3 fp) rfl rfl rfl hcalm xs.length _ s σ' _ (λ_ _=>False) J0 (stat (λb hb=>hM b (hfn b hb)) pna) tni (wk.stop _ sM)) (λr s1 zz5=>?_) λ_ _ z=>z;obtain⟨hr,I1⟩:=zz5;subst hr;obtain⟨Ie,_⟩:=I.show' Z I1;have eH:jn (a0::A) H' (cut (a0::A) H')=H':=by
    funext b
    by_cases hb:b∈a0::A
    ·rw[fM hb]
    ·rw[aZ hb];unfold cut;rw[if_neg hb]
   rw[eH]at Ie;have IX:Inv X pins O H' s1:=I3.call' Ie.os Ie.base Ie.hok Ie.bare λb hb=>⟨(f3 b hb).2.2.2.1,(f3 b hb).2.1,(f3 b hb).2.2.2.2.1,(f3 b hb).2.2.2.2.2⟩;obtain⟨m,hm,_⟩:=Ie.loc;refine hR _ _ vs A H' s1 sm (λb hb=>fC sm (dB hb)) ha hnA hv IX Ie.free (Nat.ne_of_gt I3.lt) I3.sz (λx c q z=>?_) (λp hp z=>?_) ⟨m,hm⟩
   ·obtain⟨v,q⟩:=I3.cell x c q;exact absurd (z▸q.lt) (Nat.lt_irrefl _)
   ·exact absurd (z▸Heap.lt_size (I3.pin p hp).1) (Nat.lt_irrefl _)
 exact codeAny_compStart_list (loop _ rfl) (TT.self X.A 0 _ _ _ t4' (loop _ rfl))
end DL
namespace DL
open PySem PySem.Spec PyProof.Rows L2
variable {C:Addr} {X:Cx}
def bn (src:Rho->R (List D)) (n:Nat) (T:D->Rho->Option Rho) (t:Rho->R Bool) (e:Rho->R D):Rho->R (List D):=λU=>(src U).bind λxs=>if xs.length<=LIM then noE (gY T t e xs (U++List.replicate n none))else .bad
variable {k:OK}
theorem qo {src:Rho->R (List D)} {n:Nat} {T:D->Rho->Option Rho} {t:Rho->R Bool} {e:Rho->R D} {O:St} {H:Hp} {Q:VK} {U:RB} {H0:Hp} (r:bV C X H0 U O H) (q:pK C X (.l k) U (eLs (bn src n T t e) U) O H Q) :
  itI C X src O H λJ H2=>∃xs ds,Same H H2/\bV C X H0 U O H2/\lW X.K C J xs (msk U O H2)/\xs.length<=LIM/\gY T t e xs (U.rho++List.replicate n none)=.val ds/\∀v H' A,Same H2 H'->(∀a∈A,H2 a=none)->Tre X.K C (cut A (msk U O H')) H' (.l k) v (.lst ds) A->Q v H':=by
 refine⟨U,⟨H0,r⟩,?_⟩;unfold eLs An bn at q;cases es:src U with
 | exc c=>rw[es]at q;exact q
 | bad=>rw[es]at q;exact q
 | val xs =>
  rw[es]at q;intro J H2 s2 wk;simp only[DL.R.bind]at q;by_cases hl:xs.length<=LIM
  ·rw[if_pos hl]at q;cases ec:gY T t e xs (U.rho++List.replicate n none)with
   | val ds=>rw[ec]at q;exact⟨xs,ds,s2,r.mono s2,wk,hl,ec,λv H' A s1 h1 h2=>q v H' A (s2.trans s1) (λa ha=>fC s2 (h1 a ha)) h2⟩
   | exc c=>rw[ec]at q;exact q.elim
   | bad=>rw[ec]at q;exact q.elim
  ·rw[if_neg hl]at q;exact q.elim
variable {F:Rho->R (List D)}
theorem yX {O:St} {H:Hp} {Q:VK} (h:teF C X F O H Q):teK C X (.l .s) (eLs F) O H Q:=by
 obtain⟨U,⟨H0,r⟩,q⟩:=h;refine⟨U,⟨H0,r⟩,?_⟩;unfold eLs;cases e:F U with
 | val xs =>
  rw[e]at q;intro v H' A s1 hA h1;cases h1 with
  | @l _ a vs _ _ ha hp _ =>
   obtain⟨eA,hl⟩:=hp.flat;subst eA;have q2:=q a vs (cut [a] H') (λb o eb=>cut_some.mpr ⟨λhb=>Option.some_ne_none _ (eb.symm.trans (hA b hb)),s1 b o eb⟩) (dB (List.mem_singleton.mpr rfl)) (by show HasL _ _ (msk U O _) vs xs;rw[iW];exact hl);rw[w4 ha]at q2;exact q2
 | exc c=>rw[e]at q;exact q
 | bad=>rw[e]at q;exact q
variable {i:Nat} {st:Stmt}
section
variable {tg elt iter:Expr} {ifs:List Expr} {scope:Scope} {pos:Pos} {N':List Str} {ix:List Nat} {T:D->Rho->Option Rho} {t:Rho->R Bool} {e:Rho->R D} {n:Nat} {src:Rho->R (List D)}
theorem jD (hchk:oP X.N N' X.env scope=true):(∀x,(x,NameKind.free)∈scope.names->kc (X.env.kindOf x)=true)/\scope.kind=.function/\∀x∈scope.names,x.2=.local->scope.names.lookup x.1=some .local:=by
 obtain⟨c1,hchk⟩:=Bool.and_eq_true_iff.mp hchk;obtain⟨c2,hchk⟩:=Bool.and_eq_true_iff.mp hchk;obtain⟨c3,hchk⟩:=Bool.and_eq_true_iff.mp hchk;obtain⟨c4,c5⟩:=Bool.and_eq_true_iff.mp hchk;refine⟨λx hx=>oO c2 hx,?_,λx hx hl=>?_⟩
 ·revert c5;cases scope.kind<;>simp
 ·obtain⟨n,k⟩:=x;have hl:k=.local:=hl;subst hl;exact kt c3 hx (.inl rfl)
theorem sC (hcalm:X.calm=true) (hchk:oP X.N N' X.env scope=true) (hN:N'.length=X.N.length+n) (hix:∀j∈ix,X.N.length<=j) (hi:ID C X tg iter src)
  (hg:∀L cs s H fp,GD C (cxC X N' scope L cs s H fp) tg ix T) (ht:∀L cs s H fp,qA C (cxC X N' scope L cs s H fp) ifs t) (he:∀L cs s H fp,KD C (cxC X N' scope L cs s H fp) k elt e)
  (hs:∀x,foldedSetIterable iter X.env x=pure x:=by intro _;rfl):KD C X (.l k) (.ListComp elt [⟨tg,iter,ifs,0⟩] scope pos) (eLs (bn src n T t e)):=by
 rintro pins s O H Q I ⟨U,⟨H0,r⟩,q⟩;obtain⟨c2,hkind,hnames⟩:=jD hchk;rw[eval_ListComp];refine wpAny_comprehension_free (use:=none) rfl hs (oM λx hx=>I.ok.has x (lv (c2 x hx))) hkind hnames ?_;show wpAny _ _ (eval iter X.env) _ _ s;refine thn (hi pins s O H _ I (qo r q)) λv s1 h1=>thn h1 λitv s2 zz0=>?_;obtain⟨it,fp,tn,J,H2,ei,I2,TT,t0,f2,xs,ds,s2',r2,wk,hl,hd,hq⟩:=zz0;subst ei;refine lR (R:=λacc L=>compPost (model X.prog X.w) X.A X.xe none (EP X pins O Q) acc L) hcalm hchk hN hix hg ht he I2 r2 TT t0 f2 wk hl hd ?_;rintro a L vs A H' s1 sf hA ha hn hv IX uL lne lsz lc lp ⟨m,hm⟩;refine⟨m,hm,λh' hs'=>⟨.ref a,_,IX.turned (t':=s1.toks) (λb o hb eo=>(hs'.2 b hb).trans eo) uL lne (.inr lsz) lc lp,rfl,hq _ H' (a::A) (sf.trans oI) hA (.l ha (by rw[<- iW];exact hv) hn)⟩⟩
theorem bT (hcalm:X.calm=true) (hchk:oP X.N N' X.env scope=true) (hN:N'.length=X.N.length+n) (hix:∀j∈ix,X.N.length<=j) (tk:yV ix T) (hi:ID C X tg iter src)
  (hg:∀L cs s H fp,GD C (cxC X N' scope L cs s H fp) tg ix T) (ht:∀L cs s H fp,qA C (cxC X N' scope L cs s H fp) ifs t) (he:∀L cs s H fp,ED C (cxC X N' scope L cs s H fp) elt e)
  (hs:∀x,foldedSetIterable iter X.env x=pure x:=by intro _;rfl):FD C X (.ListComp elt [⟨tg,iter,ifs,0⟩] scope pos) (bn src n T t e) :=
 aA (sC hcalm hchk hN hix hi hg ht (λL cs s H fp=>m4 (he L cs s H fp)) hs) λO H Q h=>yX h
theorem gI {y:Str} {py spos:Pos} (hy:PG X (.Name y py) (gA i)) (hcalm:X.calm=true) (hchk:oP X.N N' X.env scope=true) (hN:N'.length=X.N.length+n) (hix:∀j∈ix,X.N.length<=j) (hi:ID C X tg iter src)
  (hg:∀L cs s H fp,GD C (cxC X N' scope L cs s H fp) tg ix T) (ht:∀L cs s H fp,qA C (cxC X N' scope L cs s H fp) ifs t) (he:∀L cs s H fp,KD C (cxC X N' scope L cs s H fp) k elt e)
  (hsw:swapsWith (.ListComp elt [⟨tg,iter,ifs,0⟩] scope pos) (some (.Name y py)) spos.line X.env=pure true)
  (hs:∀x,foldedSetIterable iter X.env x=pure x:=by intro _;rfl):PS X (.Assign [.Name y py] (.ListComp elt [⟨tg,iter,ifs,0⟩] scope pos) spos) (qH (teK C X (.l k) (eLs (bn src n T t e))) (gA i)):=by
 rintro pins s O H Dn I ⟨U,⟨H0,r⟩,q⟩;obtain⟨c2,hkind,hnames⟩:=jD hchk;rw[exec_Assign_Name_used _ _ _ _ hsw];refine wpAny_bind (wpAny_standAt (wpAny_bind ?_));show wpAny _ _ (do let _ <- comprehension (.ListComp elt [⟨tg,iter,ifs,0⟩] scope pos) scope X.env _ (newList []) false (eval iter X.env) (some (assign (.Name y py) X.env))) _ _ s;refine wpAny_bind (wpAny_mono (wpAny_comprehension_free (use:=some (assign (.Name y py) X.env)) (Q:=λ_ s'=>SP X pins Dn .next s') rfl hs (oM λx hx=>I.ok.has x (lv (c2 x hx))) hkind hnames ?_) (λ_ s' hq=>wpAny_pure (wpAny_pure hq)) λ_ _ z=>z);refine thn (hi pins s O H _ I (qo r q)) λv s1 h1=>thn h1 λitv s2 zz1=>?_;obtain⟨it,fp,tn,J,H2,ei,I2,TT,t0,f2,xs,ds,s2',r2,wk,hl,hd,hq⟩:=zz1;subst ei;refine lR (R:=λacc L=>compPost (model X.prog X.w) X.A X.xe (some (assign (.Name y py) X.env)) (λ_ s'=>SP X pins Dn .next s') acc L) hcalm hchk hN hix hg ht he I2 r2 TT t0 f2 wk hl hd ?_;rintro a L vs A H' s1 sf hA ha hn hv IX uL lne lsz lc lp ⟨m,hm⟩;obtain⟨oL,esL,epL,eoL,edL,restL⟩:=id hm;have nfs:L∉X.fs:=λz=>by
  obtain⟨_,o,ho,_⟩:=I.ok.funs.mem z;exact absurd (Nat.lt_of_lt_of_le (Heap.lt_size ho) lsz) (Nat.lt_irrefl _)
 have IP:Inv X (pins++[(L,oL)]) O H' s1:=IX.pins_of λp hp=>by
  rcases List.mem_append.mp hp with hp|hp
  ·exact IX.pin p (List.mem_append_right _ hp)
  ·have:p=(L,oL):=by simpa using hp
   subst this;exact⟨eoL,uL,lne,nfs,λv z=>by rw[edL]at z;cases z⟩
 show wpAny _ _ (assign (.Name y py) X.env (.ref a)) _ _ s1;refine thn (hy _ s1 O _ (.ref a) (.ref a) Dn.nx IP rfl (hq _ H' (a::A) (sf.trans oI) hA (.l ha (by rw[<- iW];exact hv) hn))) λ_ s2 zz2=>?_;obtain⟨σ',H',I',qn⟩:=zz2;have pL:=I'.pin (L,oL) (List.mem_append_right _ (List.mem_append_right _ (by simp)));have I'':Inv X pins σ' H' s2:=I'.unpinned;refine⟨m,⟨oL,esL,epL,pL.1,edL,restL⟩,λh' hs'=>⟨σ',H',I''.turned (t':=s2.toks) (λb o hb eo=>(hs'.2 b hb).trans eo) pL.2.1 lne (.inr lsz) lc lp,qn⟩⟩
theorem kN {y:Str} {py spos:Pos} (hy:PG X (.Name y py) (gA i)) (hcalm:X.calm=true) (hchk:oP X.N N' X.env scope=true) (hN:N'.length=X.N.length+n) (hix:∀j∈ix,X.N.length<=j) (tk:yV ix T) (hi:ID C X tg iter src)
  (hg:∀L cs s H fp,GD C (cxC X N' scope L cs s H fp) tg ix T) (ht:∀L cs s H fp,qA C (cxC X N' scope L cs s H fp) ifs t) (he:∀L cs s H fp,ED C (cxC X N' scope L cs s H fp) elt e)
  (hsw:swapsWith (.ListComp elt [⟨tg,iter,ifs,0⟩] scope pos) (some (.Name y py)) spos.line X.env=pure true)
  (hs:∀x,foldedSetIterable iter X.env x=pure x:=by intro _;rfl):PS X (.Assign [.Name y py] (.ListComp elt [⟨tg,iter,ifs,0⟩] scope pos) spos) (qH (teF C X (bn src n T t e)) (gA i)) :=
 aY (gI hy hcalm hchk hN hix hi hg ht (λL cs s H fp=>m4 (he L cs s H fp)) hsw hs) λD O H h=>yX h
theorem rQ {F:Rho->R D} (h:PS X st (qH (teK C X k F) (gA i))):SD C X st (trS i k F) :=
  aY h λD O H yy=>by
   obtain⟨_,H0,⟨U,rfl,r⟩,q⟩:=yy;exact⟨U,⟨H0,r⟩,by
    unfold trS at q;cases z:F U with
    | val d=>rw[z]at q;exact λv H' A s hA h=>q _ _ ⟨_,rfl,r.setTre s hA h⟩
    | exc c=>rw[z]at q;exact cg r q
    | bad=>rw[z]at q;exact q⟩
theorem xn (h:PS X st (qH (teF C X F) (gA i))):SD C X st (asg i (eLs F)) :=
  aY h λD O H yy0=>by
   obtain⟨_,H0,⟨U,rfl,r⟩,q⟩:=yy0;exact⟨U,⟨H0,r⟩,by
    unfold asg eLs An at q;cases e:F U with
    | val xs =>
      rw[e]at q;exact λa vs H1 s1 hn h1=>q _ _ ⟨_,rfl,(r.mono (s1.trans (ay hn))).setShr (.lst ((r.mono s1).new hn) (h1.mono (aO (ay hn))))⟩
    | exc c=>rw[e]at q;exact cg r q
    | bad=>rw[e]at q;exact q⟩
theorem xo (h:PS X st (qH (teF C X F) (gA i))):SD C X st (own i F) :=
  aY h λD O H yy1=>by
   obtain⟨_,H0,⟨U,rfl,r⟩,q⟩:=yy1;exact⟨U,⟨H0,r⟩,by
    unfold own at q;cases e:F U with
    | val xs =>
      rw[e]at q;exact λa vs H1 s1 hn h1=>q _ _ ⟨_,rfl,(r.mono s1).setOwn hn h1⟩
    | exc c=>rw[e]at q;exact cg r q
    | bad=>rw[e]at q;exact q⟩
end
end DL
namespace DL
open PySem PySem.Spec PyProof.Rows L2
def eqb:Nat->D->Bool
 | _,.non=>true
 | _,.bl _=>true
 | _,.int _=>true
 | n+1,.lst xs=>xs.all (eqb n)
 | n+1,.tup xs=>xs.all (eqb n)
 | _,_=>false
def pyq:Nat->D->D->Bool
 | _,.non,.non=>true
 | _,.bl a,.bl b=>a==b
 | _,.bl a,.int b=>(if a then 1 else 0)==b
 | _,.int a,.bl b=>a==(if b then 1 else 0)
 | _,.int a,.int b=>a==b
 | n+1,.lst xs,.lst ys=>decide (xs.length=ys.length)&&(List.range xs.length).all λj=>pyq n (xs.getD j .non) (ys.getD j .non)
 | n+1,.tup xs,.tup ys=>decide (xs.length=ys.length)&&(List.range xs.length).all λj=>pyq n (xs.getD j .non) (ys.getD j .non)
 | _,_,_=>false
theorem nP (n:Nat) (xs ys:List D):pyq (n+1) (.lst xs) (.lst ys)=(decide (xs.length=ys.length)&&(List.range xs.length).all λj=>pyq n (xs.getD j .non) (ys.getD j .non)):=rfl
theorem nO (n:Nat) (xs ys:List D):pyq (n+1) (.tup xs) (.tup ys)=(decide (xs.length=ys.length)&&(List.range xs.length).all λj=>pyq n (xs.getD j .non) (ys.getD j .non)):=rfl
section
variable {K:Frag} {C:Addr} {H:Hp}
theorem HasL.inj {n:Nat} (ih:∀{v:V} {x y:D},eqb n x=true->eqb n y=true->Has K C H v x->Has K C H v y->x=y):∀{vs:List V} {xs ys:List D},xs.all (eqb n)=true->ys.all (eqb n)=true->HasL K C H vs xs->HasL K C H vs ys->xs=ys
 | _,_,_,_,_,.nil,.nil=>rfl
 | _,_,_,h1,h2,.cons a b,.cons c d=>by
  rw[List.all_cons,Bool.and_eq_true]at h1 h2;rw[ih h1.1 h2.1 a c,HasL.inj ih h1.2 h2.2 b d]
theorem Has.inj:∀{n:Nat} {v:V} {x y:D},eqb n x=true->eqb n y=true->Has K C H v x->Has K C H v y->x=y:=by
 intro n
 induction n with
 | zero =>
  intro v x y h1 h2 a b;cases a<;>cases b<;>first|rfl|cases h1|cases h2
 | succ n ih =>
  intro v x y h1 h2 a b;cases a with
  | non=>cases b;rfl
  | bl _=>cases b;rfl
  | int _=>cases b;rfl
  | lst e1 g1 =>
   cases b with
   | lst e2 g2=>rw[e1]at e2;cases e2;rw[HasL.inj ih h1 h2 g1 g2]
   | tup e2 g2=>rw[e1]at e2;cases e2
   | ob _ _ _ _=>cases h2
   | scr _=>cases h2
   | exn _=>cases h2
  | tup e1 g1 =>
   cases b with
   | tup e2 g2=>rw[e1]at e2;cases e2;rw[HasL.inj ih h1 h2 g1 g2]
   | lst e2 g2=>rw[e1]at e2;cases e2
   | ob _ _ _ _=>cases h2
   | scr _=>cases h2
   | exn _=>cases h2
  | ob _ _ _ _=>cases h1
  | scr _=>cases h1
  | exn _=>cases h1
theorem pc:∀{n:Nat} {x:D},eqb n x=true->pyq n x x=true:=by
 intro n
 induction n with
 | zero =>
  intro x h;cases x with
  | non=>rfl
  | bl b=>exact beq_self_eq_true _
  | int b=>exact beq_self_eq_true _
  | _=>cases h
 | succ n ih =>
  intro x h;cases x with
  | non=>rfl
  | bl b=>exact beq_self_eq_true _
  | int b=>exact beq_self_eq_true _
  | lst xs =>
   rw[nP];simp only[decide_true,Bool.true_and,List.all_eq_true,List.mem_range];intro j hj;have h:xs.all (eqb n)=true:=h;rw[List.all_eq_true]at h;have e:xs.getD j .non=xs[j]:=by simp[List.getD,List.getElem?_eq_getElem hj]
   rw[e];exact ih (h _ (List.getElem_mem hj))
  | tup xs =>
   rw[nO];simp only[decide_true,Bool.true_and,List.all_eq_true,List.mem_range];intro j hj;have h:xs.all (eqb n)=true:=h;rw[List.all_eq_true]at h;have e:xs.getD j .non=xs[j]:=by simp[List.getD,List.getElem?_eq_getElem hj]
   rw[e];exact ih (h _ (List.getElem_mem hj))
  | ob _ _ _=>cases h
  | scr _=>cases h
  | exn _=>cases h
end
variable {X:Cx} {C:Addr} {H:Hp} {s:Shared} {vs:List V}
open SeqAt in
theorem ze {n:Nat} {A:Around} {xs ys:List D} {ws:List V} {its its2:List Value}
  (ih:∀{x y:D} {v w:V} {u t:Value},eqb n x=true->eqb n y=true->Has X.K C H v x->Has X.K C H w y->RelV v u->RelV w t->EqAt A s u t (pyq n x y))
  (h1:∀x∈xs,eqb n x=true) (h2:∀x∈ys,eqb n x=true) (g1:HasL X.K C H vs xs) (g2:HasL X.K C H ws ys) (r:Vals vs its) (r2:Vals ws its2) (j:Nat) (h1':j<its.toArray.size) (h2':j<its2.toArray.size) :
  EqAt A s its.toArray[j] its2.toArray[j] (pyq n (xs.getD j .non) (ys.getD j .non)):=by
 have j1:j<xs.length:=by rw[<- g1.len,r.length];exact h1'
 have j2:j<ys.length:=by rw[<- g2.len,r2.length];exact h2'
 obtain⟨vj,ev,hv⟩:=g1.get (List.getElem?_eq_getElem j1);obtain⟨wj,ew,hw⟩:=g2.get (List.getElem?_eq_getElem j2);obtain⟨uj,eu,ruj⟩:=r.get ev;obtain⟨tj,et,rtj⟩:=r2.get ew;have eu':its.toArray[j]=uj:=(List.getElem?_eq_some_iff.mp eu).2;have et':its2.toArray[j]=tj:=(List.getElem?_eq_some_iff.mp et).2;have ex:xs.getD j .non=xs[j]:=by rw[List.getD,List.getElem?_eq_getElem j1];rfl
 have ey:ys.getD j .non=ys[j]:=by rw[List.getD,List.getElem?_eq_getElem j2];rfl
 rw[eu',et',ex,ey];exact ih (h1 _ (List.getElem_mem j1)) (h2 _ (List.getElem_mem j2)) hv hw ruj rtj
variable {pins:List (Addr×Obj)} {O:St}
open SeqAt in
theorem rF (I:Inv X pins O H s):∀(n:Nat) {A:Around} {x y:D} {v w:V} {u t:Value},A.units+n<cLine->eqb n x=true->eqb n y=true->Has X.K C H v x->Has X.K C H w y->RelV v u->RelV w t ->
  RcAt A s u t (pyq n x y)/\EqAt A s u t (pyq n x y)/\RcNeAt A s u t (!pyq n x y):=by
 intro n
 induction n with
 | zero =>
  intro A x y v w u t hu h1 h2 a b ru rt;cases a with
  | non =>
   cases ru;cases b with
   | non=>cases rt;exact⟨RcAt.none_none,EqAt.same _,RcNeAt.none_none⟩
   | bl _=>cases rt;exact⟨RcAt.none_bool _,EqAt.none_bool _,RcNeAt.none_bool _⟩
   | int _=>obtain⟨_,rfl⟩:=rt;exact⟨RcAt.none_int _ _,EqAt.none_int _ _,RcNeAt.none_int _ _⟩
   | _=>cases h2
  | bl _ =>
   cases ru;cases b with
   | non=>cases rt;exact⟨RcAt.bool_none _,EqAt.bool_none _,RcNeAt.bool_none _⟩
   | bl _=>cases rt;exact⟨RcAt.bool_bool _ _,EqAt.bool_bool _ _,RcNeAt.bool_bool _ _⟩
   | int _=>obtain⟨_,rfl⟩:=rt;exact⟨RcAt.bool_int _ _ _,EqAt.bool_int _ _ _,RcNeAt.bool_int _ _ _⟩
   | _=>cases h2
  | int _ =>
   obtain⟨_,rfl⟩:=ru;cases b with
   | non=>cases rt;exact⟨RcAt.int_none _ _,EqAt.int_none _ _,RcNeAt.int_none _ _⟩
   | bl _=>cases rt;exact⟨RcAt.int_bool _ _ _,EqAt.int_bool _ _ _,RcNeAt.int_bool _ _ _⟩
   | int _=>obtain⟨_,rfl⟩:=rt;exact⟨RcAt.int_int _ _ _ _,EqAt.int_int _ _ _ _,RcNeAt.int_int _ _ _ _⟩
   | _=>cases h2
  | _=>cases h1
 | succ n ih =>
  intro A x y v w u t hu h1 h2 a b ru rt;have hA:A.units<cLine:=by omega
  have hin:A.in1.units+n<cLine:=by show A.units+1+n<cLine;omega
  cases a with
  | non =>
   cases ru;cases b with
   | non=>cases rt;exact⟨RcAt.none_none,EqAt.same _,RcNeAt.none_none⟩
   | bl _=>cases rt;exact⟨RcAt.none_bool _,EqAt.none_bool _,RcNeAt.none_bool _⟩
   | int _=>obtain⟨_,rfl⟩:=rt;exact⟨RcAt.none_int _ _,EqAt.none_int _ _,RcNeAt.none_int _ _⟩
   | lst e2 g2=>cases rt;obtain⟨its,r,p,_⟩:=I.list (SqL.of e2);exact⟨RcAt.none_list p.isList hA,EqAt.none_list p.isList hA,RcNeAt.none_list p.isList hA⟩
   | tup e2 g2=>cases rt;obtain⟨its,r,p,_⟩:=I.tuple (SqT.of e2);exact⟨RcAt.none_tuple p hA,EqAt.none_tuple p hA,RcNeAt.none_tuple p hA⟩
   | _=>cases h2
  | bl _ =>
   cases ru;cases b with
   | non=>cases rt;exact⟨RcAt.bool_none _,EqAt.bool_none _,RcNeAt.bool_none _⟩
   | bl _=>cases rt;exact⟨RcAt.bool_bool _ _,EqAt.bool_bool _ _,RcNeAt.bool_bool _ _⟩
   | int _=>obtain⟨_,rfl⟩:=rt;exact⟨RcAt.bool_int _ _ _,EqAt.bool_int _ _ _,RcNeAt.bool_int _ _ _⟩
   | lst e2 g2=>cases rt;obtain⟨its,r,p,_⟩:=I.list (SqL.of e2);exact⟨RcAt.bool_list _ p.isList hA,EqAt.bool_list _ p.isList hA,RcNeAt.bool_list _ p.isList hA⟩
   | tup e2 g2=>cases rt;obtain⟨its,r,p,_⟩:=I.tuple (SqT.of e2);exact⟨RcAt.bool_tuple _ p hA,EqAt.bool_tuple _ p hA,RcNeAt.bool_tuple _ p hA⟩
   | _=>cases h2
  | int _ =>
   obtain⟨_,rfl⟩:=ru;cases b with
   | non=>cases rt;exact⟨RcAt.int_none _ _,EqAt.int_none _ _,RcNeAt.int_none _ _⟩
   | bl _=>cases rt;exact⟨RcAt.int_bool _ _ _,EqAt.int_bool _ _ _,RcNeAt.int_bool _ _ _⟩
   | int _=>obtain⟨_,rfl⟩:=rt;exact⟨RcAt.int_int _ _ _ _,EqAt.int_int _ _ _ _,RcNeAt.int_int _ _ _ _⟩
   | lst e2 g2=>cases rt;obtain⟨its,r,p,_⟩:=I.list (SqL.of e2);exact⟨RcAt.int_list _ _ p.isList hA,EqAt.int_list _ _ p.isList hA,RcNeAt.int_list _ _ p.isList hA⟩
   | tup e2 g2=>cases rt;obtain⟨its,r,p,_⟩:=I.tuple (SqT.of e2);exact⟨RcAt.int_tuple _ _ p hA,EqAt.int_tuple _ _ p hA,RcNeAt.int_tuple _ _ p hA⟩
   | _=>cases h2
  | @lst la vs xs e1 g1 =>
   cases ru;obtain⟨its,r,p,_⟩:=I.list (SqL.of e1);cases b with
   | non=>cases rt;exact⟨RcAt.list_none p.isList hA,EqAt.list_none p.isList hA,RcNeAt.list_none p.isList hA⟩
   | bl _=>cases rt;exact⟨RcAt.list_bool _ p.isList hA,EqAt.list_bool _ p.isList hA,RcNeAt.list_bool _ p.isList hA⟩
   | int _=>obtain⟨_,rfl⟩:=rt;exact⟨RcAt.list_int _ _ p.isList hA,EqAt.list_int _ _ p.isList hA,RcNeAt.list_int _ _ p.isList hA⟩
   | tup e2 g2=>cases rt;obtain⟨its2,r2,p2,_⟩:=I.tuple (SqT.of e2);exact⟨RcAt.list_tuple p.isList p2 hA,EqAt.list_tuple p.isList p2 hA,RcNeAt.list_tuple p.isList p2 hA⟩
   | @lst lb ws ys e2 g2 =>
    cases rt;obtain⟨its2,r2,p2,_⟩:=I.list (SqL.of e2);have l1:its.length=xs.length:=by rw[<- r.length,g1.len]
    have l2:its2.length=ys.length:=by rw[<- r2.length,g2.len]
    have el:=ze (A:=A.in1) (s:=s) (λa b c d e f=>(ih hin a b c d e f).2.1) (List.all_eq_true.mp h1) (List.all_eq_true.mp h2) g1 g2 r r2;have rc:RcAt A s (.ref la) (.ref lb) (pyq (n+1) (.lst xs) (.lst ys)):=by
     rw[nP];by_cases hl:xs.length=ys.length
     ·have q:=RcAt.lists (A:=A) (s:=s) (e:=λj=>pyq n (xs.getD j .non) (ys.getD j .non)) p.isList p2.isList (by simp[l1,l2,hl]) hA el;have es:its.toArray.size=xs.length:=by simp[l1]
      rw[es]at q;rw[decide_eq_true hl,Bool.true_and];exact q
     ·rw[decide_eq_false hl,Bool.false_and];exact RcAt.lists_lengths p.isList p2.isList (by simp[l1,l2,hl]) hA
    have rn:RcNeAt A s (.ref la) (.ref lb) (!pyq (n+1) (.lst xs) (.lst ys)):=by
     rw[nP];by_cases hl:xs.length=ys.length
     ·have q:=RcNeAt.lists (A:=A) (s:=s) (e:=λj=>pyq n (xs.getD j .non) (ys.getD j .non)) p.isList p2.isList (by simp[l1,l2,hl]) hA el;have es:its.toArray.size=xs.length:=by simp[l1]
      rw[es]at q;rw[decide_eq_true hl,Bool.true_and];exact q
     ·rw[decide_eq_false hl,Bool.false_and];exact RcNeAt.lists_lengths p.isList p2.isList (by simp[l1,l2,hl]) hA
    refine⟨rc,?_,rn⟩;by_cases hab:la=lb
    ·subst hab;have:=Has.inj h1 h2 (.lst e1 g1) (.lst e2 g2);rw[this,pc h2];exact EqAt.same _
    ·exact EqAt.of_refs hab rc
   | _=>cases h2
  | @tup la vs xs e1 g1 =>
   cases ru;obtain⟨its,r,p,_⟩:=I.tuple (SqT.of e1);cases b with
   | non=>cases rt;exact⟨RcAt.tuple_none p hA,EqAt.tuple_none p hA,RcNeAt.tuple_none p hA⟩
   | bl _=>cases rt;exact⟨RcAt.tuple_bool _ p hA,EqAt.tuple_bool _ p hA,RcNeAt.tuple_bool _ p hA⟩
   | int _=>obtain⟨_,rfl⟩:=rt;exact⟨RcAt.tuple_int _ _ p hA,EqAt.tuple_int _ _ p hA,RcNeAt.tuple_int _ _ p hA⟩
   | lst e2 g2=>cases rt;obtain⟨its2,r2,p2,_⟩:=I.list (SqL.of e2);exact⟨RcAt.tuple_list p p2.isList hA,EqAt.tuple_list p p2.isList hA,RcNeAt.tuple_list p p2.isList hA⟩
   | @tup lb ws ys e2 g2 =>
    cases rt;obtain⟨its2,r2,p2,_⟩:=I.tuple (SqT.of e2);have l1:its.length=xs.length:=by rw[<- r.length,g1.len]
    have l2:its2.length=ys.length:=by rw[<- r2.length,g2.len]
    have el:=ze (A:=A.in1) (s:=s) (λa b c d e f=>(ih hin a b c d e f).2.1) (List.all_eq_true.mp h1) (List.all_eq_true.mp h2) g1 g2 r r2;have rc:RcAt A s (.ref la) (.ref lb) (pyq (n+1) (.tup xs) (.tup ys)):=by
     rw[nO];have q:=RcAt.tuples (A:=A) (s:=s) (e:=λj=>pyq n (xs.getD j .non) (ys.getD j .non)) p p2 hA el;have es:its.toArray.size=xs.length:=by simp[l1]
     have es2:its2.toArray.size=ys.length:=by simp[l2]
     rw[es,es2]at q;by_cases hl:xs.length=ys.length
     ·rw[hl,Nat.min_self,beq_self_eq_true,Bool.and_true]at q;rw[decide_eq_true hl,Bool.true_and,hl];exact q
     ·rw[decide_eq_false hl,Bool.false_and];rw[show(xs.length==ys.length)=false by simpa using hl,Bool.and_false]at q;exact q
    have rn:RcNeAt A s (.ref la) (.ref lb) (!pyq (n+1) (.tup xs) (.tup ys)):=by
     rw[nO];have q:=RcNeAt.tuples (A:=A) (s:=s) (e:=λj=>pyq n (xs.getD j .non) (ys.getD j .non)) p p2 hA el;have es:its.toArray.size=xs.length:=by simp[l1]
     have es2:its2.toArray.size=ys.length:=by simp[l2]
     rw[es,es2]at q;by_cases hl:xs.length=ys.length
     ·rw[hl,Nat.min_self,beq_self_eq_true,Bool.and_true]at q;rw[decide_eq_true hl,Bool.true_and,hl];exact q
     ·rw[decide_eq_false hl,Bool.false_and];rw[show(xs.length==ys.length)=false by simpa using hl,Bool.and_false]at q;exact q
    refine⟨rc,?_,rn⟩;by_cases hab:la=lb
    ·subst hab;have:=Has.inj h1 h2 (.tup e1 g1) (.tup e2 g2);rw[this,pc h2];exact EqAt.same _
    ·exact EqAt.of_refs hab rc
   | _=>cases h2
  | _=>cases h1
open SeqAt in
theorem wx (I:Inv X pins O H s):∀(n:Nat) {A:Around} {x y:D} {v w:V} {u t:Value},A.units+n<cLine->eqb n x=true->eqb n y=true->Has X.K C H v x->Has X.K C H w y->RelV v u->RelV w t ->
  RcAt A s u t (pyq n x y)/\EqAt A s u t (pyq n x y) :=
 λn _ _ _ _ _ _ _ hu h1 h2 a b c d=>⟨(rF I n hu h1 h2 a b c d).1,(rF I n hu h1 h2 a b c d).2.1⟩
open SeqAt in
theorem BX (I:Inv X pins O H s):∀(n:Nat) {A:Around} {x y:D} {v w:V} {u t:Value},A.units+n<cLine->eqb n x=true->eqb n y=true->Has X.K C H v x->Has X.K C H w y->RelV v u->RelV w t ->
  RcNeAt A s u t (!pyq n x y) :=
 λn _ _ _ _ _ _ _ hu h1 h2 a b c d=>(rF I n hu h1 h2 a b c d).2.2
variable {K:Frag}
theorem Brw.has {M:Hp} {v:V} {d:D} (s:Same M H) (h:Brw K C M H v d):Has K C H v d:=by
 cases h with
 | cl h=>exact h.mono s
 | own e h=>exact .lst e (h.mono s)
variable {a b:Expr} {pos:Pos} {Fa Fb:Rho->R D}
section
variable {C:Addr} {X:Cx}
def feq (x y:D):R D:=if eqb 9 x=true/\eqb 9 y=true then .val (.bl (pyq 9 x y))else .bad
def fne (x y:D):R D:=if eqb 9 x=true/\eqb 9 y=true then .val (.bl (!pyq 9 x y))else .bad
def xx (K:Frag) (C:Addr) (neg:Bool):R2:=λv w H Q=>∃x y,eqb 9 x=true/\eqb 9 y=true/\Has K C H v x/\Has K C H w y/\Q (.bl (if neg then !pyq 9 x y else pyq 9 x y)) H
theorem vG (hu:X.A.units+9<cLine):OpR X (compareOp .Eq) (xx X.K C false):=by
 intro pins s O H x y v u Q I rx ry h;obtain⟨dx,dy,e1,e2,h1,h2,q⟩:=h;exact(wx I 9 hu e1 e2 h1 h2 rx ry).1 _ _ _ _ ⟨.bl _,H,I,rfl,q⟩
theorem Ab (hu:X.A.units+9<cLine):OpR X (compareOp .NotEq) (xx X.K C true):=by
 intro pins s O H x y v u Q I rx ry h;obtain⟨dx,dy,e1,e2,h1,h2,q⟩:=h;exact BX I 9 hu e1 e2 h1 h2 rx ry _ _ _ _ ⟨.bl _,H,I,rfl,q⟩
theorem vD:OpD C X (xx X.K C false) feq:=by
 intro U O H v w x y z Q r hx hy e k;unfold feq at e;split at e
 ·rename_i hh;cases e;exact⟨x,y,hh.1,hh.2,hx.has msk_sub,hy.has msk_sub,k _ H (Same.refl _) (.bl _)⟩
 ·cases e
theorem z7:OpD C X (xx X.K C true) fne:=by
 intro U O H v w x y z Q r hx hy e k;unfold fne at e;split at e
 ·rename_i hh;cases e;exact⟨x,y,hh.1,hh.2,hx.has msk_sub,hy.has msk_sub,k _ H (Same.refl _) (.bl _)⟩
 ·cases e
theorem y8:dk feq:=λx y c e=>by unfold feq at e;split at e<;>cases e
theorem BM:dk fne:=λx y c e=>by unfold fne at e;split at e<;>cases e
theorem zf (hu:X.A.units+9<cLine) (ha:EB C X a Fa) (hb:EB C X b Fb):ED C X (.Compare a [.Eq] [b] pos) (bin feq Fa Fb):=A8 (vG (C:=C) hu) y8 vD ha hb (kT _)
theorem iN (hu:X.A.units+9<cLine) (ha:EB C X a Fa) (hb:EB C X b Fb):TD C X (.Compare a [.Eq] [b] pos) (tst (bin feq Fa Fb)):=jk (vG (C:=C) hu) y8 vD ha hb (kT _)
theorem cD (hu:X.A.units+9<cLine) (ha:EB C X a Fa) (hb:EB C X b Fb):TD C X (.Compare a [.NotEq] [b] pos) (tst (bin fne Fa Fb)):=jk (Ab (C:=C) hu) BM z7 ha hb (kT _)
end
variable {C:Addr} {X:Cx}
def Ite (K:Frag) (a:Addr):It :=
 ⟨λi H=>∃xs x,SqL K H a xs/\xs[i]?=some x,λi H v H'=>∃p x,H p=none/\v=.ref p/\H'=upd H p (.tup [.int (i:Int),x])/\∀xs,SqL K H a xs->xs[i]?=some x,λi H=>∃xs,SqL K H a xs/\xs.length<=i⟩
variable {es:List Expr} {k:Nat}
theorem tN {P:Program} {w:World} (a it e:Addr) (hne:e≠it) :
  qy P w K (.Tuple es k pos) (Ite K a) [e,it] e (λi h=>(∃old,IsEnum h e it i old)/\h.IsListIter it a i) where
 mem:=by simp
 obj:=λi h st b hb=>by
  obtain⟨⟨old,he⟩,o,eo,c,d⟩:=st;have hb:b=e\/b=it:=by simpa using hb
  rcases hb with rfl|rfl
  ·exact⟨_,he,λv z=>by have z':Data.fields _=Data.cell v:=z;cases z'⟩
  ·exact⟨o,eo,λv z=>by rw[d]at z;cases z⟩
 keep:=λi h h' st kk=>by
  obtain⟨⟨old,he⟩,st⟩:=st;exact⟨⟨old,kk e (by simp) _ he⟩,st.at λo q=>kk it (by simp) o q⟩
 item:=by
  intro X hP hw hK hc i pins s O H E I hf st hg;subst hP hw hK;obtain⟨⟨old,he⟩,hit⟩:=st;obtain⟨xs,x,hq,hx⟩:=hg;obtain⟨its,rv,p,hz⟩:=I.list hq;obtain⟨u,hu,ru⟩:=rv.get hx;refine wpAny_pyNext_enum_item he hit p.isList (x:=u) (by simpa using hu) hne λh' out hit' ht hsz hk=>?_;refine⟨_,rfl,wpAny_letOwnedTupleGo_enum out λh'' he'' sb=>?_⟩;have fr:=I.fresh;have hk2:∀b o,b≠e->b≠it->s.heap.get? b=some o->h''.get? b=some o:=λb o h1 h2 eo=>(sb.2 b h1).trans (hk b o h1 h2 eo);have hse:s.heap.objs.size≠e:=Nat.ne_of_gt (Heap.lt_size he);have ht2:h''.get? s.heap.objs.size=some { cls:=.type "tuple",data:=.seq #[.int i s.toks,u] }:=(sb.2 _ hse).trans ht;have ne':∀b,H b≠none->b≠e/\b≠it:=λb hb=>⟨λz=>hb (by rw[z];exact(hf e (by simp)).1),λz=>hb (by rw[z];exact(hf it (by simp)).1)⟩;have I1:Inv X pins O (upd H s.heap.objs.size (.tup [.int (i:Int),x])) { s with heap:=h'',toks:=s.toks+1 }:=by
   refine I.call' (s':={ s with heap:=h'',toks:=s.toks+1 }) (ch:=[e,it]) rfl ⟨λb o q n hfs hx=>hk2 b o (λz=>hx (by simp[z])) (λz=>hx (by simp[z])) q,λb o q n hfs hx=>⟨o.slots,hk2 b o (λz=>hx (by simp[z])) (λz=>hx (by simp[z])) q⟩,
    λb o q n hx=>?_,λb o q hx=>⟨o,hk2 b o (λz=>hx (by simp[z])) (λz=>hx (by simp[z])) q⟩,λb ys q=>?_,λb o v q=>?_,λb ps q=>?_⟩ (λb o q=>?_) I.bare λb hb=>?_
   ·rw[au (Nat.ne_of_lt (Heap.lt_size q))];exact n
   ·rw[au (aR q fr)];exact q
   ·rw[au (aR q fr)];exact q
   ·exact⟨#[],by rw[au (aR q fr),q];simp⟩
   ·by_cases hb:b=s.heap.objs.size
    ·subst hb;rw[aJ]at q;cases q;exact⟨by show 2<=sizeLine;decide,[.int i s.toks,u],.cons ⟨_,rfl⟩ (.cons ru .nil),⟨_,ht2,rfl,_,rfl⟩⟩
    ·rw[au hb]at q;refine(I.hok b o q).stay (λc v hc qv=>?_) (λc qc=>by rw[au (aR qc fr)];exact qc) λc ys qc=>by rw[au (aR qc fr)];exact qc
     have hcn:H c≠none:=by
      rcases hc with z|z
      ·rw[z,q];simp
      ·rw[z];simp
     obtain⟨n1,n2⟩:=ne' c hcn;exact hk2 c v n1 n2 qv
   ·obtain⟨g0,g1,g2,g3,g4,g5⟩:=hf b hb;exact⟨g3,g1,g4,g5⟩
  refine⟨.ref s.heap.objs.size,_,I1,rfl,⟨_,x,fr,rfl,rfl,λys hy=>by rw[I.list_inj hy hq];exact hx⟩,⟨⟨u,?_⟩,?_⟩,λb hb=>?_⟩
  ·have:((i:Int)+1)=((i+1:Nat):Int):=by push_cast;rfl
   rw[this]at he'';exact he''
  ·exact hit'.at λo q=>(sb.2 it (Ne.symm hne)).trans q
  ·have hb':=(hf b hb).1;have hlt:b<s.heap.objs.size:=by
    have hb:b=e\/b=it:=by simpa using hb
    rcases hb with rfl|rfl
    ·exact Heap.lt_size he
    ·obtain⟨o,eo,_⟩:=hit;exact Heap.lt_size eo
   rw[au (Nat.ne_of_lt hlt)];exact hb'
 done:=by
  intro X hP hw hK hc i pins s O H E I hf st hg;subst hP hw hK;obtain⟨⟨old,he⟩,hit⟩:=st;obtain⟨xs,hq,hx⟩:=hg;obtain⟨its,rv,p,hz⟩:=I.list hq;obtain⟨f0,f1,f2,f3,f4,f5⟩:=hf it (by simp);have hl:=rv.length;exact wpAny_pyNext_enum_end (I.ok.hd hc) he hit p.isList (by simp;omega) λh' eb=>⟨rfl,I.turned (t':=s.toks) (λb o hb q=>eb b o hb q) f0 f1 f3 f4 f5⟩
 self:=λ_ _ _ _ _ st h=>by
  obtain⟨⟨old,he⟩,_⟩:=st;exact wpAny_pyIter_enum he h
def enu:Nat->List D->List D
 | _,[]=>[]
 | k,x::r=>.tup [.int (k:Int),x]::enu (k+1) r
theorem sY:∀(k:Nat) (xs:List D),(enu k xs).length=xs.length
 | _,[]=>rfl
 | k,x::r=>by simp[enu,sY]
theorem rh:∀{k:Nat} {xs:List D} {i:Nat} {y:D},(enu k xs)[i]?=some y->∃x,xs[i]?=some x/\y=.tup [.int ((k+i:Nat):Int),x]
 | _,[],_,_,e=>by simp[enu]at e
 | k,x::r,0,y,e=>by
  simp[enu]at e;exact⟨x,rfl,by rw[<- e];rfl⟩
 | k,x::r,i+1,y,e=>by
  have e:(enu (k+1) r)[i]?=some y:=by simpa[enu]using e
  obtain⟨z,h1,h2⟩:=rh e;refine⟨z,by simpa using h1,?_⟩;rw[h2,show k+1+i=k+(i+1) by omega]
theorem tM {a:Addr} {xs:List D} {M:Hp} (e:M a=some (.lst vs)) (h:HasL K C M vs xs):lW K C (Ite K a) (enu 0 xs) M where
 go:=λi y H2 s hy=>by
  obtain⟨x,hx,rfl⟩:=rh hy;obtain⟨v,e1,h1⟩:=h.get hx;refine⟨⟨vs,v,SqL.of (s _ _ e),e1⟩,λv' H3 y=>?_⟩;obtain⟨p,x',hp,rfl,rfl,y⟩:=y;have e2:=y vs (SqL.of (s _ _ e));rw[e1]at e2;cases e2;refine⟨ay hp,λU O hown m=>?_⟩;have em:msk U O (upd H2 p (.tup [.int (i:Int),v])) p=some (.tup [.int (i:Int),v]):=msk_some.mpr ⟨λz=>hown p z hp,aJ⟩;refine .tup em (.cons ?_ (.cons (h1.mono (m.trans (aO (ay hp)))) .nil));rw[Nat.zero_add];exact .int _
 stop:=λH2 s=>⟨vs,SqL.of (s _ _ e),by rw[sY,h.len];exact Nat.le_refl _⟩
variable {p:Pos}
theorem xG {tp:Pos} {l:Expr} {ta:TA} (hg:Gl X "enumerate") (hm:X.mg "enumerate"=none) (ha:PA X [l] ta) (hs:starEach [l] X.env=[(false,eval l X.env)]:=by rfl) :
  PI X (.Tuple es k tp) (.Call (.Name "enumerate" p) [l] [] pos) (λO H R=>ta O H λvs H1=>∃a xs,vs=[.ref a]/\SqL X.K H1 a xs/\R (Ite X.K a) H1):=by
 intro pins s O H R I h;refine Call_ (gL I hg hm boot_enumerate (PyProof.Rows.callWith_type1 (thn (ha pos pins s O H _ I h) λus s1 zz0=>?_) hs rfl));obtain⟨vs,H1,I1,r1,q1⟩:=zz0;obtain⟨a,xs,e,hq,q⟩:=q1;subst e;cases r1 with
 | cons r rr =>
  cases rr;cases r;obtain⟨its,rv,pl,hz⟩:=I1.list hq;refine call_enumerate_list pl.isList λh' he hit hsz kp=>?_;have I2:Inv X pins O H1 { s1 with heap:=h' }:=I1.kept (t':=s1.toks) kp;refine wpAny_pyIter_enum he ?_;have ne:s1.heap.objs.size+1≠s1.heap.objs.size:=Nat.succ_ne_self _;refine⟨s1.heap.objs.size+1,[s1.heap.objs.size+1,s1.heap.objs.size],_,_,H1,rfl,I2,tN a s1.heap.objs.size (s1.heap.objs.size+1) ne,⟨⟨_,he⟩,hit⟩,λb hb=>?_,q⟩;have hb:b=s1.heap.objs.size+1\/b=s1.heap.objs.size:=by simpa using hb
  have hle:s1.heap.objs.size<=b:=by
   rcases hb with z|z
   ·rw[z];exact Nat.le_succ _
   ·rw[z];exact Nat.le_refl _
  exact I1.fpOk hle (I1.hok.fresh hle)
def rj:List D->R (List D)
 | [.lst xs]=>.val (enu 0 xs)
 | _=>.bad
def e_ (F:Rho->R (List D)):Rho->R (List D):=λU=>(F U).bind rj
theorem cB {tp : Pos} {l : Expr} {F : Rho -> R (List D)} (hg : Gl X "enumerate") (hm : X.mg "enumerate" = none) (ha : AD C X [l] F) (hs : starEach [l] X.env = [(false, eval l X.env)] := by rfl) :
    ID C X (.Tuple es k tp) (.Call (.Name "enumerate" p) [l] [] pos) (e_ F) := kh (xG hg hm ha hs) fun O H R yy0 => by
     obtain ⟨U, ⟨H0, r⟩, q⟩ := yy0
     exact ⟨U, ⟨H0, r⟩, by
  unfold e_ at q
  cases e : F U with
  | val ds =>
    rw [e] at q
    intro vs H1 s1 h1
    dsimp only [DL.R.bind] at q
    unfold rj at q
    split at q
    · rename_i e0
      split at e0
      · rename_i xs
        cases e0
        cases h1 with
        | cons a b =>
          cases b
          cases a with
          | lst e1 g1 => exact ⟨_, _, rfl, SqL.of (msk_sub _ _ e1), q _ H1 s1 (tM e1 g1)⟩
      · cases e0
    · rename_i e0
      split at e0 <;> cases e0
    · exact q.elim
  | exc c => rw [e] at q; exact q
  | bad => rw [e] at q; exact q⟩
def BH:V->List V->Hp->VK->Prop:=λx vs H Q=>∃l xs i y,x=.ref l/\vs=[.int i,y]/\H l=some (.lst xs)/\0<=i/\i<=xs.length/\xs.length<LIM/\Q .non (upd H l (.lst (xs.take i.toNat++y::xs.drop i.toNat)))
theorem t7:MtM X "list.insert" BH:=by
 intro pins s O H x vs v us Q I rx rv h;obtain⟨l,xs,i,y,rfl,rfl,hH,h0,h1,hz,q⟩:=h;cases rx;obtain⟨ui,uy,rfl,⟨tk,rfl⟩,ry⟩:=rv.two;obtain⟨z,its,n,r,hl,e⟩:=I.lstM hH;have hfit:¬(!Builtin.List.listFitsIndex i)=true:=by
  have h63:(xs.length:Int)<2 ^ 63:=by
   have:xs.length<100000:=hz;omega
  have:Builtin.List.listFitsIndex i=true:=by
   unfold Builtin.List.listFitsIndex;rw[Bool.and_eq_true];exact⟨decide_eq_true (by omega),decide_eq_true (by omega)⟩
  rw[this];simp
 refine call_meets F.slot_list_insert ⟨_,e,rfl⟩ F.entry_list_insert (F.args_list_insert_3 _ _ _) (PySem.AutoListH.list_insert_list_int_val_1 l its.toArray n i tk uy hfit (by rw[List.size_toArray,<- hl];exact z)) ⟨e,?_⟩;have hm:min i.toNat its.length=i.toNat:=by omega
 refine⟨.non,_,I.lset (its':=its.take i.toNat++uy::its.drop i.toNat) hH e ?_ ((r.take i.toNat).append (.cons ry (r.drop i.toNat))) ?_,rfl,q⟩
 ·have hlt:¬ i<0:=by omega
  simp only[hlt,if_false,List.size_toArray,hm];apply Array.ext';simp[hm];exact List.take_of_length_le (by rw[List.length_drop];exact Nat.le_refl _)
 ·rw[List.length_append,List.length_cons,List.length_take,List.length_drop];have:xs.length<100000:=hz;have h2:(100000:Nat)<=sizeLine:=by decide
  omega
def ins (i:Nat) (k e:Rho->R D):Rho->R Out:=λU=>match U[i]? with
 | some (some (.own xs))=>(k U).bind λn=>(e U).bind λd=>match n with
  | .int n=>if 0<=n/\n<=xs.length/\xs.length<LIM then .val (.nx (U.set i (some (.own (xs.take n.toNat++d::xs.drop n.toNat)))))else .bad
  | _=>.bad
 | _=>.bad
theorem uZ {i:Nat} {x:Str} {k e:Expr} {ap cp:Pos} {Fk F:Rho->R D} (hv:PE X (.Name x p) (du i)) (hk:ED C X k Fk) (he:ED C X e F)
  (hs:∀{to:TE} {t:TA},PE X (.Name x p) to->PA X [k,e] t->PS X (.Expr (.Call (.Attribute (.Name x p) "insert" ap) [k,e] [] cp) pos) (kz (tBM X.K "list" BH to t)):=by
   exact λho ha=>h7 (jK PySem.F.plainAttrs_list PySem.F.slot_list_insert PySem.F.type_list_insert t7 ho ha))
  (hst:starEach [k,e] X.env=(false,eval k X.env)::starEach [e] X.env:=by rfl) (hst2:starEach [e] X.env=(false,eval e X.env)::starEach [] X.env:=by rfl) :
  SD C X (.Expr (.Call (.Attribute (.Name x p) "insert" ap) [k,e] [] cp) pos) (ins i Fk F) :=
 aY (hs hv (bh hk (bh he ce hst2) hst)) λD O H zz1=>by
  obtain⟨_,H0,⟨U,rfl,r⟩,q⟩:=zz1;unfold ins at q;split at q
  ·rename_i xs e0;obtain⟨a,vs,e1,_,h1,h2⟩:=r.at_ i _ e0;refine⟨_,e1,.inl ⟨rfl,_,SqL.of h1⟩,U,⟨H0,r⟩,aF (P:=λz _=>pS C X z H0 D) (λc h=>cg r h) (λh=>h) q λn v H1 s1 h3 q1=>?_⟩;refine⟨U,⟨H0,r.mono s1⟩,aF (P:=λz _=>pS C X z H0 D) (λc h=>cg (r.mono s1) h) (λh=>h) q1 λd w H2 s2 h4 q2=>?_⟩;cases n with
   | int n =>
    dsimp only at q2;split at q2
    ·rename_i hl;cases h3;have h2':=h2.mono (aO (U:=U) (O:=O) (s1.trans s2));refine⟨a,vs,n,w,rfl,rfl,s2 _ _ (s1 _ _ h1),hl.1,by rw[h2.len];exact hl.2.1,by rw[h2.len];exact hl.2.2,?_⟩;exact q2 _ _ ⟨_,rfl,((r.mono s1).mono s2).write e0 e1 ((h2'.take _).app (.cons h4 (h2'.drop _)))⟩
    ·exact q2.elim
   | _=>exact q2.elim
  ·exact q.elim
def BI (K:Frag) (C:Addr) (neg:Bool):R2:=λv w H Q=>∃x a vs ys,eqb 8 x=true/\ys.all (eqb 8)=true/\Has K C H v x/\w=.ref a/\H a=some (.lst vs)/\HasL K C H vs ys/\Q (.bl (if neg then !(ys.any λy=>pyq 8 y x)else ys.any λy=>pyq 8 y x)) H
open Classical in
theorem ye (I:Inv X pins O H s) {A:Around} (hu:A.units+9<cLine) {x:D} {v:V} {u:Value} {its:List Value} {ys:List D} (e1:eqb 8 x=true) (e2:ys.all (eqb 8)=true) (h1:Has X.K C H v x) (rx:RelV v u)
  (h2:HasL X.K C H vs ys) (r:Vals vs its):∃e:Value->Bool,(∀y,y∈its.toArray->SeqAt.EqAt A.in1 s y u (e y))/\its.toArray.any e=ys.any λy=>pyq 8 y x:=by
 have key:∀(j:Nat) (t:Value) (d:D),its[j]?=some t->ys[j]?=some d->∃w,RelV w t/\Has X.K C H w d:=λj t d q1 q2=>by
  obtain⟨w,g1,g2⟩:=h2.get q2;obtain⟨t',g3,g4⟩:=r.get g1;rw[q1]at g3;cases g3;exact⟨w,g4,g2⟩
 have mem8:∀(j:Nat) d,ys[j]?=some d->eqb 8 d=true:=λj d q=>List.all_eq_true.mp e2 d (List.mem_of_getElem? q);refine⟨λt=>decide (∃(j:Nat) (d:D),its[j]?=some t/\ys[j]?=some d/\pyq 8 d x=true),λt ht=>?_,?_⟩
 ·have ht:t∈its:=by simpa using ht
  obtain⟨j,hj,rfl⟩:=List.mem_iff_getElem.mp ht;have hl:its.length=ys.length:=by rw[<- r.length,h2.len]
  have q1:its[j]?=some its[j]:=by simp[hj]
  have q2:ys[j]?=some (ys[j]'(by omega)):=by simp[show j<ys.length by omega]
  obtain⟨w,g1,g2⟩:=key j _ _ q1 q2;have ok:=(wx I 8 (A:=A.in1) (by show A.units+1+8<cLine;omega) (mem8 j _ q2) e1 g2 h1 g1 rx).2;have:decide (∃(j':Nat) (d:D),its[j']?=some its[j]/\ys[j']?=some d/\pyq 8 d x=true)=pyq 8 (ys[j]'(by omega)) x:=by
   cases hp:pyq 8 (ys[j]'(by omega)) x with
   | true=>exact decide_eq_true ⟨j,_,q1,q2,hp⟩
   | false =>
    refine decide_eq_false λzz2=>?_;obtain⟨j',d,z1,z2,z3⟩:=zz2;obtain⟨w',g1',g2'⟩:=key j' _ _ z1 z2;have ew:w'=w:=RelV.inj g1' g1;subst ew;have:=Has.inj (mem8 j' d z2) (mem8 j _ q2) g2' g2;rw[<- this,z3]at hp;cases hp
  show SeqAt.EqAt A.in1 s its[j] u (decide (∃(j':Nat) (d:D),its[j']?=some its[j]/\ys[j']?=some d/\pyq 8 d x=true));rw[this];exact ok
 ·have hl:its.length=ys.length:=by rw[<- r.length,h2.len]
  rw[Bool.eq_iff_iff];simp only[Array.any_eq_true,List.any_eq_true,decide_eq_true_eq];constructor
  ·rintro⟨i,hi,j,d,q1,q2,q3⟩;exact⟨d,List.mem_of_getElem? q2,q3⟩
  ·rintro⟨d,hd,q3⟩;obtain⟨j,hj,rfl⟩:=List.mem_iff_getElem.mp hd;have hj':j<its.length:=by omega
   exact⟨j,by simpa using hj',j,ys[j],by simp[hj'],by simp[hj],q3⟩
theorem tZ (hu:X.A.units+9<cLine):OpR X (compareOp .NotIn) (BI X.K C true):=by
 intro pins s O H x y v u Q I rx ry h;obtain⟨d,a,vs,ys,e1,e2,h1,rfl,hH,h2,q⟩:=h;cases ry;obtain⟨its,r,pl,hz⟩:=I.list (SqL.of hH);obtain⟨e,he,hany⟩:=ye I hu e1 e2 h1 rx h2 r;exact SeqAt.notIn_listAt e pl.isList he ⟨.bl _,H,I,by rw[hany];rfl,q⟩
def j5 (neg:Bool) (x y:D):R D:=match y with
 | .lst ys=>if eqb 8 x=true/\ys.all (eqb 8)=true then .val (.bl (if neg then !(ys.any λy=>pyq 8 y x)else ys.any λy=>pyq 8 y x))else .bad
 | _=>.bad
theorem z9 (neg:Bool):OpD C X (BI X.K C neg) (j5 neg):=by
 intro U O H v w x y z Q r hx hy e k;unfold j5 at e;split at e
 ·rename_i ys;split at e
  ·rename_i hh;cases e;obtain⟨a,vs,rfl,e1,h2⟩:=hy.lst msk_sub;exact⟨x,a,vs,ys,hh.1,hh.2,hx.has msk_sub,rfl,e1,h2.mono msk_sub,k _ H (Same.refl _) (.bl _)⟩
  ·cases e
 ·cases e
theorem BO (neg:Bool):dk (j5 neg):=λx y c e=>by
 unfold j5 at e;split at e
 ·split at e<;>cases e
 ·cases e
theorem zo (hu:X.A.units+9<cLine) (ha:EB C X a Fa) (hb:EB C X b Fb) (hm:behindInMarks .NotIn b=false:=by rfl):TD C X (.Compare a [.NotIn] [b] pos) (tst (bin (j5 true) Fa Fb)):=jk (tZ (C:=C) hu) (BO _) (z9 _) ha hb hm
end DL
namespace DL
open PySem PySem.Spec PyProof.Rows L2
open AutoSeq1 (wpAny_loadPart')
variable {r:Addr} {a b c:Int} {t u v:Tok} {n:Nat}
section
variable {prog:Program} {w:World} {A:Around} {E:Value->Shared->Prop} {s:Shared}
theorem ji {Q:List Value->Shared->Prop} (hh:A.handled=none) (hr:IsRange s.heap r a b c t u v) (hsmall:Builtin.Range.small a b c=true)
  (hn:Builtin.Range.rangeSize a b c=n) (hlen:n<=2 ^ 24)
  (hQ:∀h' tk acc,(∀b o',s.heap.get? b=some o'->h'.get? b=some o')->ItemsOf (λi v=>∃t,v=.int (a+i*c) t) acc n->Q acc.toList { s with heap:=h',toks:=tk }) :
  wpAny (model prog w) A (collect (.ref r)) Q E s:=by
 unfold collect;refine wpAny_bind (wpAny_runValue (codeAny_builtin F.entry_proto_collect ?_));rw[Around.under_plainId F.plain_proto_collect _];show wpAny _ A.in1 (newList [] >>= λl=>again (.builtin "list.__iadd__" ⟨[l,.ref r],[]⟩)) _ _ s;refine wpAny_bind (wpAny_newObj_type ?_);refine wpAny_pure ⟨plainId_quiet F.plain_list_iadd _,codeAny_builtin F.entry_list_iadd ?_⟩;rw[Around.under_plainId F.plain_list_iadd _];show wpAny _ A.in1 (Builtin.List.listExtendWith (.ref s.heap.objs.size) (.ref r) (.ref s.heap.objs.size)) _ _ _;have hS:(s.heap.push { cls:=.type "list",data:=.seq ([]:List Value).toArray }).get? s.heap.objs.size=some { cls:=.type "list",data:=.seq #[] 0 }:=Heap.get?_push_size _ rfl;have fin':∀h' tk acc c',(∀b o',s.heap.get? b=some o'->h'.get? b=some o')->h'.get? s.heap.objs.size=some { cls:=.type "list",dict:=none,data:=.seq acc c',slots:=#[] }->ItemsOf (λi v=>∃t,v=.int (a+i*c) t) acc n ->
   wpAny (model prog w) A (match Value.ref s.heap.objs.size with
   | Value.ref a=>do
    match(<- load a).data with
     | Data.seq xs _=>pure xs.toList
     | _=>unsupported "internal:collect"
   | _=>unsupported "internal:collect") Q E { s with heap:=h',toks:=tk }:=λh' tk acc c' hk hS' hacc=>by
  show wpAny _ A (load s.heap.objs.size >>= _) _ _ _;refine wpAny_bind (wpAny_load hS' ?_);exact wpAny_pure (hQ h' tk acc hk hacc)
 refine wpAny_mono (wpAny_extend_range (A:=A) (R:=λres s'=>∃h' tk acc c',res=.ok (.ret (.ref s.heap.objs.size))/\s'={ s with heap:=h',toks:=tk }/\(∀b o',s.heap.get? b=some o'->h'.get? b=some o') /\
   h'.get? s.heap.objs.size=some { cls:=.type "list",dict:=none,data:=.seq acc c',slots:=#[] }/\ItemsOf (λi v=>∃t,v=.int (a+i*c) t) acc n)
  (s:={ s with heap:=s.heap.push { cls:=.type "list",data:=.seq ([]:List Value).toArray } }) hh (Heap.get?_push_of_some _ hr) hsmall hn hlen s.heap.objs.size _ 0 hS λh' tk acc' c' hk hS' hacc=>⟨h',tk,acc',c',rfl,rfl,λb o' hb=>hk b o' (Nat.ne_of_lt (Heap.lt_size hb)) (Heap.get?_push_of_some _ hb),hS',hacc⟩) (λfin s' h=>?_) (λe s' h=>?_)
 ·cases fin with
  | done f =>
   obtain⟨h',tk,acc,c',e,rfl,hk,hS',hacc⟩:=h;cases e;exact fin' h' tk acc c' hk hS' hacc
  | again c'=>exact⟨h.1,codeAny_mono h.2 λr s'' hr=>by obtain⟨h',tk,acc,c',rfl,rfl,hk,hS',hacc⟩:=hr;exact fin' h' tk acc c' hk hS' hacc⟩
 ·obtain⟨_,_,_,_,e,_⟩:=h;exact absurd e (by simp)
theorem gX {Q₁:Value->Shared->Prop} (hh:A.handled=none) (hr:IsRange s.heap r a b c t u v) (hsmall:Builtin.Range.small a b c=true)
  (hn:Builtin.Range.rangeSize a b c=n) (hlen:n<=2 ^ 24)
  (h:∀(h':Heap) (tk:Nat) (acc:Array Value),(∀b o',s.heap.get? b=some o'->h'.get? b=some o')->ItemsOf (λi v=>∃t,v=.int (a+i*c) t) acc n->Q₁ (.ref h'.objs.size) { s with heap:=h'.push { cls:=.type "tuple",data:=.seq acc },toks:=tk }) (hsz:n<=sizeLine) :
  codeAny (model prog w) A (.call (.builtin "tuple.__new__") ⟨[.type "tuple",.ref r],[]⟩) (wants Q₁ E) s:=by
 refine codeAny_of_tree ?_;show wpAny _ A.in1 (do checkBuiltinCall "tuple.__new__" ⟨[.type "tuple",.ref r],[]⟩;again (.builtin "tuple.__new__" ⟨[.type "tuple",.ref r],[]⟩)) _ _ s;refine wpAny_bind (wpAny_of_eq (F.newCall_tuple_1 _) (wpAny_pure ⟨plainId_quiet F.plain_tuple_new _,codeAny_builtin F.entry_tuple_new ?_⟩));rw[Around.under_plainId F.plain_tuple_new _];have hsub:=sub_tuple_self;have hinit:=init_tuple_lookup;have hmh:=madeHere_tuple;have hTI:s.TypeIs (.ref r) "range":=⟨_,hr,rfl⟩;have hhi:A.in1.handled=none:=hh
 wp_walk using wpAny_typeOf hTI,ji (A:=A.in1) hhi hr hsmall hn hlen
 intro h' tk acc hk hacc;show wpAny _ _ (Builtin.Tuple.tupleExact acc.toList.toArray >>= λv=>PySem.ret v) _ _ _;unfold Builtin.Tuple.tupleExact;refine wpAny_bind (wpAny_newObj_type ?_ (by show acc.toList.toArray.size<=sizeLine;simp only[Array.toArray_toList];rw[hacc.1];exact hsz));refine wpAny_pure ?_;have e:acc.toList.toArray=acc:=by simp
 rw[e];exact h h' tk acc hk hacc
theorem jE {Q:Value->Shared->Prop} (hh:A.handled=none) (hr:IsRange s.heap r a b c t u v) (hsmall:Builtin.Range.small a b c=true)
  (hn:Builtin.Range.rangeSize a b c=n) (hlen:n<=2 ^ 24)
  (h:∀(h':Heap) (tk:Nat) (acc:Array Value),(∀b o',s.heap.get? b=some o'->h'.get? b=some o')->ItemsOf (λi v=>∃t,v=.int (a+i*c) t) acc n->Q (.ref h'.objs.size) { s with heap:=h'.push { cls:=.type "tuple",data:=.seq acc },toks:=tk }) (hsz:n<=sizeLine) :
  wpAny (model prog w) A (call (.type "tuple") [.ref r]) Q E s:=by
 refine callType_codes (Q₁:=λobj s₁=>s₁.TypeIs obj "tuple"/\Q obj s₁) F.called_tuple (F.typeCall_tuple_1 _) F.entry_object_init
  (gX hh hr hsmall hn hlen (λh' tk acc hm hacc=>⟨⟨_,Heap.get?_push_size _ rfl,rfl⟩,h h' tk acc hm hacc⟩) hsz) λobj s₁ h₁=>?_
 exact⟨h₁.1,F.args_object_init_2 obj _,object_init_meets F.called_tuple.init.lookup F.called_tuple.made (by decide) prog w A.in1 _ s₁ ⟨h₁.1,rfl,h₁.2⟩⟩
end
section
variable {C:Addr} {X:Cx}
def Cz (ta:TA):TE:=λO H Q=>ta O H λvs H1=>∃j:Int,vs=[.int j]/\-(2 ^ 62)<=j/\j<2 ^ 62/\∀r,H1 r=none->Q (.ref r) (upd H1 r (.rng 0 j))
theorem vw {a:Expr} {ta:TA} {p pos:Pos} (hg:Gl X "range") (hm:X.mg "range"=none) (ha:PA X [a] ta) (hs:starEach [a] X.env=[(false,eval a X.env)]:=by rfl):PE X (.Call (.Name "range" p) [a] [] pos) (Cz ta):=by
 intro pins s O H Q I h;refine Call_ (gL I hg hm boot_range (PyProof.Rows.callWith_type1 (thn (ha pos pins s O H _ I h) λus s1 zz0=>?_) hs rfl));obtain⟨vs,H1,I1,r1,q1⟩:=zz0;obtain⟨j,e,q1,q2,q⟩:=q1;subst e;cases r1 with
 | cons r rr =>
  cases rr;obtain⟨t,rfl⟩:=r;refine call_range_1 ?_;exact⟨.ref s1.heap.objs.size,_,I1.laid (a:=s1.heap.objs.size) (o:=.rng 0 j) (λb u e=>Heap.get?_push_of_some _ e) (Nat.le_refl _) ⟨_,_,_,Heap.get?_push_size _ rfl⟩,rfl,q _ I1.fresh⟩
theorem ky {acc:List Value} (h:acc.length=n) (hv:∀(j:Nat) v,acc[j]?=some v->∃t,v=.int (0+(j:Int)*1) t):Vals ((List.range n).map λ(k:Nat)=>V.int (0+(k:Int))) acc:=by
 induction n generalizing acc with
 | zero=>cases acc with
  | nil=>exact .nil
  | cons x r=>simp at h
 | succ n ih =>
  have hne:acc≠[]:=by intro z;rw[z]at h;cases h
  have e:acc=acc.dropLast++[acc.getLast hne]:=(List.dropLast_concat_getLast hne).symm;have hl:acc.dropLast.length=n:=by rw[List.length_dropLast,h];rfl
  rw[List.range_succ,List.map_append,e];refine Vals.append (ih hl λj v q=>?_) (.cons ?_ .nil)
  ·refine hv j v ?_;rw[e,List.getElem?_append_left (List.getElem?_eq_some_iff.mp q).1];exact q
  ·obtain⟨t,et⟩:=hv n (acc.getLast hne) (by rw[List.getLast_eq_getElem,List.getElem?_eq_getElem (by omega)];congr 1;simp[h]);exact⟨t,by rw[et];simp⟩
def u9:List V->Hp->VK->Prop:=λxs H Q=>∃r j,xs=[.ref r]/\H r=some (.rng 0 j)/\-(2 ^ 62)<=j/\j<=100000/\∀p,H p=none->Q (.ref p) (upd H p (.tup ((List.range j.toNat).map λ(k:Nat)=>V.int (0+(k:Int)))))
theorem gZ (hc:X.calm=true):iC X (.type "tuple") u9:=by
 intro pins s O H xs us Q I r h;obtain⟨ra,j,rfl,hq,hj0,hj,q⟩:=h;obtain⟨u,rfl,rx⟩:=mQ r;cases rx;obtain⟨t,u',v',e⟩:=I.hok ra _ hq;have hn:Builtin.Range.rangeSize 0 j 1=(j.toNat:Nat):=by rw[rangeSize_one];split<;>omega
 have hsm:Builtin.Range.small 0 j 1=true:=small_one (by decide) (by decide) hj0 (by omega);refine jE (n:=j.toNat) (I.ok.hd hc) e hsm hn (by omega) (λh' tk acc hk hacc=>?_) (Nat.le_trans (show j.toNat<=100000 by omega) (by decide));have I1:Inv X pins O H { s with heap:=h',toks:=tk }:=I.kept hk;have hv:Vals ((List.range j.toNat).map λ(k:Nat)=>V.int (0+(k:Int))) acc.toList:=ky (by simpa using hacc.1) λi v q=>hacc.2 i v (by simpa using q);have I2:Inv X pins O (upd H h'.objs.size (.tup ((List.range j.toNat).map λ(k:Nat)=>V.int (0+(k:Int))))) { s with heap:=h'.push { cls:=.type "tuple",data:=.seq acc },toks:=tk } :=
  I1.laid (t':=tk) (λb o e=>Heap.get?_push_of_some _ e) (Nat.le_refl _) (show ObjOk X.prog X.w _ _ _ (.tup _)from⟨by rw[List.length_map,List.length_range];exact Nat.le_trans (show j.toNat<=100000 by omega) (by decide),acc.toList,hv,by simpa using IsTup.new _ _⟩)
 exact⟨.ref h'.objs.size,_,I2,rfl,q _ I1.fresh⟩
def rgT:List D->R D
 | [.int j]=>if -(2 ^ 62)<=j/\j<=100000 then .val (.tup (rng 0 j.toNat))else .bad
 | _=>.bad
def gT (F:Rho->R (List D)):Rho->R D:=λU=>(F U).bind rgT
theorem p_ {K:Frag} {H:Hp} (n:Nat):HasL K C H ((List.range n).map λ(k:Nat)=>V.int (0+(k:Int))) (rng 0 n):=by
 unfold rng
 induction List.range n with
 | nil=>exact .nil
 | cons x r ih=>exact .cons (.int _) ih
theorem qj {a : Expr} {p p2 pos pos2 : Pos} {F : Rho -> R (List D)} (hc : X.calm = true) (ha : AD C X [a] F) (hgr : Gl X "range") (hmr : X.mg "range" = none) (hgt : Gl X "tuple") (hmt : X.mg "tuple" = none)
    (hs : starEach [a] X.env = [(false, eval a X.env)] := by rfl) (hs2 : starEach [.Call (.Name "range" p2) [a] [] pos2] X.env = (false, eval (.Call (.Name "range" p2) [a] [] pos2) X.env) :: starEach [] X.env := by rfl)
    (hs3 : ∀ t : TA, PA X [.Call (.Name "range" p2) [a] [] pos2] t -> PE X (.Call (.Name "tuple" p) [.Call (.Name "range" p2) [a] [] pos2] [] pos) (tCB u9 t) := by
      exact fun t ha => bN (gZ (by assumption)) (by assumption) (by assumption) PySem.boot_tuple ha) :
    ED C X (.Call (.Name "tuple" p) [.Call (.Name "range" p2) [a] [] pos2] [] pos) (gT F) :=
  aA (hs3 _ (bh (vw hgr hmr ha hs) ce hs2)) fun O H Q yy0 => by
   obtain ⟨U, ⟨H0, r⟩, q⟩ := yy0
   exact ⟨U, ⟨H0, r⟩, ck (P := fun z H => pV X (cj C X U O) z O H Q) (fun _ h => h) (fun h => h) q fun ds vs H1 s1 h1 q1 => by
    unfold rgT at q1
    split at q1
    · rename_i j
      split at q1
      · rename_i hj
        cases h1 with
        | cons a b =>
          cases a; cases b
          refine ⟨j, rfl, hj.1, by omega, fun ra hra => ⟨ra, j, rfl, aJ, hj.1, hj.2, fun pa hpa => q1 _ _ ((s1.trans (ay hra)).trans (ay hpa)) ?_⟩⟩
          exact .tup (((r.mono s1).mono (ay hra)).new hpa) (p_ _)
      · exact q1.elim
    · exact q1.elim⟩
end
end DL
namespace DL
open PySem PySem.Spec PyProof.Rows L2
def IsArr (h:Heap) (k:KA) (a:Addr):Prop:=∃ta t1 t2 its,IsTup h a #[.int k.1 t1,.int k.2.1 t2,.ref ta]/\IsTup h ta its.toArray/\IntsAre its k.2.2
theorem p8 {prog:Program} {w:World}:∀{its:List Value} {ks:List Int},IntsAre its ks->ItemsAre (intKind prog w) ks its
 | _,_,.nil=>.nil
 | _,_,.cons n t h=>.cons (by show Value.isInt n (.int n t)=true;simp[Value.isInt]) (p8 h)
variable {h:Heap}
theorem nv {prog:Program} {w:World} {ta:Addr} {its:List Value} {ks:List Int} (h1:IsTup h ta its.toArray) (h2:IntsAre its ks):IsTupleKey (intKind prog w) h ks ta:=by
 obtain⟨o,ho,hc,n,hd⟩:=h1;exact⟨o,its.toArray,n,ho,hc,hd,by simpa using p8 h2⟩
theorem jO:∀{its:List Value} {ks ls:List Int},IntsAre its ks->IntsAre its ls->ks=ls
 | _,_,_,.nil,.nil=>rfl
 | _,_,_,.cons n t h,.cons _ _ h'=>by rw[jO h h']
variable {a:Addr}
theorem m6 {x y:Array Value} (h1:IsTup h a x) (h2:IsTup h a y):x=y:=by
 obtain⟨o,ho,hc,n,hd⟩:=h1;obtain⟨o',ho',hc',n',hd'⟩:=h2;rw[ho]at ho';cases ho';rw[hd]at hd';injection hd'
variable {k:KA}
theorem IsArr.inj {l:KA} (h1:IsArr h k a) (h2:IsArr h l a):k=l:=by
 obtain⟨ta,t1,t2,its,q1,q2,q3⟩:=h1;obtain⟨tb,u1,u2,jts,p1,p2,p3⟩:=h2;have e:=m6 q1 p1;have e':=congrArg Array.toList e;simp only[List.cons.injEq,Value.int.injEq,Value.ref.injEq]at e';obtain⟨⟨e1,_⟩,⟨e2,_⟩,e3,_⟩:=e';subst e3;have e4:=m6 q2 p2;have e5:its=jts:=by simpa using congrArg Array.toList e4
 subst e5;have e6:=jO q3 p3;obtain⟨a1,a2,a3⟩:=k;obtain⟨b1,b2,b3⟩:=l;simp only at e1 e2 e6;rw[e1,e2,e6]
theorem jN {h':Heap} {d:Addr} {o:Obj} {es ep} {x:Array Value} (hx:IsTup h a x) (ho:h.get? d=some o) (hd:o.data=.dict es ep) (hs:Heap.SameBut d h h'):IsTup h' a x:=by
 obtain⟨o',ho',hc,n,hd'⟩:=hx;have hne:a≠d:=by
  rintro rfl;rw[ho]at ho';cases ho';rw[hd]at hd';cases hd'
 exact⟨o',(hs.2 a hne).trans ho',hc,n,hd'⟩
section
variable {prog:Program} {w:World} {A:Around} {E:Value->Shared->Prop} {s:Shared}
theorem qN {Q:Int->Shared->Prop} (hu:A.units+2<cLine) (hk:IsArr s.heap k a) (h:Q (kj k) { s with toks:=s.toks+(k.2.2.length+4) }):wpAny (model prog w) A (pyHash (.ref a)) Q E s:=by
 obtain⟨ta,t1,t2,its,q1,q2,q3⟩:=hk;have hT:s.TypeIs (.ref a) "tuple":=let ⟨o,ho,hc,_⟩:=q1;⟨o,ho,hc⟩;obtain⟨o,ho,_,n,hd⟩:=id q1;unfold pyHash
 first|unfold pyHashByItsType|skip
 first|refine wpAny_bind (wpAny_cRoomFor_or (.inr (by omega)) ?_)|skip
 refine wpAny_bind (wpAny_specialOf hT F.slot_tuple_hash.lookup ?_);show wpAny _ _ (if(some (Value.builtin "tuple.__hash__")==some Value.none)=true then _ else _) Q E s;rw[if_neg (by rw[beq_builtin_none];exact Bool.false_ne_true)];refine wpAny_bind (wpAny_specialOf hT F.slot_tuple_hash.lookup ?_);show wpAny _ _ (callSpecialIfBoundUnlessNone? (.ref a) "__hash__" _ >>= _) Q E s;refine wpAny_bind (wpAny_callSpecialIfBoundUnlessNone?_slot hT F.slot_tuple_hash (wpAny_call_entry F.slot_tuple_hash hT F.entry_tuple_hash ?_ (F.args_tuple_hash_1 _)));show wpAny _ _ (Builtin.Tuple.tupleItemsOf (.ref a) >>= _) _ _ s;refine wpAny_bind (wpAny_tupleItemsOf ho hd ?_);refine wpAny_bind ?_;rw[<- Array.forIn_toList];simp only[List.forIn_cons,List.forIn_nil];refine wpAny_bind (wpAny_bind (wpAny_pyHash_int ?_));refine wpAny_pure ?_;refine wpAny_bind (wpAny_bind (wpAny_pyHash_int ?_));refine wpAny_pure ?_;refine wpAny_bind (wpAny_bind (wpAny_pyHash_tuple (knd:=intKind prog w) (ks:=k.2.2) (by show A.units+1<cLine;omega) (nv q2 q3) ?_));refine wpAny_pure (wpAny_pure ?_);show wpAny _ _ (retInt (Builtin.Tuple.tupleHashOf _)) _ _ _;refine wpAny_ret_mkInt ?_;have e:((((#[]:Array Int).push (hashInt k.1)).push (hashInt k.2.1)).push (tupleKeyHash (intKind prog w) k.2.2)).toList=[hashInt k.1,hashInt k.2.1,reduceHash (Builtin.Tuple.tupleHashOf (k.2.2.map hashInt))]:=rfl;rw[e];unfold kj at h;generalize hg:Builtin.Tuple.tupleHashOf [hashInt k.1,hashInt k.2.1,reduceHash (Builtin.Tuple.tupleHashOf (k.2.2.map hashInt))]=G at h ⊢;show wpAny _ _ (if(decide (-(2:Int) ^ 63<=G)&&decide (G<2 ^ 63))=true then _ else _) Q E _;unfold reduceHash at h;by_cases hr:(decide (-(2:Int) ^ 63<=G)&&decide (G<2 ^ 63))=true
 ·rw[if_pos hr];rw[if_pos hr]at h;refine wpAny_pure ?_;simpa[Nat.add_assoc,Nat.add_comm,Nat.add_left_comm]using h
 ·rw[if_neg hr];rw[if_neg hr]at h;refine wpAny_bind (wpAny_rule (wpAny_pure ?_));simpa[Nat.add_assoc,Nat.add_comm,Nat.add_left_comm]using h
theorem wy {l:KA} {b:Addr} (hu:A.units+2<cLine) (hk:IsArr s.heap k a) (hl:IsArr s.heap l b):SeqAt.EqAt A s (.ref a) (.ref b) (decide (k=l)):=by
 by_cases hab:a=b
 ·subst hab;rw[hk.inj hl,decide_eq_true rfl];exact SeqAt.EqAt.same _
 ·refine SeqAt.EqAt.of_refs hab ?_;obtain⟨ta,t1,t2,its,q1,q2,q3⟩:=hk;obtain⟨tb,u1,u2,jts,p1,p2,p3⟩:=hl;have z:=SeqAt.RcAt.tuples (A:=A) (s:=s) (e:=λj=>if j=0 then k.1==l.1 else if j=1 then k.2.1==l.2.1 else decide (k.2.2=l.2.2)) q1 p1 (by omega) λj h1 h2=>by
   have hj:j=0\/j=1\/j=2:=by
    have:j<3:=h1;omega
   rcases hj with rfl|rfl|rfl
   ·exact SeqAt.EqAt.int_int _ _ _ _
   ·exact SeqAt.EqAt.int_int _ _ _ _
   ·exact λprog w E Q hq=>wpAny_eqBool_tuple (knd:=intKind prog w) (by show A.units+1<cLine;omega) (nv q2 q3) (nv p2 p3) hq
  have e:((List.range (min (#[Value.int k.1 t1,.int k.2.1 t2,.ref ta]:Array Value).size (#[Value.int l.1 u1,.int l.2.1 u2,.ref tb]:Array Value).size)).all (λj=>if j=0 then k.1==l.1 else if j=1 then k.2.1==l.2.1 else decide (k.2.2=l.2.2)) &&
    (#[Value.int k.1 t1,.int k.2.1 t2,.ref ta]:Array Value).size==(#[Value.int l.1 u1,.int l.2.1 u2,.ref tb]:Array Value).size)=decide (k=l):=by
   obtain⟨a1,a2,a3⟩:=k;obtain⟨b1,b2,b3⟩:=l;show((List.range 3).all _&&true)=_;rw[Bool.eq_iff_iff];simp[List.range_succ]
  rw[e]at z;exact z
theorem tU (n:Nat) {ks:List Int} {Q:Bool->Shared->Prop} (hk:IsTupleKey (intKind prog w) s.heap ks a) (h:Q true s):wpAny (model prog w) A (eqIsQuiet (n+1) (.ref a)) Q E s:=by
 have hT:=hk.typeIs;obtain⟨o,items,m,ho,_,hd,hi⟩:=hk;unfold eqIsQuiet;refine wpAny_bind (wpAny_specialOf hT F.slot_tuple_eq.lookup ?_);show wpAny _ _ (isInstance (.ref a) (.type "tuple") >>= _) _ _ s;refine wpAny_bind (wpAny_isInstance hT isSubtype_tuple_tuple ?_);simp only[Bool.not_true,Bool.false_eq_true,if_false];refine wpAny_bind (wpAny_seqItems ho hd ?_);refine wpAny_bind ?_;show wpAny _ _ (forIn items _ _) _ _ s;rw[<- Array.forIn_toList];refine wpAny_forIn_list _ (λrest r s'=>r.1=none/\s'=s/\∀v∈rest,carriedByValue v=true) _ ?_ ?_ _ _ ⟨rfl,rfl,hi.byValue⟩
 ·rintro v rest r s' ⟨hr,rfl,hall⟩;rw[eqIsQuiet_byValue _ (hall v List.mem_cons_self)];refine wpAny_bind (wpAny_pure ?_);simp only[Bool.not_true,Bool.false_eq_true,if_false];exact wpAny_pure ⟨rfl,rfl,λu hu'=>hall u (List.mem_cons_of_mem _ hu')⟩
 ·rintro⟨r1,r2⟩ s' ⟨hr,rfl,_⟩;simp only at hr;subst hr;exact wpAny_pure h
theorem tV {Q:Bool->Shared->Prop} (hk:IsArr s.heap k a) (h:Q true s):wpAny (model prog w) A (eqIsQuiet 8 (.ref a)) Q E s:=by
 obtain⟨ta,t1,t2,its,q1,q2,q3⟩:=hk;have hT:s.TypeIs (.ref a) "tuple":=let ⟨o,ho,hc,_⟩:=q1;⟨o,ho,hc⟩;obtain⟨o,ho,_,n,hd⟩:=id q1;unfold eqIsQuiet;refine wpAny_bind (wpAny_specialOf hT F.slot_tuple_eq.lookup ?_);show wpAny _ _ (isInstance (.ref a) (.type "tuple") >>= _) _ _ s;refine wpAny_bind (wpAny_isInstance hT isSubtype_tuple_tuple ?_);simp only[Bool.not_true,Bool.false_eq_true,if_false];refine wpAny_bind (wpAny_seqItems ho hd ?_);refine wpAny_bind ?_;show wpAny _ _ (forIn (#[Value.int k.1 t1,.int k.2.1 t2,.ref ta]:Array Value) _ _) _ _ s;rw[<- Array.forIn_toList];refine wpAny_forIn_list _ (λrest r s'=>r.1=none/\s'=s/\∀v∈rest,carriedByValue v=true\/v=.ref ta) _ ?_ ?_ _ _ ⟨rfl,rfl,λv hv=>?_⟩
 ·rintro v rest r s' ⟨hr,rfl,hall⟩;rcases hall v List.mem_cons_self with hv|rfl
  ·rw[eqIsQuiet_byValue _ hv];refine wpAny_bind (wpAny_pure ?_);simp only[Bool.not_true,Bool.false_eq_true,if_false];exact wpAny_pure ⟨rfl,rfl,λu hu'=>hall u (List.mem_cons_of_mem _ hu')⟩
  ·refine wpAny_bind (tU (prog:=prog) (w:=w) 6 (nv q2 q3) ?_);simp only[Bool.not_true,Bool.false_eq_true,if_false];exact wpAny_pure ⟨rfl,rfl,λu hu'=>hall u (List.mem_cons_of_mem _ hu')⟩
 ·rintro⟨r1,r2⟩ s' ⟨hr,rfl,_⟩;simp only at hr;subst hr;exact wpAny_pure h
 ·have hv:v∈[Value.int k.1 t1,.int k.2.1 t2,.ref ta]:=hv;simp only[List.mem_cons,List.not_mem_nil,or_false]at hv;rcases hv with rfl|rfl|rfl
  ·exact .inl rfl
  ·exact .inl rfl
  ·exact .inr rfl
end
def kx (prog:Program) (w:World):HeapKind prog w KA where
 is:=IsArr
 hash:=kj
 draws:=λk=>k.2.2.length+4
 room:=λA=>A.units+2<cLine
 inj:=λhx hy=>hx.inj hy
 keeps:=λhx ho hd hs=>by
  obtain⟨ta,t1,t2,its,q1,q2,q3⟩:=hx;exact⟨ta,t1,t2,its,jN q1 ho hd hs,jN q2 ho hd hs,q3⟩
 pyHash:=λhu hk h=>qN hu hk h
 eqBool:=λhu hx hy h=>wy hu hx hy _ _ _ _ h
 quiet:=λhk h=>tV hk h
variable {C:Addr} {X:Cx}
variable {O:St} {H:Hp}
theorem iZ {pins:List (Addr×Obj)} {s:Shared} (I:Inv X pins O H s) {kb:Addr} (h:KeyIn H k kb):IsArr s.heap k kb:=by
 obtain⟨ta,h1,h2⟩:=h;obtain⟨its,r,p,_⟩:=I.tuple (SqT.of h1);obtain⟨jts,r2,p2,_⟩:=I.tuple (SqT.of h2);cases r with
 | cons a b =>
  cases b with
  | cons c d =>
   cases d with
   | cons e f =>
    cases f;obtain⟨t1,rfl⟩:=a;obtain⟨t2,rfl⟩:=c;cases e;exact⟨ta,t1,t2,jts,p,p2,q8 r2⟩
variable {xs:List (KA×Addr×Value)}
theorem oE {pins:List (Addr×Obj)} {s:Shared} (I:Inv X pins O H s) (e:H a=some (ja a xs)) (hk:∀x∈xs,KeyIn H x.1 x.2.1) (nd:(xs.map (·.1)).Nodup) :
  s.heap.DictOfH (kx X.prog X.w) a xs/\(a==sysModules)=false/\xs.length<=100001:=by
 obtain⟨⟨h1,hl,o,es,ep,h2,h3,h4,h5⟩,_⟩:=I.hok a _ e;exact⟨⟨o,es,ep,h2,h3,h4,h5,λx hx=>iZ I (hk x hx),nd⟩,h1,hl⟩
def CM:R2:=λx y H Q=>∃a xs kb k p v,x=.ref a/\y=.ref kb/\H a=some (ja a xs)/\(∀x∈xs,KeyIn H x.1 x.2.1)/\(xs.map (·.1)).Nodup/\KeyIn H k kb/\atKey xs k=some p/\RelV v p.2/\Q v H
theorem Aw (hu:X.A.units+3<cLine):IxR X CM:=by
 intro value slice pins s O H x y v u Q I rx ry h hs;obtain⟨a,xs,kb,k,p,v',rfl,rfl,e,hk,nd,hkey,hp,rp,q⟩:=h;cases rx;cases ry;obtain⟨hD,_,_⟩:=oE I e hk nd;exact subscriptTail_builtinR (x:=p.2) hD.typeIs slot_dict_getitem.lookup
  (wpAny_getItem_heap (knd:=kx X.prog X.w) (Q:=λr s'=>r=p.2/\EP X pins O Q r s') (by show X.A.units+1+2<cLine;omega) (iZ I hkey) hD hp ⟨rfl,v',H,I.tok _,rp,q⟩) hs
def CO (neg:Bool):R2:=λx y H Q=>∃a xs kb k,x=.ref kb/\y=.ref a/\H a=some (ja a xs)/\(∀x∈xs,KeyIn H x.1 x.2.1)/\(xs.map (·.1)).Nodup/\KeyIn H k kb/\Q (.bl (if neg then !(atKey xs k).isSome else(atKey xs k).isSome)) H
theorem xS (hu:X.A.units+3<cLine):OpR X (compareOp .NotIn) (CO true):=by
 intro pins s O H x y v u Q I rx ry h;obtain⟨a,xs,kb,k,rfl,rfl,e,hk,nd,hkey,q⟩:=h;cases rx;cases ry;obtain⟨hD,hs,_⟩:=oE I e hk nd;exact wpAny_notIn_heap (knd:=kx X.prog X.w) (by show X.A.units+1+2<cLine;omega) (iZ I hkey) hs hD ⟨.bl _,H,I.tok _,rfl,q⟩
def BD:yW:=λo i v H Q=>∃a xs kb k,o=.ref a/\i=.ref kb/\H a=some (ja a xs)/\(∀x∈xs,KeyIn H x.1 x.2.1)/\(xs.map (·.1)).Nodup/\KeyIn H k kb/\xs.length<=100000/\∀u,RelV v u->((storedH xs k kb u).map (·.1)).Nodup->Q (upd H a (ja a (storedH xs k kb u)))
theorem lP:∀h1 h2:Heap,dOk a xs h1->(∀o,h1.get? a=some o->h2.get? a=some o)->dOk a xs h2:=λh1 h2 ⟨p1,p2,o,es,ep,e1,e2,e3,e4⟩ k=>⟨p1,p2,o,es,ep,k o e1,e2,e3,e4⟩
theorem rO (hu:X.A.units+3<cLine):Ci X BD:=by
 intro pins s O H o i v ov iv u Q I ro ri rv h;obtain⟨a,xs,kb,k,rfl,rfl,e,hk,nd,hkey,hl,q⟩:=h;cases ro;cases ri;obtain⟨hD,hs,_⟩:=oE I e hk nd;refine wpAny_setItem_heap (knd:=kx X.prog X.w) (by show X.A.units+1+2<cLine;omega) (iZ I hkey) hD (λh' hD' sb=>?_) (Nat.le_trans hl (by decide));obtain⟨o',es,ep,e1,e2,e3,e4,_,nd'⟩:=hD';have len:(storedH xs k kb u).length<=100001:=by
  cases z:atKey xs k with
  | none=>rw[storedH_new z];simp;omega
  | some p=>rw[storedH_old z];simp;omega
 refine⟨_,I.write (x:=a) (e:=a) (by rw[e];exact True.intro) (.inl rfl) (λb w hb z=>(sb.2 b hb).trans z) ⟨o',e1⟩ ?_,q u rv nd'⟩;exact⟨⟨hs,len,o',es,ep,e1,e2,e3,e4⟩,⟨o',e1⟩,lP⟩
def lq (kvs:List (KA×D)) (k:KA) (d:D):List (KA×D):=if(kvs.any λp=>decide (p.1=k))=true then kvs.map (λp=>if p.1=k then(p.1,d)else p)else kvs++[(k,d)]
def qX (kvs:List (KA×D)) (k:KA):Option D:=(kvs.find? λp=>decide (p.1=k)).map (·.2)
def ip:List D->Option (List Int)
 | []=>some []
 | .int i::r=>(ip r).map (i :: ·)
 | _=>none
def mG:D->Option KA
 | .tup [.int a,.int b,.tup xs]=>(ip xs).map λl=>(a,b,l)
 | _=>none
theorem jx {K:Frag} {M:Hp}:∀{xs:List D} {l:List Int} {vs:List V},ip xs=some l->HasL K C M vs xs->vs=l.map V.int
 | [],l,vs,e,h=>by cases e;cases h;rfl
 | x::r,l,vs,e,h=>by
  cases x with
  | int i =>
   rw[ip]at e;cases z:ip r with
   | none=>rw[z]at e;cases e
   | some l' =>
    rw[z]at e;cases e;cases h with
    | cons a b=>cases a;rw[jx z b];rfl
  | _=>cases e
variable {K:Frag}
theorem oj {M:Hp} {d:D} {v:V} (e:mG d=some k) (h:Has K C M v d):∃kb,v=.ref kb/\KeyIn M k kb:=by
 unfold mG at e;split at e
 ·rename_i a b xs;cases z:ip xs with
  | none=>rw[z]at e;cases e
  | some l =>
   rw[z]at e;cases e;cases h with
   | tup q hl =>
    cases hl with
    | cons h1 hl =>
     cases h1;cases hl with
     | cons h2 hl =>
      cases h2;cases hl with
      | cons h3 hl =>
       cases hl;cases h3 with
       | tup q2 g=>rw[jx z g]at q2;exact⟨_,rfl,_,q,q2⟩
 ·cases e
variable {kvs:List (KA×D)}
section
variable {K:Frag} {M:Hp}
theorem oz:∀{kvs:List (KA×D)} {xs:List (KA×Addr×Value)} {k:KA},Paired (EntOk K C M) kvs xs->(atKey xs k).isSome=kvs.any λp=>decide (p.1=k)
 | _,_,k,.nil=>rfl
 | _,_,k,.cons (a:=p) (b:=q) h t=>by
  have ih:=oz (k:=k) t;have e:=h.1;unfold atKey at ih ⊢;rw[List.find?_cons,List.any_cons,<- e];by_cases z:p.1=k
  ·rw[decide_eq_true z];rfl
  ·rw[decide_eq_false z];exact ih
theorem tf:∀{kvs:List (KA×D)} {xs:List (KA×Addr×Value)} {k:KA} {d:D},Paired (EntOk K C M) kvs xs->qX kvs k=some d->∃p v,atKey xs k=some p/\RelV v p.2/\Has K C M v d
 | _,_,k,d,.nil,e=>by cases e
 | _,_,k,d,.cons (a:=p) (b:=q) h t,e=>by
  obtain⟨e1,_,v,h1,h2⟩:=h;unfold qX at e;unfold atKey;rw[List.find?_cons]at e ⊢;rw[<- e1];by_cases z:p.1=k
  ·rw[decide_eq_true z]at e ⊢;cases e;exact⟨_,v,rfl,h1,h2⟩
  ·rw[decide_eq_false z]at e ⊢;exact tf t e
theorem gQ:∀{kvs:List (KA×D)} {xs:List (KA×Addr×Value)},Paired (EntOk K C M) kvs xs->∀x∈xs,KeyIn M x.1 x.2.1
 | _,_,.nil,x,hx=>by cases hx
 | _,_,.cons h t,x,hx=>by
  rcases List.mem_cons.mp hx with rfl|hx
  ·rw[<- h.1];exact h.2.1
  ·exact gQ t x hx
theorem td {k:KA} {d:D} {u:Value} {v:V} (rv:RelV v u) (hv:Has K C M v d):∀{kvs:List (KA×D)} {xs:List (KA×Addr×Value)},Paired (EntOk K C M) kvs xs->Paired (EntOk K C M) (kvs.map λp=>if p.1=k then(p.1,d)else p) (xs.map (putAt k u))
 | _,_,.nil=>.nil
 | _,_,.cons (a:=p) (b:=q) h t=>by
  refine .cons ?_ (td rv hv t);obtain⟨e1,h2,v',h3,h4⟩:=h;show EntOk K C M (if p.1=k then(p.1,d)else p) (if q.1=k then(q.1,q.2.1,u)else q);rw[<- e1];by_cases z:p.1=k
  ·rw[if_pos z,if_pos z];exact⟨rfl,h2,v,rv,hv⟩
  ·rw[if_neg z,if_neg z];exact⟨e1,h2,v',h3,h4⟩
theorem s_ {d:D} {u:Value} {v:V} {kb:Addr} (rv:RelV v u) (hv:Has K C M v d) (hk:KeyIn M k kb) (h:Paired (EntOk K C M) kvs xs):Paired (EntOk K C M) (lq kvs k d) (storedH xs k kb u):=by
 unfold lq;have e:=oz (k:=k) h;by_cases z:(kvs.any λp=>decide (p.1=k))=true
 ·rw[if_pos z];rw[z]at e;obtain⟨p,hp⟩:=Option.isSome_iff_exists.mp e;rw[storedH_old hp];exact td rv hv h
 ·rw[if_neg z];have:atKey xs k=none:=by
   cases q:atKey xs k with
   | none=>rfl
   | some p=>rw[q]at e;exact absurd e.symm z
  rw[storedH_new this];exact Paired.snoc h ⟨rfl,hk,v,rv,hv⟩
end
variable {i:Nat}
theorem Rel.setDic {H0:Hp} {U:RB} (r:Rel K C H0 U O H) (hn:H a=none):Rel K C H0 (U.put i (.dic []) [a]) (O.set i (some (.ref a))) (upd H a (ja a [])) :=
 r.put ke (λj hj=>List.getElem?_set_ne λz=>hj z.symm) (λb hb=>.inr (by cases List.mem_singleton.mp hb;exact hn)) (λj _=>.of (ay hn)) (λb o e=>ay hn b o (msk_some.mp e).2)
  (λb hb=>.inr (by cases List.mem_singleton.mp hb;exact⟨[],aJ⟩)) λhi s=>⟨a,nF (by rw[<- r.len];exact hi),List.mem_singleton.mpr rfl,[],aJ,List.nodup_nil,.nil⟩
theorem Rel.putDic {H0:Hp} {U:RB} (r:Rel K C H0 U O H) {kvs':List (KA×D)} {xs':List (KA×Addr×Value)} (e:U.rho[i]?=some (some (.dic kvs))) (q:O[i]?=some (some (.ref a)))
  (nd:(xs'.map (·.1)).Nodup) (h:Paired (EntOk K C (msk U O H)) kvs' xs'):Rel K C H0 (U.put i (.dic kvs') [a]) O (upd H a (ja a xs')):=by
 obtain⟨b,e1,ha,_⟩:=r.at_ i _ e;rw[q]at e1;cases e1;exact r.put rfl (λj _=>rfl) (λb hb=>.inl (by cases List.mem_singleton.mp hb;exact ha)) (λj hj=>r.apart ha hj) (r.shown ha) (λb hb=>.inr (by cases List.mem_singleton.mp hb;exact⟨xs',aJ⟩))
  λhi s=>⟨a,q,List.mem_singleton.mpr rfl,xs',aJ,nd,Paired.mapP h λp q z=>z.mono s⟩
def wG (i:Nat):Rho->R Out:=λU=>.val (.nx (U.set i (some (.dic []))))
variable {pos:Pos}
theorem vz:PE X (.Dict [] [] pos) (λ_ H Q=>∀p,H p=none->Q (.ref p) (upd H p (ja p []))):=λpins s O H Q I h=>by
 have big:sysModules<s.heap.objs.size:=Nat.lt_trans (by decide) (show mainGlobals<s.heap.objs.size from(I.mod.glob.keeps I.bk).lt);have e1:(s.heap.push { cls:=.type "dict",data:=.dict #[] }).get? s.heap.objs.size=some { cls:=.type "dict",data:=.dict #[] }:=Heap.get?_push_size _ rfl;have ok:dOk s.heap.objs.size [] (s.heap.push { cls:=.type "dict",data:=.dict #[] }):=⟨by simpa using(Nat.ne_of_gt big),Nat.zero_le _,_,#[],_,e1,⟨rfl,rfl,rfl⟩,rfl,rfl⟩;exact wpAny_Dict_empty ⟨.ref s.heap.objs.size,_,I.laid (a:=s.heap.objs.size) (o:=ja s.heap.objs.size []) (t':=s.toks) (λ_ _ q=>Heap.get?_push_of_some _ q) (Nat.le_refl _) ⟨ok,⟨_,e1⟩,lP⟩,rfl,h _ I.fresh⟩
variable {x:Str}
theorem rS {pos' dp:Pos} (hN:X.N.Nodup) (hi:X.N[i]?=some x) (hx:Loc X.env.scope x) (hs:swapsWith (.Dict [] [] dp) (some (.Name x pos')) pos.line X.env=pure false:=by rfl)
    (hf:X.fn x=true\/X.env.scope.names.lookup x=some .local:=by first|exact .inl rfl|exact .inr rfl|assumption):SD C X (.Assign [.Name x pos'] (.Dict [] [] dp) pos) (wG i) :=
  aY (kO hN hi hx vz hs hf) λD O H yy0=>by
   obtain⟨_,H0,⟨U,rfl,r⟩,q⟩:=yy0;exact λp hp=>q _ _ ⟨_,rfl,r.setDic hp⟩
def oC (i:Nat) (k e:Rho->R D):Rho->R Out:=λU=>(e U).bind λd=>(noE (k U)).bind λkd=>match mG kd with
 | some k=>match U[i]? with
  | some (some (.dic kvs))=>if kvs.length<=100000 then .val (.nx (U.set i (some (.dic (lq kvs k d)))))else .bad
  | _=>.bad
 | none=>.bad
theorem kR {M:Hp} (h:Paired (EntOk K C M) kvs xs):kvs.length=xs.length:=Paired.length h
theorem rk {M M':Hp} (m:Same M M') (h:Paired (EntOk K C M) kvs xs):Paired (EntOk K C M') kvs xs:=Paired.mapP h λp q z=>z.mono m
variable {p:Pos} {Fk:Rho->R D}
theorem rR {k e : Expr} {sp : Pos} {F : Rho -> R D} (hu : X.A.units + 3 < cLine) (hv : PE X (.Name x p) (du i)) (hk : ED C X k Fk) (he : ED C X e F)
    (ha : ∀ v, assign (.Subscript (.Name x p) k sp) X.env v = (do
      let ov <- holding [v] (eval (.Name x p) X.env)
      let iv <- holding [v, ov] (eval k X.env)
      standAt sp
      holding [v, ov, iv] (setItem ov iv v)
      release [v, ov, iv] []) := by intro _; rfl)
    (hs : swapsWithSole [.Subscript (.Name x p) k sp] e pos.line X.env = pure false := by rfl) (hw : swappedStores [.Subscript (.Name x p) k sp] e X.env = pure none := by rfl)
    (h1 : (assignEach [.Subscript (.Name x p) k sp] X.env).map (·.2) = [assign (.Subscript (.Name x p) k sp) X.env] := by rfl) :
    SD C X (.Assign [.Subscript (.Name x p) k sp] e pos) (oC i Fk F) :=
  aY (qP he (vp hv hk (rO hu) ha) hs hw h1) fun D O H yy1 => by
   obtain ⟨_, H0, ⟨U, rfl, r⟩, q⟩ := yy1
   exact ⟨U, ⟨H0, r⟩, aF (P := fun z _ => pS C X z H0 D) (fun c h => cg r h) (fun h => h) q fun d v H1 s1 h1 q1 => by
    cases ek : Fk U with
    | exc c => rw [ek] at q1; exact q1.elim
    | bad => rw [ek] at q1; exact q1.elim
    | val kd =>
      rw [ek] at q1
      dsimp only [DL.R.bind, noE] at q1
      split at q1
      · rename_i kk ekk
        split at q1
        · rename_i kvs ei
          split at q1
          · rename_i hl
            obtain ⟨a, ea, _, xs, eH, nd, hp⟩ := r.at_ i _ ei
            refine ⟨_, ea, U, ⟨H0, r.mono s1⟩, ?_⟩
            rw [ek]
            intro kv H2 s2 h2
            obtain ⟨kb, rfl, hkey⟩ := oj ekk h2
            have hp2 := rk (aO (s1.trans s2)) hp
            refine ⟨a, xs, kb, kk, rfl, rfl, s2 _ _ (s1 _ _ eH), fun x hx => (gQ hp2 x hx).mono msk_sub, nd, hkey.mono msk_sub, by rw [<- kR hp]; exact hl, fun u ru nd' => ?_⟩
            exact q1 _ _ ⟨_, rfl, ((r.mono s1).mono s2).putDic ei ea nd' (s_ ru (h1.mono (aO s2)) hkey hp2)⟩
          · exact q1.elim
        · exact q1.elim
      · exact q1.elim⟩
def oF (i:Nat) (k:Rho->R D):Rho->R D:=λU=>match U[i]? with
 | some (some (.dic kvs))=>(k U).bind λkd=>match mG kd with
  | some k=>match qX kvs k with
   | some d=>.val d
   | none=>.bad
  | none=>.bad
 | _=>.bad
theorem tq {k:Expr} (hu:X.A.units+3<cLine) (hv:PE X (.Name x p) (du i)) (hk:ED C X k Fk) (hs:ii k:=by exact λ_ _=>rfl) :
  ED C X (.Subscript (.Name x p) k pos) (oF i Fk) :=
 aA (sd (Aw hu) hv hk hs) λO H Q zz1=>by
  obtain⟨U,⟨H0,r⟩,q⟩:=zz1;unfold oF at q;split at q
  ·rename_i kvs ei;obtain⟨a,ea,_,xs,eH,nd,hp⟩:=r.at_ i _ ei;refine⟨_,ea,U,⟨H0,r⟩,aF (P:=λz H=>pV X (cj C X U O) z O H Q) (λ_ h=>h) (λh=>h) q λkd kv H1 s1 h1 q1=>?_⟩;split at q1
   ·rename_i kk ekk;split at q1
    ·rename_i d eg;obtain⟨kb,rfl,hkey⟩:=oj ekk h1;have hp2:=rk (aO s1) hp;obtain⟨pr,v,e1,e2,e3⟩:=tf hp2 eg;exact⟨a,xs,kb,kk,pr,v,rfl,rfl,s1 _ _ eH,λx hx=>(gQ hp2 x hx).mono msk_sub,nd,hkey.mono msk_sub,e1,e2,q1 v H1 s1 e3⟩
    ·exact q1.elim
   ·exact q1.elim
  ·exact q.elim
def wF (i:Nat) (k:Rho->R D):Rho->R Bool:=λU=>(k U).bind λkd=>match U[i]? with
 | some (some (.dic kvs))=>match mG kd with
  | some k=>.val (!(kvs.any λp=>decide (p.1=k)))
  | none=>.bad
 | _=>.bad
theorem w8 {k : Expr} (hu : X.A.units + 3 < cLine) (hv : PE X (.Name x p) (du i)) (hk : ED C X k Fk) (hm : behindInMarks .NotIn (.Name x p) = false := by rfl) :
    TD C X (.Compare k [.NotIn] [.Name x p] pos) (wF i Fk) :=
  iR (rY (xS hu) hk hv hm) fun O H Q yy2 => by
   obtain ⟨U, ⟨H0, r⟩, q⟩ := yy2
   exact ⟨U, ⟨H0, r⟩, aF (P := fun z H => pB X z O H Q) (fun _ h => h) (fun h => h) q fun kd kv H1 s1 h1 q1 => by
    split at q1
    · rename_i kvs ei
      obtain ⟨a, ea, _, xs, eH, nd, hp⟩ := r.at_ i _ ei
      split at q1
      · rename_i kk ekk
        obtain ⟨kb, rfl, hkey⟩ := oj ekk h1
        have hp2 := rk (aO s1) hp
        refine ⟨_, ea, a, xs, kb, kk, rfl, rfl, s1 _ _ eH, fun x hx => (gQ hp2 x hx).mono msk_sub, nd, hkey.mono msk_sub, _, rfl, ?_⟩
        have := oz (k := kk) hp2
        rw [this]
        exact q1 H1 s1
      · exact q1.elim
    · exact q1.elim⟩
end DL
namespace DL
open PySem PySem.Spec PyProof.Rows L2
variable {C:Addr} {X:Cx}
def fz (i:Nat) (F:Rho->R Out):Rho->R Out:=λU=>F (frz i U)
theorem jm {sts:List Stmt} {F:Rho->R Out} (i:Nat) (h:SDs C X sts F):SDs C X sts (fz i F):=xk i h
def Fn (P:Program) (w:World) (K:Frag) (mg:Str->Option Value) (base:Heap) (C:Addr) (k:Nat) (x:Str) (n:Nat) (den:List D->R D):Prop :=
 ∃f fd ps,FnOk P w K mg base CX0 k f fd ps (spD K C n den)/\mg x=some (.ref f)/\keepIn K (.ref f)=true/\Binds K fd ps []
theorem bp {k:Nat} {A:Around} (r:Room k A):A.units+9<cLine:=by have:=r.un;omega
theorem mW {k:Nat} {A:Around} (r:Room k A):A.units+3<cLine:=by have:=r.un;omega
theorem gD (m:Nat):∀j∈[m],m<=j:=λj hj=>by rw[List.mem_singleton.mp hj];exact Nat.le_refl _
theorem B4 (m:Nat):∀j∈[m,m+1],m<=j:=λj hj=>by
 rcases List.mem_cons.mp hj with h|h
 ·rw[h];exact Nat.le_refl _
 ·rw[List.mem_singleton.mp h];exact Nat.le_succ _
def whD (c:Rho->R Bool) (F:Rho->R Out):Nat->Rho->R Out
 | 0,_=>.bad
 | n+1,U=>(c U).bind λb=>if b=true then(F U).bind λo=>match o with
   | .nx ρ'=>whD c F n ρ'
   | .ct ρ'=>whD c F n ρ'
   | .bk ρ'=>.val (.nx ρ')
   | .rt d=>.val (.rt d)
  else .val (.nx U)
theorem uX {c:Expr} {body:List Stmt} {pos:Pos} {Fc:Rho->R Bool} {F:Rho->R Out} (n:Nat) (hp:PassesOwn (model X.prog X.w) X.A X.env X.xe) (hc:TD C X c Fc) (hb:SDs C X body F):SD C X (.While c body [] pos) (whD Fc F n) :=
  aY (vd hp hc hb) λD O H yy0=>by
   obtain⟨_,H0,⟨U,rfl,r⟩,q⟩:=yy0;exact⟨λm σ' H'=>∃ρ':RB,bV C X H0 ρ' σ' H'/\pS C X (whD Fc F m ρ') H0 D,⟨n,U,r,q⟩,λm σ' H' zz0=>by
    obtain⟨ρ',r',q'⟩:=zz0;cases m with
    | zero=>exact q'.elim
    | succ m =>
      unfold whD at q';refine⟨ρ',⟨H0,r'⟩,iT (P:=λz _=>pS C X z H0 D) (λc h=>cg r' h) (λh=>h) q' λb H1 s1 q1=>?_⟩;cases b with
      | false=>exact Ay (q1 σ' H1 (r'.mono s1).e)
      | true =>
        refine Ax ⟨λO2 H2=>∃U2:RB,bV C X H0 U2 O2 H2/\pS C X (whD Fc F m U2) H0 D,λO2 H2 z=>⟨m,Nat.lt_succ_self _,z⟩,ρ',H0,(r'.mono s1).e,?_⟩;rw[if_pos rfl]at q1;cases eF:F ρ' with
        | val o =>
          rw[eF]at q1;cases o with
          | nx U2=>exact λO4 H4 ⟨β4,e4,r4⟩=>⟨β4,r4,by rw[e4];exact q1⟩
          | ct U2=>exact λO4 H4 ⟨β4,e4,r4⟩=>⟨β4,r4,by rw[e4];exact q1⟩
          | bk U2=>exact λO4 H4 r4=>q1 O4 H4 r4
          | rt d=>exact λv4 H4 s4 h4=>q1 v4 H4 s4 h4
        | exc c=>rw[eF]at q1;exact q1
        | bad=>rw[eF]at q1;exact q1⟩
end DL
namespace DL
open PySem PySem.Spec PyProof.Rows L2
variable {x:Str}
section
variable {env:Env} {r:List Expr} {p:Pos}
theorem aa:starEach (.Name x p::r) env=(false,eval (.Name x p) env)::starEach r env:=rfl
theorem ao {a k}:starEach (.Constant a k p::r) env=(false,eval (.Constant a k p) env)::starEach r env:=rfl
theorem cW {a}:starEach (.List a p::r) env=(false,eval (.List a p) env)::starEach r env:=rfl
theorem kE {a k}:starEach (.Tuple a k p::r) env=(false,eval (.Tuple a k p) env)::starEach r env:=rfl
theorem bo {a b c}:starEach (.BinOp a b c p::r) env=(false,eval (.BinOp a b c p) env)::starEach r env:=rfl
theorem qI {a b}:starEach (.UnaryOp a b p::r) env=(false,eval (.UnaryOp a b p) env)::starEach r env:=rfl
theorem af {a b}:starEach (.Subscript a b p::r) env=(false,eval (.Subscript a b p) env)::starEach r env:=rfl
theorem aT {a b}:starEach (.Attribute a b p::r) env=(false,eval (.Attribute a b p) env)::starEach r env:=rfl
theorem ar {a b c}:starEach (.Call a b c p::r) env=(false,eval (.Call a b c p) env)::starEach r env:=rfl
theorem bi {a b c}:starEach (.ListComp a b c p::r) env=(false,eval (.ListComp a b c p) env)::starEach r env:=rfl
theorem av:(backTo p (starEach [] env)).any (·.1)=false:=rfl
theorem am {e:Expr} (h:starEach (e::r) env=(false,eval e env)::starEach r env) (h2:(backTo p (starEach r env)).any (·.1)=false):(backTo p (starEach (e::r) env)).any (·.1)=false:=by
 rw[h];exact h2
theorem aW {e:Expr} (h:starEach [e] env=(false,eval e env)::starEach [] env):starEach [e] env=[(false,eval e env)]:=h.trans rfl
end
variable {i j:Nat} {a b:Addr}
section
variable {K:Frag} {C:Addr} {H0 H:Hp} {U:RB} {O:St}
def RB.del (U:RB) (i:Nat):RB:=⟨U.rho.set i none,λj=>if j=i then[]else U.ad j⟩
theorem jz {l:Rho} {sl:Slt} (h:(l.set i none)[j]?=some (some sl)):i≠j/\l[j]?=some (some sl):=by
 rw[List.getElem?_set]at h;split at h
 ·split at h<;>cases h
 ·exact⟨by assumption,h⟩
theorem iL (h:a∈(U.del i).ad j):j≠i/\a∈U.ad j:=by
 unfold RB.del at h;dsimp only at h;split at h
 ·cases h
 ·exact⟨‹_›,h⟩
theorem ko (h:j≠i):(U.del i).ad j=U.ad j:=by
 unfold RB.del;dsimp only;rw[if_neg h]
theorem Own.forget (h:Own (U.del i) O b):Own U O b:=by
 obtain⟨j,h⟩:=h;exact⟨j,(iL h).2⟩
theorem Rel.forget (r:Rel K C H0 U O H) (i:Nat):Rel K C H0 (U.del i) O H:=by
 have sub:Same (msk U O H) (msk (U.del i) O H):=λb o e=>msk_some.mpr ⟨λz=>(msk_some.mp e).1 z.forget,(msk_some.mp e).2⟩;refine⟨?_,r.keep.trans sub,λj sl e=>?_,λj k a x y=>r.inj j k a (iL x).2 (iL y).2,λj a x=>r.kin j a (iL x).2,λj a x=>?_⟩
 ·show(U.rho.set i none).length=_;rw[List.length_set];exact r.len
 ·obtain⟨hj,e⟩:=jz e;rw[ko λz=>hj z.symm];exact(r.at_ j sl e).mono (Same.refl _) sub
 ·show j<(U.rho.set i none).length;rw[List.length_set];exact r.bnd j a (iL x).2
end
def spM (K:Frag) (C:Addr) (den:List D->R D):Sp:=λvs H Q _=>∃a us xs,vs=[.ref a]/\H a=some (.lst us)/\HasL K C (cut [a] H) us xs/\match den xs with
 | .val d=>∀v H',Same (cut [a] H) H'->Has K C H' v d->Q v H'
 | _=>False
def Mv (P:Program) (w:World) (K:Frag) (mg:Str->Option Value) (base:Heap) (C:Addr) (k:Nat) (x:Str) (den:List D->R D):Prop :=
 ∃f fd p,FnOk P w K mg base CX0 k f fd [p] (spM K C den)/\mg x=some (.ref f)/\keepIn K (.ref f)=true/\Binds K fd [p] []
def st1 (N:List Str) (xs:List D):Rho:=some (.own xs)::List.replicate (N.length-1) none
variable {N:List Str} {xs:List D}
theorem zr {sl:Slt} (h:(st1 N xs)[i]?=some (some sl)):i=0/\sl=.own xs:=by
 cases i with
 | zero=>unfold st1 at h;simp at h;exact⟨rfl,h.symm⟩
 | succ n =>
  unfold st1 at h;rw[List.getElem?_cons_succ,List.getElem?_replicate]at h;split at h<;>cases h
variable {H:Hp} {qual:Str} {st:Stmt} {f:Addr} {fd:FuncData} {k:Nat}
section
variable {P:Program} {w:World} {K:Frag} {mg:Str->Option Value} {base:Heap} {C:Addr}
theorem qM {us:List V} (e:H a=some (.lst us)) (h:HasL K C (cut [a] H) us xs):uA K C (cut [a] H) (st1 N xs) (L2.start N [.ref a]) H:=by
 have s0:(L2.start N [V.ref a])[0]?=some (some (.ref a)):=by unfold L2.start;simp
 have own:∀{i:Nat} {b:Addr},b∈(⟨st1 N xs,λj=>if j=0 then[a]else[]⟩:RB).ad i->i=0/\b=a:=λ{i b} z=>by
  dsimp only at z;split at z
  ·exact⟨‹_›,List.mem_singleton.mp z⟩
  ·cases z
 have sub:Same (cut [a] H) (msk ⟨st1 N xs,λj=>if j=0 then[a]else[]⟩ (L2.start N [.ref a]) H):=λb o e1=>by
  obtain⟨h1,h2⟩:=cut_some.mp e1;exact msk_some.mpr ⟨λ⟨i,z⟩=>h1 (List.mem_singleton.mpr (own z).2),h2⟩
 refine⟨⟨st1 N xs,λj=>if j=0 then[a]else[]⟩,rfl,?_,sub,λi sl e1=>?_,λi j b x y=>(own x).1.trans (own y).1.symm,λi b x=>.inl ?_,λi b x=>?_⟩
 ·show(st1 N xs).length=_;unfold st1 L2.start;simp
 ·obtain⟨rfl,rfl⟩:=zr e1;exact⟨a,us,s0,List.mem_singleton.mpr rfl,e,h.mono sub⟩
 ·rw[(own x).2];exact⟨us,e⟩
 ·rw[(own x).1];exact Nat.succ_pos _
theorem BY {p:Str} {den:Rho->R Out} (F:Fun K x qual st f fd) (sc:ax N [p] (ai st))
  (hb:∀(cdv:Value) (A:Around) (outer:List Env) (s:Shared) (H:Hp) (E:XK),Room k (A.deeper (envOfC qual (ai st) s.heap.objs.size f cdv)) ->
   SDs C (gw CX0 P w K mg base N qual (ai st) f cdv A outer s H E).nox (bM st) den) :
  FnOk P w K mg base CX0 (k+1) f fd [p] (spM K C λxs=>fin (den (st1 N xs))):=by
 refine F.ok sc (λvs H Q E h=>?_) (λcdv A outer s H vs Q E hr h=>⟨_,hb cdv A outer s H E hr,?_⟩)
 ·obtain⟨a,us,xs,rfl,_⟩:=h;rfl
 obtain⟨a,us,xs,rfl,e0,h,q⟩:=h;refine⟨st1 N xs,cut [a] H,qM e0 h,?_⟩;dsimp only at q;cases e:den (st1 N xs)with
 | val o =>
  rw[e]at q;cases o with
  | nx ρ'=>exact λσ' H' ⟨_,_,r⟩=>q _ H' (r.keep.trans msk_sub) .non
  | rt d=>exact λv H' s' h'=>q v H' s' h'
  | bk ρ'=>exact q.elim
  | ct ρ'=>exact q.elim
 | exc c=>rw[e]at q;exact q.elim
 | bad=>rw[e]at q;exact q.elim
end
variable {p pos cp:Pos} {den:List D->R D} {y:Str}
section
variable {C:Addr} {X:Cx}
def xX (i:Nat) (den:List D->R D):Rho->R Out:=λU=>match U[i]? with
 | some (some (.own xs))=>(noex (den xs)).bind λd=>.val (.nx (U.set i (some (.shr d))))
 | _=>.bad
theorem xI {p':Pos} (F:Mv X.prog X.w X.K X.mg X.base C k x den) (hr:Room k X.A) (hg:Gl X x) (hv:PE X (.Name y p') (du i)) (hdb:(x==("__debug__":Str))=false:=by decide) :
  PE X (.Call (.Name x p) [.Name y p'] [] pos) (λO H Q=>∃(U:RB) (H0:Hp) (xs:List D) (d:D),bV C X H0 U O H/\U.rho[i]?=some (some (.own xs))/\den xs=.val d/\∀v H',bV C X H0 (U.del i) O H'->cj C X (U.del i) O H' v d->Q v H'):=by
 obtain⟨f,fd,pn,hF,hm,hk,hb⟩:=F;rintro pins s O H Q I ⟨U,H0,xs,d,r0,e0,ed,q⟩;obtain⟨a,vs,e1,ha,h1,h2⟩:=r0.at_ i _ e0;refine wpAny_Call_Name_kw (da I hg hm ?_ hdb);refine callWith_K (h₀:=X.base) I.ok.mod.kin hk (thn ((bh hv ce aa) pos pins s O H (λus H1=>us=[.ref a]/\H1=H) I ⟨_,e1,rfl,rfl⟩) λus s1 ⟨ws,H1,I1,rv,ew,eh⟩=>⟨I1.kIn,?_⟩) aa av;subst ew;subst eh;have rf:=r0.forget i;have Z:=Rel.hid rf I1;have J:=I1.hide Z;have nz:a∉bj (U.del i) O:=λz=>by
  obtain⟨j,z⟩:=(eQ rf.bnd).mp z;exact(iL z).1 (r0.inj j i a (iL z).2 ha)
 have sub:Same (msk U O H1) (cut [a] (cut (bj (U.del i) O) H1)):=λb o eb=>by
  obtain⟨g1,g2⟩:=msk_some.mp eb;refine cut_some.mpr ⟨λz=>g1 ?_,cut_some.mpr ⟨λz=>g1 ((eQ rf.bnd).mp z).forget,g2⟩⟩;rw[List.mem_singleton.mp z];exact⟨i,ha⟩
 refine thn (nK (E:=E0) (Q:=λv M'=>Same (cut [a] (cut (bj (U.del i) O) H1)) M'/\Has X.K C M' v d) hF hr hb .nil pi J rv ?_) λu s2 ⟨v,M',J2,ru,sm,hv'⟩=>?_
 ·rw[List.append_nil];refine⟨a,vs,xs,rfl,cut_some.mpr ⟨nz,h1⟩,h2.mono sub,?_⟩;rw[ed];exact λv H' s2 h2=>⟨s2,h2⟩
 ·obtain⟨I2,mz⟩:=I1.show' Z J2;have em:msk (U.del i) O (jn (bj (U.del i) O) H1 M')=M':=by
   rw[cA rf.bnd]
   funext b
   by_cases hb:b∈bj (U.del i) O
   ·rw[dB hb,mz b hb]
   ·unfold cut;rw[if_neg hb,aZ hb]
  have sM:Same (msk U O H1) M':=sub.trans sm;have keep:∀j b,b∈(U.del i).ad j->jn (bj (U.del i) O) H1 M' b=H1 b:=λj b hb=>fM ((eQ rf.bnd).mpr ⟨j,hb⟩);have tup:∀b us,H1 b=some (.tup us)->jn (bj (U.del i) O) H1 M' b=some (.tup us):=λb us eb=>by
   have nb:b∉bj (U.del i) O:=λz=>rf.tups eb ((eQ rf.bnd).mp z);rw[aZ nb];exact sM b _ (msk_some.mpr ⟨r0.tups eb,eb⟩)
  refine⟨v,_,I2,ru,q v _ ⟨rf.len,by rw[em];exact r0.keep.trans sM,λj sl ej=>?_,rf.inj,λj b hb=>by rw[keep j b hb];exact rf.kin j b hb,rf.bnd⟩ (by show Has _ _ (msk _ O _) v d;rw[em];exact hv')⟩;rw[em];obtain⟨hj,ej'⟩:=jz ej;have qq:=r0.at_ j sl ej';rw[<- ko (U:=U) (i:=i) λz=>hj z.symm]at qq;exact qq.stay ⟨λb hb o eo=>by rw[keep j b hb];exact eo,tup⟩ sM
theorem xp {p' pos':Pos} (F:Mv X.prog X.w X.K X.mg X.base C k x den) (hr:Room k X.A) (hg:Gl X x) (hv:PE X (.Name y p') (du i)) (hN:X.N.Nodup) (hi:X.N[i]?=some y) (hx:Loc X.env.scope y)
  (hs:swapsWith (.Call (.Name x p) [.Name y p'] [] cp) (some (.Name y pos')) pos.line X.env=pure false) (hdb:(x==("__debug__":Str))=false:=by decide)
  (hf:X.fn y=true\/X.env.scope.names.lookup y=some .local:=by first|exact .inl rfl|exact .inr rfl|assumption):SD C X (.Assign [.Name y pos'] (.Call (.Name x p) [.Name y p'] [] cp) pos) (xX i den) :=
 aY (kO hN hi hx (xI F hr hg hv hdb) hs hf) λD O H zz1=>by
  obtain⟨_,H0,⟨U,rfl,r⟩,q⟩:=zz1;unfold xX at q;split at q
  ·rename_i xs e0;cases ed:den xs with
   | val d =>
    rw[ed]at q;refine⟨U,H0,xs,d,r,e0,ed,λv H' r' h'=>?_⟩;refine q _ _ ⟨_,?_,r'.setShr (i:=i) h'⟩;show(U.rho.set i none).set i _=_;rw[List.set_set]
   | exc c=>rw[ed]at q;exact q.elim
   | bad=>rw[ed]at q;exact q.elim
  ·exact q.elim
def pY:List D->List (KA×D)->Option (List (KA×D))
 | [],kvs=>some kvs
 | x::r,kvs=>match mG x with
  | some k=>if kvs.length<=100000 then pY r (lq kvs k (.bl true))else none
  | none=>none
def lx (il ix idd:Nat):Rho->R Out:=λU=>match U[il]?,U[idd]? with
 | some (some (.own xs)),some (some (.dic kvs))=>match pY xs kvs with
  | some kvs'=>if ix<U.length then .val (.nx ((U.set ix none).set idd (some (.dic kvs'))))else .bad
  | none=>.bad
 | _,_=>.bad
theorem tQ {il ix idd:Nat} {l d:Str} {px pl pd px2 sp pos2:Pos} (hu:X.A.units+3<cLine) (hp:PassesOwn (model X.prog X.w) X.A X.env X.xe) (hc:X.calm=true) (hl:PE X (.Name l pl) (du il)) (hg:PG X (.Name x px) (gA ix)) (hd:PE X (.Name d pd) (du idd)) (hx:PE X (.Name x px2) (du ix))
  (n1:ix≠il:=by decide) (n2:ix≠idd:=by decide) (n3:il≠idd:=by decide)
  (ha:∀v,assign (.Subscript (.Name d pd) (.Name x px2) sp) X.env v=(do
   let ov <- holding [v] (eval (.Name d pd) X.env)
   let iv <- holding [v,ov] (eval (.Name x px2) X.env)
   standAt sp
   holding [v,ov,iv] (setItem ov iv v)
   release [v,ov,iv] []):=by intro _;rfl)
  (hs:swapsWithSole [.Subscript (.Name d pd) (.Name x px2) sp] (.Constant (.bool true) j cp) pos2.line X.env=pure false:=by rfl) (hw:swappedStores [.Subscript (.Name d pd) (.Name x px2) sp] (.Constant (.bool true) j cp) X.env=pure none:=by rfl)
  (h1:(assignEach [.Subscript (.Name d pd) (.Name x px2) sp] X.env).map (·.2)=[assign (.Subscript (.Name d pd) (.Name x px2) sp) X.env]:=by rfl)
  (hfs:∀x,foldedSetIterable (.Name l pl) X.env x=pure x:=by intro _;rfl) :
  SD C X (.For (.Name x px) (.Name l pl) [.Assign [.Subscript (.Name d pd) (.Name x px2) sp] (.Constant (.bool true) j cp) pos2] [] pos) (lx il ix idd) :=
 aY (vh hp hc (xF hl) hg (hZ (qP sg (vp hd hx (rO hu) ha) hs hw h1)) hfs) λDn O H zz2=>by
  obtain⟨_,H0,⟨U,rfl,r⟩,q⟩:=zz2;unfold lx at q;split at q
  ·rename_i xs kvs el ed;split at q
   ·rename_i kvsf em;have hix:ix<U.rho.length:=by
     by_cases hix:ix<U.rho.length
     ·exact hix
     ·rw[if_neg hix]at q;exact q.elim
    rw[if_pos hix]at q;obtain⟨a,vs,ea,haA,eH,hL⟩:=r.at_ il _ el;have hdl:idd<U.rho.length:=(List.getElem?_eq_some_iff.mp ed).1;refine⟨_,ea,a,rfl,⟨_,SqL.of eH⟩,v6 (K:=X.K) (a:=a) (xs:=vs) (λi σ' H'=>∃kvs' β,β.rho=(U.rho.set ix none).set idd (some (.dic kvs'))/\bV C X H0 β σ' H'/\a∈β.ad il/\σ'[il]?=some (some (.ref a))/\H' a=some (.lst vs)/\pY (xs.drop i) kvs'=some kvsf) ⟨kvs,U.del ix,?_,r.forget ix,by rw[ko (Ne.symm n1)];exact haA,ea,eH,em⟩ (λi σ' H' _ ⟨kvs',β,eb,r',hb,e1,e2,e3⟩=>SqL.of e2) ?_ ?_⟩
    ·have e1:(U.rho.set ix none)[idd]?=some (some (.dic kvs)):=by rw[List.getElem?_set_ne n2];exact ed
     show U.rho.set ix none=_;apply List.ext_getElem?;intro m;by_cases hm:idd=m
     ·subst hm;rw[List.getElem?_set_self (List.getElem?_eq_some_iff.mp e1).1,e1]
     ·rw[List.getElem?_set_ne hm]
    ·rintro i v σ' H' hi ⟨kvs',β,eβ,r',hbA,e1,e2,e3⟩;have l1:β.rho[il]?=some (some (.own xs)):=by
      rw[eβ,List.getElem?_set_ne (Ne.symm n3),List.getElem?_set_ne n1];exact el
     obtain⟨a',vs',g1,ga,g2,g3⟩:=r'.at_ il _ l1;rw[e1]at g1;cases g1;rw[e2]at g2;cases g2;obtain⟨x0,hx0,hv0⟩:=g3.get' hi;have hlt:i<xs.length:=(List.getElem?_eq_some_iff.mp hx0).1;have edr:xs.drop i=x0::xs.drop (i+1):=by
      rw[List.drop_eq_getElem_cons hlt];have:=(List.getElem?_eq_some_iff.mp hx0).2;rw[this]
     rw[edr]at e3;unfold pY at e3;split at e3
     ·rename_i kk ekk;split at e3
      ·rename_i hlen;have rs:=r'.setShr (i:=ix) hv0;have ed':(β.put ix (.shr x0) []).rho[idd]?=some (some (.dic kvs')):=by
        show(β.rho.set ix _)[idd]?=_;rw[List.getElem?_set_ne n2,eβ,List.getElem?_set_self (by simpa using hdl)]
       obtain⟨b,eb,hbb,ys,eY,nd,hpd⟩:=rs.at_ idd _ ed';rw[kg (Ne.symm n2)]at hbb;obtain⟨kb,rfl,hkey⟩:=oj ekk hv0;have hxl:ix<σ'.length:=by have:=r'.len;rw[eβ]at this;simp at this;omega
       have ex2:(σ'.set ix (some (V.ref kb)))[ix]?=some (some (.ref kb)):=List.getElem?_set_self hxl;have hkey2:KeyIn (msk (β.put ix (.shr x0) []) (σ'.set ix (some (V.ref kb))) H') kk kb:=hkey.mono sv;refine⟨_,eb,_,ex2,b,ys,kb,kk,rfl,rfl,eY,λz hz=>(gQ hpd z hz).mono msk_sub,nd,hkey.mono msk_sub,by rw[<- kR hpd];exact hlen,λu ru nd'=>?_⟩;have r2:=(rs.putDic ed' eb nd' (s_ ru (.bl true) hkey2 hpd)).forget ix;refine⟨lq kvs' kk (.bl true),_,?_,r2,?_,?_,?_,e3⟩
       ·show(((β.rho.set ix (some (.shr x0))).set idd (some (.dic (lq kvs' kk (.bl true))))).set ix none)=_;rw[eβ];apply List.ext_getElem?;intro m;simp only[List.getElem?_set,List.length_set];by_cases h1:ix=m
        ·subst h1;simp[Ne.symm n2]
        ·by_cases h2:idd=m
         ·subst h2;simp[h1]
         ·simp[h1,h2]
       ·rw[ko (Ne.symm n1),kg n3,kg (Ne.symm n1)];exact hbA
       ·rw[List.getElem?_set_ne n1];exact e1
       ·have:a≠b:=λz=>n3 (r'.inj il idd a hbA (z▸hbb));rw[au this];exact e2
      ·cases e3
     ·cases e3
    ·rintro σ' H' ⟨kvs',β,eβ,r',_,e1,e2,e3⟩;have:vs.length=xs.length:=hL.len;rw[this,List.drop_length]at e3;cases e3;exact q _ _ ⟨β,eβ,r'⟩
   ·exact q.elim
  ·exact q.elim
end
section
variable {K:Frag} {C:Addr} {H:Hp} {x C' dx:Addr} {fs:List (Str×V)} {o':HO}
theorem jq {o:HO} (hx:H x=some (.ins C' dx fs)) (h:H a=some o) (ho:∀c d f,o=.ins c d f->f.length=3) (hl:fs.length<3):a≠x:=λz=>by
 subst z;rw[hx]at h;cases h;have:=ho _ _ _ rfl;omega
mutual
theorem Has.upd_ins (hx:H x=some (.ins C' dx fs)) (hl:fs.length<3):∀{v:V} {d:D},Has K C H v d->Has K C (upd H x o') v d
 | _,_,.non=>.non
 | _,_,.bl b=>.bl b
 | _,_,.int i=>.int i
 | _,_,.lst q h=>.lst (by rw[au (jq hx q (λ_ _ _ z=>by cases z) hl)];exact q) (HasL.upd_ins hx hl h)
 | _,_,.tup q h=>.tup (by rw[au (jq hx q (λ_ _ _ z=>by cases z) hl)];exact q) (HasL.upd_ins hx hl h)
 | _,_,.scr q=>.scr (by
   rcases q with(h|⟨o,h⟩)|h
   ·exact .inl (.inl (by rw[au (jq hx h (λ_ _ _ z=>by cases z) hl)];exact h))
   ·exact .inl (.inr ⟨o,by rw[au (jq hx h (λ_ _ _ z=>by cases z) hl)];exact h⟩)
   ·exact .inr h)
 | _,_,.exn q=>.exn (by rw[au (jq hx q (λ_ _ _ z=>by cases z) hl)];exact q)
 | _,_,.ob q a b c=>.ob (by rw[au (jq hx q (λ_ _ _ z=>by cases z;rfl) hl)];exact q) (Has.upd_ins hx hl a) (Has.upd_ins hx hl b) (Has.upd_ins hx hl c)
theorem HasL.upd_ins (hx:H x=some (.ins C' dx fs)) (hl:fs.length<3):∀{vs:List V} {ds:List D},HasL K C H vs ds->HasL K C (upd H x o') vs ds
 | _,_,.nil=>.nil
 | _,_,.cons a b=>.cons (Has.upd_ins hx hl a) (HasL.upd_ins hx hl b)
end
end
theorem p5 (f:Str) (v:V):∀fs:List (Str×V),(gg f v fs).length<=fs.length+1
 | []=>Nat.le_refl _
 | (g,x)::r=>by
  unfold gg;split
  ·simp
  ·simpa using p5 f v r
def uw:List (Rho->R D)->Rho->R Unit
 | [],_=>.val ()
 | c::cs,U=>(c U).bind λ_=>uw cs U
def yJ (cs:List (Rho->R D)) (f1 f2 f3:Rho->R (List D)):Rho->R D:=λU=>(uw cs U).bind λ_=>(f1 U).bind λes=>(f2 U).bind λrs=>(f3 U).bind λts=>.val (.ob (.lst es) (.lst rs) (.lst ts))
def ij (e r t:D):Rho:=[none,some (.shr e),some (.shr r),some (.shr t)]
def spI (K:Frag) (C:Addr) (den:Rho->R D):Sp:=λvs H Q _=>∃x dx ve vr vt e r t,vs=[.ref x,ve,vr,vt]/\H x=some (.ins C dx [])/\Has K C H ve e/\Has K C H vr r/\Has K C H vt t/\match den (ij e r t)with
 | .val d=>∀H',(∀b o,H b=some o->b≠x->H' b=some o)->Has K C H' (.ref x) d->Q .non H'
 | _=>False
variable {o:Expr} {F:Rho->R D} {K:Frag}
section
variable {C:Addr} {X:Cx}
variable (C X) in
def tCk:List (Rho->R D)->TS->TS
 | [],t=>t
 | c::cs,t=>w_ (kz (teB C X c)) (tCk cs t)
theorem iF {rest:List Stmt} {c:Rho->R D} {cs:List (Rho->R D)} {t:TS} (h1:PS X st (kz (teB C X c))) (h2:PSs X rest (tCk C X cs t)):PSs X (st::rest) (tCk C X (c::cs) t):=gH h1 h2
theorem kP {e:Expr} (he:EB C X e F) (hs:swapsWith e none pos.line X.env=pure false:=by rfl):PS X (.Expr e pos) (kz (teB C X F)):=h7 he hs
theorem tF {U:RB} {t:TS} {Dn:io} {O:St}:∀{cs:List (Rho->R D)} {H H0:Hp},bV C X H0 U O H->uw cs U=.val ()->(∀H1,Same H H1->t Dn O H1)->tCk C X cs t Dn O H
 | [],H,H0,r,_,k=>k H (Same.refl _)
 | c::cs,H,H0,r,e,k=>by
  unfold uw at e;cases ec:c U with
  | val d =>
   rw[ec]at e;show teB C X c O H _;refine⟨U,⟨H0,r⟩,?_⟩;rw[ec];exact λv H1 s1 _=>tF (r.mono s1) e λH2 s2=>k H2 (s1.trans s2)
  | exc c=>rw[ec]at e;cases e
  | bad=>rw[ec]at e;cases e
variable (C X) in
def tI (f1 f2 f3:Rho->R (List D)):TS:=w_ (nI X.K (du 0) (teF C X f1) "ends") (w_ (nI X.K (du 0) (teF C X f2) "rests") (nI X.K (du 0) (teF C X f3) "table"))
theorem BQ {s1 s2 s3:Stmt} {f1 f2 f3:Rho->R (List D)} (h1:PS X s1 (nI X.K (du 0) (teF C X f1) "ends")) (h2:PS X s2 (nI X.K (du 0) (teF C X f2) "rests")) (h3:PS X s3 (nI X.K (du 0) (teF C X f3) "table")):PSs X [s1,s2,s3] (tCk C X [] (tI C X f1 f2 f3)):=by
 have h:=gH h1 (gH h2 (hZ h3));exact h
theorem vf {value:Expr} {f:Str} {pos':Pos} {F:Rho->R (List D)} (ho:PE X o (du i)) (hv:FD C X value F) (hs:swapsWith value (some (.Attribute o f pos')) pos.line X.env=pure false:=by rfl):PS X (.Assign [.Attribute o f pos'] value pos) (nI X.K (du i) (teF C X F) f):=zQ ho hv hs
def rb3 (e r t:D):RB:=⟨ij e r t,λ_=>[]⟩
theorem BC {x:Addr} {ve vr vt:V} {e r t:D} (h1:Has K C H ve e) (h2:Has K C H vr r) (h3:Has K C H vt t):Rel K C H (rb3 e r t) [some (.ref x),some ve,some vr,some vt] H:=by
 have sub:Same H (msk (rb3 e r t) [some (.ref x),some ve,some vr,some vt] H):=λb o eb=>msk_some.mpr ⟨λ⟨_,z⟩=>(List.not_mem_nil z).elim,eb⟩;refine⟨rfl,sub,λi sl h=>?_,λi j a z=>(List.not_mem_nil z).elim,λi a z=>(List.not_mem_nil z).elim,λi a z=>(List.not_mem_nil z).elim⟩
 match i,h with
 | 0,h=>cases h
 | 1,h=>cases h;exact⟨ve,rfl,h1.mono sub⟩
 | 2,h=>cases h;exact⟨vr,rfl,h2.mono sub⟩
 | 3,h=>cases h;exact⟨vt,rfl,h3.mono sub⟩
 | n+4,h=>unfold rb3 ij at h;simp at h
theorem ly {F:Rho->R (List D)} {f:Str} {Dn:io} {x dx:Addr} {fs:List (Str×V)} {ve vr vt:V} {e r t:D} (hx:H x=some (.ins C dx fs)) (hl:fs.length<3) (c:Cls X.K C) (n:NoAttr X.K C f) (h1:Has X.K C H ve e) (h2:Has X.K C H vr r) (h3:Has X.K C H vt t)
  (eF:F (ij e r t)=.val xs)
  (k:∀l H',H' x=some (.ins C dx (gg f (.ref l) fs))->(∀b o,H b=some o->b≠x->H' b=some o)->(∀v d,Has X.K C H v d->Has X.K C H' v d)->Has X.K C H' (.ref l) (.lst xs)->Dn.nx [some (.ref x),some ve,some vr,some vt] H') :
  nI X.K (du 0) (teF C X F) f Dn [some (.ref x),some ve,some vr,some vt] H:=by
 refine⟨rb3 e r t,⟨H,BC h1 h2 h3⟩,?_⟩;show pF _ (F (ij e r t)) _ _ _;rw[eF];intro l vs H1 s1 hn hv;have hv':HasL X.K C H1 vs xs:=hv.mono msk_sub;have nx:l≠x:=λz=>by subst z;rw[s1 _ _ hx]at hn;cases hn
 have hx2:(upd H1 l (.lst vs)) x=some (.ins C dx fs):=by rw[au (Ne.symm nx)];exact s1 _ _ hx
 refine⟨_,rfl,x,C,dx,fs,rfl,hx2,c,n,by omega,k l _ aJ (λb o eb nb=>?_) (λv d hd=>?_) ?_⟩
 ·rw[au nb];exact ay hn _ _ (s1 _ _ eb)
 ·exact((hd.mono s1).mono (ay hn)).upd_ins hx2 hl
 ·exact Has.upd_ins hx2 hl (.lst aJ (hv'.mono (ay hn)))
end
section
variable {P:Program} {w:World} {K:Frag} {mg:Str->Option Value} {base:Heap} {C:Addr}
theorem yd {cs:List (Rho->R D)} {f1 f2 f3:Rho->R (List D)} (F:Fun K "__init__" "Hall.__init__" st f fd) (sc:ax ["self","ends","rests","table"] ["self","ends","rests","table"] (ai st))
  (cl:Cls K C) (nE:NoAttr K C "ends") (nR:NoAttr K C "rests") (nT:NoAttr K C "table")
  (hb:∀(cdv:Value) (A:Around) (outer:List Env) (s:Shared) (H:Hp) (E:XK),Room k (A.deeper (envOfC "Hall.__init__" (ai st) s.heap.objs.size f cdv)) ->
   PSs (gw CX0 P w K mg base ["self","ends","rests","table"] "Hall.__init__" (ai st) f cdv A outer s H E).nox (bM st) (tCk C (gw CX0 P w K mg base ["self","ends","rests","table"] "Hall.__init__" (ai st) f cdv A outer s H E).nox cs (tI C (gw CX0 P w K mg base ["self","ends","rests","table"] "Hall.__init__" (ai st) f cdv A outer s H E).nox f1 f2 f3))) :
  FnOk P w K mg base CX0 (k+1) f fd ["self","ends","rests","table"] (spI K C (yJ cs f1 f2 f3)):=by
 refine F.ok sc (λvs H Q E h=>?_) (λcdv A outer s H vs Q E hr h=>⟨_,hb cdv A outer s H E hr,?_⟩)
 ·obtain⟨x,dx,ve,vr,vt,e,r,t,rfl,_⟩:=h;rfl
 obtain⟨x,dx,ve,vr,vt,e,r,t,rfl,hx,h1,h2,h3,q⟩:=h;unfold yJ at q;cases ec:uw cs (ij e r t)with
 | exc c=>rw[ec]at q;exact q.elim
 | bad=>rw[ec]at q;exact q.elim
 | val u =>
  rw[ec]at q;cases e1:f1 (ij e r t)with
  | exc c=>dsimp only[DL.R.bind]at q;rw[e1]at q;exact q.elim
  | bad=>dsimp only[DL.R.bind]at q;rw[e1]at q;exact q.elim
  | val es =>
   cases e2:f2 (ij e r t)with
   | exc c=>dsimp only[DL.R.bind]at q;rw[e1,e2]at q;exact q.elim
   | bad=>dsimp only[DL.R.bind]at q;rw[e1,e2]at q;exact q.elim
   | val rs =>
    cases e3:f3 (ij e r t)with
    | exc c=>dsimp only[DL.R.bind]at q;rw[e1,e2,e3]at q;exact q.elim
    | bad=>dsimp only[DL.R.bind]at q;rw[e1,e2,e3]at q;exact q.elim
    | val ts =>
     dsimp only[DL.R.bind]at q;rw[e1,e2,e3]at q;dsimp only[DL.R.bind]at q;refine tF (H0:=H) (U:=rb3 e r t) (BC h1 h2 h3) ec λH1 s1=>?_;refine ly (s1 _ _ hx) (by decide) cl nE (h1.mono s1) (h2.mono s1) (h3.mono s1) e1 λl1 Ha xa fa ka ha=>?_;refine ly xa (by show 1<3;decide) cl nR (ka _ _ (h1.mono s1)) (ka _ _ (h2.mono s1)) (ka _ _ (h3.mono s1)) e2 λl2 Hb xb fb kb hb2=>?_;refine ly xb (Nat.lt_of_le_of_lt (p5 _ _ _) (by show 2<3;decide)) cl nT (kb _ _ (ka _ _ (h1.mono s1))) (kb _ _ (ka _ _ (h2.mono s1))) (kb _ _ (ka _ _ (h3.mono s1))) e3 λl3 Hc xc fc kc hc=>?_;refine q Hc (λb o eb nb=>fc _ _ (fb _ _ (fa _ _ (s1 _ _ eb) nb) nb) nb) ?_;exact .ob (dx:=dx) (ve:=.ref l1) (vr:=.ref l2) (vt:=.ref l3) xc (kc _ _ (kb _ _ ha)) (kc _ _ hb2) hc
end
def FnH (P:Program) (w:World) (K:Frag) (mg:Str->Option Value) (base:Heap) (C:Addr) (k:Nat) (den:Rho->R D):Prop :=
 ∃f fd,Mk K C f/\FnOk P w K mg base CX0 k f fd ["self","ends","rests","table"] (spI K C den)/\mg "Hall"=some (.ref C)/\Binds K fd ["self","ends","rests","table"] []
variable {es:List Expr} {Fa:Rho->R (List D)}
section
variable {C:Addr} {X:Cx}
def mkH (den:Rho->R D) (Fa:Rho->R (List D)):Rho->R D:=λU=>(Fa U).bind λds=>match ds with
 | [e,r,t]=>noex (den (ij e r t))
 | _=>.bad
theorem yD {den:Rho->R D} {e:Expr} (F:FnH X.prog X.w X.K X.mg X.base C k den) (hr:Room (k+1) X.A) (hg:Gl X "Hall") (ha:AD C X (e::es) Fa) (hx:X.xe=λ_ _=>False)
  (he:starEach (e::es) X.env=(false,eval e X.env)::starEach es X.env:=by rfl) (hpl:(backTo pos (starEach es X.env)).any (·.1)=false:=by rfl):ED C X (.Call (.Name "Hall" p) (e::es) [] pos) (mkH den Fa):=by
 obtain⟨f,fd,hM,hF,hm,hb⟩:=F;rintro pins s O H Q I ⟨U,⟨H0,r0⟩,q⟩;refine wpAny_Call_Name_kw (da I hg hm ?_ (by decide));refine callWith_K (h₀:=X.base) I.ok.mod.kin hM.kp (thn (ha pos pins s O H (λvs H1=>∃a b c d,Same H H1/\fq C X U O H1 vs [a,b,c]/\den (ij a b c)=.val d/\∀v H',Same H H'->cj C X U O H' v d->Q v H') I
  ⟨U,⟨H0,r0⟩,ck (P:=λz H=>pV X (cj C X U O) z O H Q) (λ_ h=>h) (λh=>h) q λds vs H1 s1 h1 q1=>?_⟩) λus s1 ⟨vs,H1,I1,rv,a,b,c,d,s1',h1,e1,q1⟩=>⟨I1.kIn,?_⟩) he hpl
 ·split at q1
  ·rename_i a b c;cases e1:den (ij a b c)with
   | val d=>rw[e1]at q1;exact⟨a,b,c,d,s1,h1,e1,q1⟩
   | exc c=>rw[e1]at q1;exact q1.elim
   | bad=>rw[e1]at q1;exact q1.elim
  ·exact q1.elim
 ·have r1:=r0.mono s1';have Z:=Rel.hid r1 I1;have J:=I1.hide Z;refine thn (u0 (E:=E0) (Q:=λv M'=>Same (cut (bj U O) H1) M'/\Has X.K C M' v d) hM hF hr hb .nil pi J rv λx dx nx ndx nex=>?_) λu s2 ⟨v,M',J2,ru,sm,hv⟩=>?_
  ·rw[List.append_nil];have h1:HasL X.K C (msk U O H1) vs [a,b,c]:=h1;rw[cA r0.bnd]at h1;have s0:Same (cut (bj U O) H1) (upd (upd (cut (bj U O) H1) dx (.own x)) x (.ins C dx [])):=λb o eb=>by
    rw[au (aR eb nx),au (aR eb ndx)];exact eb
   cases h1 with
   | @cons va _ _ _ ga h1=>cases h1 with
    | @cons vb _ _ _ gb h1=>cases h1 with
     | @cons vc _ _ _ gc h1 =>
      cases h1;refine⟨x,dx,va,vb,vc,a,b,c,rfl,aJ,ga.mono s0,gb.mono s0,gc.mono s0,?_⟩;rw[e1];exact λH' fr hH=>⟨rfl,λb o eb=>fr b o (s0 _ _ eb) (aR eb nx),hH⟩
  ·obtain⟨I2,mz⟩:=I1.show' Z J2;have sj:Same H1 (jn (bj U O) H1 M'):=λb o eb=>by
    by_cases hb:b∈bj U O
    ·rw[fM hb];exact eb
    ·rw[aZ hb];exact sm b o (cut_some.mpr ⟨hb,eb⟩)
   have em:msk U O (jn (bj U O) H1 M')=M':=by
    rw[cA r0.bnd]
    funext b
    by_cases hb:b∈bj U O
    ·rw[dB hb,mz b hb]
    ·unfold cut;rw[if_neg hb,aZ hb]
   exact⟨v,_,I2,ru,q1 v _ (s1'.trans sj) (by show Has _ _ (msk U O _) v d;rw[em];exact hv)⟩
structure IsH (K:Frag) (C:Addr):Prop where
 cl:Cls K C
 ha:findIn K (.ref C) "__class__"=some (some (.builtin "object.__class__"))
 hn:specialIn K (.builtin "object.__class__") "__get__"=some (some (.builtin "getset_descriptor.__get__"))
 htk:takesIn K (.builtin "object.__class__")=some true
 hm:mroIn K C (.type "object")=some true
end
def CXd (P:Program) (w:World):CXT:=λouter H s E e s'=>∃ea cl H' ch,e=.ref ea/\dC s'.heap ea cl ch/\(∀b∈ch,s.heap.get? b=none/\H' b=none)/\s'.os=s.os/\AllBare s'.gens/\Un (frs outer) [] H H' s.heap s'.heap/\HOk P w H' s'.heap/\E cl none H'
def spX (K:Frag) (C:Addr) (mg:Str->Option Value) (n:Nat) (den:List D->R D):Sp:=λvs H Q E=>vs.length=n/\∃ds,HasL K C H vs ds/\match den ds with
 | .val d=>∀v H',Same H H'->Has K C H' v d->Q v H'
 | .exc c=>∀Cc H',mg (exN c)=some (.ref Cc)->Same H H'->E (.ref Cc) none H'
 | .bad=>False
variable {pins:List (Addr×Obj)} {O:St} {s:Shared}
theorem jy {X:Cx} (I:Inv X pins O H s) (hx:X.ex=[]) (hb:s.heap.get? b=none):oZ X pins H b:=by
 refine⟨?_,?_,λz=>?_,λz=>?_,λx c e z=>?_,λp hp z=>?_⟩
 ·cases q:H b with
  | none=>rfl
  | some o=>obtain⟨u,e⟩:=ub I.hok q;rw[hb]at e;cases e
 ·cases q:X.s₀.heap.get? b with
  | none=>rfl
  | some o =>
   obtain⟨u,e⟩:=I.base.there b o q (by rw[hx];simp);rw[hb]at e;cases e
 ·obtain⟨m,⟨o,_,_,ho,_⟩,_⟩:=I.loc;rw[<- z,hb]at ho;cases ho
 ·obtain⟨_,o,ho,_⟩:=I.stack.mem z;rw[hb]at ho;cases ho
 ·obtain⟨v,o,ho,_⟩:=I.cell x c e;rw[z,hb]at ho;cases ho
 ·have:=(I.pin p hp).1;rw[z,hb]at this;cases this
variable {ps:List Str}
section
variable {P:Program} {w:World} {K:Frag} {mg:Str->Option Value} {base:Heap} {C:Addr}
theorem oH {den:Rho->R Out} (F:Fun K x qual st f fd) (sc:ax N ps (ai st))
  (hb:∀(cdv:Value) (A:Around) (outer:List Env) (s:Shared) (H:Hp) (E:XK),Room k (A.deeper (envOfC qual (ai st) s.heap.objs.size f cdv)) ->
   SDs C (gw (CXd P w) P w K mg base N qual (ai st) f cdv A outer s H E) (bM st) den) :
  FnOk P w K mg base (CXd P w) (k+1) f fd ps (spX K C mg ps.length λds=>fin (den (st0 N ds))):=by
 obtain⟨oc,od,kV,doc,pm,an,cdv,ct,osl,rfl,lk,hcd⟩:=F.ex;refine zc lk hcd sc (λvs H Q E h=>h.1) λA outer s H vs Q E hr h=>⟨_,hb cdv A outer s H E hr,?_⟩;obtain⟨_,ds,h,q⟩:=h;refine⟨st0 N ds,H,hU h,?_⟩;dsimp only at q;cases e:den (st0 N ds)with
 | val o =>
  rw[e]at q;cases o with
  | nx ρ'=>exact λσ' H' ⟨_,_,r⟩=>q _ H' (r.keep.trans msk_sub) .non
  | rt d=>exact λv H' s' h'=>q v H' s' h'
  | bk ρ'=>exact q.elim
  | ct ρ'=>exact q.elim
 | bad=>rw[e]at q;exact q.elim
 | exc c =>
  rw[e]at q;rintro pins σ' H' ev s' I sm ⟨ea,Cc,ch,he,hm,xr,hfx⟩;subst he;show wpAny _ _ (leaving _ (.ref ea)) _ _ s';unfold leaving;refine wpAny_bind (mY I.ok.frames I.stack rfl xr λh' ch' kb nw xr'=>?_);have I':=Inv.callX I kb hfx;refine⟨ea,.ref Cc,H',ch',rfl,xr',λb hb=>?_,I.os,I.bare,I'.base,I'.hok,q _ H' hm sm⟩;rcases nw b hb with hb|hb
  ·exact⟨(hfx b hb).2.1,(hfx b hb).1⟩
  ·have fT:=jy I rfl hb;exact⟨fT.2.1,fT.1⟩
end
def FnX (P:Program) (w:World) (K:Frag) (mg:Str->Option Value) (base:Heap) (C:Addr) (k:Nat) (x:Str) (n:Nat) (den:List D->R D):Prop :=
 ∃f fd ps,FnOk P w K mg base (CXd P w) k f fd ps (spX K C mg n den)/\mg x=some (.ref f)/\keepIn K (.ref f)=true/\Binds K fd ps []
variable {n:Nat}
theorem FnX.fn {P:Program} {w:World} {mg:Str->Option Value} {base:Heap} {C:Addr} (F:FnX P w K mg base C k x n den):Fn P w K mg base C k x n den:=by
 obtain⟨f,fd,ps,h1,h2,h3,h4⟩:=F;have up:∀vs H Q E,spD K C n den vs H Q E->spX K C mg n den vs H Q E0:=λvs H Q E zz0=>by
  obtain⟨hl,ds,h,q⟩:=zz0;refine⟨hl,ds,h,?_⟩;cases e:den ds with
  | val d=>rw[e]at q;exact q
  | exc c=>rw[e]at q;exact q.elim
  | bad=>rw[e]at q;exact q.elim
 refine⟨f,fd,ps,⟨λvs H Q E h=>h1.len vs H Q E0 (up vs H Q E h),λA outer s H args us vs Q E hr he hb hv hs=>?_⟩,h2,h3,h4⟩;refine codeAny_mono (h1.run A outer s H args us vs Q E0 hr he hb hv (up vs H Q E hs)) λr s' hq=>?_;cases r with
 | error e=>obtain⟨_,_,_,_,_,_,_,_,_,_,_,z⟩:=hq;exact z.elim
 | ok fl =>
  cases fl with
  | ret u=>exact hq
  | next=>exact hq
  | brk=>exact hq
  | cont=>exact hq
variable {vs:List V}
section
variable {C:Addr} {X:Cx}
theorem nJ {CX:CXT} {sp:Sp} {E:XK} {Q:VK} {us:List Value} (F:FnOk X.prog X.w X.K X.mg X.base CX k f fd ps sp) (hr:Room k X.A) (hb:Binds X.K fd ps [])
  (I:Inv X pins O H s) (r:Vals vs us) (h:sp vs H Q E):wpAny (model X.prog X.w) X.A (call (.ref f) us) (EP X pins O Q) (λe s'=>CX X.stack H s E e s') s:=by
 have hl:(us++[]).length=ps.length:=by rw[List.append_nil,<- r.length];exact F.len _ _ _ _ h
 have hbi:=hb s us I.kIn hl;rw[List.append_nil]at hbi;refine wpAny_call (codeAny_mono (F.run X.A X.stack s H ⟨us,[]⟩ us vs Q E hr I.env0 hbi r h) λr s' hq=>?_);cases r with
 | error e=>exact hq
 | ok fl =>
  cases fl with
  | ret u=>exact I.after hq
  | next=>exact False.elim hq
  | brk=>exact False.elim hq
  | cont=>exact False.elim hq
def rD (n:Nat) (den:List D->R D) (a:Rho->R (List D)):Rho->R D:=λU=>(a U).bind λds=>if ds.length=n then den ds else .bad
theorem A5 {e:Expr} (F:FnX X.prog X.w X.K X.mg X.base C k x n den) (hr:Room k X.A) (hg:Gl X x) (ha:AD C X (e::es) Fa) (hex:X.ex=[])
  (hdb:(x==("__debug__":Str))=false:=by decide) (he:starEach (e::es) X.env=(false,eval e X.env)::starEach es X.env:=by rfl) (hpl:(backTo pos (starEach es X.env)).any (·.1)=false:=by rfl) :
  ED C X (.Call (.Name x p) (e::es) [] pos) (rD n den Fa):=by
 obtain⟨f,fd,ps,hF,hm,hk,hb⟩:=F;rintro pins s O H Q I ⟨U,⟨H0,r0⟩,q⟩;refine wpAny_Call_Name_kw (da I hg hm ?_ hdb);refine callWith_K (h₀:=X.base) I.ok.mod.kin hk (thn (ha pos pins s O H (λvs H1=>∃ds,ds.length=n/\Same H H1/\fq C X U O H1 vs ds/\pV X (cj C X U O) (den ds) O H Q) I
  ⟨U,⟨H0,r0⟩,ck (P:=λz H=>pV X (cj C X U O) z O H Q) (λ_ h=>h) (λh=>h) q λds vs H1 s1 h1 q1=>?_⟩) λus s1 ⟨vs,H1,I1,rv,ds,hl,s1',h1,q1⟩=>⟨I1.kIn,?_⟩) he hpl
 ·split at q1
  ·exact⟨ds,‹_›,s1,h1,q1⟩
  ·exact q1.elim
 ·have r1:=r0.mono s1';have Z:=Rel.hid r1 I1;have J:=I1.hide Z;have em:∀M',(∀z∈bj U O,M' z=none)->msk U O (jn (bj U O) H1 M')=M':=λM' mz=>by
   rw[cA r0.bnd]
   funext b
   by_cases hb:b∈bj U O
   ·rw[dB hb,mz b hb]
   ·unfold cut;rw[if_neg hb,aZ hb]
  have sj:∀M',Same (cut (bj U O) H1) M'->Same H1 (jn (bj U O) H1 M'):=λM' sm b o eb=>by
   by_cases hb:b∈bj U O
   ·rw[fM hb];exact eb
   ·rw[aZ hb];exact sm b o (cut_some.mpr ⟨hb,eb⟩)
  cases e1:den ds with
  | bad=>rw[e1]at q1;exact q1.elim
  | val d =>
   rw[e1]at q1;refine wpAny_mono (nJ (E:=E0) (Q:=λv M'=>Same (cut (bj U O) H1) M'/\Has X.K C M' v d) hF hr hb J rv ?_) (λu s2 ⟨v,M',J2,ru,sm,hv⟩=>?_) λe s2 ⟨_,_,_,_,_,_,_,_,_,_,_,z⟩=>z.elim
   ·refine⟨h1.len.trans hl,ds,by rw[<- cA r0.bnd];exact h1,?_⟩;rw[e1];exact λv H' s2 h2=>⟨s2,h2⟩
   ·obtain⟨I2,mz⟩:=I1.show' Z J2;exact⟨v,_,I2,ru,q1 v _ (s1'.trans (sj M' sm)) (by show Has _ _ (msk U O _) v d;rw[em M' mz];exact hv)⟩
  | exc c =>
   rw[e1]at q1;refine wpAny_mono (nJ (E:=λcl _ M'=>(∃Cc,cl=.ref Cc/\X.mg (exN c)=some (.ref Cc))/\Same (cut (bj U O) H1) M') (Q:=λ_ _=>False) hF hr hb J rv ?_) (λu s2 ⟨v,M',J2,ru,z⟩=>z.elim) λe s2 hq=>?_
   ·refine⟨h1.len.trans hl,ds,by rw[<- cA r0.bnd];exact h1,?_⟩;rw[e1];exact λCc H' hm' s2=>⟨⟨Cc,rfl,hm'⟩,s2⟩
   ·obtain⟨ea,cl,M',ch,he',xr,hch,hos,hbare,un,hok,⟨Cc,hcc,hmc⟩,sm⟩:=hq;subst he';subst hcc;have J2:Inv X (pins++cc (bj U O) s1.heap) O M' s2:=J.call' hos un hok hbare (ch:=[]) (λb z=>nomatch z);obtain⟨I2,mz⟩:=I1.show' Z J2;refine q1 pins _ _ s2 I2 (s1'.trans (sj M' sm)) ⟨ea,Cc,ch,rfl,hmc,xr,λb hb=>?_⟩;have f1:=jy I1 hex (hch b hb).1;refine⟨?_,f1.2⟩;rw[aZ λz=>?_]
    ·exact(hch b hb).2
    ·obtain⟨o,ho,_⟩:=Z.obj b z;rw[(hch b hb).1]at ho;cases ho
end
variable {c:Nat} {p2:Pos} {Cc:Addr}
section
variable {C:Addr} {X:Cx}
variable (C X) in
def teS (F:Rho->R Unit):TE:=λO H Q=>∃U:RB,(∃H0,bV C X H0 U O H)/\match F U with
 | .val _=>∀(x:Str) H',Same H H'->Q (.str x) H'
 | _=>False
variable (C X) in
def SE (e:Expr) (F:Rho->R Unit):Prop:=PE X e (teS C X F)
def fS (a:Rho->R D):Rho->R Unit:=λU=>match a U with
 | .val (.int i)=>if i.natAbs<10 ^ 40 then .val ()else .bad
 | _=>.bad
theorem Bq {i:Int} (h:i.natAbs<10 ^ 40):i.natAbs.log2<1920:=by
 by_cases h0:i.natAbs=0
 ·rw[h0];decide
 ·exact(Nat.log2_lt h0).mpr (Nat.lt_of_lt_of_le h (Nat.le_trans (show 10 ^ 40<=2 ^ 160 by decide) (Nat.pow_le_pow_right (by decide) (by decide))))
theorem Bz {a:Expr} {p1:Pos} {Fa:Rho->R D} (ha:EB C X a Fa) (hy:y.length<=1000)
  (hd:evalEach [.Constant (.str y) j p2] X.env=[eval (.Constant (.str y) j p2) X.env]:=by rfl):SE C X (.JoinedStr [.FormattedValue a (-1) none p1,.Constant (.str y) j p2] pos) (fS Fa):=by
 rintro pins s O H Q I ⟨U,⟨H0,r⟩,q⟩;refine JoinedStr_many (joinParts_cons (FormattedValue_plain ?_));unfold fS at q;cases e:Fa U with
 | exc c=>rw[e]at q;exact q.elim
 | bad=>rw[e]at q;exact q.elim
 | val d =>
  rw[e]at q;cases d with
  | int i =>
   dsimp only at q;by_cases hi:i.natAbs<10 ^ 40
   ·rw[if_pos hi]at q;refine thn (ha pins s O H (λv H1=>Same H H1/\v=.int i) I ⟨U,⟨H0,r⟩,?_⟩) λu s1 ⟨v,H1,I1,rv,s1',ev⟩=>?_
    ·rw[e];exact λv H1 s1 h1=>⟨s1,h1.int⟩
    ·subst ev;obtain⟨t,rfl⟩:=(show ∃t,u=Value.int i t from rv);have hlen:=int_text_length_le10 (k:=40) (by decide) hi;refine formatField_int_small (Bq hi) ⟨?_,?_⟩
     ·have e0:(Str.empty++(toString i:Str)).length=(Str.ofString (toString i)).length:=by
       rw[strLen_append];exact Nat.zero_add _
      rw[e0,PySem.ofString_length,sizeLine_eq];omega
     ·refine joinParts_cons ?_;show wpAny _ _ (eval (.Constant (.str y) j p2) X.env) _ _ _;refine Calls.Constant_str ⟨?_,?_⟩
      ·rw[strLen_append,strLen_append];have e0:(Str.empty:Str).length=0:=rfl;have e1:(toString i:Str).length=(toString i).length:=PySem.ofString_length _;rw[e0,e1,sizeLine_eq];omega
      ·show wpAny _ _ (joinParts _ []) _ _ _;refine joinParts_nil ⟨.str _,H1,(I1.tok _),⟨_,rfl⟩,q _ H1 s1'⟩ ?_;rw[strLen_append,strLen_append];have e0:(Str.empty:Str).length=0:=rfl;have e1:(toString i:Str).length=(toString i).length:=PySem.ofString_length _;rw[e0,e1,sizeLine_eq];omega
   ·rw[if_neg hi]at q;exact q.elim
  | _=>exact q.elim
abbrev veM:List Value:=[.type "ValueError",.type "Exception",.type "BaseException",.type "object"]
def XC (K:Frag) (mg:Str->Option Value) (c:Nat):Prop:=∃Cc,mg (exN c)=some (.ref Cc)/\excIn K Cc veM "ValueError.__new__"=true
theorem sR {h:Heap} {bmB:List Value} {newId:String} (X:K.In h) (q:excIn K Cc bmB newId=true) :
  ∃bm N nm qn bs hd sn sub ab col dd k0 k1 k2 k3 k5 mN,h.get? Cc=some (excClassObj nm qn Cc N bs bm hd sn sub ab col dd k0 k1 k2 k3 k5 newId)/\h.Ns N mN/\mN "__init__"=none/\OwnTail h bmB bm:=by
 unfold excIn at q;cases ho:K.lookup Cc with
 | none=>rw[ho]at q;cases q
 | some o =>
  rw[ho]at q;split at q
  ·rename_i dd cd sl eo;cases eo;split at q
   ·rename_i C1 bm k0 k1 k2 k3 n1 k5 em es;rw[Bool.and_eq_true,Bool.and_eq_true,Bool.and_eq_true,Bool.and_eq_true,Bool.and_eq_true]at q;obtain⟨⟨⟨⟨⟨q1,q2⟩,q3⟩,q4⟩,q5⟩,q6⟩:=q;obtain rfl:=beq_iff_eq.mp q1;obtain rfl:=beq_iff_eq.mp q2;have hdel:cd.hasDel=false:=by simpa using q3
    clear q3;cases cd with
    | mk nm bs mro ns qn hd sn sub ab col del =>
     dsimp only at em hdel q5 q6;subst em;subst hdel;obtain⟨sl⟩:=sl;dsimp only at es;subst es;exact⟨bm,ns,nm,qn,bs,hd,sn,sub,ab,col,dd,k0,k1,k2,k3,k5,_,X _ _ ho,.of_isNs (PySem.W.isNs_of_in X q5),PySem.W.nsMap_none_of_in X q5 (beq_iff_eq.mp q6),PySem.W.tail_of_in X q4⟩
   ·cases q
  ·cases q
def rse (c:Nat) (F:Rho->R Unit):Rho->R Out:=λU=>match F U with
 | .val _=>.exc c
 | _=>.bad
theorem uY {np cpos:Pos} {e:Expr} {F:Rho->R Unit} (hX:XC X.K X.mg c) (hx:x=exN c) (hc:X.calm=true) (hex:X.ex=[]) (hg:Gl X x) (he:SE C X e F) (hst:starEach [e] X.env=(false,eval e X.env)::starEach [] X.env) (hdb:(x==("__debug__":Str))=false:=by decide) :
  SD C X (.Raise (some (.Call (.Name x np) [e] [] cpos)) none pos) (rse c F):=by
 subst hx;obtain⟨Cc,hm,hq⟩:=hX;rintro pins s O H Dn I ⟨_,H0,⟨U,rfl,r⟩,q⟩;obtain⟨bm,N,nm,qn,bs,hd,sn,sub,ab,col,dd,k0,k1,k2,k3,k5,mN,hC,hN,hni,T⟩:=sR I.mod.kin hq;have kb:∀{s2:Shared} {H2:Hp},Inv X pins O H2 s2->∀b o,X.base.get? b=some o->s2.heap.get? b=some o:=λI2=>I2.bk;unfold rse at q;cases eF:F U with
 | exc c'=>rw[eF]at q;exact q.elim
 | bad=>rw[eF]at q;exact q.elim
 | val u =>
  rw[eF]at q;refine wpAny_Raise_call_subT (C:=Cc) (nm:=nm) (q:=qn) (N:=N) (bs:=bs) (bm:=bm) (hdct:=hd) (sn:=sn) (sub:=sub) (ab:=ab) (col:=col) (dd:=dd) (k0:=k0) (k1:=k1) (k2:=k2) (k3:=k3) (k5:=k5)
   PySem.F.excBase_ValueError (mN:=mN) (T.hasType PySem.F.excBase_ValueError.hasBase) (I.ok.hd hc) (by rw[hst];rfl) hni (da I hg hm ⟨rfl,?_⟩ hdb)
  have hp:=(bh he ce hst) cpos pins s O H (λvs H1=>Same H H1/\vs.length=1) I ⟨U,⟨H0,r⟩,by rw[eF];exact λy H' s'=>⟨s',rfl⟩⟩;rw[hst]at hp ⊢;refine Calls.evalArgs_plain (thn hp λus s2 zz0=>?_);obtain⟨vs,H1,I2,rv,s1',hl⟩:=zz0;refine⟨rfl,by show us.length<=sizeLine;rw[<- rv.length,hl];decide,I2.bk _ _ hC,hN.keeps I2.bk,T.keeps I2.bk,λh' ea made=>?_⟩;obtain⟨t,g1,g2,g3⟩:=made.there;have I3:Inv X pins O H1 { s2 with heap:=h' }:=I2.kept (t':=s2.toks) made.keeps;refine q pins O H1 (.ref ea) _ I3 ((r.keep.trans msk_sub).trans s1') ⟨ea,Cc,[ea],rfl,hm,⟨List.mem_singleton.mpr rfl,⟨_,_,g1,rfl,rfl,rfl,by show 1<6;decide,.inl rfl⟩,λb hb=>?_⟩,λb hb=>?_⟩
  ·rw[List.mem_singleton.mp hb];exact⟨_,_,g1,rfl⟩
  ·rw[List.mem_singleton.mp hb];exact jy I2 hex made.new
end
structure XF (K:Frag) (Cc:Addr):Prop where
 ex:excIn K Cc veM "ValueError.__new__"=true
 ga:findIn K (.ref Cc) "__getattribute__"=some (some (.builtin "BaseException.__getattribute__"))
 gn:findIn K (.ref Cc) "__getattr__"=some none
 ca:findIn K (.ref Cc) "__class__"=some (some (.builtin "object.__class__"))
 cn:specialIn K (.builtin "object.__class__") "__get__"=some (some (.builtin "getset_descriptor.__get__"))
 ct:takesIn K (.builtin "object.__class__")=some true
 mo:mroIn K Cc (.type "object")=some true
theorem XF.cls (F:XF K Cc):(PySem.W.clsIn K Cc).isSome=true:=by
 have q:=F.ex;unfold excIn at q;unfold PySem.W.clsIn;split at q
 ·rename_i ho;rw[ho];rfl
 ·cases q
theorem XF.find (F:XF K Cc):PySem.W.findObj K Cc none "__class__"=some (.bind (.builtin "getset_descriptor.__get__") (.builtin "object.__class__")):=by
 obtain⟨cd,hc⟩:=Option.isSome_iff_exists.mp F.cls;unfold PySem.W.findObj;rw[hc,Option.bind_some,F.ca,Option.bind_some];simp[F.cn,F.ct]
section
variable {prog:Program} {w:World} {A:Around} {E:Value->Shared->Prop} {K:Frag} {h:Heap} {g:Array GenState} {d:Drawn} {t:Nat} {os:OsState} {x Cc:Addr} {ox:Obj}
open PySem.W in
theorem AQ {tk:Tok} {R:Result->Shared->Prop} (F:XF K Cc) (X:K.In h) (I:InstAt h x ox Cc none) (hq:R (.ok (.ret (.ref Cc))) ⟨h,g,d,t,os⟩) :
  codeAny (model prog w) A (.call (.builtin "BaseException.__getattribute__") ⟨[.ref x,.str "__class__" tk],[]⟩) R ⟨h,g,d,t,os⟩:=by
 obtain⟨bm,N,nm,qn,bs,hd,sn,sub,ab,col,dd,k0,k1,k2,k3,k5,mN,hC,hN,hni,T⟩:=sR X F.ex;have hcB:(Value.ref Cc::bm).contains (.type "BaseException")=true:=by rw[List.contains_cons,T.hasType PySem.F.excBase_ValueError.hasBase];rfl
 have hx:=I.at_;have hc:=I.cls;have L0:=I.type (M:=model prog w);have L1:=looks_find (M:=model prog w) X I F.find;refine codeAny_call_builtin PySem.F.attr_ValueError.ga.plain PySem.F.entry_bexc_ga ?_;have hk:builtinKind "BaseException.__getattribute__"=some .slot:=by decide +kernel
 have hsplit:splitId "BaseException.__getattribute__"=some ("BaseException","__getattribute__"):=by decide +kernel
 have ha:=PySem.F.args_bexc_ga (.ref x) (.str "__class__" tk);have step:∀(A':Around) (E':Value->Shared->Prop) (Q:Unit->Shared->Prop),Q () ⟨h,g,d,t,os⟩->wpAny (model prog w) A' (checkBuiltinCall "BaseException.__getattribute__" ⟨[.ref x,.str "__class__" tk],[]⟩) Q E' ⟨h,g,d,t,os⟩:=λA' E' Q q=>by
  simp only[checkBuiltinCall,hk,hsplit];refine wpAny_bind ?_;unfold isInstance
  repeat (first|(with_reducible refine wpAny_loadPart_at hx ?_;rw[hc])|(with_reducible refine wpAny_isSubtype_exc hC ?_;rw[hcB])|wp_step)
  exact q
 refine step _ _ _ ?_;unfold Builtin.«object.__getattribute__»
 repeat (any_goals (first|assumption|with_reducible refine L0.at ?_|with_reducible refine L1.at ?_|wp_step))
 refine class_get X I F.mo ?_
 repeat (any_goals (first|assumption|wp_step))
open PySem.W in
theorem uf {Q:Option Value->Shared->Prop} (F:XF K Cc) (X:K.In s.heap) (I:InstAt s.heap x ox Cc none) (hq:Q (some (.ref Cc)) { s with toks:=s.toks+1 }):wpAny (model prog w) A (getAttr? (.ref x) "__class__") Q E s:=by
 obtain⟨h,g,d,t,os⟩:=s;have L0:=I.type (M:=model prog w);have L1:=looks_findIn (M:=model prog w) X F.ga;have L2:=looks_findIn (M:=model prog w) X F.gn;have f3:=PySem.F.attr_ValueError.ga.bind (.ref x);have hx2:(Value.builtin "BaseException.__getattribute__" == Value.builtin "object.__getattribute__")=false:=by decide +kernel
 have hx1:(onTheHeap (Value.ref Cc)&&Value.builtin "BaseException.__getattribute__" == Value.builtin "object.__getattribute__")=false:=by rw[hx2];rfl
 unfold getAttr? getAttrBy?
 repeat (any_goals (first|assumption|with_reducible refine L0.at ?_|with_reducible refine L1.at ?_|with_reducible refine L2.at ?_|wp_step))
 refine AQ F X I ?_;show wpAny _ _ (handedOut (.ref Cc)) _ _ _;exact handed_on rfl (wpAny_pure hq)
open PySem.W in
theorem p7 (F : XF K Cc) : KitX K (.ref x) (.ref Cc) (fun h => ∃ ox, InstAt h x ox Cc none) where
  ty := fun _ _ _ yy0 => by
   obtain ⟨ox, I⟩ := yy0
   exact I.type
  it := fun M h X _ => by
    obtain ⟨cd, hc⟩ := Option.isSome_iff_exists.mp F.cls
    unfold clsIn at hc
    split at hc
    · rename_i ho
      intro A' Q' E' s' k q
      unfold isType loadHead
      exact wpAny_bind (wpAny_loadPart (k _ _ (X _ _ ho)) (wpAny_pure q))
    · cases hc
  ne := fun h tp dd its n sl X htp => by
    obtain ⟨cd, hc⟩ := Option.isSome_iff_exists.mp F.cls
    refine Bool.eq_false_iff.mpr fun q => ?_
    have e : Cc = tp := Value.ref.inj (beq_iff_eq.mp q)
    subst e
    unfold clsIn at hc
    split at hc
    · rename_i ho
      have z := (X _ _ ho).symm.trans htp
      cases z
    · cases hc
  ca := fun X ⟨ox, I⟩ k => uf F X I k
end
structure rG (K:Frag) (mg:Str->Option Value) (S:List Nat):Prop where
 cls:∀k,k<7->∃Ck,nsIn K mainGlobals (exN k)=some (some (.ref Ck))/\mg (exN k)=some (.ref Ck)
 xf:∀c∈S,∀Cc,nsIn K mainGlobals (exN c)=some (some (.ref Cc))->XF K Cc
 kit:∀c∈S,∀k,k<7->∀Cc Ck,nsIn K mainGlobals (exN c)=some (some (.ref Cc))->nsIn K mainGlobals (exN k)=some (some (.ref Ck))->kitOne K (.ref Cc) (.ref Ck)=some (decide (c=k))
 kve:∀c∈S,∀Cc,nsIn K mainGlobals (exN c)=some (some (.ref Cc))->kitOne K (.ref Cc) (.type "ValueError")=some true
variable {S:List Nat} {A:Around} {ap:Pos}
section
variable {C:Addr} {X:Cx}
theorem p9 (I:Inv X pins O H s) (XA:rG X.K X.mg S) (hc:c∈S) (e:H a=some (.ext (exP X.K c a))) :
  ∃Cc,nsIn X.K mainGlobals (exN c)=some (some (.ref Cc))/\XF X.K Cc/\∃ox,InstAt s.heap a ox Cc none:=by
 obtain⟨⟨ox,Cc,h1,h2,h3,⟨vs,h4⟩,h5⟩,_⟩:=I.hok a _ e;refine⟨Cc,h5,XA.xf c hc Cc h5,ox,h1,h2,?_,by rw[h3];trivial⟩;unfold PySem.W.notCls;rw[h4]
def CN (K:Frag) (S:List Nat) (k:Nat):List V->Hp->VK->Prop:=λvs H Q=>∃a c Ck,vs=[.ref a,.ref Ck]/\nsIn K mainGlobals (exN k)=some (some (.ref Ck))/\H a=some (.ext (exP K c a))/\c∈S/\Q (.bl (decide (c=k))) H
theorem wN (XA:rG X.K X.mg S) (hk:k<7):iC X (.builtin "isinstance") (CN X.K S k):=by
 rintro pins s O H xs us Q I r ⟨a,c,Ck,rfl,hCk,e,hc,q⟩;cases r with
 | cons r1 r=>cases r with
  | cons r2 r =>
   cases r;obtain rfl:=(show _=Value.ref Ck from r2);obtain rfl:=(show _=Value.ref a from r1);obtain⟨Cc,hCc,F,ox,J⟩:=p9 I XA hc e;exact kia_one (p7 F) I.kIn ⟨ox,J⟩ (XA.kit c hc k hk Cc Ck hCc hCk) (λz=>nomatch z) λtk=>⟨.bl _,H,I.tok _,rfl,q⟩
def mI (S:List Nat) (k:Nat):D->R D
 | .exn c=>if c∈S then .val (.bl (decide (c=k)))else .bad
 | _=>.bad
theorem iJ {e:Expr} (XA:rG X.K X.mg S) (hk:k<7) (hxk:x=exN k) (hg:Gl X "isinstance") (hm:X.mg "isinstance"=none) (hgx:Gl X x) (he:EB C X e F) (hst:starEach [e,.Name x p2] X.env=(false,eval e X.env)::starEach [.Name x p2] X.env)
  (hdb:(x==("__debug__":Str))=false:=by decide):ED C X (.Call (.Name "isinstance" p) [e,.Name x p2] [] pos) (una (mI S k) F):=by
 subst hxk;obtain⟨Ck,hCk,hmk⟩:=XA.cls k hk;refine aA (fE (wN XA hk) hg hm boot_isinstance (bh he (bh (se (v:=.ref Ck) hgx hmk rfl hdb) ce aa) hst) (he:=hst) (hpl:=am aa av)) λO H Q ⟨U,r0,q⟩=>⟨U,r0,aF (P:=λz H=>pV X (cj C X U O) z O H Q) (λ_ h=>h) (λh=>h) q λy v H1 s1 h1 q1=>?_⟩;cases y with
 | exn c =>
  cases h1 with
  | cl h1 =>
   cases h1 with
   | exn e1 =>
    by_cases hc:c∈S
    ·unfold mI at q1;dsimp only at q1;rw[if_pos hc]at q1;exact⟨_,c,Ck,rfl,hCk,msk_sub _ _ e1,hc,q1 _ H1 s1 (.bl _)⟩
    ·unfold mI at q1;dsimp only at q1;rw[if_neg hc]at q1;exact q1.elim
 | _=>exact q1.elim
theorem vy {e:Expr} {T:Str} {T':String} {te:TE} (hg:Gl X "isinstance") (hm:X.mg "isinstance"=none) (hgT:Gl X T) (hmT:X.mg T=none) (hbT:bootBuiltins T=some (.type T')) (he:PE X e te) (hst:starEach [e,.Name T p2] X.env=(false,eval e X.env)::starEach [.Name T p2] X.env)
  (hn:T ≠ "__name__":=by decide) (hdb:(T==("__debug__":Str))=false:=by decide) :
  PE X (.Call (.Name "isinstance" p) [e,.Name T p2] [] pos) (λO H Q=>te O H λv H1=>∃b,(∀(pins:List (Addr×Obj)) (s:Shared) (u:Value) (Q':Value->Shared->Prop) (E':Value->Shared->Prop),Inv X pins O H1 s->RelV v u->(∀tk,Q' (.bool b) { s with toks:=tk })->wpAny (model X.prog X.w) X.A (call (.builtin "isinstance") [u,.type T']) Q' E' s)/\Q (.bl b) H1):=by
 intro pins s O H Q I h;refine wpAny_Call_Name_kw (gL I hg hm boot_isinstance ?_);refine PyProof.Rows.callWith_builtin1 ?_ hst (am aa av);rw[hst];refine Calls.spliced_cons (thn (he pins s O H _ I h) λu s1 zz0=>?_);obtain⟨v,H1,I1,rv,b,hb,q⟩:=zz0;rw[aa];refine Calls.spliced_cons (gL I1 hgT hmT hbT ?_ hn hdb);refine Calls.spliced_nil ?_;exact hb pins s1 u _ _ I1 rv λtk=>⟨.bl b,H1,I1.tok _,rfl,q⟩
def ym (S:List Nat):D->R D
 | .exn c=>if c∈S then .val (.bl true)else .bad
 | _=>.bad
theorem AZ {e : Expr} (XA : rG X.K X.mg S) (hg : Gl X "isinstance") (hm : X.mg "isinstance" = none) (hgT : Gl X "ValueError") (hmT : X.mg "ValueError" = none) (hbT : bootBuiltins "ValueError" = some (.type "ValueError")) (he : EB C X e F) (hst : starEach [e, .Name "ValueError" p2] X.env = (false, eval e X.env) :: starEach [.Name "ValueError" p2] X.env) :
    ED C X (.Call (.Name "isinstance" p) [e, .Name "ValueError" p2] [] pos) (una (ym S) F) :=
  aA (vy hg hm hgT hmT hbT he hst) fun O H Q yy1 => by
   obtain ⟨U, r0, q⟩ := yy1
   exact ⟨U, r0, aF (P := fun z H => pV X (cj C X U O) z O H Q) (fun _ h => h) (fun h => h) q fun y v H1 s1 h1 q1 => by
    cases y with
    | exn c =>
      cases h1 with
      | cl h1 =>
        cases h1 with
        | @exn a _ e1 =>
          by_cases hc : c ∈ S
          · unfold ym at q1
            dsimp only at q1
            rw [if_pos hc] at q1
            refine ⟨true, fun pins s u Q' E' I rv hQ => ?_, q1 _ H1 s1 (.bl true)⟩
            obtain rfl := (show u = Value.ref a from rv)
            obtain ⟨Cc, hCc, F, ox, J⟩ := p9 I XA hc (msk_sub _ _ e1)
            exact kia_one (p7 F) I.kIn ⟨ox, J⟩ (XA.kve c hc Cc hCc) (fun z => nomatch z) hQ
          · unfold ym at q1
            dsimp only at q1
            rw [if_neg hc] at q1
            exact q1.elim
    | _ => exact q1.elim⟩
def fB:List D->Option (List Bool)
 | []=>some []
 | .bl b::r=>(fB r).map (b :: ·)
 | _=>none
theorem gh {K:Frag} {M:Hp}:∀{xs:List D} {l:List Bool} {vs:List V},fB xs=some l->HasL K C M vs xs->vs=l.map V.bl
 | [],l,vs,e,h=>by cases e;cases h;rfl
 | x::r,l,vs,e,h=>by
  cases x with
  | bl i =>
   rw[fB]at e;cases z:fB r with
   | none=>rw[z]at e;cases e
   | some l' =>
    rw[z]at e;cases e;cases h with
    | cons a b=>cases a;rw[gh z b];rfl
  | _=>cases e
theorem fQ:∀{bs:List Bool} {us:List Value},Vals (bs.map V.bl) us->us=bs.map Value.bool
 | [],_,.nil=>rfl
 | b::bs,_,.cons r t=>by rw[fQ t];cases(show _=Value.bool b from r);rfl
def isT:Value->Bool
 | .bool b=>b
 | _=>false
theorem sX (I:Inv X pins O H s) (hu:A.units<cLine) {bs:List Bool}:∀y,y∈(bs.map Value.bool).toArray->SeqAt.EqAt A s y (.bool true) (isT y):=λy hy=>by
 have hy:y∈bs.map Value.bool:=by simpa using hy
 obtain⟨b,_,rfl⟩:=List.mem_map.mp hy;have:=(wx (C:=(0:Addr)) I 0 (A:=A) (x:=.bl b) (y:=.bl true) (v:=.bl b) (w:=.bl true) (u:=.bool b) (t:=.bool true) (by omega) rfl rfl (.bl b) (.bl true) rfl rfl).2;have e:pyq 0 (.bl b) (.bl true)=isT (.bool b):=by cases b<;>rfl
 rw[e]at this;exact this
def BK:V->List V->Hp->VK->Prop:=λx vs H Q=>∃(l:Addr) (bs:List Bool),x=.ref l/\vs=[.bl true]/\H l=some (.lst (bs.map V.bl))/\Q (.int ((bs.countP id:Nat):Int)) H
theorem pH (hu:X.A.units+9<cLine):MtM X "list.count" BK:=by
 intro pins s O H x vs v us Q I rx rv h;obtain⟨l,bs,rfl,rfl,hH,q⟩:=h;cases rx;obtain⟨u1,rfl,r1⟩:=rv.one;cases(show u1=Value.bool true from r1);obtain⟨z,its,n,r,hl,e⟩:=I.lstM hH;have ei:=fQ r;subst ei;refine call_meets PySem.F.slot_list_count ⟨_,e,rfl⟩ PySem.F.entry_list_count (PySem.F.args_list_count_2 _ _) (SeqAt.list_countAt l _ n none #[] (.bool true) isT) ⟨e,sX I ?_,?_⟩
 ·have:X.A.in1.in1.units=X.A.units+2:=rfl
  first|omega|(show X.A.units+1+1<cLine;omega)|(show X.A.units+1<cLine;omega)
 ·refine⟨.int _,H,I.tok _,⟨_,rfl⟩,?_⟩;have:List.countP isT (bs.map Value.bool)=bs.countP id:=by rw[List.countP_map];rfl
  simp only[this];exact q
def BJ:V->List V->Hp->VK->Prop:=λx vs H Q=>∃(l:Addr) (bs:List Bool) (j:Nat),x=.ref l/\vs=[.bl true]/\H l=some (.lst (bs.map V.bl))/\bs.length<=1000/\bs.findIdx? id=some j/\Q (.int (j:Int)) H
theorem pG (hu:X.A.units+9<cLine):MtM X "list.index" BJ:=by
 intro pins s O H x vs v us Q I rx rv h;obtain⟨l,bs,j,rfl,rfl,hH,hlen,hj,q⟩:=h;cases rx;obtain⟨u1,rfl,r1⟩:=rv.one;cases(show u1=Value.bool true from r1);obtain⟨z,its,n,r,hl,e⟩:=I.lstM hH;have ei:=fQ r;subst ei;obtain⟨hjl,hjt,hjn⟩:=List.findIdx?_eq_some_iff_getElem.mp hj;refine call_meets PySem.F.slot_list_index ⟨_,e,rfl⟩ PySem.F.entry_list_index (PySem.F.args_list_index_2 _ _) (SeqAt.list_indexAt l _ n none #[] (.bool true) isT j (by simpa using hjl) (by omega) (by simpa[isT]using hjt) (λm hm hlt=>by
  have:=hjn m hlt;simpa[isT]using this)) ⟨e,sX I ?_,?_⟩
 ·first|omega|(show X.A.units+1+1<cLine;omega)|(show X.A.units+1<cLine;omega)
 ·exact⟨.int _,H,I.tok _,⟨_,rfl⟩,q⟩
def A_:D->R D
 | .lst xs=>match fB xs with
  | some bs=>.val (.int ((bs.countP id:Nat):Int))
  | none=>.bad
 | _=>.bad
def AB:D->R D
 | .lst xs=>match fB xs with
  | some bs=>if bs.length<=1000 then match bs.findIdx? id with
   | some j=>.val (.int (j:Int))
   | none=>.bad
   else .bad
  | none=>.bad
 | _=>.bad
theorem yE (hu : X.A.units + 9 < cLine) (ho : EB C X o F)
    (hs : ∀ {to : TE} {t : TA}, PE X o to -> PA X [.Constant (.bool true) j p] t -> PE X (.Call (.Attribute o "count" ap) [.Constant (.bool true) j p] [] cp) (tBM X.K "list" BK to t) := by
      exact fun ho ha => jK PySem.F.plainAttrs_list PySem.F.slot_list_count PySem.F.type_list_count (pH (by assumption)) ho ha) :
    ED C X (.Call (.Attribute o "count" ap) [.Constant (.bool true) j p] [] cp) (una A_ F) :=
  aA (hs ho (bh sg ce ao)) fun O H Q yy2 => by
   obtain ⟨U, r0, q⟩ := yy2
   exact ⟨U, r0, aF (P := fun z H => pV X (cj C X U O) z O H Q) (fun _ h => h) (fun h => h) q fun y v H1 s1 h1 q1 => by
    cases y with
    | lst xs =>
      unfold A_ at q1
      dsimp only at q1
      split at q1
      · rename_i bs eb
        obtain ⟨a, vs, rfl, e1, h2⟩ := h1.lst msk_sub
        obtain rfl := gh eb h2
        exact ⟨.inl ⟨rfl, _, SqL.of e1⟩, a, bs, rfl, rfl, e1, q1 _ H1 s1 (.int _)⟩
      · exact q1.elim
    | _ => exact q1.elim⟩
theorem yC (hu : X.A.units + 9 < cLine) (ho : EB C X o F)
    (hs : ∀ {to : TE} {t : TA}, PE X o to -> PA X [.Constant (.bool true) j p] t -> PE X (.Call (.Attribute o "index" ap) [.Constant (.bool true) j p] [] cp) (tBM X.K "list" BJ to t) := by
      exact fun ho ha => jK PySem.F.plainAttrs_list PySem.F.slot_list_index PySem.F.type_list_index (pG (by assumption)) ho ha) :
    ED C X (.Call (.Attribute o "index" ap) [.Constant (.bool true) j p] [] cp) (una AB F) :=
  aA (hs ho (bh sg ce ao)) fun O H Q yy3 => by
   obtain ⟨U, r0, q⟩ := yy3
   exact ⟨U, r0, aF (P := fun z H => pV X (cj C X U O) z O H Q) (fun _ h => h) (fun h => h) q fun y v H1 s1 h1 q1 => by
    cases y with
    | lst xs =>
      unfold AB at q1
      dsimp only at q1
      split at q1
      · rename_i bs eb
        by_cases hl : bs.length <= 1000
        · rw [if_pos hl] at q1
          split at q1
          · rename_i jj ej
            obtain ⟨a, vs, rfl, e1, h2⟩ := h1.lst msk_sub
            obtain rfl := gh eb h2
            exact ⟨.inl ⟨rfl, _, SqL.of e1⟩, a, bs, jj, rfl, rfl, e1, hl, ej, q1 _ H1 s1 (.int _)⟩
          · exact q1.elim
        · rw [if_neg hl] at q1; exact q1.elim
      · exact q1.elim
    | _ => exact q1.elim⟩
end
def reX (X:Cx) (A:Around) (cm:Bool) (pn:List (Addr×Obj)) (xe:Value->Shared->Prop):Cx:={ X with A:=A,calm:=cm,pn:=pn,xe:=xe }
section
variable {X:Cx} {pins pins':List (Addr×Obj)} {O:St} {H:Hp} {s:Shared} {A:Around} {cm:Bool} {xe:Value->Shared->Prop}
theorem _root_.L2.Inv.re (I:Inv X pins O H s) (hf:A.frames=X.A.frames) (hh:cm=true->A.handled=none):Inv (reX X A cm (X.pn++pins) xe) [] O H s :=
 ⟨⟨I.ok.mod,I.ok.kind,I.ok.glob,I.ok.blt,I.ok.above,I.ok.inj,I.ok.has,I.ok.cab,hh,hf.trans I.ok.frames,I.ok.stk,I.ok.exf,I.ok.bs,I.ok.bsz,I.ok.noex,I.ok.exfs,I.ok.funs,I.ok.frf⟩,I.os,I.bare,I.base,I.loc,I.cell,I.free,I.freeC,λp hp=>I.pin p (by have hp:p∈(X.pn++pins)++[]:=hp;rw[List.append_nil]at hp;exact hp),I.hok,I.len⟩
theorem _root_.L2.Inv.unre (ok:X.Ok) (J:Inv (reX X A cm (X.pn++pins) xe) pins' O H s):Inv X pins O H s :=
 ⟨ok,J.os,J.bare,J.base,J.loc,J.cell,J.free,J.freeC,λp hp=>J.pin p (List.mem_append_left _ hp),J.hok,J.len⟩
theorem _root_.L2.Inv.goes {h':Heap} {v:Option Value} {m:Str->Option Value} {t':Nat} (I:Inv X pins O H s) (hN:X.N.Nodup) (hi:X.N[i]?=some x) (hn:s.heap.Ns X.env.locals m) (hn':h'.Ns X.env.locals (λy=>if y=x then v else m y)) (hs:Heap.SameBut X.env.locals s.heap h') :
  Inv X pins (O.set i none) H { s with heap:=h',toks:=t' }:=by
 have oth:∀b,b≠X.env.locals->h'.get? b=s.heap.get? b:=λb hb=>hs.2 b hb;have neL:∀b o,X.s₀.heap.get? b=some o->b≠X.env.locals:=λb o e=>Nat.ne_of_lt (Nat.lt_of_lt_of_le (Heap.lt_size e) I.ok.above);obtain⟨m0,hn0,hl⟩:=I.loc;have em:m0=m:=by
  obtain⟨o,es,ep,ho,hd,_,hf⟩:=hn0;obtain⟨o',es',ep',ho',hd',_,hf'⟩:=hn;rw[ho]at ho';cases ho';rw[hd]at hd';cases hd'
  funext y
  rw[<- hf y,<- hf' y]
 subst em;refine⟨I.ok,I.os,I.bare,⟨λb o e n hb hx=>?_,λb o e n hb hx=>?_,I.base.free,λb o e hx=>?_,I.base.tups,I.base.frzs,I.base.tbls⟩,⟨_,hn',λj y v' e1 e2 e3=>?_⟩,λy c e=>?_,I.free,I.freeC,λp hp=>?_,λb ob e=>?_,by simpa using I.len⟩
 ·exact(oth b (neL b o e)).trans (I.base.keep b o e n hb hx)
 ·obtain⟨sl,q⟩:=I.base.slot b o e n hb hx;exact⟨sl,(oth b (neL b o e)).trans q⟩
 ·obtain⟨o',q⟩:=I.base.there b o e hx;exact⟨o',(oth b (neL b o e)).trans q⟩
 ·have hj:i≠j:=λz=>by
   subst z;rw[List.getElem?_set]at e2;simp only[if_true]at e2;split at e2<;>cases e2
  rw[List.getElem?_set_ne hj]at e2;obtain⟨u',r',q⟩:=hl j y v' e1 e2 e3;refine⟨u',r',?_⟩;rcases q with⟨k,e⟩|⟨k,c,e,z⟩
  ·refine .inl ⟨k,?_⟩;have:y≠x:=λe=>hj (kU hN hi (e▸e1));simp[this,e]
  ·exact .inr ⟨k,c,e,z.sameBut hs (I.cne y c e)⟩
 ·obtain⟨w',z⟩:=I.cell y c e;exact⟨w',z.sameBut hs (I.cne y c e)⟩
 ·obtain⟨e,n,ne,nf,d⟩:=I.pin p hp;exact⟨(oth p.1 ne).trans e,n,ne,nf,d⟩
 ·refine(I.hok b ob e).stay (λc w' hc q=>(oth c λz=>?_).trans q) (λ_ q=>q) λ_ _ q=>q;rcases hc with hc|hc
  ·rw[<- hc,z,I.free]at e;cases e
  ·rw[z,I.free]at hc;cases hc
theorem _root_.L2.Inv.adopt {o:HO} (I:Inv X pins O H s) (f:oZ X pins H a) (ok:ObjOk X.prog X.w (upd H a o) s.heap a o):Inv X pins O (upd H a o) s:=by
 obtain⟨f1,f2,f3,f4,f5,f6⟩:=f;have up:∀b u,H b=some u->upd H a o b=some u:=λb u e=>by rw[au (λz=>by rw[z,f1]at e;cases e)];exact e
 refine⟨I.ok,I.os,I.bare,⟨I.base.keep,I.base.slot,λb u e n hx=>?_,I.base.there,λb xs e=>up _ _ (I.base.tups b xs e),λb u w e=>up _ _ (I.base.frzs b u w e),λb ps e=>?_⟩,I.loc,I.cell,?_,λx c e=>?_,λp hp=>?_,λb u e=>?_,I.len⟩
 ·rw[au (λz=>by rw[z,f2]at e;cases e)];exact I.base.free b u e n hx
 ·obtain⟨more,q⟩:=I.base.tbls b ps e;exact⟨more,up _ _ q⟩
 ·rw[au f3.symm];exact I.free
 ·rw[au (f5 x c e)];exact I.freeC x c e
 ·obtain⟨q1,q2,q3⟩:=I.pin p hp;exact⟨q1,by rw[au (f6 p hp)];exact q2,q3⟩
 ·by_cases hb:b=a
  ·subst hb;rw[aJ]at e;cases e;exact ok
  ·rw[au hb]at e;exact(I.hok b u e).stay (λc w' _ q=>q) (λc q=>up _ _ q) λc xs q=>up _ _ q
end
structure XB (K:Frag) (mg:Str->Option Value) (S:List Nat) (CA:Addr):Prop where
 nm:mg "ArrowError"=some (.ref CA)
 be:kitOne K (.ref CA) (.type "BaseException")=some true
 up:∀c∈S,∀Cc,nsIn K mainGlobals (exN c)=some (some (.ref Cc))->kitOne K (.ref Cc) (.ref CA)=some true/\Cc≠CA
open PySem.W in
theorem mZ {M:Model} {h:Heap} {t c:Value} {v:Bool} (X:K.In h) (e:kitOne K t c=some v) (ne:t≠c):Looks M h (typeOf c) (.type "type")/\Looks M h (isType c) true/\Looks M h (isSubtype t c) v:=by
 unfold kitOne at e;rw[if_neg (λz=>ne (beq_iff_eq.mp z))]at e;exact kit_cls X e
theorem vL {prog:Program} {w:World} {E:Value->Shared->Prop} {mg:Str->Option Value} {CA e:Addr} {Q:Bool->Shared->Prop} {ox:Obj} (X:K.In s.heap) (B:XB K mg S CA) (hc:c∈S) (hCc:nsIn K mainGlobals (exN c)=some (some (.ref Cc)))
  (I:InstAt s.heap e ox Cc none) (hq:Q true s):wpAny (model prog w) A (excMatches (.ref e) (.ref CA)) Q E s:=by
 obtain⟨L1,L2,L3⟩:=mZ (M:=model prog w) X (B.up c hc Cc hCc).1 (λz=>(B.up c hc Cc hCc).2 (Value.ref.inj z));obtain⟨L4,L5,L6⟩:=mZ (M:=model prog w) X B.be (λz=>by cases z);have L0:=I.type (M:=model prog w);have f:=tc_notTuple;obtain⟨h,g,d,t,os⟩:=s;unfold excMatches isInstance isExcClass
 repeat (any_goals (first|assumption|with_reducible refine L0.at ?_|with_reducible refine L1.at ?_|with_reducible refine L2.at ?_|with_reducible refine L3.at ?_|with_reducible refine L6.at ?_|wp_step))
structure RoomN (k:Nat) (A:Around):Prop where
 dp:A.depth+3*k+5<recursionLimit
 un:A.units+16*k+200<cLine
theorem RoomN.of (r:Room k A):RoomN k A:=⟨r.dp,r.un⟩
theorem RoomN.mark {h:Option Value} (r:RoomN k A):RoomN k (A.mark h):=⟨r.dp,r.un⟩
theorem RoomN.mono (r:RoomN k A) (h:j<=k):RoomN j A:=⟨by have:=r.dp;omega,by have:=r.un;omega⟩
theorem RoomN.deeper (r:RoomN (k+1) A) (env:Env):RoomN k (A.deeper env) :=
 ⟨by have:=r.dp;show A.depth+1+3*k+5<_;omega,by have:=r.un;show A.units+3+16*k+200<_;omega⟩
theorem kK (r:RoomN k A):A.units+9<cLine:=by have:=r.un;omega
def cxN (P:Program) (w:World) (K:Frag) (mg:Str->Option Value) (base:Heap) (N:List Str) (qual:Str) (scope:Scope) (f:Addr) (cd:Value) (A:Around) (outer:List Env) (s:Shared) (H:Hp):Cx :=
 {gw CX0 P w K mg base N qual scope f cd A outer s H E0 with calm:=false,xe:=λ_ _=>False }
structure Cj (P:Program) (w:World) (K:Frag) (mg:Str->Option Value) (base:Heap) (k:Nat) (f:Addr) (fd:FuncData) (ps:List Str) (sp:Sp):Prop where
 len:∀vs H Q E,sp vs H Q E->vs.length=ps.length
 run:∀(A:Around) (outer:List Env) (s:Shared) (H:Hp) (args:Args) (us:List Value) (vs:List V) (Q:VK) (E:XK),RoomN k A->Env0 P w K mg base A outer s H->BindsTo s fd args (ps.zip us)->Vals vs us->sp vs H Q E ->
  codeAny (model P w) A (.call (.ref f) args) (CR CX0 outer P w H s Q E) s
section
variable {P:Program} {w:World} {K:Frag} {mg:Str->Option Value} {base:Heap} {C:Addr}
theorem qZ {scope:Scope} {cd:Value} {outer:List Env} {s1:Shared} {us:List Value}
  (S:ax N ps scope) (e0:Env0 P w K mg base A outer s H) (hl:vs.length=ps.length) (r:Vals vs us)
  (x:InCallC s s.heap.objs.size (bindL (envOfC qual scope s.heap.objs.size f cd).kindOf (ps.zip us) λ_=>none) (cellsFrom (s.heap.objs.size+1) scope.names []) (bindC (envOfC qual scope s.heap.objs.size f cd).kindOf (ps.zip us) λ_=>none) s1) :
  Inv (cxN P w K mg base N qual scope f cd A outer s H) [] (L2.start N vs) H s1:=by
 have e1:Env0 P w K mg base { A with handled:=none } outer s H:=⟨e0.frames,e0.mod,e0.bs,e0.bsz,e0.funs,e0.frf,e0.hok,e0.bare⟩;have I:=m7 (CX:=CX0) (E:=E0) S (show({ A with handled:=none }:Around).handled=none from rfl) e1 hl r x;exact⟨⟨I.ok.mod,I.ok.kind,I.ok.glob,I.ok.blt,I.ok.above,I.ok.inj,I.ok.has,I.ok.cab,λz=>(by cases z),Around.frames_deeper e0.frames,I.ok.stk,I.ok.exf,I.ok.bs,I.ok.bsz,I.ok.noex,I.ok.exfs,I.ok.funs,I.ok.frf⟩,I.os,I.bare,I.base,I.loc,I.cell,I.free,I.freeC,I.pin,I.hok,I.len⟩
theorem yK {den:Rho->R Out} (F:Fun K x qual st f fd) (S:ax N ps (ai st))
  (hb:∀(cdv:Value) (A:Around) (outer:List Env) (s:Shared) (H:Hp),RoomN k (A.deeper (envOfC qual (ai st) s.heap.objs.size f cdv)) ->
   SDs C (cxN P w K mg base N qual (ai st) f cdv A outer s H) (bM st) den) :
  Cj P w K mg base (k+1) f fd ps (spD K C ps.length λds=>fin (den (st0 N ds))):=by
 obtain⟨oc,od,kV,doc,pm,an,cdv,ct,osl,rfl,lk,hcd⟩:=F.ex;refine⟨λvs H Q E h=>h.1,λA outer s H args us vs Q E hr e0 hbi r hsp=>?_⟩;have hl:vs.length=ps.length:=hsp.1;have KX:K.In s.heap:=e0.mod.kin.keeps λb o e=>(e0.bs b o e).1;have lim:s.heap.NoLimit:=e0.mod.nolimit.keeps λb o e=>(e0.bs b o e).1;have hkind:∀y∈ps.zip us,(ai st).names.lookup y.1=some .local\/((ai st).names.lookup y.1=some .cell/\((cellsFrom (s.heap.objs.size+1) (ai st).names []).lookup y.1).isSome=true):=λ⟨n,v⟩ hy=>by
  rcases S.par n (List.of_mem_zip hy).1 with q|q
  ·exact .inl q
  ·exact .inr ⟨q,cellsFrom_some _ _ _ (.inl q)⟩
 refine codeAny_call_function (by have:=hr.dp;omega) (KX _ _ lk) rfl S.co S.gen rfl (PySem.W.codeRec_of KX hcd) (hbi _ _ _ _ ?_);refine wpAny_newFunctionEnv_cells S.kind hkind λenv he s1 x=>?_;subst he;refine⟨lim.keeps x.toInCall.keep,codeAny_func ?_⟩;have I:=qZ (cd:=cdv) S e0 hl r x;have hq:tsD C (cxN P w K mg base N qual (ai st) f cdv A outer s H) den { nx:=λ_ H'=>Q .non H',rt:=Q } (L2.start N vs) H:=by
  obtain⟨_,ds,h,q⟩:=hsp;refine⟨st0 N ds,H,hU h,?_⟩;dsimp only at q;cases e:den (st0 N ds)with
  | val o =>
   rw[e]at q;cases o with
   | nx ρ'=>exact λσ' H' ⟨_,_,r⟩=>q _ H' (r.keep.trans msk_sub) .non
   | rt d=>exact λv H' s' h'=>q v H' s' h'
   | bk ρ'=>exact q.elim
   | ct ρ'=>exact q.elim
  | exc c=>rw[e]at q;exact q.elim
  | bad=>rw[e]at q;exact q.elim
 refine wpAny_mono (hb cdv A outer s H (hr.deeper _) [] s1 (L2.start N vs) H _ I hq) (λfl s' hs=>?_) λe s' hs=>hs.elim;have fin:∀{σ':St} {H':Hp} {v:V} {u:Value},Inv (cxN P w K mg base N qual (ai st) f cdv A outer s H) [] σ' H' s'->RelV v u->Q v H'->CE outer P w H s Q u s' :=
  λ{σ' H' v u} J rv q=>⟨v,H',J.os,J.bare,J.base,J.hok,rv,q⟩
 cases fl with
 | ret u =>
  obtain⟨v,σ',H',J,rv,q⟩:=hs;exact fin J rv q
 | next =>
  obtain⟨σ',H',J,q⟩:=hs;exact fin (v:=V.non) (u:=Value.none) J rfl q
 | brk =>
  obtain⟨_,_,_,q⟩:=hs;exact False.elim q
 | cont =>
  obtain⟨_,_,_,q⟩:=hs;exact False.elim q
end
def FnN (P:Program) (w:World) (K:Frag) (mg:Str->Option Value) (base:Heap) (C:Addr) (k:Nat) (x:Str) (n:Nat) (den:List D->R D):Prop :=
 ∃f fd ps,Cj P w K mg base k f fd ps (spD K C n den)/\mg x=some (.ref f)/\keepIn K (.ref f)=true/\Binds K fd ps []
section
variable {C:Addr} {X:Cx}
theorem A6 {e:Expr} (F:FnN X.prog X.w X.K X.mg X.base C k x n den) (hr:RoomN k X.A) (hg:Gl X x) (ha:AD C X (e::es) Fa)
  (hdb:(x==("__debug__":Str))=false:=by decide) (he:starEach (e::es) X.env=(false,eval e X.env)::starEach es X.env:=by rfl) (hpl:(backTo pos (starEach es X.env)).any (·.1)=false:=by rfl) :
  ED C X (.Call (.Name x p) (e::es) [] pos) (cal n den Fa):=by
 obtain⟨f,fd,ps,hF,hm,hk,hb⟩:=F;rintro pins s O H Q I ⟨U,⟨H0,r0⟩,q⟩;refine wpAny_Call_Name_kw (da I hg hm ?_ hdb);refine callWith_K (h₀:=X.base) I.ok.mod.kin hk (thn (ha pos pins s O H (λvs H1=>∃ds d,ds.length=n/\Same H H1/\fq C X U O H1 vs ds/\den ds=.val d/\∀v H',Same H H'->cj C X U O H' v d->Q v H') I
  ⟨U,⟨H0,r0⟩,ck (P:=λz H=>pV X (cj C X U O) z O H Q) (λ_ h=>h) (λh=>h) q λds vs H1 s1 h1 q1=>?_⟩) λus s1 ⟨vs,H1,I1,rv,ds,d,hl,s1',h1,e1,q1⟩=>⟨I1.kIn,?_⟩) he hpl
 ·split at q1
  ·rename_i hl;cases e1:den ds with
   | val d=>rw[e1]at q1;exact⟨ds,d,hl,s1,h1,e1,q1⟩
   | exc c=>rw[e1]at q1;exact q1.elim
   | bad=>rw[e1]at q1;exact q1.elim
  ·exact q1.elim
 ·have r1:=r0.mono s1';have Z:=Rel.hid r1 I1;have J:=I1.hide Z;have hsp:spD X.K C n den vs (cut (bj U O) H1) (λv M'=>Same (cut (bj U O) H1) M'/\Has X.K C M' v d) E0:=by
   refine⟨h1.len.trans hl,ds,by rw[<- cA r0.bnd];exact h1,?_⟩;rw[e1];exact λv H' s2 h2=>⟨s2,h2⟩
  have hlen:(us++[]).length=ps.length:=by rw[List.append_nil,<- rv.length];exact hF.len _ _ _ _ hsp
  have hbi:=hb s1 us J.kIn hlen;rw[List.append_nil]at hbi;refine wpAny_call (codeAny_mono (hF.run X.A X.stack s1 _ ⟨us,[]⟩ us vs _ E0 hr J.env0 hbi rv hsp) λr s2 hq=>?_);cases r with
  | error e=>exact hq.elim
  | ok fl =>
   cases fl with
   | ret u =>
    obtain⟨v,M',J2,ru,sm,hv⟩:=J.after hq;obtain⟨I2,mz⟩:=I1.show' Z J2;have sj:Same H1 (jn (bj U O) H1 M'):=λb o eb=>by
     by_cases hb:b∈bj U O
     ·rw[fM hb];exact eb
     ·rw[aZ hb];exact sm b o (cut_some.mpr ⟨hb,eb⟩)
    have em:msk U O (jn (bj U O) H1 M')=M':=by
     rw[cA r0.bnd]
     funext b
     by_cases hb:b∈bj U O
     ·rw[dB hb,mz b hb]
     ·unfold cut;rw[if_neg hb,aZ hb]
    exact⟨v,_,I2,ru,q1 v _ (s1'.trans sj) (by show Has _ _ (msk U O _) v d;rw[em];exact hv)⟩
   | next=>exact False.elim hq
   | brk=>exact False.elim hq
   | cont=>exact False.elim hq
end
structure KTy (K:Frag) (T:String):Prop where
 i:kitOne K (.type "int") (.type T)=some (decide (T="int"))
 b:kitOne K (.type "bool") (.type T)=some (decide (T="int")||decide (T="bool"))
 n:kitOne K (.type "NoneType") (.type T)=some false
 l:kitOne K (.type "list") (.type T)=some (decide (T="list"))
 t:kitOne K (.type "tuple") (.type T)=some (decide (T="tuple"))
def i3 (T:String):D->R D
 | .int _=>.val (.bl (decide (T="int")))
 | .bl _=>.val (.bl (decide (T="int")||decide (T="bool")))
 | .non=>.val (.bl false)
 | .lst _=>.val (.bl (decide (T="list")))
 | .tup _=>.val (.bl (decide (T="tuple")))
 | _=>.bad
section
variable {C:Addr} {X:Cx}
theorem lL {e:Expr} {T:Str} {T':String} (KT:KTy X.K T') (hg:Gl X "isinstance") (hm:X.mg "isinstance"=none) (hgT:Gl X T) (hmT:X.mg T=none) (hbT:bootBuiltins T=some (.type T')) (he:EB C X e F) (hst:starEach [e,.Name T p2] X.env=(false,eval e X.env)::starEach [.Name T p2] X.env)
    (hn:T ≠ "__name__":=by decide) (hdb:(T==("__debug__":Str))=false:=by decide):ED C X (.Call (.Name "isinstance" p) [e,.Name T p2] [] pos) (una (i3 T') F) :=
  aA (vy hg hm hgT hmT hbT he hst hn hdb) λO H Q yy1=>by
   obtain⟨U,r0,q⟩:=yy1;exact⟨U,r0,aF (P:=λz H=>pV X (cj C X U O) z O H Q) (λ_ h=>h) (λh=>h) q λy v H1 s1 h1 q1=>by
    have go:∀{t:Value} {b:Bool},jH X.K H1 v t->kitOne X.K t (.type T')=some b->(∀v H',Same H H'->cj C X U O H' v (.bl b)->Q v H')->∃b,(∀(pins:List (Addr×Obj)) (s:Shared) (u:Value) (Q':Value->Shared->Prop) (E':Value->Shared->Prop),Inv X pins O H1 s->RelV v u->(∀tk,Q' (.bool b) { s with toks:=tk })->wpAny (model X.prog X.w) X.A (call (.builtin "isinstance") [u,.type T']) Q' E' s)/\Q (.bl b) H1 :=
      λ{t b} ty ek kq=>⟨b,λpins s u Q' E' I rv hQ=>ua I rv ty ek hQ,kq _ H1 s1 (.bl b)⟩
    cases y with
    | int i=>obtain rfl:=h1.int;exact go (.int i) KT.i q1
    | bl i=>obtain rfl:=h1.bl;exact go (.bl i) KT.b q1
    | non =>
      have hv:v=.non:=by cases h1 with|cl h=>cases h;rfl
      subst hv;exact go .non KT.n q1
    | lst xs =>
      obtain⟨a,vs,rfl,e1,_⟩:=h1.lst msk_sub;exact go (.lst e1) KT.l q1
    | tup xs =>
      obtain⟨a,vs,rfl,e1,_⟩:=h1.tup msk_sub;exact go (.tup e1) KT.t q1
    | _=>exact q1.elim⟩
theorem qt:bootBuiltins "list"=some (.type "list"):=by decide +kernel
theorem uq:bootBuiltins "tuple"=some (.type "tuple"):=by decide +kernel
end
def ue:D->R D
 | .lst xs=>match fB xs with
  | some bs=>.val (.bl (bs.all id))
  | none=>.bad
 | _=>.bad
def zp:List D->List D->List D
 | x::xs,y::ys=>.tup [x,y]::zp xs ys
 | _,_=>[]
def zj:List D->R (List D)
 | [.lst xs,.lst ys]=>.val (zp xs ys)
 | _=>.bad
def rb (F:Rho->R (List D)):Rho->R (List D):=λU=>(F U).bind zj
def vP:List D->R (List D)
 | [.int j]=>if -(2 ^ 62)<=j/\j<=100000 then .val (rng 0 j.toNat)else .bad
 | _=>.bad
def wm (F:Rho->R (List D)):Rho->R (List D):=λU=>(F U).bind vP
variable {ws:List V}
section
variable {C:Addr} {X:Cx}
def CP:List V->Hp->VK->Prop:=λvs H Q=>∃(l:Addr) (bs:List Bool),vs=[.ref l]/\H l=some (.lst (bs.map V.bl))/\Q (.bl (bs.all id)) H
theorem uv (bs:List Bool):(List.range bs.length).all (λi=>bs.getD i false)=bs.all id:=by
 rw[Bool.eq_iff_iff,List.all_eq_true,List.all_eq_true];constructor
 ·intro h b hb;obtain⟨i,hi,rfl⟩:=List.mem_iff_getElem.mp hb;have:=h i (List.mem_range.mpr hi);rw[List.getD_eq_getElem?_getD,List.getElem?_eq_getElem hi]at this;exact this
 ·intro h i hi;have hi:=List.mem_range.mp hi;rw[List.getD_eq_getElem?_getD,List.getElem?_eq_getElem hi];exact h _ (List.getElem_mem hi)
theorem wO (hc:X.calm=true):iC X (.builtin "all") CP:=by
 intro pins s O H xs us Q I rv h;obtain⟨l,bs,rfl,e,q⟩:=h;obtain⟨u,rfl,ru⟩:=mQ rv;obtain rfl:=(show u=Value.ref l from ru);obtain⟨z,its,m,r,hl,eo⟩:=I.lstM e;obtain rfl:=fQ r;have hL:s.heap.IsList l (bs.map Value.bool).toArray:=⟨_,eo,rfl,m,rfl⟩;have hne:l≠s.heap.objs.size:=Nat.ne_of_lt (Heap.lt_size eo);have W:=Walks.list (prog:=X.prog) (w:=X.w) (A:=X.A.in1) (I.ok.hd hc) s.heap.objs.size l hne (bs.map Value.bool).toArray;refine call_all_walk (wpAny_pyIter_list hL ⟨_,_,_,_,_,_,λi=>bs.getD i false,rfl,W,⟨⟨_,Heap.get?_push_size _ rfl,rfl,rfl⟩,hL.push _⟩,λi v s2 Q2 E2 hP hQ=>?_,λh' tk hk=>?_⟩)
 ·have hP':(bs.map Value.bool)[i]?=some v:=by simpa using hP
  rw[List.getElem?_map]at hP';cases z2:bs[i]? with
  | none=>rw[z2]at hP';cases hP'
  | some b =>
   rw[z2]at hP';cases hP';have hb:bs.getD i false=b:=by rw[List.getD_eq_getElem?_getD,z2];rfl
   dsimp only at hQ;rw[hb]at hQ;exact wpAny_truthy_bool hQ
 ·have hz:(bs.map Value.bool).toArray.size=bs.length:=by simp
  rw[hz,uv];refine⟨.bl (bs.all id),H,I.kept λb o eo2=>hk b o (λhm=>?_) (Heap.get?_push_of_some _ eo2),rfl,q⟩;have:=Heap.lt_size eo2;rw[List.mem_singleton.mp hm]at this;exact Nat.lt_irrefl _ this
theorem wC {e:Expr} (hc:X.calm=true) (hg:Gl X "all") (hm:X.mg "all"=none) (hst:starEach [e] X.env=(false,eval e X.env)::starEach [] X.env) (he:EB C X e F) :
    ED C X (.Call (.Name "all" p) [e] [] pos) (una ue F) :=
  aA (fE (wO hc) hg hm boot_all (bh he ce hst) (he:=hst) (hpl:=av)) λO H Q yy0=>by
   obtain⟨U,r0,q⟩:=yy0;exact⟨U,r0,aF (P:=λz H=>pV X (cj C X U O) z O H Q) (λ_ h=>h) (λh=>h) q λy v H1 s1 h1 q1=>by
    cases y with
    | lst xs =>
      unfold ue at q1;dsimp only at q1;cases eb:fB xs with
      | none=>rw[eb]at q1;exact q1.elim
      | some bs =>
        rw[eb]at q1;obtain⟨a,vs,rfl,e1,h2⟩:=h1.lst msk_sub;obtain rfl:=gh eb h2;exact⟨a,bs,rfl,e1,q1 _ H1 s1 (.bl _)⟩
    | _=>exact q1.elim⟩
def Itz (K:Frag) (a b:Addr):It :=
 ⟨λi H=>∃xs ys x y,SqL K H a xs/\SqL K H b ys/\xs[i]?=some x/\ys[i]?=some y,λi H v H'=>∃p x y,H p=none/\v=.ref p/\H'=upd H p (.tup [x,y])/\(∀xs,SqL K H a xs->xs[i]?=some x)/\∀ys,SqL K H b ys->ys[i]?=some y,λi H=>∃xs ys,SqL K H a xs/\SqL K H b ys/\(xs.length<=i\/ys.length<=i)⟩
theorem uM {P:Program} {w:World} (a b z TI TO i1 i2:Addr) (D:ZipApart z TI TO i1 i2 a b) :
  qy P w K (.Tuple es k pos) (Itz K a b) [z,TI,TO,i1,i2] z (λi h=>IsZip h z TI TO .none/\IsPair h TI (.ref i1) (.ref i2)/\(∃x y,IsPair h TO x y)/\h.IsListIter i1 a i/\h.IsListIter i2 b i) where
 mem:=by simp
 obj:=λi h st c hc=>by
  obtain⟨hz,hTI,⟨x,y,hTO⟩,⟨o1,e1,c1,d1⟩,o2,e2,c2,d2⟩:=st;have hc:c=z\/c=TI\/c=TO\/c=i1\/c=i2:=by simpa using hc
  rcases hc with rfl|rfl|rfl|rfl|rfl
  ·exact⟨_,hz,λv q=>by have q':Data.fields _=Data.cell v:=q;cases q'⟩
  ·exact⟨_,hTI,λv q=>by have q':Data.seq _ _=Data.cell v:=q;cases q'⟩
  ·exact⟨_,hTO,λv q=>by have q':Data.seq _ _=Data.cell v:=q;cases q'⟩
  ·exact⟨o1,e1,λv q=>by rw[d1]at q;cases q⟩
  ·exact⟨o2,e2,λv q=>by rw[d2]at q;cases q⟩
 keep:=λi h h' st kk=>by
  obtain⟨hz,hTI,⟨x,y,hTO⟩,h1,h2⟩:=st;exact⟨kk z (by simp) _ hz,kk TI (by simp) _ hTI,⟨x,y,kk TO (by simp) _ hTO⟩,h1.at λo q=>kk i1 (by simp) o q,h2.at λo q=>kk i2 (by simp) o q⟩
 item:=by
  intro X hP hw hK hc i pins s O H E I hf st hg;subst hP hw hK;obtain⟨hz,hTI,⟨x0,y0,hTO⟩,h1,h2⟩:=st;obtain⟨xs,ys,x,y,hq1,hq2,hx,hy⟩:=hg;obtain⟨its1,rv1,p1,hz1⟩:=I.list hq1;obtain⟨its2,rv2,p2,hz2⟩:=I.list hq2;obtain⟨u1,hu1,ru1⟩:=rv1.get hx;obtain⟨u2,hu2,ru2⟩:=rv2.get hy;refine wpAny_pyNext_zip_item D hz hTI hTO h1 h2 p1.isList p2.isList (x:=u1) (y:=u2) (by simpa using hu1) (by simpa using hu2) λh' a1 a2 a3 a4 a5 a6 hk=>?_;refine⟨_,rfl,wpAny_letOwnedTupleGo_zip a1 λh'' hz'' sb=>?_⟩;have fr:=I.fresh;have hk2:∀c o,c≠z->c≠TO->c≠i1->c≠i2->s.heap.get? c=some o->h''.get? c=some o:=λc o n1 n2 n3 n4 eo=>(sb.2 c n1).trans (hk c o n1 n2 n3 n4 eo);have hse:s.heap.objs.size≠z:=Nat.ne_of_gt (Heap.lt_size hz);have ht2:h''.get? s.heap.objs.size=some { cls:=.type "tuple",data:=.seq #[u1,u2] }:=(sb.2 _ hse).trans a5;have ne':∀c,H c≠none->c≠z/\c≠TO/\c≠i1/\c≠i2:=λc hb=>⟨λq=>hb (by rw[q];exact(hf z (by simp)).1),λq=>hb (by rw[q];exact(hf TO (by simp)).1),λq=>hb (by rw[q];exact(hf i1 (by simp)).1),λq=>hb (by rw[q];exact(hf i2 (by simp)).1)⟩;have out:∀c,c∉[z,TO,i1,i2]->c≠z/\c≠TO/\c≠i1/\c≠i2:=λc h=>⟨λq=>h (by simp[q]),λq=>h (by simp[q]),λq=>h (by simp[q]),λq=>h (by simp[q])⟩;have hk3:∀c o,c∉[z,TO,i1,i2]->s.heap.get? c=some o->h''.get? c=some o:=λc o h eo=>by
   obtain⟨n1,n2,n3,n4⟩:=out c h;exact hk2 c o n1 n2 n3 n4 eo
  have I1:Inv X pins O (upd H s.heap.objs.size (.tup [x,y])) { s with heap:=h'' }:=by
   refine I.call' (s':={ s with heap:=h'' }) (ch:=[z,TO,i1,i2]) rfl ⟨λb o q n hfs hx=>hk3 b o hx q,λb o q n hfs hx=>⟨o.slots,hk3 b o hx q⟩,
    λb o q n hx=>?_,λb o q hx=>⟨o,hk3 b o hx q⟩,λb ys q=>?_,λb o v q=>?_,λb ps q=>?_⟩ (λb o q=>?_) I.bare λb hb=>?_
   ·rw[au (Nat.ne_of_lt (Heap.lt_size q))];exact n
   ·rw[au (aR q fr)];exact q
   ·rw[au (aR q fr)];exact q
   ·exact⟨#[],by rw[au (aR q fr),q];simp⟩
   ·by_cases hb:b=s.heap.objs.size
    ·subst hb;rw[aJ]at q;cases q;exact⟨by show 2<=sizeLine;decide,[u1,u2],.cons ru1 (.cons ru2 .nil),⟨_,ht2,rfl,_,rfl⟩⟩
    ·rw[au hb]at q;refine(I.hok b o q).stay (λc v hc qv=>?_) (λc qc=>by rw[au (aR qc fr)];exact qc) λc ys qc=>by rw[au (aR qc fr)];exact qc
     have hcn:H c≠none:=by
      rcases hc with q|q
      ·rw[q,‹H b=some o›];simp
      ·rw[q];simp
     obtain⟨n1,n2,n3,n4⟩:=ne' c hcn;exact hk2 c v n1 n2 n3 n4 qv
   ·have hb':b∈[z,TI,TO,i1,i2]:=by
     have hb:b=z\/b=TO\/b=i1\/b=i2:=by simpa using hb
     rcases hb with q|q|q|q<;>simp[q]
    obtain⟨g0,g1,g2,g3,g4,g5⟩:=hf b hb';exact⟨g3,g1,g4,g5⟩
  have lt1:i1<s.heap.objs.size:=by obtain⟨o,eo,_⟩:=h1;exact Heap.lt_size eo
  have lt2:i2<s.heap.objs.size:=by obtain⟨o,eo,_⟩:=h2;exact Heap.lt_size eo
  refine⟨.ref s.heap.objs.size,_,I1,rfl,⟨_,x,y,fr,rfl,rfl,λzs hz=>by rw[I.list_inj hz hq1];exact hx,λzs hz=>by rw[I.list_inj hz hq2];exact hy⟩,⟨hz'',(sb.2 _ D.TIz).trans (hk _ _ D.TIz D.TITO D.TIi1 D.TIi2 hTI),⟨_,_,(sb.2 _ D.TOz).trans a2⟩,a3.at λo q=>(sb.2 _ D.i1z).trans q,a4.at λo q=>(sb.2 _ D.i2z).trans q⟩,λc hc=>?_⟩;have hb':=(hf c hc).1;have hlt:c<s.heap.objs.size:=by
   have hc:c=z\/c=TI\/c=TO\/c=i1\/c=i2:=by simpa using hc
   rcases hc with rfl|rfl|rfl|rfl|rfl
   ·exact Heap.lt_size hz
   ·exact Heap.lt_size hTI
   ·exact Heap.lt_size hTO
   ·exact lt1
   ·exact lt2
  rw[au (Nat.ne_of_lt hlt)];exact hb'
 done:=by
  intro X hP hw hK hc i pins s O H E I hf st hg;subst hP hw hK;obtain⟨hz,hTI,⟨x0,y0,hTO⟩,h1,h2⟩:=st;obtain⟨xs,ys,hq1,hq2,hx⟩:=hg;obtain⟨its1,rv1,p1,hz1⟩:=I.list hq1;obtain⟨its2,rv2,p2,hz2⟩:=I.list hq2;have l1:=rv1.length;have l2:=rv2.length;refine wpAny_pyNext_zip_end (I.ok.hd hc) D hz hTI hTO h1 h2 p1.isList p2.isList ?_ λh' hk=>⟨rfl,?_⟩
  ·rcases hx with h|h
   ·exact .inl (by simp;omega)
   ·exact .inr (by simp;omega)
  ·have out:∀c,c∉[z,TO,i1,i2]->c≠z/\c≠TO/\c≠i1/\c≠i2:=λc h=>⟨λq=>h (by simp[q]),λq=>h (by simp[q]),λq=>h (by simp[q]),λq=>h (by simp[q])⟩;have hk3:∀c o,c∉[z,TO,i1,i2]->s.heap.get? c=some o->h'.get? c=some o:=λc o h eo=>by
    obtain⟨n1,n2,n3,n4⟩:=out c h;exact hk c o n1 n2 n3 n4 eo
   have ne':∀c,H c≠none->c≠z/\c≠TO/\c≠i1/\c≠i2:=λc hb=>⟨λq=>hb (by rw[q];exact(hf z (by simp)).1),λq=>hb (by rw[q];exact(hf TO (by simp)).1),λq=>hb (by rw[q];exact(hf i1 (by simp)).1),λq=>hb (by rw[q];exact(hf i2 (by simp)).1)⟩;refine I.call' (s':={ s with heap:=h' }) (ch:=[z,TO,i1,i2]) rfl ⟨λb o q n hfs hx=>hk3 b o hx q,λb o q n hfs hx=>⟨o.slots,hk3 b o hx q⟩,
    λb o q n hx=>n,λb o q hx=>⟨o,hk3 b o hx q⟩,λb ys q=>q,λb o v q=>q,λb ps q=>⟨#[],by rw[q];simp⟩⟩ (λb o q=>?_) I.bare λb hb=>?_
   ·refine(I.hok b o q).stay (λc v hc qv=>?_) (λc qc=>qc) λc ys qc=>qc;have hcn:H c≠none:=by
     rcases hc with q|q
     ·rw[q,‹H b=some o›];simp
     ·rw[q];simp
    obtain⟨n1,n2,n3,n4⟩:=ne' c hcn;exact hk c v n1 n2 n3 n4 qv
   ·have hb':b∈[z,TI,TO,i1,i2]:=by
     have hb:b=z\/b=TO\/b=i1\/b=i2:=by simpa using hb
     rcases hb with q|q|q|q<;>simp[q]
    obtain⟨g0,g1,g2,g3,g4,g5⟩:=hf b hb';exact⟨g3,g1,g4,g5⟩
 self:=λ_ _ _ _ _ st h=>wpAny_pyIter_zip st.1 h
theorem uD:∀{xs ys:List D} {i:Nat} {d:D},(zp xs ys)[i]?=some d->∃x y,xs[i]?=some x/\ys[i]?=some y/\d=.tup [x,y]
 | [],_,_,_,e=>by unfold zp at e;simp at e
 | _::_,[],_,_,e=>by unfold zp at e;simp at e
 | x::xs,y::ys,0,d,e=>by
  unfold zp at e;rw[List.getElem?_cons_zero]at e;cases e;exact⟨x,y,rfl,rfl,rfl⟩
 | x::xs,y::ys,i+1,d,e=>by
  unfold zp at e;rw[List.getElem?_cons_succ]at e;obtain⟨x',y',h1,h2,h3⟩:=uD e;exact⟨x',y',by rw[List.getElem?_cons_succ];exact h1,by rw[List.getElem?_cons_succ];exact h2,h3⟩
theorem uE:∀(xs ys:List D),xs.length<=(zp xs ys).length\/ys.length<=(zp xs ys).length
 | [],_=>.inl (Nat.zero_le _)
 | _::_,[]=>.inr (Nat.zero_le _)
 | x::xs,y::ys=>by
  unfold zp;rw[List.length_cons,List.length_cons,List.length_cons];rcases uE xs ys with h|h
  ·exact .inl (Nat.succ_le_succ h)
  ·exact .inr (Nat.succ_le_succ h)
theorem uG {ys:List D} {M:Hp} (e:M a=some (.lst vs)) (h:HasL K C M vs xs) (e':M b=some (.lst ws)) (h':HasL K C M ws ys):lW K C (Itz K a b) (zp xs ys) M where
 go:=λi d H2 s hy=>by
  obtain⟨x,y,hx,hy',rfl⟩:=uD hy;obtain⟨v,e1,h1⟩:=h.get hx;obtain⟨v',e1',h1'⟩:=h'.get hy';refine⟨⟨vs,ws,v,v',SqL.of (s _ _ e),SqL.of (s _ _ e'),e1,e1'⟩,λu H3 q=>?_⟩;obtain⟨p,x',y',hp,rfl,rfl,q1,q2⟩:=q;have e2:=q1 vs (SqL.of (s _ _ e));rw[e1]at e2;cases e2;have e3:=q2 ws (SqL.of (s _ _ e'));rw[e1']at e3;cases e3;refine⟨ay hp,λU O hown m=>?_⟩;have em:msk U O (upd H2 p (.tup [v,v'])) p=some (.tup [v,v']):=msk_some.mpr ⟨λz=>hown p z hp,aJ⟩;exact .tup em (.cons (h1.mono (m.trans (aO (ay hp)))) (.cons (h1'.mono (m.trans (aO (ay hp)))) .nil))
 stop:=λH2 s=>⟨vs,ws,SqL.of (s _ _ e),SqL.of (s _ _ e'),by rw[h.len,h'.len];exact uE xs ys⟩
theorem zT {tp:Pos} {l m:Expr} {ta:TA} (hg:Gl X "zip") (hm:X.mg "zip"=none) (ha:PA X [l,m] ta) (he:starEach [l,m] X.env=(false,eval l X.env)::starEach [m] X.env) (hpl:(backTo pos (starEach [m] X.env)).any (·.1)=false) :
  PI X (.Tuple es k tp) (.Call (.Name "zip" p) [l,m] [] pos) (λO H R=>ta O H λvs H1=>∃a b xs ys,vs=[.ref a,.ref b]/\SqL X.K H1 a xs/\SqL X.K H1 b ys/\R (Itz X.K a b) H1):=by
 intro pins s O H R I h;refine Call_ (gL I hg hm boot_zip (PyProof.Rows.callWith_type1 (thn (ha pos pins s O H _ I h) λus s1 zz0=>?_) he hpl));obtain⟨vs,H1,I1,r1,q1⟩:=zz0;obtain⟨a,b,xs,ys,e,hq,hq',q⟩:=q1;subst e;cases r1 with
 | cons r rr =>
  cases rr with
  | cons r' rr =>
   cases rr;cases r;cases r';obtain⟨its,rv,pl,hz⟩:=I1.list hq;obtain⟨its',rv',pl',hz'⟩:=I1.list hq';have la:a<s1.heap.objs.size:=by obtain⟨_,e,_⟩:=pl.isList;exact Heap.lt_size e
   have lb:b<s1.heap.objs.size:=by obtain⟨_,e,_⟩:=pl'.isList;exact Heap.lt_size e
   refine call_zip_2 pl.isList pl'.isList λh' iz iTI iTO i1 i2 hsz kp=>?_;have I2:Inv X pins O H1 { s1 with heap:=h' }:=I1.kept (t':=s1.toks) kp;refine wpAny_pyIter_zip iz ?_;refine⟨s1.heap.objs.size+4,[s1.heap.objs.size+4,s1.heap.objs.size+2,s1.heap.objs.size+3,s1.heap.objs.size,s1.heap.objs.size+1],_,_,H1,rfl,I2,uM a b _ _ _ _ _ (zipApart_new la lb),⟨iz,iTI,⟨_,_,iTO⟩,i1,i2⟩,λc hc=>?_,q⟩;have hle:s1.heap.objs.size<=c:=by
    have hc:c=s1.heap.objs.size+4\/c=s1.heap.objs.size+2\/c=s1.heap.objs.size+3\/c=s1.heap.objs.size\/c=s1.heap.objs.size+1:=by simpa using hc
    rcases hc with z|z|z|z|z<;>rw[z]
    ·exact Nat.le_add_right _ _
    ·exact Nat.le_add_right _ _
    ·exact Nat.le_add_right _ _
    ·exact Nat.le_refl _
    ·exact Nat.le_add_right _ _
   exact I1.fpOk hle (I1.hok.fresh hle)
theorem vW {tp:Pos} {l m:Expr} {F:Rho->R (List D)} (hg:Gl X "zip") (hm:X.mg "zip"=none) (ha:AD C X [l,m] F) (he:starEach [l,m] X.env=(false,eval l X.env)::starEach [m] X.env) (hpl:(backTo pos (starEach [m] X.env)).any (·.1)=false) :
    ID C X (.Tuple es k tp) (.Call (.Name "zip" p) [l,m] [] pos) (rb F):=kh (zT hg hm ha he hpl) λO H R yy0=>by
     obtain⟨U,⟨H0,r⟩,q⟩:=yy0;refine⟨U,⟨H0,r⟩,?_⟩;unfold rb at q;cases e:F U with
     | val ds =>
       rw[e]at q;intro vs H1 s1 h1;dsimp only[DL.R.bind]at q;cases h1 with
       | nil=>exact q.elim
       | @cons v1 d1 vs1 ds1 a1 h1 =>
         cases h1 with
         | nil=>cases d1<;>exact q.elim
         | @cons v2 d2 vs2 ds2 a2 h1 =>
           cases h1 with
           | cons _ _=>cases d1<;>cases d2<;>exact q.elim
           | nil =>
             cases a1 with
             | lst e1 g1 =>
               cases a2 with
               | lst e2 g2=>exact⟨_,_,_,_,rfl,SqL.of (msk_sub _ _ e1),SqL.of (msk_sub _ _ e2),q _ H1 s1 (uG e1 g1 e2 g2)⟩
               | _=>exact q.elim
             | _=>cases d2<;>exact q.elim
     | exc c=>rw[e]at q;exact q
     | bad=>rw[e]at q;exact q
def zD:List V->Hp->VK->Prop:=λxs H Q=>∃r j,xs=[.ref r]/\H r=some (.rng 0 j)/\-(2 ^ 62)<=j/\j<=100000/\∀p,H p=none->Q (.ref p) (upd H p (.lst ((List.range j.toNat).map λ(k:Nat)=>V.int (0+(k:Int)))))
theorem qs (hc:X.calm=true):iC X (.type "list") zD:=by
 intro pins s O H xs us Q I r h;obtain⟨ra,j,rfl,hq,hj0,hj,q⟩:=h;obtain⟨u,rfl,rx⟩:=mQ r;cases rx;obtain⟨t,u',v',e⟩:=I.hok ra _ hq;have hn:Builtin.Range.rangeSize 0 j 1=(j.toNat:Nat):=by rw[rangeSize_one];split<;>omega
 have hsm:Builtin.Range.small 0 j 1=true:=small_one (by decide) (by decide) hj0 (by omega);refine call_list_range (n:=j.toNat) (I.ok.hd hc) e hsm hn (by omega) λh' tk acc c hk hacc hit=>?_;have hv:Vals ((List.range j.toNat).map λ(k:Nat)=>V.int (0+(k:Int))) acc.toList:=ky (by simpa using hit.1) λi v q=>hit.2 i v (by simpa using q);have I2:Inv X pins O (upd H s.heap.objs.size (.lst ((List.range j.toNat).map λ(k:Nat)=>V.int (0+(k:Int))))) { s with heap:=h',toks:=tk } :=
  I.laid (t':=tk) (λb o e=>hk b o e) (Nat.le_refl _) (show ObjOk X.prog X.w _ _ _ (.lst _)from⟨by rw[List.length_map,List.length_range];exact Nat.le_trans (show j.toNat<=100000 by omega) (by decide),acc.toList,c,hv,by simpa using hacc⟩)
 exact⟨.ref s.heap.objs.size,_,I2,rfl,q _ I.fresh⟩
theorem AM {a : Expr} {pos2 : Pos} {F : Rho -> R (List D)} (hc : X.calm = true) (ha : AD C X [a] F) (hgr : Gl X "range") (hmr : X.mg "range" = none) (hgt : Gl X "list") (hmt : X.mg "list" = none)
    (hs : starEach [a] X.env = [(false, eval a X.env)]) : FD C X (.Call (.Name "list" p) [.Call (.Name "range" p2) [a] [] pos2] [] pos) (wm F) :=
  aA (bN (qs hc) hgt hmt boot_list (bh (vw hgr hmr ha hs) ce ar) (he := ar) (hpl := av)) fun O H Q yy0 => by
   obtain ⟨U, ⟨H0, r⟩, q⟩ := yy0
   exact ⟨U, ⟨H0, r⟩, ck (P := fun z H => pF (X := X) (fq C X U O) z O H Q) (fun _ h => h) (fun h => h) q fun ds vs H1 s1 h1 q1 => by
    cases h1 with
    | nil => exact q1.elim
    | @cons v1 d1 vs1 ds1 a1 h1 =>
      cases h1 with
      | cons _ _ => cases d1 <;> exact q1.elim
      | nil =>
        cases a1 with
        | int j =>
          unfold vP at q1
          dsimp only at q1
          by_cases hj : -(2 ^ 62) <= j /\ j <= 100000
          · rw [if_pos hj] at q1
            exact ⟨j, rfl, hj.1, by omega, fun ra hra => ⟨ra, j, rfl, aJ, hj.1, hj.2, fun pa hpa => q1 pa _ _ (s1.trans (ay hra)) hpa (p_ _)⟩⟩
          · rw [if_neg hj] at q1; exact q1.elim
        | _ => exact q1.elim⟩
end
section
variable (C:Addr) (X:Cx)
abbrev wZ (H:Hp) (v:V) (d:D):Prop:=Has X.K C H v d
abbrev tK (H:Hp) (v:List V) (d:List D):Prop:=HasL X.K C H v d
def teR (F:Rho->R D):TE:=λO H Q=>∃U:RB,(∃H0,bV C X H0 U O H)/\pV X (wZ C X) (F U) O H Q
def taR (F:Rho->R (List D)):TA:=λO H Q=>∃U:RB,(∃H0,bV C X H0 U O H)/\pL X (tK C X) (F U) O H Q
def ER (e:Expr) (F:Rho->R D):Prop:=PE X e (teR C X F)
def AR (es:List Expr) (F:Rho->R (List D)):Prop:=PA X es (taR C X F)
end
variable {Fb:Rho->R D}
section
variable {C:Addr} {X:Cx} {U:RB} {O:St} {H H':Hp}
theorem m8 {e:Expr} (h:EB C X e F):ER C X e F:=aA h λO H Q ⟨U,r,q⟩=>⟨U,r,by
 cases z:F U with
 | val d=>rw[z]at q;exact λv H' s h=>q v H' s (h.has msk_sub)
 | exc c=>rw[z]at q;exact q
 | bad=>rw[z]at q;exact q⟩
def va (i:Nat):Rho->R D:=λU=>match U[i]? with
 | some (some (.shr d))=>.val d
 | some (some (.own xs))=>.val (.lst xs)
 | some (some (.tre _ d))=>.val d
 | _=>.bad
theorem ou (h:PE X (.Name x pos) (du i)):ER C X (.Name x pos) (va i):=by
 refine aA h λO H Q zz1=>?_;obtain⟨U,⟨H0,r⟩,q⟩:=zz1;unfold va at q;split at q
 ·rename_i d e;obtain⟨v,e1,h1⟩:=r.at_ i _ e;exact⟨v,e1,q v H (Same.refl _) (h1.mono msk_sub)⟩
 ·rename_i xs e;obtain⟨a,vs,e1,_,h1,h2⟩:=r.at_ i _ e;exact⟨_,e1,q _ H (Same.refl _) (.lst h1 (h2.mono msk_sub))⟩
 ·rename_i k d e;obtain⟨v,B,e1,_,h1⟩:=r.at_ i _ e;exact⟨_,e1,q _ H (Same.refl _) (h1.has msk_sub)⟩
 ·exact q.elim
def rb0 (O:St):RB:=⟨List.replicate O.length none,λ_=>[]⟩
theorem xW:msk (rb0 O) O H=H:=by
 funext b
 unfold msk;exact if_neg λ⟨_,z⟩=>List.not_mem_nil z
theorem CK:bV C X H (rb0 O) O H:=by
 refine⟨by unfold rb0;simp,by rw[xW];exact Same.refl _,λi sl e=>?_,λi j a z=>(List.not_mem_nil z).elim,λi a z=>(List.not_mem_nil z).elim,λi a z=>(List.not_mem_nil z).elim⟩;unfold rb0 at e;rw[List.getElem?_replicate]at e;split at e<;>cases e
theorem xg {r:R2} {f:D->D->R D} {Fa:Rho->R D} (hf:dk f) (ho:OpD C X r f) {O:St} {H:Hp} {Q:VK} (h:teR C X (bin f Fa Fb) O H Q):tOp r (teR C X Fa) (teR C X Fb) O H Q:=by
 obtain⟨U,⟨H0,r0⟩,q⟩:=h;refine⟨U,⟨H0,r0⟩,aF (P:=λz H=>pV X (wZ C X) z O H Q) (λ_ h=>h) (λh=>h) q λx v H1 s1 h1 q1=>?_⟩;refine⟨U,⟨H0,r0.mono s1⟩,aF (P:=λz H=>pV X (wZ C X) z O H Q) (λ_ h=>h) (λh=>h) (q1.mono s1) λy w H2 s2 h2 q2=>?_⟩;cases e:f x y with
 | val z =>
  rw[e]at q2;refine ho (rb0 O) O H2 v w x y z Q ⟨H2,CK⟩ (.cl (by rw[xW];exact h1.mono s2)) (.cl (by rw[xW];exact h2)) e λu H3 s3 h3=>q2 u H3 (s2.trans s3) ?_;have h3:Has X.K C (msk (rb0 O) O H3) u z:=h3;rw[xW]at h3;exact h3
 | exc c=>exact(hf x y c e).elim
 | bad=>rw[e]at q2;exact q2.elim
theorem ww {a b:Expr} {Fa:Rho->R D} (ha:ER C X a Fa) (hb:ER C X b Fb) (hs:ii b:=by exact λ_ _=>rfl):ER C X (.Subscript a b pos) (bin fix Fa Fb) :=
 aA (sd qY ha hb hs) λO H Q q=>xg y7 vC q
def flF (F:Rho->R D):Rho->R D:=λU=>(F U).bind λd=>match d with
 | .int i=>.val (.int i)
 | .bl b=>.val (.bl b)
 | .non=>.val .non
 | _=>.bad
theorem oB {e:Expr} (h:ER C X e F):ED C X e (flF F):=aA h λO H Q ⟨U,r,q⟩=>⟨U,r,by
 unfold flF at q;cases z:F U with
 | val d =>
  rw[z]at q;intro v H' s h;cases d with
  | int i=>cases h;exact q _ H' s (.int i)
  | bl i=>cases h;exact q _ H' s (.bl i)
  | non=>cases h;exact q _ H' s .non
  | _=>exact q.elim
 | exc c=>rw[z]at q;exact q
 | bad=>rw[z]at q;exact q⟩
theorem rE:AR C X [] aN:=ki ce λO H Q ⟨U,r0,q⟩=>q [] H (Same.refl _) .nil
theorem gx {e:Expr} {Fa:Rho->R D} {Fr:Rho->R (List D)} (ha:ER C X e Fa) (hr:AR C X es Fr) (hs:starEach (e::es) X.env=(false,eval e X.env)::starEach es X.env:=by rfl):AR C X (e::es) (aC Fa Fr) :=
 ki (bh ha hr hs) λO H Q ⟨U,⟨H0,r0⟩,q⟩=>⟨U,⟨H0,r0⟩,aF (P:=λz H=>pL X (tK C X) z O H Q) (λ_ h=>h) (λh=>h) q λx v H1 s1 h1 q1 =>
  ⟨U,⟨H0,r0.mono s1⟩,ck (P:=λz H=>pL X (tK C X) z O H Q) (λ_ h=>h) (λh=>h) (q1.mono s1) λxs vs H2 s2 h2 q2=>q2 _ H2 s2 (.cons (h1.mono s2) h2)⟩⟩
theorem wv {e:Expr} (F:Fn X.prog X.w X.K X.mg X.base C k x n den) (hr:Room k X.A) (hg:Gl X x) (ha:AR C X (e::es) Fa)
  (hdb:(x==("__debug__":Str))=false:=by decide) (he:starEach (e::es) X.env=(false,eval e X.env)::starEach es X.env:=by rfl) (hpl:(backTo pos (starEach es X.env)).any (·.1)=false:=by rfl) :
  ER C X (.Call (.Name x p) (e::es) [] pos) (cal n den Fa):=by
 obtain⟨f,fd,ps,F,hm,hk,hb⟩:=F;rintro pins s O H Q I ⟨U,⟨H0,r0⟩,q⟩;refine wpAny_Call_Name_kw (da I hg hm ?_ hdb);refine callWith_K (h₀:=X.base) I.ok.mod.kin hk (thn (ha pos pins s O H (λvs H1=>∃ds d,ds.length=n/\Same H H1/\tK C X H1 vs ds/\den ds=.val d/\∀v H',Same H H'->wZ C X H' v d->Q v H') I
  ⟨U,⟨H0,r0⟩,ck (P:=λz H=>pV X (wZ C X) z O H Q) (λ_ h=>h) (λh=>h) q λds vs H1 s1 h1 q1=>?_⟩) λus s1 ⟨vs,H1,I1,rv,ds,d,hl,s1',h1,e1,q1⟩=>⟨I1.kIn,?_⟩) he hpl
 ·split at q1
  ·rename_i hl;cases e1:den ds with
   | val d=>rw[e1]at q1;exact⟨ds,d,hl,s1,h1,e1,q1⟩
   | exc c=>rw[e1]at q1;exact q1.elim
   | bad=>rw[e1]at q1;exact q1.elim
  ·exact q1.elim
 ·refine thn (nK (E:=E0) (Q:=λv M'=>Same H1 M'/\Has X.K C M' v d) F hr hb .nil pi I1 rv ?_) λu s2 ⟨v,M',J2,ru,sm,hv⟩=>⟨v,M',J2,ru,q1 v M' (s1'.trans sm) hv⟩;rw[List.append_nil];refine⟨h1.len.trans hl,ds,h1,?_⟩;rw[e1];exact λv H' s2 h2=>⟨s2,h2⟩
end
def spK (K:Frag) (C:Addr) (n:Nat) (kr:OK) (den:List D->R D):Sp:=λvs H Q _=>vs.length=n/\∃ds,HasL K C H vs ds/\match den ds with
 | .val d=>∀v H' A,Same H H'->(∀a∈A,H a=none)->Tre K C (cut A H') H' kr v d A->Q v H'
 | _=>False
def FnK (P:Program) (w:World) (K:Frag) (mg:Str->Option Value) (base:Heap) (C:Addr) (k:Nat) (x:Str) (n:Nat) (kr:OK) (den:List D->R D):Prop :=
 ∃f fd ps,FnOk P w K mg base CX0 k f fd ps (spK K C n kr den)/\mg x=some (.ref f)/\keepIn K (.ref f)=true/\Binds K fd ps []
section
variable (C:Addr) (X:Cx)
def pR (kr:OK) (r:R D) (H0:Hp) (Q:VK):Prop:=match r with
 | .val d=>∀v H' A,Same H0 H'->(∀a∈A,H0 a=none)->Tre X.K C (cut A H') H' kr v d A->Q v H'
 | _=>False
def tsK (kr:OK) (F:Rho->R D):TS:=λDn O H=>∃U H0,oX C X H0 U O H/\pR C X kr (F U) H0 Dn.rt
def uz (kr:OK) (st:List Stmt) (F:Rho->R D):Prop:=PSs X st (tsK C X kr F)
end
def sqK (F:Rho->R Out) (G:Rho->R D):Rho->R D:=λU=>match F U with
 | .val (.nx ρ')=>G ρ'
 | _=>.bad
variable {kr:OK}
section
variable {C:Addr} {X:Cx}
theorem iO {rest:List Stmt} {F:Rho->R Out} {G:Rho->R D} (h1:SD C X st F) (h2:uz C X kr rest G):uz C X kr (st::rest) (sqK F G) :=
 eN (gH h1 h2) λD O H ⟨U,H0,r,q⟩=>by
  refine⟨U,H0,r,?_⟩;unfold sqK at q;cases e:F U with
  | val o =>
   rw[e]at q;cases o with
   | nx ρ'=>exact λσ' H' r'=>⟨ρ',H0,r',q⟩
   | rt d=>exact q.elim
   | bk ρ'=>exact q.elim
   | ct ρ'=>exact q.elim
  | exc c=>rw[e]at q;exact q.elim
  | bad=>rw[e]at q;exact q.elim
theorem xm {e:Expr} (he:KD C X kr e F):uz C X kr [.Return (some e) pos] F :=
 eN (hZ (qO he)) λD O H ⟨_,H0,⟨U,er,r⟩,q⟩=>by
  subst er;refine⟨U,⟨H0,r⟩,?_⟩;cases z:F U with
  | val d =>
   rw[z]at q;exact λv H' A s hA h=>q v H' A ((r.keep.trans msk_sub).trans s) (λa ha=>fC (r.keep.trans msk_sub) (hA a ha)) (h.stay (λb o e=>cut_some.mpr ⟨(cut_some.mp e).1,(msk_some.mp (cut_some.mp e).2).2⟩) (.of (Same.refl _)))
  | exc c=>rw[z]at q;exact q.elim
  | bad=>rw[z]at q;exact q.elim
theorem vS {e:Expr} (F:FnK X.prog X.w X.K X.mg X.base C k x n kr den) (hr:Room k X.A) (hg:Gl X x) (ha:AD C X (e::es) Fa)
  (hdb:(x==("__debug__":Str))=false:=by decide) (he:starEach (e::es) X.env=(false,eval e X.env)::starEach es X.env:=by rfl) (hpl:(backTo pos (starEach es X.env)).any (·.1)=false:=by rfl) :
  KD C X kr (.Call (.Name x p) (e::es) [] pos) (cal n den Fa):=by
 obtain⟨f,fd,ps,F,hm,hk,hb⟩:=F;rintro pins s O H Q I ⟨U,⟨H0,r0⟩,q⟩;refine wpAny_Call_Name_kw (da I hg hm ?_ hdb);refine callWith_K (h₀:=X.base) I.ok.mod.kin hk (thn (ha pos pins s O H (λvs H1=>∃ds d,ds.length=n/\Same H H1/\fq C X U O H1 vs ds/\den ds=.val d/\∀v H' A,Same H H'->(∀a∈A,H a=none)->Tre X.K C (cut A (msk U O H')) H' kr v d A->Q v H') I
  ⟨U,⟨H0,r0⟩,ck (P:=λz H=>pK C X kr U z O H Q) (λ_ h=>h) (λh=>h) q λds vs H1 s1 h1 q1=>?_⟩) λus s1 ⟨vs,H1,I1,rv,ds,d,hl,s1',h1,e1,q1⟩=>⟨I1.kIn,?_⟩) he hpl
 ·split at q1
  ·rename_i hl;cases e1:den ds with
   | val d=>rw[e1]at q1;exact⟨ds,d,hl,s1,h1,e1,q1⟩
   | exc c=>rw[e1]at q1;exact q1.elim
   | bad=>rw[e1]at q1;exact q1.elim
  ·exact q1.elim
 ·have r1:=r0.mono s1';have Z:=Rel.hid r1 I1;have J:=I1.hide Z;refine thn (nK (E:=E0) (Q:=λv M'=>∃A,Same (cut (bj U O) H1) M'/\(∀a∈A,cut (bj U O) H1 a=none)/\Tre X.K C (cut A M') M' kr v d A) F hr hb .nil pi J rv ?_) λu s2 ⟨v,M',J2,ru,A,sm,hA,hv⟩=>?_
  ·rw[List.append_nil];refine⟨h1.len.trans hl,ds,by rw[<- cA r0.bnd];exact h1,?_⟩;rw[e1];exact λv H' A s2 hA h2=>⟨A,s2,hA,h2⟩
  ·obtain⟨I2,mz⟩:=I1.show' Z J2;have sj:Same H1 (jn (bj U O) H1 M'):=λb o eb=>by
    by_cases hb:b∈bj U O
    ·rw[fM hb];exact eb
    ·rw[aZ hb];exact sm b o (cut_some.mpr ⟨hb,eb⟩)
   have em:msk U O (jn (bj U O) H1 M')=M':=by
    rw[cA r0.bnd]
    funext b
    by_cases hb:b∈bj U O
    ·rw[dB hb,mz b hb]
    ·unfold cut;rw[if_neg hb,aZ hb]
   have nz:∀b o,M' b=some o->jn (bj U O) H1 M' b=some o:=λb o eb=>by
    rw[aZ λhb=>by rw[mz b hb]at eb;cases eb];exact eb
   refine⟨v,_,I2,ru,q1 v _ A (s1'.trans sj) (λa ha=>?_) (by rw[em];exact hv.stay (Same.refl _) (.of nz))⟩;obtain⟨us,ea⟩:=hv.lists a ha;have na:a∉bj U O:=λhb=>by rw[mz a hb]at ea;cases ea
   have:=hA a ha;unfold cut at this;rw[if_neg na]at this;exact fC s1' this
end
section
variable {P:Program} {w:World} {K:Frag} {mg:Str->Option Value} {base:Heap} {C:Addr}
theorem tD {den:Rho->R D} (F:Fun K x qual st f fd) (sc:ax N ps (ai st))
  (hb:∀(cdv:Value) (A:Around) (outer:List Env) (s:Shared) (H:Hp) (E:XK),Room k (A.deeper (envOfC qual (ai st) s.heap.objs.size f cdv)) ->
   uz C (gw CX0 P w K mg base N qual (ai st) f cdv A outer s H E).nox kr (bM st) den) :
  FnOk P w K mg base CX0 (k+1) f fd ps (spK K C ps.length kr λds=>den (st0 N ds)):=by
 refine F.ok sc (λvs H Q E h=>h.1) (λcdv A outer s H vs Q E hr h=>⟨_,hb cdv A outer s H E hr,?_⟩);obtain⟨_,ds,h,q⟩:=h;exact⟨st0 N ds,H,hU h,q⟩
end
def kB:D->List Nat->Option D
 | d,[]=>some d
 | .lst xs,j::p=>match xs[j]? with
  | some d=>kB d p
  | none=>none
 | .tup xs,j::p=>match xs[j]? with
  | some d=>kB d p
  | none=>none
 | _,_::_=>none
def kM:D->List Nat->D->D
 | _,[],e=>e
 | .lst xs,j::p,e=>match xs[j]? with
  | some d=>.lst (xs.set j (kM d p e))
  | none=>.lst xs
 | .tup xs,j::p,e=>match xs[j]? with
  | some d=>.tup (xs.set j (kM d p e))
  | none=>.tup xs
 | d,_::_,_=>d
def gB:OK->List Nat->Option OK
 | k,[]=>some k
 | .l k,_::p=>gB k p
 | .p j _,0::p=>gB j p
 | .p _ k,1::p=>gB k p
 | _,_::_=>none
inductive Reach (H:Hp):V->List Nat->V->Prop where
 | nil {v:V}:Reach H v [] v
 | lst {a:Addr} {vs:List V} {j:Nat} {p:List Nat} {v w:V}:H a=some (.lst vs)->vs[j]?=some v->Reach H v p w->Reach H (.ref a) (j::p) w
 | tup {a:Addr} {vs:List V} {j:Nat} {p:List Nat} {v w:V}:H a=some (.tup vs)->vs[j]?=some v->Reach H v p w->Reach H (.ref a) (j::p) w
variable {w v:V} {k':OK}
section
variable {K:Frag} {C:Addr} {M M' H H':Hp}
theorem Reach.mono (s:Same H H') {p:List Nat} (h:Reach H v p w):Reach H' v p w:=by
 induction h with
 | nil=>exact .nil
 | lst e q _ ih=>exact .lst (s _ _ e) q ih
 | tup e q _ ih=>exact .tup (s _ _ e) q ih
structure Co (A B:List Addr) (H H':Hp):Prop where
 at_:∀a∈A,a∉B->∀o,H a=some o->H' a=some o
 tup:∀a vs,H a=some (.tup vs)->H' a=some (.tup vs)
theorem TreP.pick:∀{ks:List OK} {vs:List V} {ds:List D} {A:List Addr} {j:Nat} {d:D},TreP K C M H ks vs ds A->ds[j]?=some d->∃k v A1,ks[j]?=some k/\vs[j]?=some v/\Tre K C M H k v d A1/\(∀a∈A1,a∈A) /\
  ∀{M' H':Hp} {d':D} {A2:List Addr},Same M M'->Co A A1 H H'->Tre K C M' H' k v d' A2->(∀a∈A2,a∈A1\/a∉A)->∃A',TreP K C M' H' ks vs (ds.set j d') A'/\∀a∈A',a∈A\/a∈A2
 | _,_,_,_,_,_,.nil,e=>by simp at e
 | _,_,_,_,0,d,.cons (k:=k) (v:=v) (A:=A1) (B:=A3) h t n,e=>by
  rw[List.getElem?_cons_zero]at e;cases e;refine⟨k,v,A1,rfl,rfl,h,λa ha=>List.mem_append_left _ ha,λ{M' H' d' A2} s w h2 f=>⟨A2++A3,.cons h2 (t.stay s ⟨λa ha o q=>w.at_ a (List.mem_append_right _ ha) (λz=>n a z ha) o q,w.tup⟩) λa ha hb=>?_,λa ha=>?_⟩⟩
  ·rcases f a ha with z|z
   ·exact n a z hb
   ·exact z (List.mem_append_right _ hb)
  ·rcases List.mem_append.mp ha with z|z
   ·exact .inr z
   ·exact .inl (List.mem_append_right _ z)
 | _,_,_,_,j+1,d,.cons (k:=k0) (v:=v0) (d:=d0) (A:=A0) (B:=A3) h t n,e=>by
  rw[List.getElem?_cons_succ]at e;obtain⟨k,v,A1,e1,e2,h1,s1,up⟩:=TreP.pick t e;refine⟨k,v,A1,e1,e2,h1,λa ha=>List.mem_append_right _ (s1 a ha),λ{M' H' d' A2} s w h2 f=>?_⟩;obtain⟨A',h3,s3⟩:=up (M':=M') (H':=H') s ⟨λa ha na o q=>w.at_ a (List.mem_append_right _ ha) na o q,w.tup⟩ h2 λa ha=>(f a ha).imp id λz y=>z (List.mem_append_right _ y);refine⟨A0++A',.cons (h.stay s ⟨λa ha o q=>w.at_ a (List.mem_append_left _ ha) (λz=>n a ha (s1 a z)) o q,w.tup⟩) h3 λa ha hb=>?_,λa ha=>?_⟩
  ·rcases s3 a hb with z|z
   ·exact n a ha z
   ·rcases f a z with y|y
    ·exact n a ha (s1 a y)
    ·exact y (List.mem_append_left _ ha)
  ·rcases List.mem_append.mp ha with z|z
   ·exact .inl (List.mem_append_left _ z)
   ·exact(s3 a z).imp (λy=>List.mem_append_right _ y) id
theorem ya {Y:Type} {k:OK} {vs:List Y} (h:(vs.map λ_=>k)[j]?=some k'):k'=k:=by
 rw[List.getElem?_map]at h;cases e:vs[j]? with
 | none=>rw[e]at h;cases h
 | some v=>rw[e]at h;exact(Option.some.inj h).symm
theorem Tre.path:∀{pp:List Nat} {k k':OK} {v:V} {d d':D} {A:List Addr},Tre K C M H k v d A->kB d pp=some d'->gB k pp=some k'->∃v' A1,Tre K C M H k' v' d' A1/\(∀a∈A1,a∈A)/\Reach H v pp v' /\
  ∀{M' H':Hp} {e:D} {A2:List Addr},Same M M'->Co A A1 H H'->Tre K C M' H' k' v' e A2->(∀a∈A2,a∈A1\/a∉A)->∃A',Tre K C M' H' k v (kM d pp e) A'/\∀a∈A',a∈A\/a∈A2
 | [],k,k',v,d,d',A,h,ed,ek=>by
  unfold kB at ed;unfold gB at ek;cases ed;cases ek;exact⟨v,A,h,λa ha=>ha,.nil,λ{M' H' e A2} _ _ h2 _=>⟨A2,by unfold kM;exact h2,λa ha=>.inr ha⟩⟩
 | j::pp,_,k',_,_,d',_,.s h,ed,ek=>by unfold gB at ek;cases ek
 | j::pp,_,k',_,_,d',_,.l (k:=k) (a:=a) (vs:=vs) (xs:=xs) (A:=A) ha hp hn,ed,ek=>by
  unfold kB at ed;unfold gB at ek;split at ed
  ·rename_i d0 e0;obtain⟨k0,v0,A0,q1,q2,h0,s0,up0⟩:=hp.pick e0;have:=ya q1;subst this;obtain⟨v',A1,h1,s1,rc,up1⟩:=Tre.path h0 ed ek;refine⟨v',A1,h1,λb hb=>List.mem_cons_of_mem _ (s0 b (s1 b hb)),.lst ha q2 rc,λ{M' H' e A2} s w h2 f=>?_⟩;obtain⟨A3,h3,s3⟩:=up1 (M':=M') (H':=H') s ⟨λb hb nb o q=>w.at_ b (List.mem_cons_of_mem _ (s0 b hb)) nb o q,w.tup⟩ h2 λb hb=>(f b hb).imp id λz y=>z (List.mem_cons_of_mem _ (s0 b y));have f3:∀b∈A3,b∈A0\/b∉A:=λb hb=>by
    rcases s3 b hb with z|z
    ·exact .inl z
    ·rcases f b z with y|y
     ·exact .inl (s1 b y)
     ·exact .inr λx=>y (List.mem_cons_of_mem _ x)
   obtain⟨A4,h4,s4⟩:=up0 (M':=M') (H':=H') s ⟨λb hb nb o q=>w.at_ b (List.mem_cons_of_mem _ hb) (λz=>nb (s1 b z)) o q,w.tup⟩ h3 f3;have na:a∉A2:=λz=>by
    rcases f a z with y|y
    ·exact hn (s0 a (s1 a y))
    ·exact y List.mem_cons_self
   refine⟨a::A4,?_,λb hb=>?_⟩
   ·unfold kM;rw[e0];refine .l (w.at_ a List.mem_cons_self (λz=>hn (s0 a (s1 a z))) _ ha) h4 λz=>?_;rcases s4 a z with y|y
    ·exact hn y
    ·rcases s3 a y with x|x
     ·exact hn (s0 a x)
     ·exact na x
   ·rcases List.mem_cons.mp hb with rfl|hb
    ·exact .inl List.mem_cons_self
    ·rcases s4 b hb with y|y
     ·exact .inl (List.mem_cons_of_mem _ y)
     ·exact(s3 b y).imp (λx=>List.mem_cons_of_mem _ (s0 b x)) id
  ·cases ed
 | j::pp,_,k',_,_,d',_,.p (j:=k1) (k:=k2) (a:=a) (vs:=vs) (xs:=xs) (A:=A) ha hp,ed,ek=>by
  unfold kB at ed;split at ed
  ·rename_i d0 e0;obtain⟨k0,v0,A0,q1,q2,h0,s0,up0⟩:=hp.pick e0;have ek0:gB k0 pp=some k':=by
    match j,q1,ek with
    | 0,q1,ek=>cases q1;unfold gB at ek;exact ek
    | 1,q1,ek=>cases q1;unfold gB at ek;exact ek
    | n+2,q1,ek=>cases q1
   obtain⟨v',A1,h1,s1,rc,up1⟩:=Tre.path h0 ed ek0;refine⟨v',A1,h1,λb hb=>s0 b (s1 b hb),.tup ha q2 rc,λ{M' H' e A2} s w h2 f=>?_⟩;obtain⟨A3,h3,s3⟩:=up1 (M':=M') (H':=H') s ⟨λb hb nb o q=>w.at_ b (s0 b hb) nb o q,w.tup⟩ h2 λb hb=>(f b hb).imp id λz y=>z (s0 b y);have f3:∀b∈A3,b∈A0\/b∉A:=λb hb=>by
    rcases s3 b hb with z|z
    ·exact .inl z
    ·rcases f b z with y|y
     ·exact .inl (s1 b y)
     ·exact .inr y
   obtain⟨A4,h4,s4⟩:=up0 (M':=M') (H':=H') s ⟨λb hb nb o q=>w.at_ b hb (λz=>nb (s1 b z)) o q,w.tup⟩ h3 f3;refine⟨A4,?_,λb hb=>?_⟩
   ·unfold kM;rw[e0];exact .p (w.tup _ _ ha) h4
   ·rcases s4 b hb with y|y
    ·exact .inl y
    ·exact(s3 b y).imp (λx=>s0 b x) id
  ·cases ed
end
variable {pp:List Nat}
section
variable {K:Frag} {C:Addr} {H0 H:Hp} {U:RB} {O:St}
theorem Rel.node (r:Rel K C H0 U O H) {k:OK} {d:D} (e:U.rho[i]?=some (some (.tre k d))) (ek:gB k pp=some (.l k')) (ed:kB d pp=some (.lst xs)) :
  ∃v a vs A0,O[i]?=some (some v)/\Reach H v pp (.ref a)/\H a=some (.lst vs)/\TreP K C (msk U O H) H (vs.map λ_=>k') vs xs A0/\a∉A0 /\
   ∀{H2:Hp} {ws:List V} {ys:List D} {N B:List Addr},Same H H2->(∀b∈N,H b=none)->TreP K C (cut N (msk U O H2)) (upd H2 a (.lst ws)) (ws.map λ_=>k') ws ys B->(∀b∈B,b∈A0\/b∈N) ->
    Rel K C H0 (U.put i (.tre k (kM d pp (.lst ys))) (U.ad i++B)) O (upd H2 a (.lst ws)):=by
 obtain⟨v,Bt,e1,hB,h⟩:=r.at_ i _ e;obtain⟨v',A1,h1,s1,rc,up⟩:=h.path ed ek;cases h1 with
 | @l _ a vs _ A0 ha hp hn =>
  have aI:a∈U.ad i:=hB a (s1 a List.mem_cons_self);have A0I:∀b∈A0,b∈U.ad i:=λb hb=>hB b (s1 b (List.mem_cons_of_mem _ hb));refine⟨v,a,vs,A0,e1,rc,ha,hp,hn,λ{H2 ws ys N B} s hN ht hs=>?_⟩;have nN:∀b,b∈U.ad i->b∉N:=λb hb z=>by
   have:=r.ownAt (O:=O) ⟨i,hb⟩;exact this (hN b z)
  have ne:∀b vs',H b=some (.tup vs')->b≠a:=λb vs' q z=>by rw[z,ha]at q;cases q
  refine r.put rfl (λj _=>rfl) (λb hb=>?_) (λj hj=>⟨λb hb o q=>?_,λb vs' q=>?_⟩) (λb o q=>?_) (λb hb=>?_) λhi sub=>?_
  ·rcases List.mem_append.mp hb with hb|hb
   ·exact .inl hb
   ·rcases hs b hb with z|z
    ·exact .inl (A0I b z)
    ·exact .inr (hN b z)
  ·rw[au λ(z:b=a)=>hj (r.inj j i b hb (z▸aI))];exact s b o q
  ·rw[au (ne b vs' q)];exact s b _ q
  ·obtain⟨g1,g2⟩:=msk_some.mp q;rw[au λ(z:b=a)=>g1 ⟨i,z▸aI⟩];exact s b o g2
  ·by_cases z:b=a
   ·exact .inl ⟨ws,by rw[z];exact aJ⟩
   ·rcases List.mem_append.mp hb with hb|hb
    ·rw[au z];exact(r.kin i b hb).imp (λ⟨us,q⟩=>⟨us,s _ _ q⟩) λ⟨us,q⟩=>⟨us,s _ _ q⟩
    ·exact .inl (ht.lists b hb)
  ·have aB:a∉B:=λz=>by
    rcases hs a z with y|y
    ·exact hn y
    ·exact nN a aI y
   obtain⟨A',h3,s3⟩:=up (M':=msk (U.put i (.tre k (kM d pp (.lst ys))) (U.ad i++B)) O (upd H2 a (.lst ws))) (H':=upd H2 a (.lst ws)) sub ⟨λb hb nb o q=>by rw[au λ(z:b=a)=>nb (z▸List.mem_cons_self)];exact s b o q,λb vs' q=>by rw[au (ne b vs' q)];exact s b _ q⟩
    (.l (k:=k') aJ (ht.stay (λb o q=>by
     obtain⟨g1,g2⟩:=cut_some.mp q;obtain⟨g3,g4⟩:=msk_some.mp g2;refine msk_some.mpr ⟨λ⟨j,z⟩=>?_,by rw[au λ(z:b=a)=>g3 ⟨i,z▸aI⟩];exact g4⟩;rcases eM z with⟨_,_,z⟩|⟨_,z⟩
     ·rcases List.mem_append.mp z with z|z
      ·exact g3 ⟨i,z⟩
      ·rcases hs b z with y|y
       ·exact g3 ⟨i,A0I b y⟩
       ·exact g1 y
     ·exact g3 ⟨j,z⟩) (.of (Same.refl _))) aB) (λb hb=>by
     rcases List.mem_cons.mp hb with z|z
     ·exact .inl (z▸List.mem_cons_self)
     ·rcases hs b z with y|y
      ·exact .inl (List.mem_cons_of_mem _ y)
      ·exact .inr λx=>nN b (hB b x) y)
   refine⟨v,A',e1,λb hb=>?_,h3⟩;rcases s3 b hb with z|z
   ·exact List.mem_append_left _ (hB b z)
   ·rcases List.mem_cons.mp z with z|z
    ·exact List.mem_append_left _ (z▸aI)
    ·exact List.mem_append_right _ z
theorem Reach.det {w':V} (h:Reach H v pp w) (h':Reach H v pp w'):w=w':=by
 induction h with
 | nil=>cases h';rfl
 | lst e q _ ih =>
  cases h' with
  | lst e' q' h'=>rw[e]at e';cases e';rw[q]at q';cases q';exact ih h'
  | tup e' q' h'=>rw[e]at e';cases e'
 | tup e q _ ih =>
  cases h' with
  | lst e' q' h'=>rw[e]at e';cases e'
  | tup e' q' h'=>rw[e]at e';cases e';rw[q]at q';cases q';exact ih h'
theorem Reach.snocL {u:V} (h:Reach H v pp w) (ew:w=.ref a) (e:H a=some (.lst vs)) (q:vs[j]?=some u):Reach H v (pp++[j]) u:=by
 induction h with
 | nil=>subst ew;exact .lst e q .nil
 | lst e' q' _ ih=>exact .lst e' q' (ih ew)
 | tup e' q' _ ih=>exact .tup e' q' (ih ew)
theorem Reach.snocT {u:V} (h:Reach H v pp w) (ew:w=.ref a) (e:H a=some (.tup vs)) (q:vs[j]?=some u):Reach H v (pp++[j]) u:=by
 induction h with
 | nil=>subst ew;exact .tup e q .nil
 | lst e' q' _ ih=>exact .lst e' q' (ih ew)
 | tup e' q' _ ih=>exact .tup e' q' (ih ew)
end
section
variable {C:Addr} {X:Cx}
def pN0 (i:Nat):Rho->R (List Nat):=λU=>match U[i]? with
 | some (some (.tre _ _))=>.val []
 | _=>.bad
def pIx (k:OK) (d:D) (pp:List Nat) (n:Int):R (List Nat):=match gB k pp,kB d pp with
 | some (.l _),some (.lst xs)=>match ixN xs.length n with
  | some j=>.val (pp++[j])
  | none=>.bad
 | some (.p _ _),some (.tup xs)=>match ixN xs.length n with
  | some j=>.val (pp++[j])
  | none=>.bad
 | _,_=>.bad
def pN (i:Nat) (P:Rho->R (List Nat)) (b:Rho->R D):Rho->R (List Nat):=λU=>(P U).bind λpp=>(b U).bind λn=>match U[i]?,n with
 | some (some (.tre k d)),.int n=>pIx k d pp n
 | _,_=>.bad
variable (C X) in
def teN (i:Nat) (P:Rho->R (List Nat)):TE:=λO H Q=>∃U:RB,(∃H0,bV C X H0 U O H)/\match P U with
 | .val pp=>∀v w H',O[i]?=some (some v)->Same H H'->Reach H' v pp w->Q w H'
 | .exc c=>XE X c O H
 | .bad=>False
variable (C X) in
def ND (i:Nat) (o:Expr) (P:Rho->R (List Nat)):Prop:=PE X o (teN C X i P)
theorem su (h:PE X (.Name x pos) (du i)):ND C X i (.Name x pos) (pN0 i):=by
 refine aA h λO H Q ⟨U,⟨H0,r⟩,q⟩=>?_;unfold pN0 at q;split at q
 ·rename_i e;split at e
  ·rename_i k d e0;cases e;obtain⟨v,B,e1,_,_⟩:=r.at_ i _ e0;exact⟨v,e1,q v v H e1 (Same.refl _) .nil⟩
  ·cases e
 ·rename_i e;split at e<;>cases e
 ·exact q.elim
theorem wU {Y:Type} {vs:List Y} {n:Int} (e:ixN vs.length n=some j):atI vs n=vs[j]?:=by
 unfold atI;rw[e];rfl
theorem vT {m:Nat} {n:Int} (e:ixN m n=some j):j<m:=by
 unfold ixN at e;split at e
 ·split at e
  ·cases e;omega
  ·cases e
 ·split at e
  ·cases e;omega
  ·cases e
theorem vJ {b:Expr} {P:Rho->R (List Nat)} (ho:ND C X i o P) (hb:ED C X b Fb) (hs:ii b:=by exact λ_ _=>rfl):ND C X i (.Subscript o b pos) (pN i P Fb) :=
 aA (sd qY ho hb hs) λO H Q ⟨U,⟨H0,r⟩,q⟩=>by
  refine⟨U,⟨H0,r⟩,?_⟩;unfold pN at q;cases eP:P U with
  | exc c=>rw[eP]at q;exact q
  | bad=>rw[eP]at q;exact q
  | val pp =>
   rw[eP]at q;dsimp only[DL.R.bind]at q;intro v w H1 e1 s1 rc;refine⟨U,⟨H0,r.mono s1⟩,?_⟩;cases eb:Fb U with
   | exc c=>rw[eb]at q;exact XE.mono s1 q
   | bad=>rw[eb]at q;exact q
   | val n =>
    rw[eb]at q;dsimp only at q;intro y H2 s2 hy;split at q
    ·rename_i pq e0;split at e0
     ·rename_i k d n' er;cases hy;unfold pIx at e0;obtain⟨v0,B,e2,_,h⟩:=r.at_ i _ er;rw[e1]at e2;cases e2;split at e0
      ·rename_i k1 xs ek ed;split at e0
       ·rename_i j ej;cases e0;obtain⟨v',A1,h1,_,rc',_⟩:=h.path ed ek;have:=Reach.det (rc'.mono s1) rc;subst this;cases h1 with
        | @l _ a vs _ A0 ha hp hn =>
         have ha2:=s2 _ _ (s1 _ _ ha);have hl:vs.length=xs.length:=hp.len.1;have hj:j<vs.length:=by rw[hl];exact vT ej
         exact .inl ⟨a,vs,n',vs[j],rfl,rfl,SqL.of ha2,by rw[wU (j:=j) (by rw[hl];exact ej)];exact List.getElem?_eq_getElem hj,q v _ H2 e1 (s1.trans s2) ((rc.mono s2).snocL rfl ha2 (List.getElem?_eq_getElem hj))⟩
       ·cases e0
      ·rename_i k1 k2 xs ek ed;split at e0
       ·rename_i j ej;cases e0;obtain⟨v',A1,h1,_,rc',_⟩:=h.path ed ek;have:=Reach.det (rc'.mono s1) rc;subst this;cases h1 with
        | @p _ _ a vs _ A0 ha hp =>
         have ha2:=s2 _ _ (s1 _ _ ha);have hl:vs.length=xs.length:=hp.len.1;have hj:j<vs.length:=by rw[hl];exact vT ej
         exact .inr (.inl ⟨a,vs,n',vs[j],rfl,rfl,SqT.of ha2,by rw[wU (j:=j) (by rw[hl];exact ej)];exact List.getElem?_eq_getElem hj,q v _ H2 e1 (s1.trans s2) ((rc.mono s2).snocT rfl ha2 (List.getElem?_eq_getElem hj))⟩)
       ·cases e0
      ·cases e0
     ·cases e0
    ·rename_i c e0;exfalso;split at e0
     ·unfold pIx at e0;split at e0
      ·split at e0<;>cases e0
      ·split at e0<;>cases e0
      ·cases e0
     ·cases e0
    ·exact q.elim
end
section
variable (C:Addr) (X:Cx)
def pI (O:St) (z:R Rho) (H0:Hp) (Dn:io):Prop:=match z with
 | .val ρ'=>∀H',oX C X H0 ρ' O H'->Dn.nx O H'
 | .exc c=>XS X c H0
 | .bad=>False
def tsI (F:Rho->R Rho):TS:=λDn O H=>∃U H0,oX C X H0 U O H/\pI C X O (F U) H0 Dn
def SDi (st:Stmt) (F:Rho->R Rho):Prop:=PS X st (tsI C X F)
end
section
variable {K:Frag} {C:Addr} {M H:Hp}
end
def qB (i:Nat) (k':OK) (pp:List Nat) (f:List D->R (List D)):Rho->R Rho:=λU=>match U[i]? with
 | some (some (.tre k d))=>if gB k pp=some (.l k')then(match kB d pp with
  | some (.lst xs)=>(f xs).bind λys=>.val (U.set i (some (.tre k (kM d pp (.lst ys)))))
  | _=>.bad)else .bad
 | _=>.bad
def apF (x:D) (xs:List D):R (List D):=if xs.length<LIM then .val (xs++[x])else .bad
theorem Bj {x:D}:∀xs c,apF x xs ≠ .exc c:=λxs c e=>by unfold apF at e;split at e<;>cases e
def apP (i:Nat) (k':OK) (P:Rho->R (List Nat)) (e:Rho->R D):Rho->R Rho:=λU=>(P U).bind λpp=>(noE (e U)).bind λx=>qB i k' pp (apF x) U
variable {H0:Hp} {U:RB}
section
variable {C:Addr} {X:Cx}
def asO (F:Rho->R Rho):Rho->R Out:=λU=>(F U).bind λρ'=>.val (.nx ρ')
theorem BA {F:Rho->R Rho} (h:SDi C X st F):SD C X st (asO F):=aY h λD O H ⟨U,H0,r,q⟩=>⟨U,H0,r,by
 unfold asO at q;cases e:F U with
 | val ρ'=>rw[e]at q;exact λH' r'=>q O H' r'
 | exc c=>rw[e]at q;exact q
 | bad=>rw[e]at q;exact q⟩
theorem z5 {Dn:io} (r:bV C X H0 U O H) (h:pI C X O (.exc c) H0 Dn):XE X c O H:=XS.xe (r.keep.trans msk_sub) h
theorem uK {f:List D->R (List D)} {D:io} (hf:∀xs c,f xs ≠ .exc c) (r:bV C X H0 U O H) (q:pI C X O (qB i k' pp f U) H0 D) :
  ∃xs ys v a vs A0,f xs=.val ys/\O[i]?=some (some v)/\Reach H v pp (.ref a)/\H a=some (.lst vs)/\TreP X.K C (msk U O H) H (vs.map λ_=>k') vs xs A0/\a∉A0 /\
   ∀{H2:Hp} {ws:List V} {N B:List Addr},Same H H2->(∀b∈N,H b=none)->TreP X.K C (cut N (msk U O H2)) (upd H2 a (.lst ws)) (ws.map λ_=>k') ws ys B->(∀b∈B,b∈A0\/b∈N)->D.nx O (upd H2 a (.lst ws)):=by
 unfold qB at q;split at q
 ·rename_i k d er;by_cases ek:gB k pp=some (.l k')
  ·rw[if_pos ek]at q;split at q
   ·rename_i xs ed;cases ef:f xs with
    | val ys =>
     rw[ef]at q;obtain⟨v,a,vs,A0,e1,rc,ha,hp,hn,up⟩:=r.node er ek ed;exact⟨xs,ys,v,a,vs,A0,ef,e1,rc,ha,hp,hn,λ{H2 ws N B} s hN ht hs=>q _ ⟨_,rfl,up s hN ht hs⟩⟩
    | exc c=>exact(hf xs c ef).elim
    | bad=>rw[ef]at q;exact q.elim
   ·exact q.elim
  ·rw[if_neg ek]at q;exact q.elim
 ·exact q.elim
theorem t6 {H2:Hp} {A0 N:List Addr} (r:bV C X H0 U O H) (s:Same H H2) (ha:H a=some (.lst vs)) (hn:a∉A0) (hN:∀b∈N,H b=none) (hp:TreP X.K C (msk U O H) H (vs.map λ_=>k') vs xs A0) :
  TreP X.K C (cut N (msk U O H2)) (upd H2 a (.lst ws)) (vs.map λ_=>k') vs xs A0 :=
 hp.stay (λb o e=>cut_some.mpr ⟨λz=>Option.some_ne_none _ ((msk_some.mp e).2.symm.trans (hN b z)),aO s b o e⟩)
  ⟨λb hb o e=>by rw[au λ(z:b=a)=>hn (z▸hb)];exact s b o e,λb us e=>by rw[au λ(z:b=a)=>by rw[z,ha]at e;cases e];exact s b _ e⟩
theorem vI {H1 H2:Hp} {y:V} {x:D} {N:List Addr} (ha:H a=some (.lst vs)) (s1:Same H H1) (s2:Same H1 H2) (hN:∀b∈N,H b=none) (h:Tre X.K C (cut N (msk U O H1)) H1 k' y x N) :
  Tre X.K C (cut N (msk U O H2)) (upd H2 a (.lst ws)) k' y x N :=
 h.stay (λb o e=>cut_some.mpr ⟨(cut_some.mp e).1,aO s2 b o (cut_some.mp e).2⟩)
  ⟨λb hb o e=>by rw[au λ(z:b=a)=>Option.some_ne_none _ (ha.symm.trans (z▸hN b hb))];exact s2 b o e,λb us e=>by rw[au λ(z:b=a)=>by rw[z,s1 _ _ ha]at e;cases e];exact s2 b _ e⟩
theorem ut {A0 N:List Addr} (hN:∀b∈N,H b=none) (hp:TreP X.K C (msk U O H) H (vs.map λ_=>k') vs xs A0):∀b∈A0,b∉N:=λb hb z=>by
 obtain⟨us,e⟩:=hp.lists b hb;rw[hN b z]at e;cases e
theorem o5 {e:Expr} {P:Rho->R (List Nat)} (ho:ND C X i o P) (he:KD C X k' e F)
  (hs:∀{to:TE} {t:TA},PE X o to->PA X [e] t->PS X (.Expr (.Call (.Attribute o "append" ap) [e] [] cp) pos) (kz (tBM X.K "list" nM to t)):=by
   exact λho ha=>h7 (jK PySem.F.plainAttrs_list PySem.F.slot_list_append PySem.F.type_list_append jt ho ha))
  (hst:starEach [e] X.env=(false,eval e X.env)::starEach [] X.env:=by rfl) :
  SDi C X (.Expr (.Call (.Attribute o "append" ap) [e] [] cp) pos) (apP i k' P F) :=
 aY (hs ho (bh he ce hst)) λD O H ⟨_,H0,⟨U,er,r⟩,q⟩=>by
  subst er;refine⟨U,⟨H0,r⟩,?_⟩;unfold apP at q;cases eP:P U with
  | exc c=>rw[eP]at q;exact z5 r q
  | bad=>rw[eP]at q;exact q.elim
  | val pp =>
   rw[eP]at q;dsimp only[DL.R.bind]at q;intro v w H1 e1 s1 rc;cases eF:F U with
   | exc c=>rw[eF]at q;exact q.elim
   | bad=>rw[eF]at q;exact q.elim
   | val x =>
    rw[eF]at q;obtain⟨xs,ys,v0,a,vs,A0,ef,e2,rc0,ha,hp,hn,up⟩:=uK Bj r q;rw[e1]at e2;cases e2;have:=Reach.det (rc0.mono s1) rc;subst this;unfold apF at ef;by_cases hl:xs.length<LIM
    ·rw[if_pos hl]at ef;cases ef;refine⟨.inl ⟨rfl,_,SqL.of (s1 _ _ ha)⟩,U,⟨H0,r.mono s1⟩,?_⟩;rw[eF];intro y H2 N s2 hN hy;have hN':∀b∈N,H b=none:=λb hb=>fC s1 (hN b hb);refine⟨a,vs,y,rfl,rfl,s2 _ _ (s1 _ _ ha),by rw[hp.len.1];exact Nat.lt_of_lt_of_le hl (by decide),?_⟩;obtain⟨B,hB,h3⟩:=TreP.app (vI (ws:=vs++[y]) ha (s1.trans s2) (Same.refl _) hN' hy) (t6 (ws:=vs++[y]) r (s1.trans s2) ha hn hN' hp) (ut hN' hp);exact up (s1.trans s2) hN' (by rw[List.map_append];exact h3) λb hb=>(hB b).mp hb
    ·rw[if_neg hl]at ef;cases ef
end
section
variable {K:Frag} {C:Addr} {M M' H:Hp}
end
section
variable (C:Addr) (X:Cx)
end
section
variable {C:Addr} {X:Cx} {m:Nat}
end
section
variable {P:Program} {w:World} {K:Frag} {mg:Str->Option Value} {base:Heap} {C:Addr}
end
section
variable {C:Addr} {X:Cx}
end
section
variable {C:Addr} {X:Cx}
def isN (t:Int):Value->Bool
 | .int a _=>a==t
 | _=>false
def y6:V->List V->Hp->VK->Prop:=λx vs H Q=>∃(l:Addr) (is:List Int) (t:Int) (j:Nat),x=.ref l/\vs=[.int t]/\H l=some (.lst (is.map V.int))/\is.length<=100000/\is.findIdx? (· == t)=some j/\Q (.int (j:Int)) H
theorem gF:∀{is:List Int} {us:List Value} {m:Nat} {y:Value},Vals (is.map V.int) us->us[m]?=some y->∃i t,is[m]?=some i/\y=.int i t
 | [],_,_,_,.nil,e=>by simp at e
 | i::is,_,0,y,.cons r t,e=>by
  rw[List.getElem?_cons_zero]at e;cases e;obtain⟨tk,rfl⟩:=(show ∃t,_=Value.int i t from r);exact⟨i,tk,rfl,rfl⟩
 | i::is,_,m+1,y,.cons r t,e=>by
  rw[List.getElem?_cons_succ]at e;obtain⟨i',t',e1,e2⟩:=gF t e;exact⟨i',t',by rw[List.getElem?_cons_succ];exact e1,e2⟩
theorem t8:MtM X "list.index" y6:=by
 intro pins s O H x vs v us Q I rx rv h;obtain⟨l,is,t,j,rfl,rfl,hH,hlen,hj,q⟩:=h;cases rx;obtain⟨u1,rfl,r1⟩:=rv.one;obtain⟨tk,rfl⟩:=(show ∃tk,u1=Value.int t tk from r1);obtain⟨z,its,n,r,hl,e⟩:=I.lstM hH;obtain⟨hjl,hjt,hjn⟩:=List.findIdx?_eq_some_iff_getElem.mp hj;have hil:its.length=is.length:=by have:=r.length;rw[List.length_map]at this;exact this.symm
 have at_:∀(m:Nat) (hm:m<its.length),isN t its[m]=(is[m]'(by omega)==t):=λm hm=>by
  obtain⟨i,tk',e1,e2⟩:=gF r (List.getElem?_eq_getElem hm);have hm2:m<is.length:=by omega
  rw[List.getElem?_eq_getElem hm2]at e1;rw[e2,<- Option.some.inj e1];rfl
 refine call_meets PySem.F.slot_list_index ⟨_,e,rfl⟩ PySem.F.entry_list_index (PySem.F.args_list_index_2 _ _) (SeqAt.list_indexAt l _ n none #[] (.int t tk) (isN t) j (by simp;omega) (by omega) (by
  have:=at_ j (by omega);simp only[List.getElem_toArray];rw[this];simpa using hjt) (λm hm hlt=>by
  have hm':m<its.length:=by simpa using hm
  have:=at_ m hm';simp only[List.getElem_toArray];rw[this];have:=hjn m hlt;simpa using this)) ⟨e,λy hy=>?_,?_⟩
 ·have hy:y∈its:=by simpa using hy
  obtain⟨m,hm⟩:=List.getElem?_of_mem hy;obtain⟨i,tk',_,rfl⟩:=gF r hm;exact SeqAt.EqAt.int_int i tk' t tk
 ·exact⟨.int _,H,I.tok _,⟨_,rfl⟩,q⟩
def wf:D->D->R D
 | .lst xs,.int t=>match ip xs with
  | some is=>if is.length<=100000 then match is.findIdx? (· == t)with
   | some j=>.val (.int (j:Int))
   | none=>.bad
   else .bad
  | none=>.bad
 | _,_=>.bad
def q9 (Fo F:Rho->R D):Rho->R D:=λU=>(Fo U).bind λx=>match x with
 | .lst xs=>(F U).bind (wf (.lst xs))
 | _=>.bad
theorem ql {e:Expr} {Fo:Rho->R D} (ho:EB C X o Fo) (he:ED C X e F) (hst:starEach [e] X.env=(false,eval e X.env)::starEach [] X.env)
  (hs:∀{to:TE} {t:TA},PE X o to->PA X [e] t->PE X (.Call (.Attribute o "index" ap) [e] [] cp) (tBM X.K "list" y6 to t):=by
   exact λho ha=>jK PySem.F.plainAttrs_list PySem.F.slot_list_index PySem.F.type_list_index t8 ho ha) :
  ED C X (.Call (.Attribute o "index" ap) [e] [] cp) (q9 Fo F) :=
 aA (hs ho (bh he ce hst)) λO H Q ⟨U,⟨H0,r0⟩,q⟩=>⟨U,⟨H0,r0⟩,aF (P:=λz H=>pV X (cj C X U O) z O H Q) (λ_ h=>h) (λh=>h) q λy v H1 s1 h1 q1=>by
  cases y with
  | lst xs =>
   obtain⟨a,vs,rfl,e1,h2⟩:=h1.lst msk_sub;refine⟨.inl ⟨rfl,_,SqL.of e1⟩,U,⟨H0,r0.mono s1⟩,aF (P:=λz H=>pV X (cj C X U O) z O H Q) (λ_ h=>h) (λh=>h) (q1.mono s1) λy w H2 s2 h3 q2=>?_⟩;cases y with
   | int t =>
    cases h3;unfold wf at q2;dsimp only at q2;split at q2
    ·rename_i is eb;obtain rfl:=jx eb h2;by_cases hl:is.length<=100000
     ·rw[if_pos hl]at q2;split at q2
      ·rename_i j ej;exact⟨a,is,t,j,rfl,rfl,s2 _ _ e1,hl,ej,q2 _ H2 s2 (.int _)⟩
      ·exact q2.elim
     ·rw[if_neg hl]at q2;exact q2.elim
    ·exact q2.elim
   | _=>exact q2.elim
  | _=>exact q1.elim⟩
end
section
variable {C:Addr} {X:Cx}
def pFR (C:Addr) (X:Cx) (r:R (List D)) (O:St) (H:Hp) (Q:VK):Prop:=match r with
 | .val xs=>∀a vs H1,Same H H1->H1 a=none->HasL X.K C H1 vs xs->Q (.ref a) (upd H1 a (.lst vs))
 | .exc c=>XE X c O H
 | .bad=>False
variable (C X) in
def Cw (F:Rho->R (List D)):TE:=λO H Q=>∃U:RB,(∃H0,bV C X H0 U O H)/\pFR C X (F U) O H Q
variable (C X) in
def FR (e:Expr) (F:Rho->R (List D)):Prop:=PE X e (Cw C X F)
theorem Ca {e:Expr} {F:Rho->R (List D)} (h:FR C X e F):ER C X e (eLs F):=aA h λO H Q ⟨U,r0,q⟩=>⟨U,r0,by
 unfold eLs at q;cases z:F U with
 | val xs=>rw[z]at q;exact λa vs H1 s1 hn h1=>q _ _ (s1.trans (ay hn)) (.lst aJ (h1.mono (ay hn)))
 | exc c=>rw[z]at q;exact q
 | bad=>rw[z]at q;exact q⟩
def uo (xs:List D) (lo hi:Option Int):List D:=(xs.drop (HT.sIx xs.length 0 lo)).take (HT.sIx xs.length xs.length hi-HT.sIx xs.length 0 lo)
theorem HasL.cut {lo hi:Option Int} (h:HasL K C H vs xs):HasL K C H (um vs lo hi) (uo xs lo hi):=by
 unfold um uo;rw[h.len];exact(h.drop _).take _
variable (C X) in
def toP (F:Rho->R (Option Int)):TO:=λO H Q=>∃U:RB,(∃H0,bV C X H0 U O H)/\match F U with
 | .val o=>∀H',Same H H'->Q o H'
 | .exc c=>XE X c O H
 | .bad=>False
variable (C X) in
def PD (e:Option Expr) (F:Rho->R (Option Int)):Prop:=PO X e (toP C X F)
def oN:Rho->R (Option Int):=λ_=>.val none
def oS (F:Rho->R D):Rho->R (Option Int):=λU=>(F U).bind λd=>match d with
 | .int i=>.val (some i)
 | _=>.bad
theorem sk:PD C X none oN:=λpins s O H Q I ⟨U,r,q⟩=>xB pins s O H Q I (q H (Same.refl _))
theorem si {e:Expr} (h:ED C X e F):PD C X (some e) (oS F):=λpins s O H Q I ⟨U,r,q⟩=>xA h pins s O H Q I ⟨U,r,by
 unfold oS at q;cases z:F U with
 | val d =>
  rw[z]at q;intro v H' s' hv;cases d with
  | int i=>cases hv;exact⟨i,rfl,q H' s'⟩
  | _=>exact q.elim
 | exc c=>rw[z]at q;exact q
 | bad=>rw[z]at q;exact q⟩
def fSl (F:Rho->R D) (Fl Fh:Rho->R (Option Int)):Rho->R (List D):=λU=>(F U).bind λx=>(Fl U).bind λl=>(Fh U).bind λh=>match x with
 | .lst xs=>.val (uo xs l h)
 | _=>.bad
theorem wl {e:Expr} {lo hi:Option Expr} {Fl Fh:Rho->R (Option Int)} (he:EB C X e F) (hl:PD C X lo Fl) (hh:PD C X hi Fh):FD C X (.Subscript e (.Slice lo hi none p2) pos) (fSl F Fl Fh) :=
 aA (ph rM he hl hh) λO H Q ⟨U,⟨H0,r0⟩,q⟩=>⟨U,⟨H0,r0⟩,aF (P:=λz H=>pF (X:=X) (fq C X U O) z O H Q) (λ_ h=>h) (λh=>h) q λx v H1 s1 h1 q1=>by
  refine⟨U,⟨H0,r0.mono s1⟩,?_⟩;cases zl:Fl U with
  | exc c=>rw[zl]at q1;exact XE.mono s1 q1
  | bad=>rw[zl]at q1;exact q1
  | val l =>
   rw[zl]at q1;dsimp only[DL.R.bind]at q1;intro H2 s2;refine⟨U,⟨H0,(r0.mono s1).mono s2⟩,?_⟩;cases zh:Fh U with
   | exc c=>rw[zh]at q1;exact XE.mono (s1.trans s2) q1
   | bad=>rw[zh]at q1;exact q1
   | val h =>
    rw[zh]at q1;dsimp only at q1;intro H3 s3;cases x with
    | lst xs =>
     obtain⟨a,vs,rfl,e1,h2⟩:=h1.lst msk_sub;exact⟨a,vs,rfl,SqL.of (s3 _ _ (s2 _ _ e1)),λp hp=>q1 p _ H3 ((s1.trans s2).trans s3) hp (HasL.cut (h2.mono (aO (s2.trans s3))))⟩
    | _=>exact q1.elim⟩
theorem v3 {e:Expr} {lo hi:Option Expr} {Fl Fh:Rho->R (Option Int)} (he:ER C X e F) (hl:PD C X lo Fl) (hh:PD C X hi Fh):FR C X (.Subscript e (.Slice lo hi none p2) pos) (fSl F Fl Fh) :=
 aA (ph rM he hl hh) λO H Q ⟨U,⟨H0,r0⟩,q⟩=>⟨U,⟨H0,r0⟩,aF (P:=λz H=>pFR C X z O H Q) (λ_ h=>h) (λh=>h) q λx v H1 s1 h1 q1=>by
  refine⟨U,⟨H0,r0.mono s1⟩,?_⟩;cases zl:Fl U with
  | exc c=>rw[zl]at q1;exact XE.mono s1 q1
  | bad=>rw[zl]at q1;exact q1
  | val l =>
   rw[zl]at q1;dsimp only[DL.R.bind]at q1;intro H2 s2;refine⟨U,⟨H0,(r0.mono s1).mono s2⟩,?_⟩;cases zh:Fh U with
   | exc c=>rw[zh]at q1;exact XE.mono (s1.trans s2) q1
   | bad=>rw[zh]at q1;exact q1
   | val h =>
    rw[zh]at q1;dsimp only at q1;intro H3 s3;cases h1 with
    | lst e1 h2=>exact⟨_,_,rfl,SqL.of (s3 _ _ (s2 _ _ e1)),λp hp=>q1 p _ H3 ((s1.trans s2).trans s3) hp (HasL.cut (h2.mono (s2.trans s3)))⟩
    | _=>exact q1.elim⟩
end
theorem yR:bootBuiltins "int"=some (.type "int"):=by decide +kernel
theorem wR:bootBuiltins "bool"=some (.type "bool"):=by decide +kernel
section
variable {C:Addr} {X:Cx}
end
section
variable {K:Frag} {C:Addr} {H0 H M:Hp} {U:RB} {O:St}
end
section
variable {K:Frag} {C:Addr} {H0 H M:Hp} {U:RB} {O:St}
end
section
variable {C:Addr} {X:Cx}
end
section
variable {C:Addr} {X:Cx}
end
end DL
namespace DL
end DL
namespace DL
open PySem.W PyProof.Rows
section
variable {n:Nat} {r:Nat->Nat}
end
end DL
namespace DL
open PySem PySem.Spec PyProof.Rows L2
open PySem.MeetsSeq3 in
open PySem.AutoSeq1 (wpAny_loadPart') in
open PySem.MeetsSeq3 in
open PySem.AutoSeq1 (wpAny_loadPart') in
section
variable {prog:Program} {w:World} {A:Around} {E:Value->Shared->Prop} {s:Shared}
end
section
variable {prog:Program} {w:World} {A:Around} {E:Value->Shared->Prop} {s:Shared}
end
section
variable {C:Addr} {X:Cx}
end
section
variable (C:Addr) (X:Cx)
def pE (O:St) (H:Hp) (o:R Out) (H0:Hp) (Dn:io):Prop:=match o with
 | .exc c=>XE X c O H
 | o=>pS C X o H0 Dn
def tsE (F:Rho->R Out):TS:=λDn O H=>∃U H0,oX C X H0 U O H/\pE C X O H (F U) H0 Dn
def SDe (st:Stmt) (F:Rho->R Out):Prop:=PS X st (tsE C X F)
def Ch (st:List Stmt) (F:Rho->R Out):Prop:=PSs X st (tsE C X F)
end
variable {pos:Pos}
section
variable {C:Addr} {X:Cx}
theorem uV {st:Stmt} {F:Rho->R Out} (h:SDe C X st F):Ch C X [st] F:=hZ h
theorem uW {e:Expr} {F:Rho->R D} (he:EB C X e F) (hs:swapsWith e none pos.line X.env=pure false:=by rfl):SDe C X (.Expr e pos) (drp F) :=
  aY (h7 he hs) λD O H yy1=>by
   obtain⟨_,H0,⟨U,rfl,r⟩,q⟩:=yy1;exact⟨U,⟨H0,r⟩,aF (P:=λz _=>pE C X O H z H0 D) (λc h=>h) (λh=>h) q λd v H1 s1 h1 q1=>q1 _ _ ⟨_,rfl,r.mono s1⟩⟩
end
section
variable {K:Frag} {C:Addr} {H0 H:Hp} {U:RB} {O:St}
theorem Rel.goes (r0:Rel K C H0 U O H) (i:Nat) (o:Option V):Rel K C H0 (U.del i) (O.set i o) H:=by
 have r:=r0.forget i;have em:msk (U.del i) (O.set i o)=msk (U.del i) O:=qR λ_=>rfl;refine⟨by rw[List.length_set];exact r.len,by rw[em];exact r.keep,λj sl e=>?_,r.inj,r.kin,r.bnd⟩;rw[em,List.getElem?_set_ne (jz e).1];exact r.at_ j sl e
end
def uO (S:List Nat) (ie:Nat) (F G:Rho->R Out):Rho->R Out:=λU=>match F U with
 | .val o=>.val o
 | .bad=>.bad
 | .exc c=>if c∈S then match G (U.set ie (some (.shr (.exn c))))with
  | .val (.nx ρ')=>.val (.nx (ρ'.set ie none))
  | _=>.bad
  else .bad
variable {pins:List (Addr×Obj)}
section
variable {C:Addr} {X:Cx}
theorem SP.unre {pins':List (Addr×Obj)} {Dn:io} {f:Flow} {s:Shared} {A:Around} {cm:Bool} {xe:Value->Shared->Prop} (ok:X.Ok) (h:SP (reX X A cm (X.pn++pins) xe) pins' Dn f s):SP X pins Dn f s:=by
 cases f with
 | next=>obtain⟨σ',H',I,q⟩:=h;exact⟨σ',H',I.unre ok,q⟩
 | brk=>obtain⟨σ',H',I,q⟩:=h;exact⟨σ',H',I.unre ok,q⟩
 | cont=>obtain⟨σ',H',I,q⟩:=h;exact⟨σ',H',I.unre ok,q⟩
 | ret u=>obtain⟨v,σ',H',I,r,q⟩:=h;exact⟨v,σ',H',I.unre ok,r,q⟩
theorem qd {h:Heap} {ea Cc:Addr} {ch:List Addr} (xr:dC h ea (.ref Cc) ch):∃ox,InstAt h ea ox Cc none/\h.get? ea=some ox/\ox.cls=.ref Cc/\ox.dict=none/\∃vs,ox.data=.fields vs:=by
 obtain⟨_,⟨oe,vs,he,hc,hdc,hd,_,_⟩,_⟩:=xr;refine⟨oe,⟨he,hc,?_,by rw[hdc];trivial⟩,he,hc,hdc,vs,hd⟩;unfold PySem.W.notCls;rw[hd]
theorem zu {S:List Nat} {CA:Addr} {ie:Nat} {en:Str} {body:List Stmt} {b0:Stmt} {bs:List Stmt} {np hp:Pos} {F G:Rho->R Out} (B:XB X.K X.mg S CA) (XA:rG X.K X.mg S) (hS:∀c∈S,c<7) (hgA:Gl X "ArrowError")
  (hN:X.N.Nodup) (hie:X.N[ie]?=some en) (hloc:X.env.kindOf en=some .local) (hlo:X.env.scope.names.lookup en=some .local) (hpm:(X.env.scope.kind == .class||(X.env.scope.kind == .module&&X.env.locals != X.env.globals))=false)
  (hex:X.ex=[]) (hstk:X.stack=X.env::X.outer) (hfrm:X.env.frame=some X.env.locals)
  (hb:∀pn xe,Ch C (reX X X.A X.calm pn xe) body F)
  (hh:∀ev pn,SDs C (reX X (X.A.mark (some ev)) false pn (λ_ _=>False)) (b0::bs) G) :
  SD C X (.Try body [.ExceptHandler (some (.Name "ArrowError" np)) (some en) (b0::bs) hp] [] [] pos) (uO S ie F G):=by
 rintro pins s O H Dn I ⟨_,H0,⟨U,rfl,r⟩,q⟩;refine wpAny_Try_except ?_;have I0:Inv (reX X X.A X.calm (X.pn++pins) (λe s1=>wpAny (model X.prog X.w) X.A (noteFrame e X.env) (λ_ s2=>wpAny (model X.prog X.w) X.A (setFlight e none) (λ_ s3=>wpAny (model X.prog X.w) X.A (handleBy e X.env [.ExceptHandler (some (.Name "ArrowError" np)) (some en) (b0::bs) hp]) (SP X pins Dn) X.xe s3) X.xe s2) X.xe s1)) [] O H s:=I.re rfl I.ok.hd;refine thn (hb _ _ [] s O H Dn I0 ⟨_,H0,⟨U,rfl,r⟩,?_⟩) λf s1 hq=>?_
 ·unfold uO at q;cases e:F U with
  | val o=>rw[e]at q;cases o<;>exact q
  | bad=>rw[e]at q;exact q
  | exc c =>
   rw[e]at q;dsimp only at q;by_cases hc:c∈S
   ·rw[if_pos hc]at q;rintro pins' H' ev s' I' sm ⟨ea,Cc,ch,he,hm,xr,hfx⟩;subst he;have fr:X.A.frames=some (X.env::X.outer):=by rw[<- hstk];exact I.ok.frames
    have fs:s'.heap.FunFrames X.base (X.env::X.outer):=by have:=I'.stack;rw[show(reX X X.A X.calm (X.pn++pins) (λe s1=>wpAny (model X.prog X.w) X.A (noteFrame e X.env) (λ_ s2=>wpAny (model X.prog X.w) X.A (setFlight e none) (λ_ s3=>wpAny (model X.prog X.w) X.A (handleBy e X.env [.ExceptHandler (some (.Name "ArrowError" np)) (some en) (b0::bs) hp]) (SP X pins Dn) X.xe s3) X.xe s2) X.xe s1)).stack=X.env::X.outer from hstk]at this;exact this
    refine mY fr fs hfrm xr λh' ch' kb nw xr'=>?_;rw[<- hstk]at kb;have U':=I'.unre I.ok;have fx0:∀b∈ch,oZ X pins H' b:=λb hb=>by
     obtain⟨a1,a2,a3,a4,a5,a6⟩:=hfx b hb;exact⟨a1,a2,a3,a4,a5,λp hp=>a6 p (List.mem_append_left _ hp)⟩
    have I1:=Inv.callX U' kb fx0;have fx1:∀b∈ch',oZ X pins H' b:=λb hb=>by
     rcases nw b hb with hb|hb
     ·exact fx0 b hb
     ·exact jy U' hex hb
    have I3:Inv (reX X (X.A.mark (some (.ref ea))) false (X.pn++pins) (λ_ _=>False)) [] O H' { s' with heap:=h' }:=I1.re rfl (by intro z;cases z);obtain⟨Ck,hCk,hmk⟩:=XA.cls c (hS c hc);have hmk':some (Value.ref Cc)=some (.ref Ck):=hm.symm.trans hmk;cases hmk';obtain⟨ox,inst,_⟩:=qd xr';refine wpAny_handleBy_cons (codeAny_handlers_test (da (pos:=np) I3 hgA B.nm (vL (prog:=X.prog) (w:=X.w) I1.kIn B hc hCk inst (codeAny_handlers_suite_as ?_)))) (by intro z;cases z);refine iG (fs:=frs X.stack) xr' λh2 kb2 xr2=>?_;have fx3:∀b∈ch',oZ (reX X (X.A.mark (some (.ref ea))) false (X.pn++pins) (λ_ _=>False)) [] H' b:=λb hb=>by
     obtain⟨a1,a2,a3,a4,a5,a6⟩:=fx1 b hb;exact⟨a1,a2,a3,a4,a5,λp hp=>a6 p (by have hp:p∈(X.pn++pins)++[]:=hp;rw[List.append_nil]at hp;exact hp)⟩
    have I4:=Inv.callX I3 kb2 fx3;obtain⟨ox2,inst2,g1,g2,g3,g4⟩:=qd xr2;have I5:=I4.adopt (a:=ea) (o:=.ext (exP X.K c ea)) (fx3 ea xr2.mem) ⟨⟨ox2,Cc,g1,g2,g3,g4,hCk⟩,⟨ox2,g1⟩,λk1 k2 ⟨ox,D,p1,p2⟩ hk=>⟨ox,D,hk _ p1,p2⟩⟩;have hn:H' ea=none:=(fx3 ea xr2.mem).1;have r1:=(r.mono sm).mono (ay (o:=.ext (exP X.K c ea)) hn);have r2:=r1.setShr (i:=ie) (v:=.ref ea) (d:=.exn c) (.exn ((r.mono sm).new hn));refine kC (X:=reX X (X.A.mark (some (.ref ea))) false (X.pn++pins) (λ_ _=>False)) I5 hN hie (.inl hlo) (show RelV (.ref ea) (.ref ea)from rfl) (λs4 I6=>?_) (.inr hlo);cases eG:G (U.rho.set ie (some (.shr (.exn c))))with
    | exc c=>rw[eG]at q;exact q.elim
    | bad=>rw[eG]at q;exact q.elim
    | val o =>
     rw[eG]at q;cases o with
     | rt d=>exact q.elim
     | bk ρ'=>exact q.elim
     | ct ρ'=>exact q.elim
     | nx ρ' =>
      refine wpAny_mono (hh (.ref ea) _ [] s4 _ _ { nx:=λσ' H''=>oX C X H0 ρ' σ' H'',rt:=λ_ _=>False } I6 ⟨_,H0,⟨_,rfl,r2⟩,by rw[show(U.put ie (.shr (.exn c)) []).rho=U.rho.set ie (some (.shr (.exn c)))from rfl,eG];exact λσ' H'' z=>z⟩) (λf s5 hq=>?_) λ_ _ z=>z.elim;cases f with
      | brk=>obtain⟨_,_,_,z⟩:=hq;exact z.elim
      | cont=>obtain⟨_,_,_,z⟩:=hq;exact z.elim
      | ret u=>obtain⟨_,_,_,_,_,z⟩:=hq;exact z.elim
      | next =>
       obtain⟨O5,H5,I7,β,e5,r5⟩:=hq;obtain⟨m,hn5,_⟩:=I7.loc;refine wpAny_nameGoes_keeps hloc hn5 hpm λh6 v hn6 hs6=>?_;exact⟨_,H5,(I7.goes (t':=s5.toks+1) hN hie hn5 hn6 hs6).unre I.ok,q _ _ ⟨_,by rw[<- e5];rfl,r5.goes ie none⟩⟩
   ·rw[if_neg hc]at q;exact q.elim
 ·cases f with
  | next =>
   obtain⟨σ',H',I',q'⟩:=hq;exact wpAny_execs_nil ⟨σ',H',I'.unre I.ok,q'⟩
  | brk=>exact SP.unre (f:=.brk) I.ok hq
  | cont=>exact SP.unre (f:=.cont) I.ok hq
  | ret u=>exact SP.unre (f:=.ret u) I.ok hq
end
variable {x:Str}
section
variable {C:Addr} {X:Cx}
theorem A7 {k n:Nat} {den:List D->R D} {p:Pos} {e:Expr} {es:List Expr} {Fa:Rho->R (List D)} (F:Fn X.prog X.w X.K X.mg X.base C k x n den) (hr:Room k X.A) (hg:Gl X x) (ha:AD C X (e::es) Fa)
  (hdb:(x==("__debug__":Str))=false:=by decide) (he:starEach (e::es) X.env=(false,eval e X.env)::starEach es X.env:=by rfl) (hpl:(backTo pos (starEach es X.env)).any (·.1)=false:=by rfl) :
  ED C X (.Call (.Name x p) (e::es) [] pos) (cal n den Fa):=by
 obtain⟨f,fd,ps,h1,h2,h3,h4⟩:=F;exact yF h1 hr hg h2 h3 h4 pi ha hdb he hpl
end
section
variable {C:Addr} {X:Cx}
end
section
variable {prog:Program} {w:World} {A:Around} {R:Result->Shared->Prop} {I:Addr} {fp wr:List Addr} {n:Nat} {P:Nat->Value->Prop} {St:Nat->Heap->Prop}
end
section
variable {C:Addr} {X:Cx}
end
theorem Bg:bootBuiltins "ValueError"=some (.type "ValueError"):=by decide +kernel
section
variable {C:Addr} {X:Cx}
end
section
variable {C:Addr} {X:Cx}
end
theorem oJ {prog:Program} {w:World} {A:Around} {R:Result->Shared->Prop} {s:Shared} {elt target iter:Expr} {scope:Scope} {it acc:Value} {env:Env}
  (iD:wpAny (model prog w) A (pyNext it) (λr s₁=>∃v,r=some v/\wpAny (model prog w) A (letOwnedTupleGo target it v) (λ_ s₀=>wpAny (model prog w) A (assign target env v) (λ_ s₂ =>
   wpAny (model prog w) A (eval elt env) (λ_ _=>False) (notedBy (model prog w) A env λx s'=>R (.error x) s') s₂) (λ_ _=>False) s₀) (λ_ _=>False) s₁) (λ_ _=>False) s) :
  codeAny (model prog w) A (.compLoop (.ListComp elt [⟨target,iter,[],0⟩] scope pos) 0 it acc env) R s:=by
 refine codeAny_loop rfl (λ_ s'=>s'=s) (λn s' hI=>?_) 0 rfl;subst hI;show wpAny _ A ((compTurn (.ListComp elt [⟨target,iter,[],0⟩] scope pos) 0 it acc env).onRaise (λx=>do noteFrame x env;theTreesLotGoes x)) _ _ s';refine wpAny_noted ?_;rw[compTurn_list1];refine wpAny_bind (wpAny_standAt (wpAny_bind (wpAny_mono iD (λr s₁ h₁=>?_) λ_ _ h'=>h'.elim)));obtain⟨v,rfl,h₁⟩:=h₁;exact wpAny_bind (wpAny_mono h₁ (λ_ s₀ h₀=>wpAny_bind (wpAny_mono h₀ (λ_ s₂ h₂=>wpAny_bind (wpAny_bind (wpAny_mono h₂ (λ_ _ z=>z.elim) λ_ _ z=>z))) λ_ _ h'=>h'.elim)) λ_ _ h'=>h'.elim)
section
variable {C:Addr} {X:Cx}
def xrP (X:Cx) (pins:List (Addr×Obj)) (O:St) (H:Hp) (c:Nat) (x:Value) (s':Shared):Prop:=∃ea Cc ch H' H1 s1,x=.ref ea/\X.mg (exN c)=some (.ref Cc)/\dC s'.heap ea (.ref Cc) ch/\Inv X pins O H' s'/\Same H H'/\(∀b∈ch,H' b=none/\s1.heap.get? b=none)/\Inv X pins O H1 s1/\Same H H1
variable (C X) in
def ExR (e:Expr) (F:Rho->R D):Prop:=∀(pins:List (Addr×Obj)) (s:Shared) (O:St) (H H0:Hp) (U:RB) (c:Nat),Inv X pins O H s->bV C X H0 U O H->F U=.exc c->wpAny (model X.prog X.w) X.A (eval e X.env) (λ_ _=>False) (xrP X pins O H c) s
def wQ (n:Nat) (den:List D->R D) (a:Rho->R (List D)):Rho->R D:=λU=>match a U with
 | .val ds=>if ds.length=n then den ds else .bad
 | _=>.bad
theorem AO {k n:Nat} {den:List D->R D} {p:Pos} {e:Expr} {es:List Expr} {Fa:Rho->R (List D)} (F:FnX X.prog X.w X.K X.mg X.base C k x n den) (hr:Room k X.A) (hg:Gl X x) (ha:AD C X (e::es) Fa) (hxe:∀v s,X.xe v s->False)
  (hdb:(x==("__debug__":Str))=false:=by decide) (he:starEach (e::es) X.env=(false,eval e X.env)::starEach es X.env:=by rfl) (hpl:(backTo pos (starEach es X.env)).any (·.1)=false:=by rfl) :
  ExR C X (.Call (.Name x p) (e::es) [] pos) (wQ n den Fa):=by
 obtain⟨f,fd,ps,hF,hm,hk,hb⟩:=F;intro pins s O H H0 U c I r0 hc;obtain⟨ds,ed,hl,e1⟩:∃ds,Fa U=.val ds/\ds.length=n/\den ds=.exc c:=by
  unfold wQ at hc;split at hc
  ·rename_i ds ed;split at hc
   ·exact⟨ds,ed,‹_›,hc⟩
   ·cases hc
  ·cases hc
 refine wpAny_Call_Name_kw (da I hg hm ?_ hdb);refine callWith_K (h₀:=X.base) I.ok.mod.kin hk (wpAny_mono (ha pos pins s O H (λvs H1=>Same H H1/\fq C X U O H1 vs ds) I ⟨U,⟨H0,r0⟩,by rw[ed];exact λvs H1 s1 h1=>⟨s1,h1⟩⟩) (λus s1 zz=>?_) λ_ _ z=>(hxe _ _ z).elim) he hpl;obtain⟨vs,H1,I1,rv,s1',h1⟩:=zz;refine⟨I1.kIn,?_⟩;have r1:=r0.mono s1';have Z:=Rel.hid r1 I1;have J:=I1.hide Z;refine wpAny_mono (nJ (E:=λcl _ M'=>(∃Cc,cl=.ref Cc/\X.mg (exN c)=some (.ref Cc))/\Same (cut (bj U O) H1) M') (Q:=λ_ _=>False) hF hr hb J rv ?_) (λu s2 zz=>?_) λe s2 hq=>?_
 ·refine⟨h1.len.trans hl,ds,by rw[<- cA r0.bnd];exact h1,?_⟩;rw[e1];exact λCc H' hm' s2=>⟨⟨Cc,rfl,hm'⟩,s2⟩
 ·obtain⟨v,M',J2,ru,z⟩:=zz;exact z.elim
 ·obtain⟨ea,cl,M',ch,he',xr,hch,hos,hbare,un,hok,⟨Cc,hcc,hmc⟩,sm⟩:=hq;subst he';subst hcc;have J2:Inv X (pins++cc (bj U O) s1.heap) O M' s2:=J.call' hos un hok hbare (ch:=[]) (λb z=>nomatch z);obtain⟨I2,mz⟩:=I1.show' Z J2;have sj:Same H1 (jn (bj U O) H1 M'):=λb o eb=>by
   by_cases hb:b∈bj U O
   ·rw[fM hb];exact eb
   ·rw[aZ hb];exact sm b o (cut_some.mpr ⟨hb,eb⟩)
  refine⟨ea,Cc,ch,_,H1,s1,rfl,hmc,xr,I2,s1'.trans sj,λb hb=>⟨?_,(hch b hb).1⟩,I1,s1'⟩;rw[aZ λz=>?_]
  ·exact(hch b hb).2
  ·obtain⟨o,ho,_⟩:=Z.obj b z;rw[(hch b hb).1]at ho;cases ho
theorem wJ {O:St} {H' H1:Hp} {s' s1:Shared} {L ea Cc:Addr} {ch:List Addr} {c:Nat} {use:Option (Value->Sem Unit)} {Qv:Value->Shared->Prop} {acc:Value} {env':Env} {m:Str->Option Value}
  (hex:X.ex=[]) (hstk:X.stack=X.env::X.outer) (hfrm:X.env.frame=some X.env.locals) (hfr':env'.frame=X.env.frame) (hmc:X.mg (exN c)=some (.ref Cc)) (xr:dC s'.heap ea (.ref Cc) ch) (I':Inv X pins O H' s') (hch:∀b∈ch,H' b=none/\s1.heap.get? b=none) (I1:Inv X pins O H1 s1)
  (uL:H' L=none) (lne:L≠X.env.locals) (lsz:X.s₀.heap.objs.size<=L) (lc:∀x c,X.env.cells.lookup x=some c->c≠L) (lp:∀p∈X.pn++pins,p.1≠L) (hns:s'.heap.Ns L m) (q:XE X c O H') :
  notedBy (model X.prog X.w) X.A env' (λx s''=>compPost (model X.prog X.w) X.A X.xe use Qv acc L (.error x) s'') (.ref ea) s':=by
 have fr:X.A.frames=some (X.env::X.outer):=by rw[<- hstk];exact I'.ok.frames
 have fs:s'.heap.FunFrames X.base (X.env::X.outer):=by have:=I'.stack;rw[hstk]at this;exact this
 have fx0:∀b∈ch,oZ X pins H' b:=λb hb=>⟨(hch b hb).1,(jy I1 hex (hch b hb).2).2⟩;have eqn:noteFrame (.ref ea) env'=noteFrame (.ref ea) X.env:=by
  unfold noteFrame PySem.frameOf;rw[hfr']
 unfold notedBy;rw[eqn];refine pz fr fs hfrm xr λh1 ch1 k1 n1 x1 tb=>?_;rw[<- hstk]at k1;have I2:=Inv.callX I' k1 fx0;obtain⟨oL,esL,epL,eoL,edL,restL⟩:=id hns;have Lch:L∉ch:=λhb=>by
  obtain⟨o,vs,e1,e2⟩:=xr.thr L hb;rw[eoL]at e1;cases e1;rw[edL]at e2;cases e2
 have Lfs:L∉frs X.stack:=λz=>by
  rcases List.mem_cons.mp (I'.stkSub L z)with z|z
  ·exact lne z
  ·obtain⟨_,o,ho,_⟩:=I'.ok.funs.mem z;exact absurd (Nat.lt_of_lt_of_le (Heap.lt_size ho) lsz) (Nat.lt_irrefl _)
 have eoL1:=k1.kp L oL eoL Lfs Lch;have fx1:∀b∈ch1,oZ X pins H' b:=λb hb=>by
  rcases n1 b hb with hb|hb
  ·exact fx0 b hb
  ·exact jy I' hex hb
 refine⟨m,⟨oL,esL,epL,eoL1,edL,restL⟩,λh' hs' cenv _=>?_⟩;have Lch1:∀b∈ch1,b≠L:=λb hb z=>by
  subst z;obtain⟨o,vs,e1,e2⟩:=x1.thr b hb;rw[eoL1]at e1;cases e1;rw[edL]at e2;cases e2
 have I3:Inv X pins O H' { s' with heap:=h' }:=I2.turned (t':=s'.toks) (λb o hb eo=>(hs'.2 b hb).trans eo) uL lne (.inr lsz) lc lp;have keep:∀b∈ch1,h'.get? b=h1.get? b:=λb hb=>hs'.2 b (Lch1 b hb);have x2:dC h' ea (.ref Cc) ch1:=by
  obtain⟨hm,⟨oe,vs,he,hc,hdc,hd,hsz,h1'⟩,thr⟩:=x1;refine⟨hm,⟨oe,vs,(keep _ hm).trans he,hc,hdc,hd,hsz,?_⟩,λb hb=>?_⟩
  ·rcases h1' with z|⟨T,oT,ts,fl,a1,a2,a3,a4,a5,a6⟩
   ·exact .inl z
   ·exact .inr ⟨T,oT,ts,fl,a1,a2,a3,(keep _ a3).trans a4,a5,a6⟩
  ·obtain⟨o,vs,e1,e2⟩:=thr b hb;exact⟨o,vs,(keep _ hb).trans e1,e2⟩
 obtain⟨oe,vs,T,he,hd,h1'⟩:=tb;have he:h'.get? ea=some oe:=(keep _ x1.mem).trans he;unfold PySem.passOn;refine wpAny_bind (wpAny_field (s:={ s' with heap:=h' }) he hd h1' ?_);rw[if_neg (show ¬ ((Value.ref T==Value.none)=true)from by simp)];refine wpAny_bind (iG (s:={ s' with heap:=h' }) (fs:=frs X.stack) x2 λh2 k2 x3=>?_);exact wpAny_throw (q pins H' _ _ (Inv.callX I3 k2 fx1) (Same.refl _) ⟨ea,Cc,ch1,rfl,hmc,x3,fx1⟩)
end
def rcL (n:Nat) (T:D->Rho->Option Rho) (e:Rho->R D) (xs:List D) (U:Rho):R Out:=match xs with
 | x::_=>match T x (U++List.replicate n none)with
  | some U1=>match e U1 with
   | .exc c=>.exc c
   | _=>.bad
  | none=>.bad
 | []=>.bad
def rcS (src:Rho->R (List D)) (n:Nat) (T:D->Rho->Option Rho) (e:Rho->R D):Rho->R Out:=λU=>(src U).bind λxs=>rcL n T e xs U
section
variable {C:Addr} {X:Cx} {tg elt iter:Expr} {scope:Scope} {pos:Pos} {N':List Str} {ix:List Nat} {T:D->Rho->Option Rho} {e:Rho->R D} {n:Nat} {src:Rho->R (List D)}
theorem rq (hex:X.ex=[]) (hstk:X.stack=X.env::X.outer) (hfrm:X.env.frame=some X.env.locals) (hcalm:X.calm=true) (hchk:oP X.N N' X.env scope=true) (hN:N'.length=X.N.length+n)
  (hg:∀L cs s H fp,GD C (cxC X N' scope L cs s H fp) tg ix T) (he:∀L cs s H fp,ExR C (cxC X N' scope L cs s H fp) elt e)
  {O:St} {H2 H0:Hp} {s2:Shared} {U:RB} {J:It} {fp:List Addr} {it:Addr} {tn:Nat->Heap->Prop} {xs:List D} {x0:D} {c:Nat} {U1:Rho} {use:Option (Value->Sem Unit)} {Qv:Value->Shared->Prop}
  (I2:Inv X pins O H2 s2) (r2:bV C X H0 U O H2) (TT:qy X.prog X.w X.K tg J fp it tn) (t0:tn 0 s2.heap) (f2:∀b∈fp,jI X pins H2 b) (wk:lW X.K C J xs (msk U O H2))
  (ex:xs[0]?=some x0) (eT:T x0 (U.rho++List.replicate n none)=some U1) (ee:e U1=.exc c) (q:XE X c O H2) :
  wpAny (model X.prog X.w) X.A (newList []) (λacc s₃=>wpAny (model X.prog X.w) X.A (newFunctionEnv scope X.env.globals (cy X.env scope.names []) [] X.env.qual none .none (some X.env)) (λcenv s₄ =>
   codeAny (model X.prog X.w) X.A (.compStart (.ListComp elt [⟨tg,iter,[],0⟩] scope pos) 0 (.ref it) acc { cenv with scope:=relabel scope X.env }) (compPost (model X.prog X.w) X.A X.xe use Qv acc cenv.locals) s₄) X.xe s₃) X.xe s2:=by
 refine wpAny_newObj_type (rH ?_);have hfr2:H2 s2.heap.objs.size=none:=I2.fresh;have I3:=I2.lnew (its:=[]) (ys:=[]) (t':=s2.toks) .nil (Nat.zero_le _);have hfp:∀b∈fp,b<s2.heap.objs.size:=λb hb=>by
  obtain⟨o,eo,_⟩:=TT.obj 0 _ t0 b hb;exact Heap.lt_size eo
 have sz3:(s2.heap.push { cls:=.type "list",data:=.seq ([]:List Value).toArray }).objs.size=s2.heap.objs.size+1:=Heap.size_push ..;have f3:∀b∈fp,jI X pins (upd H2 s2.heap.objs.size (.lst [])) b:=λb hb=>⟨by rw[au (Nat.ne_of_lt (hfp b hb))];exact(f2 b hb).1,(f2 b hb).2⟩;have I4:=lQ (n:=n) hchk hN I3 (λb hb=>by rw[sz3];exact Nat.lt_succ_of_lt (hfp b hb)) f3;have keep:∀b o,s2.heap.get? b=some o->(pushCells ((s2.heap.push { cls:=.type "list",data:=.seq ([]:List Value).toArray }).push { cls:=.type "dict",data:=.dict #[] }) scope.names).get? b=some o:=λb o e =>
  pushCells_keeps _ _ b o (Heap.get?_push_of_some _ (Heap.get?_push_of_some _ e))
 have t4:tn 0 (pushCells ((s2.heap.push { cls:=.type "list",data:=.seq ([]:List Value).toArray }).push { cls:=.type "dict",data:=.dict #[] }) scope.names):=TT.keep 0 _ _ t0 λb hb o e=>keep b o e;generalize hs3:({ s2 with heap:=s2.heap.push { cls:=.type "list",data:=.seq ([]:List Value).toArray },toks:=s2.toks }:Shared)=s3 at I3 I4;have hH3:({ s2 with heap:=s2.heap.push { cls:=.type "list",data:=.seq ([]:List Value).toArray },toks:=s2.toks }:Shared).heap=s3.heap:=by rw[hs3]
 have t4':tn 0 (pushCells (s3.heap.push { cls:=.type "dict",data:=.dict #[] }) scope.names):=by rw[<- hH3];exact t4
 have hrl:U.rho.length=X.N.length:=r2.len.trans I2.len;generalize ha0:s2.heap.objs.size=a0 at *;have loop:∀s4:Shared,s4={ s3 with heap:=pushCells (s3.heap.push { cls:=.type "dict",data:=.dict #[] }) scope.names } ->
   codeAny (model X.prog X.w) X.A (.compLoop (.ListComp elt [⟨tg,iter,[],0⟩] scope pos) 0 (.ref it) (.ref a0) (yB scope X.env s3.heap.objs.size (cellsFrom (s3.heap.objs.size+1) scope.names (cy X.env scope.names []))))
    (compPost (model X.prog X.w) X.A X.xe use Qv (.ref a0) s3.heap.objs.size) s4:=by
  rintro s4 rfl;refine oJ ?_;obtain⟨go,yld⟩:=wk.go 0 _ _ (msk_sub.trans (ay (o:=.lst []) hfr2)) ex;have stat:∀b∈fp,jI (cxA X N' scope a0 H2 s3 fp) [] (upd H2 a0 (.lst [])) b:=λb hb =>
   ⟨(f3 b hb).1,(I4.ok.exf b hb).1,I4.ok.exfs b hb,.inl hb,(I4.ok.exf b hb).2,λp hp=>absurd hp (by simp[cxA,cxC])⟩
  refine wpAny_mono (TT.item (cxA X N' scope a0 H2 s3 fp) rfl rfl rfl hcalm 0 [] _ (O++List.replicate n none) _ (λ_ _=>False) I4 stat t4' go) (λr s1 zz0=>?_) λ_ _ z=>z;obtain⟨u,hr,h1⟩:=zz0;refine⟨u,hr,wpAny_mono h1 (λ_ s5 zz1=>?_) λ_ _ z=>z⟩;obtain⟨x,H5,I5,r5,y5,t5,n5⟩:=zz1;obtain⟨s5',hx⟩:=yld x H5 y5;have sm:Same H2 (upd H2 a0 (.lst [])):=ay hfr2;have hx5:Has X.K C (msk U O H5) x x0:=hx U O (λb ob q=>by
   have h2:=r2.ownAt ob;cases q2:H2 b with
   | none=>exact h2 q2
   | some o=>rw[sm b o q2]at q;cases q) (aO sm)
  have r5':=r2.mono (sm.trans s5');obtain⟨re5,em5⟩:=rV (m:=n) r5' (σ':=O++List.replicate n none) (by have q:=I5.len;rw[hrl];exact q.trans hN) (λj hj=>by rw[List.getElem?_append_left (by rw[<- r2.len];exact hj)]);refine wpAny_mono (hg _ _ _ _ _ [] s5 _ H5 x u (λO6 H6=>H6=H5/\∃β:RB,β.rho=U1/\bV C X H0 β O6 H5) I5 r5 ⟨_,H0,x0,U1,re5,by show Has _ _ (msk _ _ _) x _;rw[em5];exact hx5,eT,λO6 β q0 q3 q1 q2=>⟨rfl,β,q0,q1⟩⟩) (λ_ s6 zz2=>?_) λ_ _ z=>z;obtain⟨O6,H6,I6,eH,β,eβ,r6⟩:=zz2;subst eH;subst eβ;refine wpAny_mono (he _ _ _ _ _ [] s6 O6 H6 H0 β c I6 r6 ee) (λ_ _ z=>z) λxv s' zz3=>?_;obtain⟨ea,Cc,chn,H',H1,s1',rfl,hmc,xr,I',sH,hch,I1',sH1⟩:=zz3;have ux:∀{Hn:Hp} {sn:Shared},Inv (cxA X N' scope a0 H2 s3 fp) [] O6 Hn sn->Inv X pins O Hn sn:=λIe=>I3.call' Ie.os Ie.base Ie.hok Ie.bare λb hb=>⟨(f3 b hb).2.2.2.1,(f3 b hb).2.1,(f3 b hb).2.2.2.2.1,(f3 b hb).2.2.2.2.2⟩;obtain⟨m,hm,_⟩:=I'.loc;exact wJ (X:=X) (env':=yB scope X.env s3.heap.objs.size (cellsFrom (s3.heap.objs.size+1) scope.names (cy X.env scope.names []))) (c:=c) hex hstk hfrm rfl hmc xr (ux I') hch (ux I1') I'.free (Nat.ne_of_gt I3.lt) I3.sz (λx c q z=>by
   obtain⟨v,q⟩:=I3.cell x c q;exact absurd (z▸q.lt) (Nat.lt_irrefl _)) (λp hp z=>absurd (z▸Heap.lt_size (I3.pin p hp).1) (Nat.lt_irrefl _)) hm (XE.mono ((sm.trans s5').trans sH) q)
 exact codeAny_compStart_list (loop _ rfl) (TT.self X.A 0 _ _ _ t4' (loop _ rfl))
theorem tR {y:Str} {py spos:Pos} (hex:X.ex=[]) (hstk:X.stack=X.env::X.outer) (hfrm:X.env.frame=some X.env.locals) (hcalm:X.calm=true) (hchk:oP X.N N' X.env scope=true) (hN:N'.length=X.N.length+n) (hi:ID C X tg iter src)
  (hg:∀L cs s H fp,GD C (cxC X N' scope L cs s H fp) tg ix T) (he:∀L cs s H fp,ExR C (cxC X N' scope L cs s H fp) elt e)
  (hsw:swapsWith (.ListComp elt [⟨tg,iter,[],0⟩] scope pos) (some (.Name y py)) spos.line X.env=pure false)
  (hs:∀x,foldedSetIterable iter X.env x=pure x:=by intro _;rfl):SD C X (.Assign [.Name y py] (.ListComp elt [⟨tg,iter,[],0⟩] scope pos) spos) (rcS src n T e):=by
 rintro pins s O H Dn I ⟨_,H0,⟨U,rfl,r⟩,q⟩;obtain⟨c2,hkind,hnames⟩:=jD hchk;refine wpAny_Assign_Name (wpAny_mono (Q:=λ_ _=>False) (E:=X.xe) ?_ (λ_ _ z=>z.elim) λ_ _ z=>z) hsw;rw[eval_ListComp];refine wpAny_comprehension_free (use:=none) (Q:=λ_ _=>False) rfl hs (oM λx hx=>I.ok.has x (lv (c2 x hx))) hkind hnames ?_;show wpAny _ _ (eval iter X.env) _ _ s;refine thn (hi pins s O H (λJ H2=>∃xs x0 U1 c,bV C X H0 U O H2/\lW X.K C J xs (msk U O H2)/\xs[0]?=some x0/\T x0 (U.rho++List.replicate n none)=some U1/\e U1=.exc c/\XE X c O H2) I ⟨U,⟨H0,r⟩,?_⟩) λv s1 h1=>thn h1 λitv s2 zz1=>?_
 ·unfold rcS at q;cases es:src U with
  | exc c=>rw[es]at q;exact cg r q
  | bad=>rw[es]at q;exact q
  | val xs =>
   rw[es]at q;intro J H2 s2 wk;change pS C X (rcL n T e xs U.rho) H0 Dn at q;unfold rcL at q;split at q
   ·rename_i x0 xr;split at q
    ·rename_i U1 eT;split at q
     ·rename_i c ee;exact⟨_,x0,U1,c,r.mono s2,wk,rfl,eT,ee,XE.mono s2 (cg r q)⟩
     ·exact q.elim
    ·exact q.elim
   ·exact q.elim
 ·obtain⟨it,fp,tn,J,H2,ei,I2,TT,t0,f2,xs,x0,U1,c,r2,wk,ex,eT,ee,qx⟩:=zz1;subst ei;exact rq hex hstk hfrm hcalm hchk hN hg he I2 r2 TT t0 f2 wk ex eT ee qx
end
section
variable {C:Addr} {X:Cx}
def rNt:R2:=λx y H Q=>∃a b,x=.bl a/\y=.bl b/\Q (.bl (a != b)) H
theorem xT:OpR X (compareOp .IsNot) rNt:=by
 intro pins s O H x y v u Q I rx ry h;obtain⟨a,b,rfl,rfl,q⟩:=h;obtain rfl:=(show v=Value.bool a from rx);obtain rfl:=(show u=Value.bool b from ry);have:compareOp .IsNot (.bool a) (.bool b)=pure (.bool (a != b)):=by cases a<;>cases b<;>rfl
 rw[this];exact wpAny_pure ⟨.bl _,H,I,rfl,q⟩
def fnt:D->D->R D
 | .bl a,.bl b=>.val (.bl (a != b))
 | _,_=>.bad
theorem v7:dk fnt:=λx y c e=>by unfold fnt at e;split at e<;>cases e
theorem AI:OpD C X rNt fnt:=by
 intro U O H v w x y z Q _ hv hw e k;unfold fnt at e;split at e
 ·cases e;exact⟨_,_,hv.bl,hw.bl,k _ _ (Same.refl _) (.bl _)⟩
 ·cases e
theorem w6 {a b:Expr} {Fa Fb:Rho->R D} (ha:EB C X a Fa) (hb:EB C X b Fb) (hm:behindInMarks .IsNot b=false:=by rfl):TD C X (.Compare a [.IsNot] [b] pos) (tst (bin fnt Fa Fb)):=jk xT v7 AI ha hb hm
def rtP (i j:Nat) (k1 k2:OK):Rho->R D:=λU=>match U[i]?,U[j]? with
 | some (some (.tre a d)),some (some (.tre b e))=>if a=k1/\b=k2 then .val (.tup [d,e])else .bad
 | _,_=>.bad
theorem uU {k1 k2:OK} {i j:Nat} {y:Str} {p1 p2 pt:Pos} {x1} (hij:i≠j) (hi:PE X (.Name x p1) (du i)) (hj:PE X (.Name y p2) (du j)):uz C X (.p k1 k2) [.Return (some (.Tuple [.Name x p1,.Name y p2] x1 pt)) pos] (rtP i j k1 k2) :=
 eN (hZ (qO (vv (bh hi (bh hj ce aa) aa)))) λD O H ⟨_,H0,⟨U,er,r⟩,q⟩=>by
  subst er;unfold rtP at q;split at q
  ·rename_i a d b e e1 e2;split at q
   ·rename_i ek;obtain⟨rfl,rfl⟩:=ek;obtain⟨v,B,s1,hB,h1⟩:=r.at_ i _ e1;obtain⟨w,B',s2,hB',h2⟩:=r.at_ j _ e2;refine⟨v,s1,w,s2,?_⟩;refine⟨by show 2<=sizeLine;decide,λp hp=>?_⟩;have nb:∀c,c∈B++(B'++[])->Own U O c:=λc hc=>by
     rcases List.mem_append.mp hc with hc|hc
     ·exact⟨i,hB c hc⟩
     ·rw[List.append_nil]at hc;exact⟨j,hB' c hc⟩
    have sm:Same (msk U O H) (cut (B++(B'++[])) (upd H p (.tup [v,w]))):=λc o ec=>cut_some.mpr ⟨λhc=>(msk_some.mp ec).1 (nb c hc),ay hp c o (msk_some.mp ec).2⟩;refine q (.ref p) _ (B++(B'++[])) ((r.keep.trans msk_sub).trans (ay hp)) (λc hc=>?_) (.p aJ (.cons (h1.stay sm (.of (ay hp))) (.cons (h2.stay sm (.of (ay hp))) .nil λ_ _=>List.not_mem_nil) λc hc hc'=>?_))
    ·cases z:H0 c with
     | none=>rfl
     | some o=>exact absurd (nb c hc) (msk_some.mp (r.keep c o z)).1
    ·rw[List.append_nil]at hc';exact hij (r.inj i j c (hB c hc) (hB' c hc'))
   ·exact q.elim
  ·exact q.elim
end
abbrev sh (d:D):Option Slt:=some (.shr d)
end DL
namespace Ar
abbrev Arr:=Nat×Nat×List Nat
def Ok (sz:List Nat) (x:Arr):Prop:=∃n m,sz[x.1]?=some n/\sz[x.2.1]?=some m/\x.2.2.length=n/\∀y∈x.2.2,y<m
def comp (x y:Arr):Arr:=(x.1,y.2.1,x.2.2.map λi=>y.2.2.getD i 0)
def idm (sz:List Nat) (b:Nat):Arr:=(b,b,List.range (sz.getD b 0))
def funs:Nat->Nat->List (List Nat)
 | 0,_=>[[]]
 | n+1,m=>(List.range m).flatMap λy=>(funs n m).map λl=>y::l
theorem p4:∀{l:List Nat} {m:Nat},(∀y∈l,y<m)->l∈funs l.length m
 | [],m,_=>by simp[funs]
 | y::l,m,h=>by
  have h1:y<m:=h y (by simp);have h2:l∈funs l.length m:=p4 λz hz=>h z (by simp[hz]);show y::l∈funs (l.length+1) m;simp only[funs,List.mem_flatMap,List.mem_map,List.mem_range];exact⟨y,h1,l,h2,rfl⟩
def zk (sz:List Nat):List Arr:=(List.range sz.length).flatMap λa=>(List.range sz.length).flatMap λb=>(funs (sz.getD a 0) (sz.getD b 0)).map λf=>(a,b,f)
theorem pZ {sz:List Nat} {x:Arr} (h:Ok sz x):x∈zk sz:=by
 obtain⟨a,b,f⟩:=x;obtain⟨n,m,h1,h2,h3,h4⟩:=h;have ha:a<sz.length:=(List.getElem?_eq_some_iff.mp h1).1;have hb:b<sz.length:=(List.getElem?_eq_some_iff.mp h2).1;simp only[zk,List.mem_flatMap,List.mem_map,List.mem_range];refine⟨a,ha,b,hb,f,?_,rfl⟩;have e1:sz.getD a 0=n:=by simp only[List.getD,h1];rfl
 have e2:sz.getD b 0=m:=by simp only[List.getD,h2];rfl
 rw[e1,e2,<- h3];exact p4 h4
theorem fw {Y:Type} [DecidableEq Y]:∀{l u:List Y},l.Nodup->(∀x∈l,x∈u)->l.length<=u.length
 | [],_,_,_=>by simp
 | x::l,u,nd,h=>by
  obtain⟨h1,h2⟩:=List.nodup_cons.mp nd;have hx:x∈u:=h x (by simp);have hl:l.length<=(u.erase x).length:=fw h2 λy hy=>by
   have:y≠x:=λe=>h1 (e▸hy);exact(List.mem_erase_of_ne this).mpr (h y (by simp[hy]))
  rw[List.length_erase_of_mem hx]at hl;have:0<u.length:=List.length_pos_of_mem hx;simp only[List.length_cons];omega
def szs:List (List Nat):=[[1],[1,1],[1,1,1],[1,1,1,1],[1,2],[2,1],[2,2],[0,2],[2],[3],[1,1,2],[0,1,2],[1,2,2],[2,1,0]]
theorem o4:∀sz∈szs,(zk sz).length<=27:=by decide +kernel
theorem g_:∀sz∈szs,1<=sz.length/\sz.length<=4/\∀n∈sz,n<=3:=by decide +kernel
def mO (kn:List Arr) (x:Arr):List Arr:=if x∈kn then kn else kn++[x]
def gG (kn:List Arr) (f s:Arr):List Arr:=if f.2.1=s.1 then mO kn (comp f s)else kn
def iD (k:Arr) (kn:List Arr) (o:Arr):List Arr:=gG (gG kn k o) o k
def nU (k:Arr) (kn snap:List Arr):List Arr:=snap.foldl (iD k) kn
theorem qw (kn:List Arr) (x:Arr):kn <+: mO kn x:=by
 unfold mO;split
 ·exact List.prefix_refl _
 ·exact List.prefix_append _ _
theorem wX (kn:List Arr) (x:Arr):x∈mO kn x:=by
 unfold mO;split
 ·assumption
 ·simp
theorem jl (kn:List Arr) (f s:Arr):kn <+: gG kn f s:=by
 unfold gG;split
 ·exact qw _ _
 ·exact List.prefix_refl _
theorem o0 (k:Arr) (kn:List Arr) (o:Arr):kn <+: iD k kn o:=(jl kn k o).trans (jl _ o k)
theorem gJ (k:Arr):∀(snap kn:List Arr),kn <+: nU k kn snap
 | [],kn=>List.prefix_refl _
 | o::r,kn=>(o0 k kn o).trans (gJ k r _)
structure Kn (sz:List Nat) (kn:List Arr):Prop where
 nd:kn.Nodup
 ok:∀x∈kn,Ok sz x
theorem yN {sz:List Nat} {x y:Arr} (hx:Ok sz x) (hy:Ok sz y) (e:x.2.1=y.1):Ok sz (comp x y):=by
 obtain⟨n,m,h1,h2,h3,h4⟩:=hx;obtain⟨n',m',g1,g2,g3,g4⟩:=hy;refine⟨n,m',h1,g2,by simp[comp,h3],λz hz=>?_⟩;simp only[comp,List.mem_map]at hz;obtain⟨i,hi,rfl⟩:=hz;have hm:m=n':=by rw[e]at h2;rw[h2]at g1;exact Option.some.inj g1
 have:i<y.2.2.length:=by rw[g3,<- hm];exact h4 i hi
 have e3:y.2.2.getD i 0=y.2.2[i]:=by simp[List.getD,List.getElem?_eq_getElem this]
 rw[e3];exact g4 _ (List.getElem_mem this)
theorem tJ {sz kn x} (h:Kn sz kn) (hx:Ok sz x):Kn sz (mO kn x):=by
 unfold mO;split
 ·exact h
 ·rename_i hn;refine⟨?_,λy hy=>?_⟩
  ·rw[List.nodup_append];refine⟨h.nd,by simp,λa ha b hb=>?_⟩;simp at hb;subst hb;exact λe=>hn (e▸ha)
  ·rcases List.mem_append.mp hy with q|q
   ·exact h.ok y q
   ·simp at q;subst q;exact hx
theorem kD {sz kn f s} (h:Kn sz kn) (hf:Ok sz f) (hs:Ok sz s):Kn sz (gG kn f s):=by
 unfold gG;split
 ·exact tJ h (yN hf hs ‹_›)
 ·exact h
theorem rK {sz k kn o} (h:Kn sz kn) (hk:Ok sz k) (ho:Ok sz o):Kn sz (iD k kn o):=kD (kD h hk ho) ho hk
theorem so {sz k} (hk:Ok sz k):∀{snap kn:List Arr},Kn sz kn->(∀o∈snap,Ok sz o)->Kn sz (nU k kn snap)
 | [],kn,h,_=>h
 | o::r,kn,h,hs=>so hk (snap:=r) (rK h hk (hs o (by simp))) λq hq=>hs q (by simp[hq])
theorem mU {kn f s} (e:f.2.1=s.1):comp f s∈gG kn f s:=by
 unfold gG;rw[if_pos e];exact wX _ _
theorem uN {k kn o}:(k.2.1=o.1->comp k o∈iD k kn o)/\(o.2.1=k.1->comp o k∈iD k kn o) :=
 ⟨λe=>(jl _ o k).subset (mU e),λe=>mU e⟩
theorem kQ {k}:∀{snap kn:List Arr} {o:Arr},o∈snap->(k.2.1=o.1->comp k o∈nU k kn snap)/\(o.2.1=k.1->comp o k∈nU k kn snap)
 | q::r,kn,o,h=>by
  rcases List.mem_cons.mp h with e|h
  ·subst e;have t:=uN (k:=k) (kn:=kn) (o:=o);exact⟨λe=>(gJ k r _).subset (t.1 e),λe=>(gJ k r _).subset (t.2 e)⟩
  ·exact kQ (snap:=r) (kn:=iD k kn q) h
def Cl (kn:List Arr) (n:Nat):Prop:=∀i j x y,i<n->j<n->kn[i]?=some x->kn[j]?=some y->x.2.1=y.1->comp x y∈kn
theorem rZ {Y:Type} {l l':List Y} (h:l <+: l') {i:Nat} {x:Y} (e:l[i]?=some x):l'[i]?=some x:=by
 obtain⟨t,rfl⟩:=h;rw[List.getElem?_append_left (List.getElem?_eq_some_iff.mp e).1];exact e
theorem xK {kn:List Arr} {n:Nat} {k:Arr} (h:Cl kn n) (hk:kn[n]?=some k):Cl (nU k kn kn) (n+1):=by
 have pre:=gJ k kn kn;have hn:n<kn.length:=(List.getElem?_eq_some_iff.mp hk).1;have back:∀{i x},i<n+1->(nU k kn kn)[i]?=some x->kn[i]?=some x:=λ{i x} hi e=>by
  have hl:i<kn.length:=by omega
  have:kn[i]?=some kn[i]:=by simp[hl]
  rw[rZ pre this]at e;rw[this];exact e
 intro i j x y hi hj hx hy e;have hx':=back hi hx;have hy':=back hj hy;by_cases ei:i=n
 ·subst ei;rw[hk]at hx';cases hx';exact(kQ (List.mem_of_getElem? hy')).1 e
 ·by_cases ej:j=n
  ·subst ej;rw[hk]at hy';cases hy';exact(kQ (List.mem_of_getElem? hx')).2 e
  ·exact pre.subset (h i j x y (by omega) (by omega) hx' hy' e)
theorem Ba {kn:List Arr} (h:Cl kn kn.length):∀x∈kn,∀y∈kn,x.2.1=y.1->comp x y∈kn:=by
 intro x hx y hy e;obtain⟨i,hi,rfl⟩:=List.mem_iff_getElem.mp hx;obtain⟨j,hj,rfl⟩:=List.mem_iff_getElem.mp hy;exact h i j _ _ hi hj (by simp[hi]) (by simp[hj]) e
structure Good (sz:List Nat) (kn:List Arr):Prop where
 szm:sz∈szs
 nd:kn.Nodup
 ok:∀x∈kn,Ok sz x
 rest:∀b,b<sz.length->idm sz b∈kn
 cl:∀x∈kn,∀y∈kn,x.2.1=y.1->comp x y∈kn
theorem Good.few {sz kn} (g:Good sz kn):kn.length<=27 :=
 Nat.le_trans (fw g.nd λx hx=>pZ (g.ok x hx)) (o4 sz g.szm)
theorem Good.perm {sz kn kn'} (g:Good sz kn) (p:kn'.Perm kn):Good sz kn' :=
 ⟨g.szm,p.nodup_iff.mpr g.nd,λx hx=>g.ok x (p.mem_iff.mp hx),λb hb=>p.mem_iff.mpr (g.rest b hb),λx hx y hy e=>p.mem_iff.mpr (g.cl x (p.mem_iff.mp hx) y (p.mem_iff.mp hy) e)⟩
end Ar
namespace Ar
theorem aG {Y:Type} {l:List Y} {i:Nat} {d:Y} (h:i<l.length):l.getD i d=l[i]:=by
 rw[List.getD_eq_getElem?_getD,List.getElem?_eq_getElem h];rfl
structure bG (en:List (Nat×Nat)) (re:List Nat) (tb:List (List Int)):Prop where
 nb1:1<=re.length
 nb6:re.length<=6
 na1:1<=en.length
 na40:en.length<=40
 eb:∀i,i<en.length->(en.getD i (0,0)).1<re.length/\(en.getD i (0,0)).2<re.length
 rs:∀b,b<re.length->re.getD b 0<en.length/\en.getD (re.getD b 0) (0,0)=(b,b)
 tl:tb.length=en.length
 rl:∀i,i<en.length->(tb.getD i []).length=en.length
 tp:∀i j,i<en.length->j<en.length->(en.getD i (0,0)).2=(en.getD j (0,0)).1 ->
  ∃k,k<en.length/\(tb.getD i []).getD j (-1)=(k:Int)/\en.getD k (0,0)=((en.getD i (0,0)).1,(en.getD j (0,0)).2)
 tn:∀i j,i<en.length->j<en.length->(en.getD i (0,0)).2≠(en.getD j (0,0)).1->(tb.getD i []).getD j (-1)=-1
 ul:∀i,i<en.length->(tb.getD (re.getD (en.getD i (0,0)).1 0) []).getD i (-1)=(i:Int)
 ur:∀i,i<en.length->(tb.getD i []).getD (re.getD (en.getD i (0,0)).2 0) (-1)=(i:Int)
 as:∀i j k x y:Nat,i<en.length->j<en.length->k<en.length->(tb.getD i []).getD j (-1)=(x:Int)->(tb.getD j []).getD k (-1)=(y:Int) ->
  (tb.getD x []).getD k (-1)=(tb.getD i []).getD y (-1)
def di (kn:List Arr):List (Nat×Nat):=kn.map λx=>(x.1,x.2.1)
def cM (sz:List Nat) (kn:List Arr):List Nat:=(List.range sz.length).map λb=>kn.idxOf (idm sz b)
def mk (kn:List Arr) (x y:Arr):Int:=if x.2.1=y.1 then(kn.idxOf (comp x y):Int)else -1
def dl (kn:List Arr):List (List Int):=kn.map λx=>kn.map λy=>mk kn x y
theorem rz {sz:List Nat} {x y z:Arr} (hx:Ok sz x) (hy:Ok sz y) (hz:Ok sz z) (e:x.2.1=y.1) (e':y.2.1=z.1):comp (comp x y) z=comp x (comp y z):=by
 obtain⟨n,m,h1,h2,h3,h4⟩:=hx;obtain⟨n',m',g1,g2,g3,g4⟩:=hy;have hm:m=n':=by rw[e]at h2;rw[h2]at g1;exact Option.some.inj g1
 simp only[comp,List.map_map,Prod.mk.injEq,true_and];refine List.map_congr_left λi hi=>?_;have hl:i<y.2.2.length:=by rw[g3,<- hm];exact h4 i hi
 simp only[Function.comp,List.getD_eq_getElem?_getD,List.getElem?_map];rw[List.getElem?_eq_getElem hl];simp
theorem ll (l:List Nat):(List.range l.length).map (λi=>l.getD i 0)=l:=by
 apply List.ext_getElem
 ·simp
 ·intro i h1 h2;simp only[List.getElem_map,List.getElem_range];exact aG h2
theorem wL {sz:List Nat} {x:Arr} (hx:Ok sz x):comp (idm sz x.1) x=x:=by
 obtain⟨n,m,h1,h2,h3,h4⟩:=hx;have e:sz.getD x.1 0=x.2.2.length:=by rw[List.getD_eq_getElem?_getD,h1,h3];rfl
 simp only[comp,idm,e,ll]
theorem wK {sz:List Nat} {x:Arr} (hx:Ok sz x):comp x (idm sz x.2.1)=x:=by
 obtain⟨n,m,h1,h2,h3,h4⟩:=hx;have e:sz.getD x.2.1 0=m:=by rw[List.getD_eq_getElem?_getD,h2];rfl
 have:(x.2.2.map λi=>(List.range m).getD i 0)=x.2.2:=by
  conv=>rhs;rw[<- List.map_id x.2.2]
  refine List.map_congr_left λi hi=>?_;have:=h4 i hi;rw[aG (by simpa using this)];simp
 simp only[comp,idm,e,this]
section
variable {sz:List Nat} {kn:List Arr}
theorem dh:(di kn).length=kn.length:=by simp[di]
theorem kL:(cM sz kn).length=sz.length:=by simp[cM]
theorem gR {i:Nat} (h:i<kn.length):(di kn).getD i (0,0)=(kn[i].1,kn[i].2.1):=by
 rw[aG (by rw[dh];exact h)];simp[di]
theorem uQ {i:Nat} (h:i<kn.length):(dl kn).getD i []=kn.map λy=>mk kn kn[i] y:=by
 rw[aG (by simp[dl];exact h)];simp[dl]
theorem jJ {i j:Nat} (h:i<kn.length) (h':j<kn.length):((dl kn).getD i []).getD j (-1)=mk kn kn[i] kn[j]:=by
 rw[uQ h,aG (by simpa using h')];simp
theorem u5 {b:Nat} (h:b<sz.length):(cM sz kn).getD b 0=kn.idxOf (idm sz b):=by
 rw[aG (by rw[kL];exact h)];simp[cM]
theorem pw {x:Arr} (h:Ok sz x):x.1<sz.length/\x.2.1<sz.length:=by
 obtain⟨n,m,h1,h2,_⟩:=h;exact⟨(List.getElem?_eq_some_iff.mp h1).1,(List.getElem?_eq_some_iff.mp h2).1⟩
theorem jw {x:Arr} (h:x∈kn):∃hl:kn.idxOf x<kn.length,kn[kn.idxOf x]=x :=
 ⟨List.idxOf_lt_length_of_mem h,List.getElem_idxOf _⟩
theorem vK {x y:Arr} {k:Nat} (h:mk kn x y=(k:Int)):x.2.1=y.1/\k=kn.idxOf (comp x y):=by
 unfold mk at h;split at h
 ·exact⟨‹_›,by omega⟩
 ·omega
theorem sI (g:Good sz kn):bG (di kn) (cM sz kn) (dl kn):=by
 have few:=g.few;obtain⟨s1,s4,_⟩:=g_ sz g.szm;have okat:∀{i} (h:i<kn.length),Ok sz kn[i]:=λh=>g.ok _ (List.getElem_mem h);have n1:1<=kn.length:=List.length_pos_of_mem (g.rest 0 (by omega));have idn:∀{i} (h:i<kn.length),kn.idxOf kn[i]=i:=λ{i} h=>g.nd.idxOf_getElem i h;refine⟨by rw[kL];exact s1,by rw[kL];omega,by rw[dh];exact n1,by rw[dh];omega,?_,?_,?_,?_,?_,?_,?_,?_,?_⟩
 ·intro i h;rw[dh]at h;rw[gR h,kL];exact pw (okat h)
 ·intro b h;rw[kL]at h;obtain⟨hl,e⟩:=jw (g.rest b h);rw[u5 h,dh,gR hl,e];exact⟨hl,rfl⟩
 ·simp[dl,dh]
 ·intro i h;rw[dh]at h;rw[uQ h,dh];simp
 ·intro i j hi hj e;rw[dh]at hi hj;rw[gR hi,gR hj]at e;obtain⟨hl,ek⟩:=jw (g.cl _ (List.getElem_mem hi) _ (List.getElem_mem hj) e);refine⟨kn.idxOf (comp kn[i] kn[j]),by rw[dh];exact hl,?_,?_⟩
  ·rw[jJ hi hj,mk,if_pos e]
  ·rw[gR hl,ek,gR hi,gR hj];rfl
 ·intro i j hi hj e;rw[dh]at hi hj;rw[gR hi,gR hj]at e;rw[jJ hi hj,mk,if_neg e]
 ·intro i h;rw[dh]at h;have o:=okat h;obtain⟨hl,e⟩:=jw (g.rest _ (pw o).1);rw[gR h,u5 (pw o).1,jJ hl h,e,mk,if_pos (show(idm sz kn[i].1).2.1=kn[i].1 from rfl),wL o,idn h]
 ·intro i h;rw[dh]at h;have o:=okat h;obtain⟨hl,e⟩:=jw (g.rest _ (pw o).2);rw[gR h,u5 (pw o).2,jJ h hl,e,mk,if_pos (show kn[i].2.1=(idm sz kn[i].2.1).1 from rfl),wK o,idn h]
 ·intro i j k x y hi hj hk hx hy;rw[dh]at hi hj hk;rw[jJ hi hj]at hx;rw[jJ hj hk]at hy;obtain⟨e1,rfl⟩:=vK hx;obtain⟨e2,rfl⟩:=vK hy;obtain⟨l1,q1⟩:=jw (g.cl _ (List.getElem_mem hi) _ (List.getElem_mem hj) e1);obtain⟨l2,q2⟩:=jw (g.cl _ (List.getElem_mem hj) _ (List.getElem_mem hk) e2);rw[jJ l1 hk,jJ hi l2,q1,q2];have a1:(comp kn[i] kn[j]).2.1=kn[k].1:=e2;have a2:kn[i].2.1=(comp kn[j] kn[k]).1:=e1;rw[mk,mk,if_pos a1,if_pos a2,rz (okat hi) (okat hj) (okat hk) e1 e2]
end
end Ar
namespace Ar
section
variable {en:List (Nat×Nat)} {re:List Nat} {tb:List (List Int)}
end
end Ar
namespace DL
open L2
section
variable {Y β:Type}
@[simp] theorem ae (a:Y) (f:Y->R β):(R.val a).bind f=f a:=Eq.trans rfl rfl
@[simp] theorem iU (a:Y):noE (R.val a)=.val a:=Eq.trans rfl rfl
@[simp] theorem BW (a:D):noex (R.val a)=.val a:=Eq.trans rfl rfl
end
variable {i j:Int}
section
variable (U:Rho)
@[simp] theorem aS (a b:Rho->R Out):sq a b U=(a U).bind λo=>match o with
 | .nx ρ'=>b ρ'
 | o=>.val o:=Eq.trans rfl rfl
@[simp] theorem gK:nxt U=.val (.nx U):=Eq.trans rfl rfl
@[simp] theorem d6 (i:Nat) (e:Rho->R D):asg i e U=(e U).bind λd=>.val (.nx (U.set i (some (.shr d)))):=Eq.trans rfl rfl
@[simp] theorem z6 (i:Nat) (e:Rho->R (List D)):own i e U=(e U).bind λd=>.val (.nx (U.set i (some (.own d)))):=Eq.trans rfl rfl
@[simp] theorem c_ (e:Rho->R D):ret e U=(e U).bind λd=>.val (.rt d):=Eq.trans rfl rfl
@[simp] theorem wE (e:Rho->R D):drp e U=(e U).bind λ_=>.val (.nx U):=Eq.trans rfl rfl
@[simp] theorem bH (t:Rho->R Bool) (a b:Rho->R Out):DL.iff t a b U=(t U).bind λc=>if c=true then a U else b U:=Eq.trans rfl rfl
@[simp] theorem fu (F:Rho->R D):tst F U=(F U).bind asB:=Eq.trans rfl rfl
@[simp] theorem Bi (b:Bool):asB (.bl b)=.val b:=Eq.trans rfl rfl
@[simp] theorem Cv (a b:Rho->R Bool):uu a b U=(a U).bind λx=>if x=true then b U else .val false:=Eq.trans rfl rfl
@[simp] theorem kS (a b:Rho->R Bool):orB a b U=(a U).bind λx=>if x=true then .val true else b U:=Eq.trans rfl rfl
@[simp] theorem ia (a:Rho->R Bool):cU a U=(a U).bind λx=>.val (!x):=Eq.trans rfl rfl
@[simp] theorem Bn (i:Nat):vr i U=match U[i]? with
 | some (some (.shr d))=>.val d
 | _=>.bad:=Eq.trans rfl rfl
@[simp] theorem Bo (i:Nat):vb i U=match U[i]? with
 | some (some (.shr d))=>.val d
 | some (some (.own xs))=>.val (.lst xs)
 | some (some (.tre (.l .s) (.lst xs)))=>.val (.lst xs)
 | _=>.bad:=Eq.trans rfl rfl
@[simp] theorem fL (d:D):kd d U=.val d:=Eq.trans rfl rfl
@[simp] theorem bt (f:D->D->R D) (a b:Rho->R D):bin f a b U=(a U).bind λx=>(b U).bind λy=>f x y:=Eq.trans rfl rfl
@[simp] theorem ft (f:D->R D) (a:Rho->R D):una f a U=(a U).bind f:=Eq.trans rfl rfl
@[simp] theorem lV:aN U=.val []:=Eq.trans rfl rfl
@[simp] theorem d7 (a:Rho->R D) (r:Rho->R (List D)):aC a r U=(a U).bind λx=>(r U).bind λxs=>.val (x::xs):=Eq.trans rfl rfl
@[simp] theorem tt (a:Rho->R (List D)):eT a U=(a U).bind mkT:=Eq.trans rfl rfl
@[simp] theorem Ce (a:Rho->R (List D)):eL a U=(a U).bind mkL:=Eq.trans rfl rfl
@[simp] theorem Dr (a b:D):mkT [a,b]=.val (.tup [a,b]):=Eq.trans rfl rfl
@[simp] theorem Dq (a b c:D):mkT [a,b,c]=.val (.tup [a,b,c]):=Eq.trans rfl rfl
@[simp] theorem Dp (a b c d e:D):mkT [a,b,c,d,e]=.val (.tup [a,b,c,d,e]):=Eq.trans rfl rfl
@[simp] theorem Ds (a b:D):mkL [a,b]=.val (.lst [a,b]):=Eq.trans rfl rfl
@[simp] theorem cF (F:Rho->R (List D)):eLs F U=(F U).bind λxs=>.val (.lst xs):=Eq.trans rfl rfl
@[simp] theorem B_:jA aN U=.val []:=Eq.trans rfl rfl
@[simp] theorem AN (F:Rho->R D):fIt F U=(F U).bind itD:=Eq.trans rfl rfl
@[simp] theorem Cr (xs:List D):itD (.lst xs)=.val xs:=Eq.trans rfl rfl
@[simp] theorem Cq (xs:List D):itD (.tup xs)=.val xs:=Eq.trans rfl rfl
@[simp] theorem wP (n:Nat) (den:List D->R D) (a:Rho->R (List D)):cal n den a U=(a U).bind λds=>if ds.length=n then noex (den ds)else .bad:=Eq.trans rfl rfl
@[simp] theorem vZ (i:Nat) (F:Rho->R Out):fz i F U=F (frz i U):=Eq.trans rfl rfl
@[simp] theorem dL (src:Rho->R (List D)) (T:D->Rho->Option Rho) (F:Rho->R Out):bq src T F U=(src U).bind λxs=>bu T F xs U:=Eq.trans rfl rfl
@[simp] theorem sQ (F:Rho->R (List D)):bW F U=(F U).bind mq:=Eq.trans rfl rfl
@[simp] theorem oq (F:Rho->R (List D)):e_ F U=(F U).bind rj:=Eq.trans rfl rfl
@[simp] theorem ow (xs:List D):rj [.lst xs]=.val (enu 0 xs):=Eq.trans rfl rfl
@[simp] theorem Bm (F:Rho->R (List D)):gT F U=(F U).bind rgT:=Eq.trans rfl rfl
@[simp] theorem yG (F:Rho->R (List D)):yH F U=(F U).bind yk:=Eq.trans rfl rfl
@[simp] theorem yj (i j:Int):yk [.int i,.int j]=.val (.int (if j>i then j else i)):=Eq.trans rfl rfl
@[simp] theorem Db (d:D):fin (.val (.rt d))=.val d:=Eq.trans rfl rfl
@[simp] theorem Dc (U:Rho):fin (.val (.nx U))=.val .non:=Eq.trans rfl rfl
@[simp] theorem Am (den:Rho->R D) (Fa:Rho->R (List D)):mkH den Fa U=(Fa U).bind λds=>match ds with
 | [e,r,t]=>noex (den (ij e r t))
 | _=>.bad:=Eq.trans rfl rfl
@[simp] theorem CZ (xs:List D):aL (.lst xs)=.val (.int xs.length):=Eq.trans rfl rfl
@[simp] theorem CW (xs:List D):ik (.lst xs)=.val (.tup xs):=Eq.trans rfl rfl
@[simp] theorem Cs (i:Int):im (.int i)=.val (.int (-i)):=Eq.trans rfl rfl
@[simp] theorem lw (f:Int->Int->R D) (i j:Int):iI f (.int i) (.int j)=f i j:=Eq.trans rfl rfl
@[simp] theorem CY (i j:Int):flt i j=.val (.bl (decide (i<j))):=Eq.trans rfl rfl
@[simp] theorem Dd (i j:Int):fgt i j=.val (.bl (decide (j<i))):=Eq.trans rfl rfl
@[simp] theorem sP (i j:Int):dm (.int i) (.int j)=.val (.int (i+j)):=Eq.trans rfl rfl
theorem dM (h:0<j):a_ i j=.val (.int (i%j)):=if_pos h
theorem sO (h:0<j/\j<1073741824):cV i j=.val (.int (i/j)):=if_pos h
theorem km (h:-(2 ^ 64)<j/\j<2 ^ 64):gi i j=.val (.int (i*j)):=if_pos (.inr h)
@[simp] theorem Df (f g:Int->Int->Bool) (a b c:Rho->R D):chn f g a b c U=(a U).bind λx=>(b U).bind λy=>match x,y with
 | .int i,.int j=>if f i j=true then(c U).bind λz=>match z with
   | .int k=>.val (.bl (g j k))
   | _=>.bad
  else .val (.bl false)
 | _,_=>.bad:=Eq.trans rfl rfl
end
theorem oV {Y:Type} (xs:List Y) (i:Nat):atI xs (i:Int)=xs[i]?:=by
 unfold atI ixN;rw[if_pos (Int.natCast_nonneg i)];by_cases h:i<xs.length
 ·rw[if_pos (by exact_mod_cast h)];simp
 ·rw[if_neg (by intro z;exact h (by exact_mod_cast z))];simp at h;simp[List.getElem?_eq_none h]
variable {xs:List D}
theorem gO {i:Nat} {d:D} (h:xs[i]?=some d):fix (.lst xs) (.int (i:Int))=.val d:=by
 show(match atI xs (i:Int)with|some d=>R.val d|none=>.bad)=_;rw[oV,h]
theorem sJ {i:Nat} {d:D} (h:xs[i]?=some d):fix (.tup xs) (.int (i:Int))=.val d:=by
 show(match atI xs (i:Int)with|some d=>R.val d|none=>.bad)=_;rw[oV,h]
theorem zd {xs:List Int} {i:Nat} {d:Int} (h:xs[i]?=some d):fix (.scr xs) (.int (i:Int))=.val (.int d):=by
 show(match atI xs (i:Int)with|some d=>R.val (D.int d)|none=>R.bad)=_;rw[oV,h]
@[simp] theorem wd (a:D) (r:List D):fix (.tup (a::r)) (.int 0)=.val a:=sJ (i:=0) rfl
@[simp] theorem wc (a b:D) (r:List D):fix (.tup (a::b::r)) (.int 1)=.val b:=sJ (i:=1) rfl
@[simp] theorem AK (a b c:D) (r:List D):fix (.tup (a::b::c::r)) (.int 2)=.val c:=sJ (i:=2) rfl
theorem qp {T:D->Rho->Option Rho} {e:Rho->R D} {g:D->D} {U:Rho}:∀{xs:List D},(∀x∈xs,∃U1,T x U=some U1/\e U1=.val (g x))->gY T tT e xs U=.val (xs.map g)
 | [],_=>rfl
 | x::r,h=>by
  obtain⟨U1,h1,h2⟩:=h x (by simp);have ih:=qp (T:=T) (e:=e) (g:=g) (U:=U) (xs:=r) λy hy=>h y (by simp[hy]);unfold gY;rw[h1];show(noE (tT U1)).bind _=_;simp[tT,h2,ih]
theorem fG {T:D->Rho->Option Rho} {F:Rho->R Out} (I:Nat->Rho->Prop) (step:∀(i:Nat) x U,xs[i]?=some x->I i U->∃U1 U2,T x U=some U1/\F U1=.val (.nx U2)/\I (i+1) U2) {U:Rho} (h:I 0 U):∃ρ',bu T F xs U=.val (.nx ρ')/\I xs.length ρ':=by
 suffices ∀(n k:Nat) (U:Rho),k+n=xs.length->I k U->∃ρ',bu T F (xs.drop k) U=.val (.nx ρ')/\I xs.length ρ' by
  have:=this xs.length 0 U (by omega) h;rwa[List.drop_zero]at this
 intro n
 induction n with
 | zero =>
  intro k U hk hI;have hk:k=xs.length:=by omega
  subst hk;rw[List.drop_length];exact⟨U,rfl,hI⟩
 | succ n ih =>
  intro k U hk hI;have hlt:k<xs.length:=by omega
  obtain⟨U1,U2,h1,h2,h3⟩:=step k xs[k] U (by simp[hlt]) hI;rw[List.drop_eq_getElem_cons hlt];unfold bu;rw[h1];show ∃ρ',(F U1).bind _=_/\_;rw[h2];exact ih (k+1) U2 (by omega) h3
end DL
namespace DL
open L2 Ar
def pln:Nat->D->Bool
 | _,.non=>true
 | _,.int _=>true
 | n+1,.lst xs=>xs.all (pln n)
 | n+1,.tup xs=>xs.all (pln n)
 | _,_=>false
theorem dJ:∀{n:Nat} {x:D},pln n x=true->eqb n x=true:=by
 intro n
 induction n with
 | zero =>
  intro x h;cases x with
  | non=>rfl
  | int _=>rfl
  | _=>cases h
 | succ n ih =>
  intro x h;cases x with
  | non=>rfl
  | int _=>rfl
  | lst xs=>exact List.all_eq_true.mpr λy hy=>ih (List.all_eq_true.mp h y hy)
  | tup xs=>exact List.all_eq_true.mpr λy hy=>ih (List.all_eq_true.mp h y hy)
  | _=>cases h
variable {n:Nat} {xs:List D}
theorem pe (ih:∀{x y:D},pln n x=true->pln n y=true->(pyq n x y=true↔x=y)) {ys:List D} (hx:xs.all (pln n)=true) (hy:ys.all (pln n)=true) :
  (decide (xs.length=ys.length)&&(List.range xs.length).all λj=>pyq n (xs.getD j .non) (ys.getD j .non))=true↔xs=ys:=by
 rw[Bool.and_eq_true,decide_eq_true_iff,List.all_eq_true];rw[List.all_eq_true]at hx hy;constructor
 ·rintro⟨hl,h⟩;apply List.ext_getElem hl;intro j h1 h2;have:=h j (List.mem_range.mpr h1);rw[aG h1,aG h2]at this;exact(ih (hx _ (List.getElem_mem h1)) (hy _ (List.getElem_mem h2))).mp this
 ·rintro rfl;refine⟨rfl,λj hj=>?_⟩;have h1:=List.mem_range.mp hj;rw[aG h1];exact(ih (hx _ (List.getElem_mem h1)) (hx _ (List.getElem_mem h1))).mpr rfl
theorem db {p q:Prop} (h:¬ p) (g:¬ q):p↔q:=⟨λx=>absurd x h,λx=>absurd x g⟩
theorem sD {a b:Int}:(a==b)=true↔D.int a=D.int b:=beq_iff_eq.trans ⟨congrArg D.int,λh=>by cases h;rfl⟩
theorem hV:∀(n:Nat) {x y:D},pln n x=true->pln n y=true->(pyq n x y=true↔x=y):=by
 intro n
 induction n with
 | zero =>
  intro x y hx hy;cases x with
  | non =>
   cases y with
   | non=>exact⟨λ_=>rfl,λ_=>rfl⟩
   | int b=>exact db Bool.false_ne_true (λh=>by cases h)
   | _=>cases hy
  | int a =>
   cases y with
   | int b=>exact sD
   | non=>exact db Bool.false_ne_true (λh=>by cases h)
   | _=>cases hy
  | _=>cases hx
 | succ n ih =>
  intro x y hx hy;cases x with
  | lst xs =>
   cases y with
   | lst ys=>rw[nP,pe ih hx hy];exact⟨congrArg D.lst,λh=>by cases h;rfl⟩
   | non=>exact db Bool.false_ne_true (λh=>by cases h)
   | int _=>exact db Bool.false_ne_true (λh=>by cases h)
   | tup _=>exact db Bool.false_ne_true (λh=>by cases h)
   | _=>cases hy
  | tup xs =>
   cases y with
   | tup ys=>rw[nO,pe ih hx hy];exact⟨congrArg D.tup,λh=>by cases h;rfl⟩
   | non=>exact db Bool.false_ne_true (λh=>by cases h)
   | int _=>exact db Bool.false_ne_true (λh=>by cases h)
   | lst _=>exact db Bool.false_ne_true (λh=>by cases h)
   | _=>cases hy
  | non =>
   cases y with
   | non=>exact⟨λ_=>rfl,λ_=>rfl⟩
   | int b=>exact db Bool.false_ne_true (λh=>by cases h)
   | lst _=>exact db Bool.false_ne_true (λh=>by cases h)
   | tup _=>exact db Bool.false_ne_true (λh=>by cases h)
   | _=>cases hy
  | int a =>
   cases y with
   | int b=>exact sD
   | non=>exact db Bool.false_ne_true (λh=>by cases h)
   | lst _=>exact db Bool.false_ne_true (λh=>by cases h)
   | tup _=>exact db Bool.false_ne_true (λh=>by cases h)
   | _=>cases hy
  | _=>cases hx
variable {x:D}
theorem lz (h:pln 9 x=true):feq x x=.val (.bl true):=by
 unfold feq;rw[if_pos ⟨dJ h,dJ h⟩,(hV 9 h h).mpr rfl]
theorem lA {y:D} (h:pln 9 x=true) (h':pln 9 y=true) (e:x≠y):feq x y=.val (.bl false):=by
 unfold feq;rw[if_pos ⟨dJ h,dJ h'⟩];cases q:pyq 9 x y with
 | false=>rfl
 | true=>exact absurd ((hV 9 h h').mp q) e
theorem i0 (h:pln 9 x=true):fne x x=.val (.bl false):=by
 unfold fne;rw[if_pos ⟨dJ h,dJ h⟩,(hV 9 h h).mpr rfl];rfl
theorem qa {y:D} (h:pln 9 x=true) (h':pln 9 y=true) (e:x≠y):fne x y=.val (.bl true):=by
 unfold fne;rw[if_pos ⟨dJ h,dJ h'⟩];cases q:pyq 9 x y with
 | false=>rfl
 | true=>exact absurd ((hV 9 h h').mp q) e
@[simp] theorem wg (a b:Int):feq (.int a) (.int b)=.val (.bl (decide (a=b))):=by
 by_cases h:a=b
 ·subst h;rw[lz rfl];simp
 ·rw[lA rfl rfl (by simpa using h)];simp[h]
@[simp] theorem v9 (a b:Int):fne (.int a) (.int b)=.val (.bl (decide (a≠b))):=by
 by_cases h:a=b
 ·subst h;rw[i0 rfl];simp
 ·rw[qa rfl rfl (by simpa using h)];simp[h]
abbrev nD (n:Nat):D:=.int (n:Int)
def ak (x:Arr):D:=.tup [nD x.1,nD x.2.1,.tup (x.2.2.map nD)]
def cN (p:Nat×Nat):D:=.tup [nD p.1,nD p.2]
def aX (en:List (Nat×Nat)):D:=.lst (en.map cN)
def aD (re:List Nat):D:=.lst (re.map nD)
def aw (r:List Int):D:=.lst (r.map D.int)
def az (tb:List (List Int)):D:=.lst (tb.map aw)
theorem nD_inj {a b:Nat}:nD a=nD b↔a=b:=by
 simp only[nD,D.int.injEq];omega
theorem endD_inj {p q:Nat×Nat}:cN p=cN q↔p=q:=by
 obtain⟨a,b⟩:=p;obtain⟨c,d⟩:=q;simp only[cN,nD,D.tup.injEq,List.cons.injEq,D.int.injEq,and_true,Prod.mk.injEq];omega
theorem oa {Y:Type} {f:Y->D} (hf:∀a b,f a=f b->a=b):∀{l m:List Y},l.map f=m.map f->l=m
 | [],[],_=>rfl
 | [],_::_,h=>by simp at h
 | _::_,[],h=>by simp at h
 | a::l,b::m,h=>by
  simp only[List.map_cons,List.cons.injEq]at h;rw[hf _ _ h.1,oa hf h.2]
theorem arrD_inj {x y:Arr}:ak x=ak y↔x=y:=by
 obtain⟨a,b,l⟩:=x;obtain⟨c,d,m⟩:=y;constructor
 ·intro h;simp only[ak,nD,D.tup.injEq,List.cons.injEq,D.int.injEq,Int.natCast_inj,and_true]at h;obtain⟨h1,h2,h3⟩:=h;rw[h1,h2,oa (λa b e=>nD_inj.mp e) h3]
 ·rintro h;rw[h]
variable {Y:Type}
theorem all_map {f:Y->D} (h:∀a,pln n (f a)=true) (l:List Y):(l.map f).all (pln n)=true:=by
 rw[List.all_eq_true];intro y hy;obtain⟨a,_,rfl⟩:=List.mem_map.mp hy;exact h a
variable {k:Nat}
theorem vi (n:Nat):pln k (nD n)=true:=by unfold nD pln;rfl
theorem BS (n:Int):pln k (.int n)=true:=by cases k<;>rfl
theorem nS (h:xs.all (pln k)=true):pln (k+1) (.tup xs)=true:=h
theorem xC (h:xs.all (pln k)=true):pln (k+1) (.lst xs)=true:=h
theorem iS (p:Nat×Nat):pln (k+1) (cN p)=true:=nS (by simp[vi])
theorem h9 (x:Arr):pln (k+2) (ak x)=true:=nS (by simp[vi];exact nS (all_map (λa=>vi a) _))
theorem h8 (r:List Int):pln (k+1) (aw r)=true:=xC (all_map (λp=>BS p) _)
variable {i:Nat}
theorem dv {f:Y->D} {l:List Y} {d:Y} (h:i<l.length):(l.map f)[i]?=some (f (l.getD i d)):=by
 rw[aG h];simp[h]
theorem eE {en:List (Nat×Nat)} (h:i<en.length):fix (aX en) (.int (i:Int))=.val (cN (en.getD i (0,0))):=gO (dv h)
theorem oo {re:List Nat} (h:i<re.length):fix (aD re) (.int (i:Int))=.val (nD (re.getD i 0)):=gO (dv h)
theorem df {tb:List (List Int)} (h:i<tb.length):fix (az tb) (.int (i:Int))=.val (aw (tb.getD i [])):=gO (dv h)
theorem dg {r:List Int} (h:i<r.length):fix (aw r) (.int (i:Int))=.val (.int (r.getD i (-1))):=gO (dv h)
@[simp] theorem C8 (p:Nat×Nat):fix (cN p) (.int 0)=.val (nD p.1):=wd _ _
@[simp] theorem C7 (p:Nat×Nat):fix (cN p) (.int 1)=.val (nD p.2):=wc _ _ _
@[simp] theorem Da (x:Arr):fix (ak x) (.int 0)=.val (nD x.1):=wd _ _
@[simp] theorem C_ (x:Arr):fix (ak x) (.int 1)=.val (nD x.2.1):=wc _ _ _
@[simp] theorem C9 (x:Arr):fix (ak x) (.int 2)=.val (.tup (x.2.2.map nD)):=AK _ _ _ _
@[simp] theorem wa (en:List (Nat×Nat)):aL (aX en)=.val (.int en.length):=by unfold aX;simp
@[simp] theorem fN (re:List Nat):aL (aD re)=.val (.int re.length):=by unfold aD;simp
@[simp] theorem B7 (r:List Int):aL (aw r)=.val (.int r.length):=by unfold aw;simp
@[simp] theorem B6 (r:List (List Int)):aL (az r)=.val (.int r.length):=by unfold az;simp
@[simp] theorem B8 (p:Nat×Nat):aL (cN p)=.val (.int 2):=Eq.trans rfl rfl
variable {U:Rho}
theorem ln {F:Rho->R Out} {j:Nat} (I:Rho->Prop) (step:∀(k:Nat) x U,xs[k]?=some x->I U->∃U2,F ((U.set i (some (.shr (.int (k:Int))))).set j (some (.shr x)))=.val (.nx U2)/\I U2) (h:I U) :
  ∃ρ',bu (tg2 i j) F (enu 0 xs) U=.val (.nx ρ')/\I ρ':=by
 refine fG (λ_=>I) (λk y U e hI=>?_) h;obtain⟨x,e1,rfl⟩:=rh e;rw[Nat.zero_add];obtain⟨U2,h1,h2⟩:=step k x U e1 hI;exact⟨_,U2,rfl,h1,h2⟩
theorem iY {F:Rho->R Out} (I:Nat->Rho->Prop) (step:∀(k:Nat) U,k<n->I k U->∃U2,F (U.set i (some (.shr (.int (k:Int)))))=.val (.nx U2)/\I (k+1) U2) (h:I 0 U) :
  ∃ρ',bu (tgN i) F (rng 0 n) U=.val (.nx ρ')/\I n ρ':=by
 have hl:(rng 0 n).length=n:=by unfold rng;simp
 obtain⟨ρ',h1,h2⟩:=fG (T:=tgN i) (F:=F) I (xs:=rng 0 n) (λk y U e hI=>by
  have hk:k<n:=by rw[<- hl];exact(List.getElem?_eq_some_iff.mp e).1
  have:y=.int (k:Int):=by
   unfold rng at e;rw[List.getElem?_map,List.getElem?_range hk]at e;simp at e;exact e.symm
  subst this;obtain⟨U2,h1,h2⟩:=step k U hk hI;exact⟨_,U2,rfl,h1,h2⟩) h
 exact⟨ρ',h1,by rw[hl]at h2;exact h2⟩
theorem fD (h:n<=100000):mq [.int (n:Int)]=.val (rng 0 n):=by
 have:-(2 ^ 62)<=(n:Int)/\(n:Int)<2 ^ 62:=by constructor<;>omega
 unfold mq;dsimp only;rw[if_pos this,Int.toNat_natCast]
theorem u4 {z:Int} (h:0<=z) (h':z<=100000):mq [.int z]=.val (rng 0 z.toNat):=by
 have:-(2 ^ 62)<=z/\z<2 ^ 62:=by constructor<;>omega
 unfold mq;dsimp only;rw[if_pos this]
theorem xw (n:Nat):(rng 0 n).length=n:=by unfold rng;simp
theorem x8 (h:x∈rng 0 n):∃k:Nat,k<n/\x=.int (k:Int):=by
 unfold rng at h;obtain⟨k,hk,rfl⟩:=List.mem_map.mp h;exact⟨k,List.mem_range.mp hk,by simp⟩
theorem lD {src:Rho->R (List D)} {m:Nat} {e:Rho->R D} {g:Nat->D} (hs:src U=.val (rng 0 m)) (hl:m<=100000) (h:∀k:Nat,k<m->e ((U++List.replicate n none).set i (some (.shr (.int (k:Int)))))=.val (g k)) :
  bn src n (tgN i) tT e U=.val ((List.range m).map g):=by
 unfold bn;rw[hs,ae,if_pos (show(rng 0 m).length<=LIM by rw[xw];exact hl)];have:gY (tgN i) tT e (rng 0 m) (U++List.replicate n none)=.val ((rng 0 m).map λx=>match x with | .int z=>g z.toNat|_=>.non):=qp λx hx=>by
  obtain⟨k,hk,rfl⟩:=x8 hx;exact⟨_,rfl,by rw[h k hk];simp⟩
 rw[this,iU];unfold rng;rw[List.map_map]
 congr 1
 apply List.map_congr_left;intro k hk;simp
theorem cG {src:Rho->R (List D)} {e:Rho->R D} {f g:Y->D} {l:List Y} (hs:src U=.val (l.map f)) (hl:l.length<=100000) (h:∀a∈l,e ((U++List.replicate n none).set i (some (.shr (f a))))=.val (g a)) :
  bn src n (tgN i) tT e U=.val (l.map g):=by
 unfold bn;rw[hs,ae,if_pos (show(l.map f).length<=LIM by rw[List.length_map];exact hl)]
 suffices ∀l:List Y,(∀a∈l,e ((U++List.replicate n none).set i (some (.shr (f a))))=.val (g a))->gY (tgN i) tT e (l.map f) (U++List.replicate n none)=.val (l.map g) by
  rw[this l h];rfl
 intro l
 induction l with
 | nil=>intro _;rfl
 | cons a r ih =>
  intro h;have h1:=h a (by simp);have h2:=ih λb hb=>h b (by simp[hb]);rw[List.map_cons];unfold gY;show(noE (tT _)).bind _=_;rw[h2];simp only[tT,iU,ae,if_true];rw[h1];rfl
end DL
namespace DL
open PySem PySem.Spec PyProof.Rows L2
structure Txt (K:Frag) (mg:Str->Option Value) (C:Addr):Prop where
 cl:Cls K C
 nE:NoAttr K C "ends"
 nR:NoAttr K C "rests"
 nT:NoAttr K C "table"
 len:mg "len"=none
 list:mg "list"=none
 tuple:mg "tuple"=none
 range:mg "range"=none
 enumerate:mg "enumerate"=none
 max:mg "max"=none
 isinstance:mg "isinstance"=none
 all:mg "all"=none
 zip:mg "zip"=none
 min:mg "min"=none
 int:mg "int"=none
 bool:mg "bool"=none
 verr:mg "ValueError"=none
 ih:IsH K C
 hall:mg "Hall"=some (.ref C)
 most_boxes:∃t,mg "MOST_BOXES"=some (.int 6 t)
 most_arrows:∃t,mg "MOST_ARROWS"=some (.int 40 t)
 most_things:∃t,mg "MOST_THINGS"=some (.int 40 t)
 xc2:XC K mg 2
 xa:rG K mg [2]
 xb:∃CA,XB K mg [2] CA
 kt_int:KTy K "int"
 kt_bool:KTy K "bool"
 kt_list:KTy K "list"
 kt_tuple:KTy K "tuple"
abbrev sAt (i:Nat):Stmt:=PySem.Challenge.pw_arrowhall_k10_out_of_a_box.main.body.getD i (.Pass ⟨0,0,0,0⟩)
section
variable {C:Addr} {X:Cx} {e:Expr} {p pos:Pos} {F:Rho->R D}
theorem edl (h:EB C X e F) (hg:Gl X "len") (hm:X.mg "len"=none) (hst:starEach [e] X.env=(false,eval e X.env)::starEach [] X.env):ED C X (.Call (.Name "len" p) [e] [] pos) (una aL F):=AY h hg hm hst (λt ha=>fE jc hg hm PySem.boot_len ha (he:=hst) (hpl:=av))
theorem fdl (h:EB C X e F) (hg:Gl X "list") (hm:X.mg "list"=none) (hst:starEach [e] X.env=(false,eval e X.env)::starEach [] X.env):FD C X (.Call (.Name "list" p) [e] [] pos) (fIt F):=yo h hg hm hst (λt ha=>bN jb hg hm boot_list ha (he:=hst) (hpl:=av))
end
section
variable {C:Addr} {X:Cx} {x:Str} {p pos pos':Pos} {e:Expr} {es:List Expr} {k n m:Nat} {kr:OK} {den:List D->R D} {F:Rho->R D} {Fa:Rho->R (List D)}
theorem vB (i:Nat) (hN:X.N[i]?=some x:=by rfl) (hv:Vis X.env.scope x:=by first|exact Or.inl rfl|exact Or.inr (Or.inl rfl)|exact Or.inr (Or.inr rfl)) (hd:(x==("__debug__":Str))=false:=by decide) (hcd:(x==("__classdict__":Str))=false:=by decide):EB C X (.Name x pos) (vb i):=A9 (pv i hN hv hd hcd)
theorem vE (i:Nat) (hN:X.N[i]?=some x:=by rfl) (hv:Vis X.env.scope x:=by first|exact Or.inl rfl|exact Or.inr (Or.inl rfl)|exact Or.inr (Or.inr rfl)) (hd:(x==("__debug__":Str))=false:=by decide) (hcd:(x==("__classdict__":Str))=false:=by decide):ED C X (.Name x pos) (vr i):=AV (pv i hN hv hd hcd)
theorem bI {i j}:EB C X (.Constant (.int i) j pos) (kd (.int i)):=EB.of aM
theorem eA (F:Fn X.prog X.w X.K X.mg X.base C k x n den) (hr:Room m X.A) (ha:AD C X (e::es) Fa) (he:starEach (e::es) X.env=(false,eval e X.env)::starEach es X.env) (hpl:(backTo pos (starEach es X.env)).any (·.1)=false) (hk:k<=m:=by decide) (hg:Gl X x:=by exact rfl) (hdb:(x==("__debug__":Str))=false:=by decide):ED C X (.Call (.Name x p) (e::es) [] pos) (cal n den Fa):=A7 F (hr.mono hk) hg ha hdb he hpl
theorem eX (F:FnX X.prog X.w X.K X.mg X.base C k x n den) (hr:Room m X.A) (ha:AD C X (e::es) Fa) (he:starEach (e::es) X.env=(false,eval e X.env)::starEach es X.env) (hpl:(backTo pos (starEach es X.env)).any (·.1)=false) (hk:k<=m:=by decide) (hg:Gl X x:=by exact rfl) (hex:X.ex=[]:=by rfl) (hdb:(x==("__debug__":Str))=false:=by decide):ED C X (.Call (.Name x p) (e::es) [] pos) (rD n den Fa):=A5 F (hr.mono hk) hg ha hex hdb he hpl
theorem sS (i:Nat) (hN:X.N.Nodup) (he:ED C X e F) (hi:X.N[i]?=some x:=by rfl) (hx:Loc X.env.scope x:=by first|exact Or.inl rfl|exact Or.inr rfl) (hs:swapsWith e (some (.Name x pos')) pos.line X.env=pure false:=by rfl) (hf:X.fn x=true\/X.env.scope.names.lookup x=some .local:=by first|exact .inl rfl|exact .inr rfl):SD C X (.Assign [.Name x pos'] e pos) (asg i F):=zw hN hi hx he hs hf
theorem gN (i:Nat) (hN:X.N.Nodup) (hi:X.N[i]?=some x:=by rfl) (hx:Loc X.env.scope x:=by first|exact Or.inl rfl|exact Or.inr rfl) (hf:X.fn x=true\/X.env.scope.names.lookup x=some .local:=by first|exact .inl rfl|exact .inr rfl):GD C X (.Name x pos) [i] (tgN i):=yh hN hi hx hf
end
seal ED EB TD AD FD ID GD WD qA SD SDs ER AR FR KD PD ND SDi uz
variable {P:Program} {w:World} {K:Frag} {mg:Str->Option Value} {base:Heap} {C:Addr}
variable {f a:Addr} {fd:FuncData} (cdv:Value) (A:Around) (outer:List Env) (s:Shared) (H:Hp) (E:XK) (T:Txt K mg C)
abbrev fY:Stmt:=sAt 36
abbrev me:List Str:=["script","k","base"]
theorem DE:ax me ["script","k"] (ai fY):=by constructor<;>first|rfl|decide +kernel
def gs:Rho->R Out:=(sq (iff (tst (bin (iI flt) (vb 1) (una aL (vb 0))))
 (ret (bin fix (vb 0) (vb 1)))
 nxt)
 (sq (asg 2 (kd (.int 0)))
 (sq (iff (tst (bin (iI fgt) (una aL (vb 0)) (kd (.int 0))))
 (asg 2 (bin fix (vb 0) (kd (.int 0))))
 nxt)
 (ret (bin (iI a_) (bin dm (bin (iI gi) (bin (iI a_) (vb 2) (kd (.int 65521))) (kd (.int 48271))) (bin (iI gi) (vb 1) (kd (.int 30103)))) (kd (.int 65521)))))))
def aP (ds:List D):R D:=fin (gs (st0 me ds))
include T in
theorem pT (F:Fun K "_law_cell" "_law_cell" fY a fd) (hm:mg "_law_cell"=some (.ref a)) (hb:Binds K fd ["script","k"] []):Fn P w K mg base C 1 "_law_cell" 2 aP :=
 ⟨a,fd,_,bc (den:=gs) F DE (λ_ _ _ _ _ _ hr=>(aj (bf (yY (vB 1) (EB.of (edl (vB 0) rfl T.len aa)))
 (ag (aQ (aq (vB 0) (vB 1))))
 aK)
 (aj (sS 2 DE.nd aM)
 (aj (bf (yZ (EB.of (edl (vB 0) rfl T.len aa)) bI)
 (ag (sS 2 DE.nd (aq (vB 0) bI)))
 aK)
 (ag (aQ (cP (EB.of (eR (EB.of (oA (EB.of (cP (vB 2) bI)) bI)) (EB.of (oA (vB 1) bI)))) bI))))))),hm,F.kp,hb⟩
abbrev fh:Stmt:=sAt 40
abbrev jQ:List Str:=["script","k","cell","way"]
theorem DK:ax jQ ["script","k"] (ai fh):=by constructor<;>first|rfl|decide +kernel
abbrev Nc_law_sizes_0:List Str:=["script","k","cell","way","box"]
theorem kW:Nc_law_sizes_0.Nodup:=by decide +kernel
def fx:Rho->R Out:=(sq (asg 2 (cal 2 aP (aC (vr 0) (aC (vr 1) aN))))
 (sq (asg 3 (bin (iI a_) (vb 2) (kd (.int 4))))
 (sq (iff (tst (bin feq (vb 3) (kd (.int 0))))
 (ret (eLs (bn (bW (aC (bin dm (kd (.int 1)) (bin (iI a_) (bin (iI cV) (vb 2) (kd (.int 4))) (kd (.int 4)))) aN)) 1 (tgN 4) tT (kd (.int 1)))))
 nxt)
 (sq (iff (tst (bin feq (vb 3) (kd (.int 1))))
 (ret (bin fix (eL (aC (eL (aC (kd (.int 1)) (aC (kd (.int 2)) aN))) (aC (eL (aC (kd (.int 2)) (aC (kd (.int 1)) aN))) (aC (eL (aC (kd (.int 2)) (aC (kd (.int 2)) aN))) (aC (eL (aC (kd (.int 0)) (aC (kd (.int 2)) aN))) (aC (eL (aC (kd (.int 2)) aN)) (aC (eL (aC (kd (.int 1)) aN)) aN))))))) (bin (iI a_) (bin (iI cV) (vb 2) (kd (.int 4))) (kd (.int 6)))))
 nxt)
 (sq (iff (tst (bin feq (vb 3) (kd (.int 2))))
 (ret (eL (aC (kd (.int 3)) aN)))
 nxt)
 (ret (bin fix (eL (aC (eL (aC (kd (.int 1)) (aC (kd (.int 1)) (aC (kd (.int 2)) aN)))) (aC (eL (aC (kd (.int 0)) (aC (kd (.int 1)) (aC (kd (.int 2)) aN)))) (aC (eL (aC (kd (.int 1)) (aC (kd (.int 2)) (aC (kd (.int 2)) aN)))) (aC (eL (aC (kd (.int 2)) (aC (kd (.int 1)) (aC (kd (.int 0)) aN)))) (aC (eL (aC (kd (.int 2)) (aC (kd (.int 2)) aN))) aN)))))) (bin (iI a_) (bin (iI cV) (vb 2) (kd (.int 4))) (kd (.int 5))))))))))
def cC (ds:List D):R D:=fin (fx (st0 jQ ds))
variable (f21:Fn P w K mg base C 1 "_law_cell" 2 aP)
include T f21 in
theorem n0 (F:Fun K "_law_sizes" "_law_sizes" fh a fd) (hm:mg "_law_sizes"=some (.ref a)) (hb:Binds K fd ["script","k"] []):Fn P w K mg base C 2 "_law_sizes" 2 cC :=
 ⟨a,fd,_,bc (den:=fx) F DK (λ_ _ _ _ _ _ hr=>(aj (sS 2 DK.nd (eA f21 hr (ac (vE 0) (ac (vE 1) ah aa) aa) aa (am aa av)))
 (aj (sS 3 DK.nd (cP (vB 2) bI))
 (aj (bf (iN (bp hr) (vB 3) bI)
 (ag (aQ (cH (bT (N':=Nc_law_sizes_0) (n:=1) rfl rfl rfl (gD 4) cL (bD rfl T.range (ac (eR bI (EB.of (cP (EB.of (fm (vB 2) bI)) bI))) ah bo) (aW bo)) (λL cs s H fp=>(gN 4 kW)) (λL cs s H fp=>bw) (λL cs s H fp=>aM)))))
 aK)
 (aj (bf (iN (bp hr) (vB 3) bI)
 (ag (aQ (aq (EB.of (ci (ac (ci (ac aM (ac aM ah ao) ao)) (ac (ci (ac aM (ac aM ah ao) ao)) (ac (ci (ac aM (ac aM ah ao) ao)) (ac (ci (ac aM (ac aM ah ao) ao)) (ac (ci (ac aM ah ao)) (ac (ci (ac aM ah ao)) ah cW) cW) cW) cW) cW) cW))) (EB.of (cP (EB.of (fm (vB 2) bI)) bI)))))
 aK)
 (aj (bf (iN (bp hr) (vB 3) bI)
 (ag (aQ (ci (ac aM ah ao))))
 aK)
 (ag (aQ (aq (EB.of (ci (ac (ci (ac aM (ac aM (ac aM ah ao) ao) ao)) (ac (ci (ac aM (ac aM (ac aM ah ao) ao) ao)) (ac (ci (ac aM (ac aM (ac aM ah ao) ao) ao)) (ac (ci (ac aM (ac aM (ac aM ah ao) ao) ao)) (ac (ci (ac aM (ac aM ah ao) ao)) ah cW) cW) cW) cW) cW))) (EB.of (cP (EB.of (fm (vB 2) bI)) bI))))))))))),hm,F.kp,hb⟩
abbrev fV:Stmt:=sAt 39
abbrev lZ:List Str:=["step"]
theorem o8:ax lZ ["step"] (ai fV):=by constructor<;>first|rfl|decide +kernel
def gp:Rho->R Out:=(ret (bin (iI a_) (bin dm (bin (iI gi) (vb 0) (kd (.int 48271))) (kd (.int 11))) (kd (.int 2147483647))))
def aH (ds:List D):R D:=fin (gp (st0 lZ ds))
include T in
theorem pO (F:Fun K "_law_next" "_law_next" fV a fd) (hm:mg "_law_next"=some (.ref a)) (hb:Binds K fd ["step"] []):Fn P w K mg base C 1 "_law_next" 1 aH :=
 ⟨a,fd,_,bc (den:=gp) F o8 (λ_ _ _ _ _ _ hr=>(ag (aQ (cP (EB.of (eR (EB.of (oA (vB 0) bI)) bI)) bI)))),hm,F.kp,hb⟩
abbrev bS:Stmt:=sAt 41
abbrev gy:List Str:=["known","met","arrow","at","other","first","second","made"]
theorem DF:ax gy ["known"] (ai bS):=by constructor<;>first|rfl|decide +kernel
abbrev Nc_law_closed_0:List Str:=["known","met","arrow","at","other","first","second","made","x"]
theorem jX:Nc_law_closed_0.Nodup:=by decide +kernel
def eU:Rho->R Out:=(sq (wG 1)
 (sq (lx 0 2 1)
 (sq (asg 3 (kd (.int 0)))
 (sq (whD (tst (bin (iI flt) (vb 3) (una aL (vb 0))))
 (sq (bq (fIt (eLs (fIt (vb 0)))) (tgN 4)
 (bq (fIt (eL (aC (eT (aC (bin fix (vb 0) (vb 3)) (aC (vr 4) aN))) (aC (eT (aC (vr 4) (aC (bin fix (vb 0) (vb 3)) aN))) aN)))) (tg2 5 6)
 (iff (tst (bin feq (bin fix (vb 5) (kd (.int 1))) (bin fix (vb 6) (kd (.int 0)))))
 (sq (asg 7 (eT (aC (bin fix (vb 5) (kd (.int 0))) (aC (bin fix (vb 6) (kd (.int 1))) (aC (una ik (eLs (bn (fIt (bin fix (vb 5) (kd (.int 2)))) 1 (tgN 8) tT (bin fix (bin fix (vb 6) (kd (.int 2))) (vb 8))))) aN)))))
 (iff (wF 1 (vr 7))
 (sq (oC 1 (vr 7) (kd (.bl true)))
 (app 0 (vr 7)))
 nxt))
 nxt)))
 (asg 3 (bin dm (vb 3) (kd (.int 1))))) 30)
 (fz 0 (ret (vr 0)))))))
def bL (xs:List D):R D:=fin (eU (st1 gy xs))
include T in
theorem j_ (hr:Room 0 (A.deeper (envOfC "_law_closed" (ai bS) s.heap.objs.size f cdv))) :
  SDs C (gw CX0 P w K mg base gy "_law_closed" (ai bS) f cdv A outer s H E).nox (bM bS) eU :=
 (aj (rS (i:=1) DF.nd rfl (Or.inl rfl))
 (aj (tQ (mW hr) PassesOwn.never rfl (pv 0) (aE (i:=2) DF.nd rfl (Or.inl rfl)) (pv 1) (pv 2))
 (aj (sS 3 DF.nd aM)
 (aj (uX 30 PassesOwn.never (yY (vB 3) (EB.of (edl (vB 0) rfl T.len aa)))
 (aj (br PassesOwn.never rfl (cE (cH (fdl (vB 0) rfl T.list aa))) (gN 4 DF.nd)
 (ag (br PassesOwn.never rfl (cE (ci (ac (cO (ac (aq (vB 0) (vB 3)) (ac (vE 4) ah aa) af)) (ac (cO (ac (vE 4) (ac (aq (vB 0) (vB 3)) ah af) aa)) ah kE) kE))) (cr rfl (aE (i:=5) DF.nd rfl (Or.inl rfl)) (aE (i:=6) DF.nd rfl (Or.inr rfl)))
 (ag (bf (iN (bp hr) (EB.of (aq (vB 5) bI)) (EB.of (aq (vB 6) bI)))
 (aj (sS 7 DF.nd (cO (ac (aq (vB 5) bI) (ac (aq (vB 6) bI) (ac (i_ (EB.of (cH (bT (N':=Nc_law_closed_0) (n:=1) rfl rfl rfl (gD 8) cL (cE (aq (vB 5) bI)) (λL cs s H fp=>(gN 8 jX)) (λL cs s H fp=>bw) (λL cs s H fp=>(aq (EB.of (aq (vB 6) bI)) (vB 8)))))) rfl T.tuple bi (λt ha=>bN cJ rfl T.tuple boot_tuple ha (he:=bi) (hpl:=av))) ah ar) af) af)))
 (ag (bf (w8 (mW hr) (pv 1) (vE 7))
 (aj (rR (mW hr) (pv 1) (vE 7) dn)
 (ag (jo (pv 0) (vE 7) (hst:=aa))))
 aK)))
 aK)))))
 (ag (sS 3 DF.nd (eR (vB 3) bI)))))
 (jm 0 (ag (aQ (vE 0))))))))
include T in
theorem mB (F:Fun K "_law_closed" "_law_closed" bS a fd) (hm:mg "_law_closed"=some (.ref a)) (hb:Binds K fd ["known"] []):Mv P w K mg base C 1 "_law_closed" bL :=
 ⟨a,fd,_,BY F DF (λcdv A outer s H E hr=>j_ cdv A outer s H E T hr),hm,F.kp,hb⟩
abbrev d9:Stmt:=sAt 42
abbrev jf:List Str:=["script","k","sizes","known","step","turn","one","other","row","x","mixed","arrow"]
theorem DD:ax jf ["script","k","sizes"] (ai d9):=by constructor<;>first|rfl|decide +kernel
abbrev Nc_law_arrows_0:List Str:=["script","k","sizes","known","step","turn","one","other","row","x","mixed","arrow","box"]
theorem jY:Nc_law_arrows_0.Nodup:=by decide +kernel
def eV:Rho->R Out:=(sq (own 3 (bn (bW (aC (una aL (vb 2)) aN)) 1 (tgN 12) tT (eT (aC (vr 12) (aC (vr 12) (aC (gT (aC (bin fix (vb 2) (vb 12)) aN)) aN))))))
 (sq (asg 4 (cal 1 aH (aC (bin dm (bin (iI a_) (bin (iI gi) (cal 2 aP (aC (vr 0) (aC (vr 1) aN))) (kd (.int 1000003))) (kd (.int 2147483647))) (kd (.int 17))) aN)))
 (sq (bq (bW (aC (bin (iI a_) (cal 2 aP (aC (vr 0) (aC (bin dm (vb 1) (kd (.int 1))) aN))) (kd (.int 5))) aN)) (tgN 5)
 (sq (asg 4 (cal 1 aH (aC (vr 4) aN)))
 (sq (asg 6 (bin (iI a_) (bin (iI cV) (vb 4) (kd (.int 64))) (una aL (vb 2))))
 (sq (asg 4 (cal 1 aH (aC (vr 4) aN)))
 (sq (asg 7 (bin (iI a_) (bin (iI cV) (vb 4) (kd (.int 64))) (una aL (vb 2))))
 (sq (own 8 (jA aN))
 (sq (bq (bW (aC (bin fix (vb 2) (vb 6)) aN)) (tgN 9)
 (sq (asg 4 (cal 1 aH (aC (vr 4) aN)))
 (iff (tst (bin feq (bin fix (vb 2) (vb 6)) (kd (.int 3))))
 (ins 8 (bin (iI a_) (bin (iI cV) (vb 4) (kd (.int 64))) (bin dm (vb 9) (kd (.int 1)))) (vr 9))
 (app 8 (bin (iI a_) (bin (iI cV) (vb 4) (kd (.int 64))) (yH (aC (kd (.int 1)) (aC (bin fix (vb 2) (vb 7)) aN))))))))
 (iff (orB (tst (bin feq (bin fix (vb 2) (vb 6)) (kd (.int 0)))) (tst (bin (iI fgt) (bin fix (vb 2) (vb 7)) (kd (.int 0)))))
 (iff (tst (bin (j5 true) (eT (aC (vr 6) (aC (vr 7) (aC (una ik (vb 8)) aN)))) (vb 3)))
 (app 3 (eT (aC (vr 6) (aC (vr 7) (aC (una ik (vb 8)) aN)))))
 nxt)
 nxt))))))))
 (sq (xX 3 bL)
 (sq (own 10 (jA aN))
 (fz 3 (sq (bq (fIt (vr 3)) (tgN 11)
 (sq (asg 4 (cal 1 aH (aC (vr 4) aN)))
 (ins 10 (bin (iI a_) (bin (iI cV) (vb 4) (kd (.int 64))) (bin dm (una aL (vb 10)) (kd (.int 1)))) (vr 11))))
 (fz 10 (ret (vr 10))))))))))
def bJ (ds:List D):R D:=fin (eV (st0 jf ds))
variable (f34:Mv P w K mg base C 1 "_law_closed" bL)
variable (f25:Fn P w K mg base C 1 "_law_next" 1 aH)
include T f21 f34 f25 in
theorem mC (F:Fun K "_law_arrows" "_law_arrows" d9 a fd) (hm:mg "_law_arrows"=some (.ref a)) (hb:Binds K fd ["script","k","sizes"] []):Fn P w K mg base C 2 "_law_arrows" 3 bJ :=
 ⟨a,fd,_,bc (den:=eV) F DD (λ_ _ _ _ _ _ hr=>(aj (xo (kN (i:=3) (aE (i:=3) DD.nd rfl (Or.inl rfl)) (N':=Nc_law_arrows_0) (n:=1) rfl rfl rfl (gD 12) cL (bD rfl T.range (ac (edl (vB 2) rfl T.len aa) ah ar) (aW ar)) (λL cs s H fp=>(gN 12 jY)) (λL cs s H fp=>bw) (λL cs s H fp=>(cO (ac (vE 12) (ac (vE 12) (ac (qj rfl (ac (aq (vB 2) (vB 12)) ah af) rfl T.range rfl T.tuple (aW af) ar (λt ha=>bN (gZ rfl) rfl T.tuple boot_tuple ha (he:=ar) (hpl:=av))) ah ar) aa) aa))) rfl))
 (aj (sS 4 DD.nd (eA f25 hr (ac (eR (EB.of (cP (EB.of (oA (EB.of (eA f21 hr (ac (vE 0) (ac (vE 1) ah aa) aa) aa (am aa av))) bI)) bI)) bI) ah bo) bo av))
 (aj (br PassesOwn.never rfl (bD rfl T.range (ac (cP (EB.of (eA f21 hr (ac (vE 0) (ac (eR (vB 1) bI) ah bo) aa) aa (am bo av))) bI) ah bo) (aW bo)) (gN 5 DD.nd)
 (aj (sS 4 DD.nd (eA f25 hr (ac (vE 4) ah aa) aa av))
 (aj (sS 6 DD.nd (cP (EB.of (fm (vB 4) bI)) (EB.of (edl (vB 2) rfl T.len aa))))
 (aj (sS 4 DD.nd (eA f25 hr (ac (vE 4) ah aa) aa av))
 (aj (sS 7 DD.nd (cP (EB.of (fm (vB 4) bI)) (EB.of (edl (vB 2) rfl T.len aa))))
 (aj (kF (i:=8) DD.nd rfl (Or.inl rfl) (lC ah))
 (aj (br PassesOwn.never rfl (bD rfl T.range (ac (aq (vB 2) (vB 6)) ah af) (aW af)) (gN 9 DD.nd)
 (aj (sS 4 DD.nd (eA f25 hr (ac (vE 4) ah aa) aa av))
 (ag (bf (iN (bp hr) (EB.of (aq (vB 2) (vB 6))) bI)
 (ag (uZ (pv 8) (cP (EB.of (fm (vB 4) bI)) (EB.of (eR (vB 9) bI))) (vE 9) (hst:=bo) (hst2:=aa)))
 (ag (jo (pv 8) (cP (EB.of (fm (vB 4) bI)) (EB.of (AX rfl (ac aM (ac (aq (vB 2) (vB 7)) ah af) ao) rfl T.max (λt ha=>fE (nh rfl) rfl T.max boot_max ha (he:=ao) (hpl:=(am af av)))))) (hst:=bo)))))))
 (ag (bf (iE (eK (iN (bp hr) (EB.of (aq (vB 2) (vB 6))) bI) (dq (yZ (EB.of (aq (vB 2) (vB 7))) bI))))
 (ag (bf (zo (bp hr) (EB.of (cO (ac (vE 6) (ac (vE 7) (ac (i_ (vB 8) rfl T.tuple aa (λt ha=>bN cJ rfl T.tuple boot_tuple ha (he:=aa) (hpl:=av))) ah ar) aa) aa))) (vB 3))
 (ag (jo (pv 3) (cO (ac (vE 6) (ac (vE 7) (ac (i_ (vB 8) rfl T.tuple aa (λt ha=>bN cJ rfl T.tuple boot_tuple ha (he:=aa) (hpl:=av))) ah ar) aa) aa)) (hst:=kE)))
 aK))
 aK)))))))))
 (aj (xp f34 (hr.mono (by decide)) rfl (pv 3) (i:=3) DD.nd rfl (Or.inl rfl) rfl)
 (aj (kF (i:=10) DD.nd rfl (Or.inl rfl) (lC ah))
 (jm 3 (aj (br PassesOwn.never rfl (cE (vE 3)) (gN 11 DD.nd)
 (aj (sS 4 DD.nd (eA f25 hr (ac (vE 4) ah aa) aa av))
 (ag (uZ (pv 10) (cP (EB.of (fm (vB 4) bI)) (EB.of (eR (EB.of (edl (vB 10) rfl T.len aa)) bI))) (vE 11) (hst:=bo) (hst2:=aa)))))
 (jm 10 (ag (aQ (vE 10)))))))))))),hm,F.kp,hb⟩
abbrev fi:Stmt:=sAt 43
abbrev jR:List Str:=["script","k","sizes","known","place","at","table","first","row","second","made","rests"]
theorem DJ:ax jR ["script","k"] (ai fi):=by constructor<;>first|rfl|decide +kernel
abbrev Nc_law_parts_0:List Str:=["script","k","sizes","known","place","at","table","first","row","second","made","rests","x"]
theorem kZ:Nc_law_parts_0.Nodup:=by decide +kernel
abbrev Nc_law_parts_1:List Str:=["script","k","sizes","known","place","at","table","first","row","second","made","rests","box"]
theorem kY:Nc_law_parts_1.Nodup:=by decide +kernel
abbrev Nc_law_parts_2:List Str:=["script","k","sizes","known","place","at","table","first","row","second","made","rests","arrow"]
theorem kX:Nc_law_parts_2.Nodup:=by decide +kernel
def fy:Rho->R Out:=(sq (asg 2 (cal 2 cC (aC (vr 0) (aC (vr 1) aN))))
 (sq (asg 3 (cal 3 bJ (aC (vr 0) (aC (bin dm (vb 1) (kd (.int 1))) (aC (vr 2) aN)))))
 (sq (wG 4)
 (sq (bq (bW (aC (una aL (vb 3)) aN)) (tgN 5)
 (oC 4 (bin fix (vb 3) (vb 5)) (vr 5)))
 (sq (own 6 (jA aN))
 (sq (bq (fIt (vr 3)) (tgN 7)
 (sq (own 8 (jA aN))
 (sq (bq (fIt (vr 3)) (tgN 9)
 (sq (asg 10 (una im (kd (.int 1))))
 (sq (iff (tst (bin feq (bin fix (vb 7) (kd (.int 1))) (bin fix (vb 9) (kd (.int 0)))))
 (asg 10 (oF 4 (eT (aC (bin fix (vb 7) (kd (.int 0))) (aC (bin fix (vb 9) (kd (.int 1))) (aC (una ik (eLs (bn (fIt (bin fix (vb 7) (kd (.int 2)))) 1 (tgN 12) tT (bin fix (bin fix (vb 9) (kd (.int 2))) (vb 12))))) aN))))))
 nxt)
 (app 8 (vr 10)))))
 (fz 8 (app 6 (vr 8))))))
 (sq (asg 11 (eLs (bn (bW (aC (una aL (vb 2)) aN)) 1 (tgN 12) tT (oF 4 (eT (aC (vr 12) (aC (vr 12) (aC (gT (aC (bin fix (vb 2) (vb 12)) aN)) aN))))))))
 (fz 6 (ret (eT (aC (eLs (bn (fIt (vr 3)) 1 (tgN 12) tT (eT (aC (bin fix (vb 12) (kd (.int 0))) (aC (bin fix (vb 12) (kd (.int 1))) aN))))) (aC (vr 11) (aC (vr 6) (aC (vr 3) (aC (vr 2) aN)))))))))))))))
def dj (ds:List D):R D:=fin (fy (st0 jR ds))
variable (f19:Fn P w K mg base C 2 "_law_arrows" 3 bJ)
variable (f28:Fn P w K mg base C 2 "_law_sizes" 2 cC)
include T f19 f28 in
theorem n8 (F:Fun K "_law_parts" "_law_parts" fi a fd) (hm:mg "_law_parts"=some (.ref a)) (hb:Binds K fd ["script","k"] []):Fn P w K mg base C 3 "_law_parts" 2 dj :=
 ⟨a,fd,_,bc (den:=fy) F DJ (λ_ _ _ _ _ _ hr=>(aj (sS 2 DJ.nd (eA f28 hr (ac (vE 0) (ac (vE 1) ah aa) aa) aa (am aa av)))
 (aj (sS 3 DJ.nd (eA f19 hr (ac (vE 0) (ac (eR (vB 1) bI) (ac (vE 2) ah aa) bo) aa) aa (am bo (am aa av))))
 (aj (rS (i:=4) DJ.nd rfl (Or.inr rfl))
 (aj (br PassesOwn.never rfl (bD rfl T.range (ac (edl (vB 3) rfl T.len aa) ah ar) (aW ar)) (gN 5 DJ.nd)
 (ag (rR (mW hr) (pv 4) (aq (vB 3) (vB 5)) (vE 5))))
 (aj (kF (i:=6) DJ.nd rfl (Or.inl rfl) (lC ah))
 (aj (br PassesOwn.never rfl (cE (vE 3)) (gN 7 DJ.nd)
 (aj (kF (i:=8) DJ.nd rfl (Or.inl rfl) (lC ah))
 (aj (br PassesOwn.never rfl (cE (vE 3)) (gN 9 DJ.nd)
 (aj (sS 10 DJ.nd (iH bI))
 (aj (bf (iN (bp hr) (EB.of (aq (vB 7) bI)) (EB.of (aq (vB 9) bI)))
 (ag (sS 10 DJ.nd (tq (mW hr) (pv 4) (cO (ac (aq (vB 7) bI) (ac (aq (vB 9) bI) (ac (i_ (EB.of (cH (bT (N':=Nc_law_parts_0) (n:=1) rfl rfl rfl (gD 12) cL (cE (aq (vB 7) bI)) (λL cs s H fp=>(gN 12 kZ)) (λL cs s H fp=>bw) (λL cs s H fp=>(aq (EB.of (aq (vB 9) bI)) (vB 12)))))) rfl T.tuple bi (λt ha=>bN cJ rfl T.tuple boot_tuple ha (he:=bi) (hpl:=av))) ah ar) af) af)))))
 aK)
 (ag (jo (pv 8) (vE 10) (hst:=aa))))))
 (jm 8 (ag (jo (pv 6) (vE 8) (hst:=aa)))))))
 (aj (xn (kN (i:=11) (aE (i:=11) DJ.nd rfl (Or.inl rfl)) (N':=Nc_law_parts_1) (n:=1) rfl rfl rfl (gD 12) cL (bD rfl T.range (ac (edl (vB 2) rfl T.len aa) ah ar) (aW ar)) (λL cs s H fp=>(gN 12 kY)) (λL cs s H fp=>bw) (λL cs s H fp=>(tq (mW hr) (pv 4) (cO (ac (vE 12) (ac (vE 12) (ac (qj rfl (ac (aq (vB 2) (vB 12)) ah af) rfl T.range rfl T.tuple (aW af) ar (λt ha=>bN (gZ rfl) rfl T.tuple boot_tuple ha (he:=ar) (hpl:=av))) ah ar) aa) aa)))) rfl))
 (jm 6 (ag (aQ (cO (ac (cH (bT (N':=Nc_law_parts_2) (n:=1) rfl rfl rfl (gD 12) cL (cE (vE 3)) (λL cs s H fp=>(gN 12 kX)) (λL cs s H fp=>bw) (λL cs s H fp=>(cO (ac (aq (vB 12) bI) (ac (aq (vB 12) bI) ah af) af))))) (ac (vE 11) (ac (vE 6) (ac (vE 3) (ac (vE 2) ah aa) aa) aa) aa) bi))))))))))))),hm,F.kp,hb⟩
abbrev cZ:Stmt:=sAt 13
abbrev g9:List Str:=["ends","rests"]
theorem jU:ax g9 ["ends","rests"] (ai cZ):=by constructor<;>first|rfl|decide +kernel
def dA:Rho->R Out:=(sq (iff (cU (tst (chn (λi j=>decide (i<=j)) (λi j=>decide (i<=j)) (kd (.int 1)) (una aL (vb 1)) (kd (.int 6)))))
 bad
 nxt)
 (iff (cU (tst (chn (λi j=>decide (i<=j)) (λi j=>decide (i<=j)) (kd (.int 1)) (una aL (vb 0)) (kd (.int 40)))))
 bad
 nxt))
def bA (ds:List D):R D:=fin (dA (st0 g9 ds))
include T in
theorem j3 (F:Fun K "check_counts" "check_counts" cZ a fd) (hm:mg "check_counts"=some (.ref a)) (hb:Binds K fd ["ends","rests"] []):Fn P w K mg base C 1 "check_counts" 2 bA :=
 ⟨a,fd,_,bc (den:=dA) F jU (λ_ _ _ _ _ _ hr=>(aj (bf (b_ (o3 (f:=λi j=>decide (i<=j)) (g:=λi j=>decide (i<=j)) pk pk bI (EB.of (edl (vB 1) rfl T.len aa)) (EB.of (lM rfl T.most_boxes.choose_spec))))
 (ag fv)
 aK)
 (ag (bf (b_ (o3 (f:=λi j=>decide (i<=j)) (g:=λi j=>decide (i<=j)) pk pk bI (EB.of (edl (vB 0) rfl T.len aa)) (EB.of (lM rfl T.most_arrows.choose_spec))))
 (ag fv)
 aK)))),hm,F.kp,hb⟩
abbrev fZ:Stmt:=sAt 12
abbrev mf:List Str:=["number","count"]
theorem o_:ax mf ["number","count"] (ai fZ):=by constructor<;>first|rfl|decide +kernel
def gt:Rho->R Out:=(ret (chn (λi j=>decide (i<=j)) (λi j=>decide (i<j)) (kd (.int 0)) (vb 0) (vb 1)))
def bb (ds:List D):R D:=fin (gt (st0 mf ds))
include T in
theorem pU (F:Fun K "is_below" "is_below" fZ a fd) (hm:mg "is_below"=some (.ref a)) (hb:Binds K fd ["number","count"] []):Fn P w K mg base C 1 "is_below" 2 bb :=
 ⟨a,fd,_,bc (den:=gt) F o_ (λ_ _ _ _ _ _ hr=>(ag (aQ (wB (f:=λi j=>decide (i<=j)) (g:=λi j=>decide (i<j)) pk y_ bI (vB 0) (vB 1))))),hm,F.kp,hb⟩
abbrev eC:Stmt:=sAt 14
abbrev jh:List Str:=["ends","boxes","arrow","pair"]
theorem Du:ax jh ["ends","boxes"] (ai eC):=by constructor<;>first|rfl|decide +kernel
def e7:Rho->R Out:=(bq (e_ (aC (vr 0) aN)) (tg2 2 3)
 (iff (orB (tst (bin fne (una aL (vb 3)) (kd (.int 2)))) (orB (cU (tst (cal 2 bb (aC (bin fix (vb 3) (kd (.int 0))) (aC (vr 1) aN))))) (cU (tst (cal 2 bb (aC (bin fix (vb 3) (kd (.int 1))) (aC (vr 1) aN)))))))
 bad
 nxt))
def bZ (ds:List D):R D:=fin (e7 (st0 jh ds))
variable (f15:Fn P w K mg base C 1 "is_below" 2 bb)
include T f15 in
theorem mF (F:Fun K "check_ends" "check_ends" eC a fd) (hm:mg "check_ends"=some (.ref a)) (hb:Binds K fd ["ends","boxes"] []):Fn P w K mg base C 2 "check_ends" 2 bZ :=
 ⟨a,fd,_,bc (den:=e7) F Du (λ_ _ _ _ _ _ hr=>(ag (br PassesOwn.never rfl (cB rfl T.enumerate (ac (vE 0) ah aa) (aW aa)) (cr rfl (aE (i:=2) Du.nd rfl (Or.inl rfl)) (aE (i:=3) Du.nd rfl (Or.inl rfl)))
 (ag (bf (iE (eK (cD (bp hr) (EB.of (edl (vB 3) rfl T.len aa)) bI) (eK (b_ (cq (eA f15 hr (ac (aq (vB 3) bI) (ac (vE 1) ah aa) af) af (am aa av)))) (dq (b_ (cq (eA f15 hr (ac (aq (vB 3) bI) (ac (vE 1) ah aa) af) af (am aa av))))))))
 (ag fv)
 aK))))),hm,F.kp,hb⟩
abbrev dH:Stmt:=sAt 15
abbrev iA:List Str:=["ends","rests","box","rest"]
theorem Dw:ax iA ["ends","rests"] (ai dH):=by constructor<;>first|rfl|decide +kernel
def dZ:Rho->R Out:=(bq (e_ (aC (vr 1) aN)) (tg2 2 3)
 (iff (orB (cU (tst (cal 2 bb (aC (vr 3) (aC (una aL (vb 0)) aN))))) (tst (bin fne (bin fix (vb 0) (vb 3)) (eT (aC (vr 2) (aC (vr 2) aN))))))
 bad
 nxt))
def bP (ds:List D):R D:=fin (dZ (st0 iA ds))
include T f15 in
theorem lh (F:Fun K "check_rests" "check_rests" dH a fd) (hm:mg "check_rests"=some (.ref a)) (hb:Binds K fd ["ends","rests"] []):Fn P w K mg base C 2 "check_rests" 2 bP :=
 ⟨a,fd,_,bc (den:=dZ) F Dw (λ_ _ _ _ _ _ hr=>(ag (br PassesOwn.never rfl (cB rfl T.enumerate (ac (vE 1) ah aa) (aW aa)) (cr rfl (aE (i:=2) Dw.nd rfl (Or.inl rfl)) (aE (i:=3) Dw.nd rfl (Or.inl rfl)))
 (ag (bf (iE (eK (b_ (cq (eA f15 hr (ac (vE 3) (ac (edl (vB 0) rfl T.len aa) ah ar) aa) aa (am ar av)))) (dq (cD (bp hr) (EB.of (aq (vB 0) (vB 3))) (EB.of (cO (ac (vE 2) (ac (vE 2) ah aa) aa)))))))
 (ag fv)
 aK))))),hm,F.kp,hb⟩
abbrev eB:Stmt:=sAt 16
abbrev gz:List Str:=["table","arrows","one","row"]
theorem Dv:ax gz ["table","arrows"] (ai eB):=by constructor<;>first|rfl|decide +kernel
def eZ:Rho->R Out:=(sq (iff (tst (bin fne (una aL (vb 0)) (vb 1)))
 bad
 nxt)
 (bq (e_ (aC (vr 0) aN)) (tg2 2 3)
 (iff (tst (bin fne (una aL (vb 3)) (vb 1)))
 bad
 nxt)))
def bY (ds:List D):R D:=fin (eZ (st0 gz ds))
include T in
theorem mE (F:Fun K "check_form" "check_form" eB a fd) (hm:mg "check_form"=some (.ref a)) (hb:Binds K fd ["table","arrows"] []):Fn P w K mg base C 1 "check_form" 2 bY :=
 ⟨a,fd,_,bc (den:=eZ) F Dv (λ_ _ _ _ _ _ hr=>(aj (bf (cD (bp hr) (EB.of (edl (vB 0) rfl T.len aa)) (vB 1))
 (ag fv)
 aK)
 (ag (br PassesOwn.never rfl (cB rfl T.enumerate (ac (vE 0) ah aa) (aW aa)) (cr rfl (aE (i:=2) Dv.nd rfl (Or.inl rfl)) (aE (i:=3) Dv.nd rfl (Or.inl rfl)))
 (ag (bf (cD (bp hr) (EB.of (edl (vB 3) rfl T.len aa)) (vB 1))
 (ag fv)
 aK)))))),hm,F.kp,hb⟩
abbrev dI:Stmt:=sAt 18
abbrev iB:List Str:=["ends","one","other","made"]
theorem kI:ax iB ["ends","one","other","made"] (ai dI):=by constructor<;>first|rfl|decide +kernel
def d5:Rho->R Out:=(iff (tst (bin fne (bin fix (bin fix (vb 0) (vb 1)) (kd (.int 1))) (bin fix (bin fix (vb 0) (vb 2)) (kd (.int 0)))))
 (iff (tst (bin fne (vb 3) (una im (kd (.int 1)))))
 bad
 nxt)
 (iff (orB (cU (tst (cal 2 bb (aC (vr 3) (aC (una aL (vb 0)) aN))))) (tst (bin fne (bin fix (vb 0) (vb 3)) (eT (aC (bin fix (bin fix (vb 0) (vb 1)) (kd (.int 0))) (aC (bin fix (bin fix (vb 0) (vb 2)) (kd (.int 1))) aN))))))
 bad
 nxt))
def bQ (ds:List D):R D:=fin (d5 (st0 iB ds))
include T f15 in
theorem li (F:Fun K "check_entry" "check_entry" dI a fd) (hm:mg "check_entry"=some (.ref a)) (hb:Binds K fd ["ends","one","other","made"] []):Fn P w K mg base C 2 "check_entry" 4 bQ :=
 ⟨a,fd,_,bc (den:=d5) F kI (λ_ _ _ _ _ _ hr=>(ag (bf (cD (bp hr) (EB.of (aq (EB.of (aq (vB 0) (vB 1))) bI)) (EB.of (aq (EB.of (aq (vB 0) (vB 2))) bI)))
 (ag (bf (cD (bp hr) (vB 3) (EB.of (iH bI)))
 (ag fv)
 aK))
 (ag (bf (iE (eK (b_ (cq (eA f15 hr (ac (vE 3) (ac (edl (vB 0) rfl T.len aa) ah ar) aa) aa (am ar av)))) (dq (cD (bp hr) (EB.of (aq (vB 0) (vB 3))) (EB.of (cO (ac (aq (EB.of (aq (vB 0) (vB 1))) bI) (ac (aq (EB.of (aq (vB 0) (vB 2))) bI) ah af) af)))))))
 (ag fv)
 aK))))),hm,F.kp,hb⟩
abbrev dG:Stmt:=sAt 17
abbrev iy:List Str:=["ends","table","one","row","other","made"]
theorem Dx:ax iy ["ends","table"] (ai dG):=by constructor<;>first|rfl|decide +kernel
def dY:Rho->R Out:=(bq (e_ (aC (vr 1) aN)) (tg2 2 3)
 (bq (e_ (aC (vr 3) aN)) (tg2 4 5)
 (drp (cal 4 bQ (aC (vr 0) (aC (vr 2) (aC (vr 4) (aC (vr 5) aN))))))))
def bO (ds:List D):R D:=fin (dY (st0 iy ds))
variable (f7:Fn P w K mg base C 2 "check_entry" 4 bQ)
include T f7 in
theorem lg (F:Fun K "check_table" "check_table" dG a fd) (hm:mg "check_table"=some (.ref a)) (hb:Binds K fd ["ends","table"] []):Fn P w K mg base C 3 "check_table" 2 bO :=
 ⟨a,fd,_,bc (den:=dY) F Dx (λ_ _ _ _ _ _ hr=>(ag (br PassesOwn.never rfl (cB rfl T.enumerate (ac (vE 1) ah aa) (aW aa)) (cr rfl (aE (i:=2) Dx.nd rfl (Or.inl rfl)) (aE (i:=3) Dx.nd rfl (Or.inl rfl)))
 (ag (br PassesOwn.never rfl (cB rfl T.enumerate (ac (vE 3) ah aa) (aW aa)) (cr rfl (aE (i:=4) Dx.nd rfl (Or.inl rfl)) (aE (i:=5) Dx.nd rfl (Or.inl rfl)))
 (ag (kf (EB.of (eA f7 hr (ac (vE 0) (ac (vE 2) (ac (vE 4) (ac (vE 5) ah aa) aa) aa) aa) aa (am aa (am aa (am aa av)))))))))))),hm,F.kp,hb⟩
abbrev bB:Stmt:=sAt 19
abbrev dR:List Str:=["ends","rests","table","arrow","pair"]
theorem Dt:ax dR ["ends","rests","table"] (ai bB):=by constructor<;>first|rfl|decide +kernel
def bU:Rho->R Out:=(bq (e_ (aC (vr 0) aN)) (tg2 3 4)
 (iff (orB (tst (bin fne (bin fix (bin fix (vb 2) (bin fix (vb 1) (bin fix (vb 4) (kd (.int 0))))) (vb 3)) (vb 3))) (tst (bin fne (bin fix (bin fix (vb 2) (vb 3)) (bin fix (vb 1) (bin fix (vb 4) (kd (.int 1))))) (vb 3))))
 bad
 nxt))
def aV (ds:List D):R D:=fin (bU (st0 dR ds))
include T in
theorem gC (F:Fun K "check_beside_rests" "check_beside_rests" bB a fd) (hm:mg "check_beside_rests"=some (.ref a)) (hb:Binds K fd ["ends","rests","table"] []):Fn P w K mg base C 1 "check_beside_rests" 3 aV :=
 ⟨a,fd,_,bc (den:=bU) F Dt (λ_ _ _ _ _ _ hr=>(ag (br PassesOwn.never rfl (cB rfl T.enumerate (ac (vE 0) ah aa) (aW aa)) (cr rfl (aE (i:=3) Dt.nd rfl (Or.inl rfl)) (aE (i:=4) Dt.nd rfl (Or.inl rfl)))
 (ag (bf (iE (eK (cD (bp hr) (EB.of (aq (EB.of (aq (vB 2) (EB.of (aq (vB 1) (EB.of (aq (vB 4) bI)))))) (vB 3))) (vB 3)) (dq (cD (bp hr) (EB.of (aq (EB.of (aq (vB 2) (vB 3))) (EB.of (aq (vB 1) (EB.of (aq (vB 4) bI)))))) (vB 3)))))
 (ag fv)
 aK))))),hm,F.kp,hb⟩
abbrev cY:Stmt:=sAt 21
abbrev e9:List Str:=["table","one","other","made","third","later"]
theorem Dy:ax e9 ["table","one","other","made"] (ai cY):=by constructor<;>first|rfl|decide +kernel
def dz:Rho->R Out:=(bq (e_ (aC (bin fix (vb 0) (vb 2)) aN)) (tg2 4 5)
 (iff (uu (tst (bin fne (vb 5) (una im (kd (.int 1))))) (tst (bin fne (bin fix (bin fix (vb 0) (vb 3)) (vb 4)) (bin fix (bin fix (vb 0) (vb 1)) (vb 5)))))
 bad
 nxt))
def bz (ds:List D):R D:=fin (dz (st0 e9 ds))
include T in
theorem j0 (F:Fun K "check_thirds" "check_thirds" cY a fd) (hm:mg "check_thirds"=some (.ref a)) (hb:Binds K fd ["table","one","other","made"] []):Fn P w K mg base C 1 "check_thirds" 4 bz :=
 ⟨a,fd,_,bc (den:=dz) F Dy (λ_ _ _ _ _ _ hr=>(ag (br PassesOwn.never rfl (cB rfl T.enumerate (ac (aq (vB 0) (vB 2)) ah af) (aW af)) (cr rfl (aE (i:=4) Dy.nd rfl (Or.inl rfl)) (aE (i:=5) Dy.nd rfl (Or.inl rfl)))
 (ag (bf (iE (uF (cD (bp hr) (vB 5) (EB.of (iH bI))) (rJ (cD (bp hr) (EB.of (aq (EB.of (aq (vB 0) (vB 3))) (vB 4))) (EB.of (aq (EB.of (aq (vB 0) (vB 1))) (vB 5)))))))
 (ag fv)
 aK))))),hm,F.kp,hb⟩
abbrev cX:Stmt:=sAt 20
abbrev g8:List Str:=["table","one","row","other","made"]
theorem Dz:ax g8 ["table"] (ai cX):=by constructor<;>first|rfl|decide +kernel
def dw:Rho->R Out:=(bq (e_ (aC (vr 0) aN)) (tg2 1 2)
 (bq (e_ (aC (vr 2) aN)) (tg2 3 4)
 (iff (tst (bin fne (vb 4) (una im (kd (.int 1)))))
 (drp (cal 4 bz (aC (vr 0) (aC (vr 1) (aC (vr 3) (aC (vr 4) aN))))))
 nxt)))
def bx (ds:List D):R D:=fin (dw (st0 g8 ds))
variable (f11:Fn P w K mg base C 1 "check_thirds" 4 bz)
include T f11 in
theorem jZ (F:Fun K "check_threes" "check_threes" cX a fd) (hm:mg "check_threes"=some (.ref a)) (hb:Binds K fd ["table"] []):Fn P w K mg base C 2 "check_threes" 1 bx :=
 ⟨a,fd,_,bc (den:=dw) F Dz (λ_ _ _ _ _ _ hr=>(ag (br PassesOwn.never rfl (cB rfl T.enumerate (ac (vE 0) ah aa) (aW aa)) (cr rfl (aE (i:=1) Dz.nd rfl (Or.inl rfl)) (aE (i:=2) Dz.nd rfl (Or.inl rfl)))
 (ag (br PassesOwn.never rfl (cB rfl T.enumerate (ac (vE 2) ah aa) (aW aa)) (cr rfl (aE (i:=3) Dz.nd rfl (Or.inl rfl)) (aE (i:=4) Dz.nd rfl (Or.inl rfl)))
 (ag (bf (cD (bp hr) (vB 4) (EB.of (iH bI)))
 (ag (kf (EB.of (eA f11 hr (ac (vE 0) (ac (vE 1) (ac (vE 3) (ac (vE 4) ah aa) aa) aa) aa) aa (am aa (am aa (am aa av)))))))
 aK))))))),hm,F.kp,hb⟩
abbrev bg:Stmt:=yf (sAt 22) 0
abbrev dO:List Str:=["self","ends","rests","table"]
theorem kJ:ax dO ["self","ends","rests","table"] (ai bg):=by constructor<;>first|rfl|decide +kernel
abbrev Nc_Hall___init_0:List Str:=["self","ends","rests","table","row"]
theorem js:Nc_Hall___init_0.Nodup:=by decide +kernel
def gW:Rho->R D:=yJ [(cal 2 bA (aC (vr 1) (aC (vr 2) aN))),(cal 2 bZ (aC (vr 1) (aC (una aL (vb 2)) aN))),(cal 2 bP (aC (vr 1) (aC (vr 2) aN))),(cal 2 bY (aC (vr 3) (aC (una aL (vb 1)) aN))),(cal 2 bO (aC (vr 1) (aC (vr 3) aN))),(cal 3 aV (aC (vr 1) (aC (vr 2) (aC (vr 3) aN)))),(cal 1 bx (aC (vr 3) aN))] (fIt (vb 1)) (fIt (vb 2)) (bn (fIt (vr 3)) 1 (tgN 4) tT (eLs (fIt (vb 4))))
variable (f3:Fn P w K mg base C 1 "check_beside_rests" 3 aV)
variable (f5:Fn P w K mg base C 1 "check_counts" 2 bA)
variable (f6:Fn P w K mg base C 2 "check_ends" 2 bZ)
variable (f8:Fn P w K mg base C 1 "check_form" 2 bY)
variable (f9:Fn P w K mg base C 2 "check_rests" 2 bP)
variable (f10:Fn P w K mg base C 3 "check_table" 2 bO)
variable (f12:Fn P w K mg base C 2 "check_threes" 1 bx)
include T f3 f5 f6 f8 f9 f10 f12 in
theorem jF (hr:Room 3 (A.deeper (envOfC "Hall.__init__" (ai bg) s.heap.objs.size f cdv))) :
  PSs (gw CX0 P w K mg base dO "Hall.__init__" (ai bg) f cdv A outer s H E).nox (bM bg) (tCk C (gw CX0 P w K mg base dO "Hall.__init__" (ai bg) f cdv A outer s H E).nox [(cal 2 bA (aC (vr 1) (aC (vr 2) aN))),(cal 2 bZ (aC (vr 1) (aC (una aL (vb 2)) aN))),(cal 2 bP (aC (vr 1) (aC (vr 2) aN))),(cal 2 bY (aC (vr 3) (aC (una aL (vb 1)) aN))),(cal 2 bO (aC (vr 1) (aC (vr 3) aN))),(cal 3 aV (aC (vr 1) (aC (vr 2) (aC (vr 3) aN)))),(cal 1 bx (aC (vr 3) aN))] (tI C (gw CX0 P w K mg base dO "Hall.__init__" (ai bg) f cdv A outer s H E).nox (fIt (vb 1)) (fIt (vb 2)) (bn (fIt (vr 3)) 1 (tgN 4) tT (eLs (fIt (vb 4)))))) :=
 (iF (kP (EB.of (eA f5 hr (ac (vE 1) (ac (vE 2) ah aa) aa) aa (am aa av))))
 (iF (kP (EB.of (eA f6 hr (ac (vE 1) (ac (edl (vB 2) rfl T.len aa) ah ar) aa) aa (am ar av))))
 (iF (kP (EB.of (eA f9 hr (ac (vE 1) (ac (vE 2) ah aa) aa) aa (am aa av))))
 (iF (kP (EB.of (eA f8 hr (ac (vE 3) (ac (edl (vB 1) rfl T.len aa) ah ar) aa) aa (am ar av))))
 (iF (kP (EB.of (eA f10 hr (ac (vE 1) (ac (vE 3) ah aa) aa) aa (am aa av))))
 (iF (kP (EB.of (eA f3 hr (ac (vE 1) (ac (vE 2) (ac (vE 3) ah aa) aa) aa) aa (am aa (am aa av)))))
 (iF (kP (EB.of (eA f12 hr (ac (vE 3) ah aa) aa av)))
 (BQ (vf (pv 0) (fdl (vB 1) rfl T.list aa)) (vf (pv 0) (fdl (vB 2) rfl T.list aa)) (vf (pv 0) (bT (N':=Nc_Hall___init_0) (n:=1) rfl rfl rfl (gD 4) cL (cE (vE 3)) (λL cs s H fp=>(gN 4 js)) (λL cs s H fp=>bw) (λL cs s H fp=>(cH (fdl (vB 4) rfl T.list aa)))))))))))))
include T f3 f5 f6 f8 f9 f10 f12 in
theorem lj (F:Fun K "__init__" "Hall.__init__" bg a fd) (M:Mk K C a) (hb:Binds K fd ["self","ends","rests","table"] []):FnH P w K mg base C 4 gW :=
 ⟨a,fd,M,yd F kJ T.cl T.nE T.nR T.nT (λcdv A outer s H E hr=>jF cdv A outer s H E T f3 f5 f6 f8 f9 f10 f12 hr),T.hall,hb⟩
abbrev fX:Stmt:=sAt 44
abbrev l_:List Str:=["parts"]
theorem o9:ax l_ ["parts"] (ai fX):=by constructor<;>first|rfl|decide +kernel
abbrev Nc_law_hall_0:List Str:=["parts","row"]
theorem mv:Nc_law_hall_0.Nodup:=by decide +kernel
def gr:Rho->R Out:=(ret (mkH gW (aC (eLs (fIt (bin fix (vb 0) (kd (.int 0))))) (aC (eLs (fIt (bin fix (vb 0) (kd (.int 1))))) (aC (eLs (bn (fIt (bin fix (vb 0) (kd (.int 2)))) 1 (tgN 1) tT (eLs (fIt (vb 1))))) aN)))))
def cT (ds:List D):R D:=fin (gr (st0 l_ ds))
variable (f0:FnH P w K mg base C 4 gW)
include T f0 in
theorem pQ (F:Fun K "_law_hall" "_law_hall" fX a fd) (hm:mg "_law_hall"=some (.ref a)) (hb:Binds K fd ["parts"] []):Fn P w K mg base C 6 "_law_hall" 1 cT :=
 ⟨a,fd,_,bc (den:=gr) F o9 (λ_ _ _ _ _ _ hr=>(ag (aQ (yD f0 (hr.mono (by decide)) rfl (ac (cH (fdl (EB.of (aq (vB 0) bI)) rfl T.list af)) (ac (cH (fdl (EB.of (aq (vB 0) bI)) rfl T.list af)) (ac (cH (bT (N':=Nc_law_hall_0) (n:=1) rfl rfl rfl (gD 1) cL (cE (aq (vB 0) bI)) (λL cs s H fp=>(gN 1 mv)) (λL cs s H fp=>bw) (λL cs s H fp=>(cH (fdl (vB 1) rfl T.list aa))))) ah bi) ar) ar) rfl (he:=ar) (hpl:=(am ar (am bi av))))))),hm,F.kp,hb⟩
abbrev dD:Stmt:=sAt 45
abbrev ir:List Str:=["parts","box","other"]
theorem kG:ax ir ["parts","box","other"] (ai dD):=by constructor<;>first|rfl|decide +kernel
abbrev Nc_law_between_0:List Str:=["parts","box","other","arrow"]
theorem jr:Nc_law_between_0.Nodup:=by decide +kernel
def dU:Rho->R Out:=(ret (eLs (bn (bW (aC (una aL (bin fix (vb 0) (kd (.int 0)))) aN)) 1 (tgN 3) (tst (bin feq (bin fix (bin fix (vb 0) (kd (.int 0))) (vb 3)) (eT (aC (vr 1) (aC (vr 2) aN))))) (vr 3))))
def bv (ds:List D):R D:=fin (dU (st0 ir ds))
include T in
theorem ld (F:Fun K "_law_between" "_law_between" dD a fd) (hm:mg "_law_between"=some (.ref a)) (hb:Binds K fd ["parts","box","other"] []):Fn P w K mg base C 1 "_law_between" 3 bv :=
 ⟨a,fd,_,bc (den:=dU) F kG (λ_ _ _ _ _ _ hr=>(ag (aQ (cH (bT (N':=Nc_law_between_0) (n:=1) rfl rfl rfl (gD 3) cL (bD rfl T.range (ac (edl (EB.of (aq (vB 0) bI)) rfl T.len af) ah ar) (aW ar)) (λL cs s H fp=>(gN 3 jr)) (λL cs s H fp=>(sE (iN (bp hr) (EB.of (aq (EB.of (aq (vB 0) bI)) (vB 3))) (EB.of (cO (ac (vE 1) (ac (vE 2) ah aa) aa)))))) (λL cs s H fp=>(vE 3))))))),hm,F.kp,hb⟩
abbrev hE:Stmt:=sAt 47
abbrev nt:List Str:=["parts","box","things","maps","arrow","one","other"]
theorem DI:ax nt ["parts","box"] (ai hE):=by constructor<;>first|rfl|decide +kernel
abbrev Nc_law_out_0:List Str:=["parts","box","things","maps","arrow","one","6.","other"]
theorem nY:Nc_law_out_0.Nodup:=by decide +kernel
abbrev Nc_law_out_1:List Str:=["parts","box","things","maps","arrow","one","other","first"]
theorem nX:Nc_law_out_1.Nodup:=by decide +kernel
abbrev Nc_law_out_2:List Str:=["parts","box","things","maps","arrow","one","other","row"]
theorem nW:Nc_law_out_2.Nodup:=by decide +kernel
def gU:Rho->R Out:=(sq (asg 2 (eLs (bn (bW (aC (una aL (bin fix (vb 0) (kd (.int 1)))) aN)) 1 (tgN 7) tT (cal 3 bv (aC (vr 0) (aC (vr 1) (aC (vr 7) aN)))))))
 (sq (own 3 (jA aN))
 (sq (bq (bW (aC (una aL (bin fix (vb 0) (kd (.int 0)))) aN)) (tgN 4)
 (sq (asT (tg2 5 6) (bin fix (bin fix (vb 0) (kd (.int 0))) (vb 4)))
 (app 3 (eLs (bn (fIt (bin fix (vb 2) (vb 5))) 1 (tgN 7) tT (q9 (bin fix (vb 2) (vb 6)) (bin fix (bin fix (bin fix (vb 0) (kd (.int 2))) (vb 7)) (vb 4))))))))
 (fz 3 (ret (eT (aC (eLs (bn (fIt (vr 2)) 1 (tgN 7) tT (una aL (vb 7)))) (aC (vr 3) aN))))))))
def cQ (ds:List D):R D:=fin (gU (st0 nt ds))
variable (f20:Fn P w K mg base C 1 "_law_between" 3 bv)
include T f20 in
theorem qS (F:Fun K "_law_out" "_law_out" hE a fd) (hm:mg "_law_out"=some (.ref a)) (hb:Binds K fd ["parts","box"] []):Fn P w K mg base C 2 "_law_out" 2 cQ :=
 ⟨a,fd,_,bc (den:=gU) F DI (λ_ _ _ _ _ _ hr=>(aj (sS 2 DI.nd (cH (bT (N':=Nc_law_out_0) (n:=1) rfl rfl rfl (gD 7) cL (bD rfl T.range (ac (edl (EB.of (aq (vB 0) bI)) rfl T.len af) ah ar) (aW ar)) (λL cs s H fp=>(gN 7 nY)) (λL cs s H fp=>bw) (λL cs s H fp=>(eA f20 hr (ac (vE 0) (ac (vE 1) (ac (vE 7) ah aa) aa) aa) aa (am aa (am aa av)))))))
 (aj (kF (i:=3) DI.nd rfl (Or.inl rfl) (lC ah))
 (aj (br PassesOwn.never rfl (bD rfl T.range (ac (edl (EB.of (aq (vB 0) bI)) rfl T.len af) ah ar) (aW ar)) (gN 4 DI.nd)
 (aj (zx (aq (EB.of (aq (vB 0) bI)) (vB 4)) (cr rfl (aE (i:=5) DI.nd rfl (Or.inl rfl)) (aE (i:=6) DI.nd rfl (Or.inr rfl))))
 (ag (jo (pv 3) (cH (bT (N':=Nc_law_out_1) (n:=1) rfl rfl rfl (gD 7) cL (cE (aq (vB 2) (vB 5))) (λL cs s H fp=>(gN 7 nX)) (λL cs s H fp=>bw) (λL cs s H fp=>(ql (EB.of (aq (vB 2) (vB 6))) (aq (EB.of (aq (EB.of (aq (vB 0) bI)) (vB 7))) (vB 4)) af)))) (hst:=bi)))))
 (jm 3 (ag (aQ (cO (ac (cH (bT (N':=Nc_law_out_2) (n:=1) rfl rfl rfl (gD 7) cL (cE (vE 2)) (λL cs s H fp=>(gN 7 nW)) (λL cs s H fp=>bw) (λL cs s H fp=>(edl (vB 7) rfl T.len aa)))) (ac (vE 3) ah aa) bi))))))))),hm,F.kp,hb⟩
abbrev fj:Stmt:=sAt 23
abbrev jS:List Str:=["hall","box"]
theorem nG:ax jS ["hall","box"] (ai fj):=by constructor<;>first|rfl|decide +kernel
def dN:Rho->R Out:=(iff (cU (tst (cal 2 bb (aC (vr 1) (aC (una aL (una (eD 1) (vb 0))) aN)))))
 (rse 2 (fS (vb 1)))
 nxt)
def bE (ds:List D):R D:=fin (dN (st0 jS ds))
include T f15 in
theorem n9 (F:Fun K "check_box" "check_box" fj a fd) (hm:mg "check_box"=some (.ref a)) (hb:Binds K fd ["hall","box"] []):FnX P w K mg base C 2 "check_box" 2 bE :=
 ⟨a,fd,_,oH (den:=dN) F nG (λ_ _ _ _ _ _ hr=>(ag (bf (b_ (cq (eA f15 hr (ac (vE 1) (ac (edl (EB.of (dS (k:=1) (vB 0) T.cl T.nR rfl (λ_ _ _=>rfl))) rfl T.len aT) ah ar) aa) aa (am ar av))))
 (ag (uY (c:=2) T.xc2 rfl rfl rfl rfl (Bz (vB 1) (by decide)) rfl))
 aK))),hm,F.kp,hb⟩
abbrev hJ:Stmt:=sAt 24
abbrev nu:List Str:=["hall","box","other"]
theorem qK:ax nu ["hall","box","other"] (ai hJ):=by constructor<;>first|rfl|decide +kernel
abbrev Nc_between_0:List Str:=["hall","box","other","arrow","pair"]
theorem iV:Nc_between_0.Nodup:=by decide +kernel
def fo:Rho->R Out:=(sq (drp (rD 2 bE (aC (vr 0) (aC (vr 1) aN))))
 (sq (drp (rD 2 bE (aC (vr 0) (aC (vr 2) aN))))
 (ret (eLs (bn (e_ (aC (una (eD 0) (vb 0)) aN)) 2 (tg2 3 4) (tst (bin feq (vb 4) (eT (aC (vr 1) (aC (vr 2) aN))))) (vr 3))))))
def bK (ds:List D):R D:=fin (fo (st0 nu ds))
variable (f4:FnX P w K mg base C 2 "check_box" 2 bE)
include T f4 in
theorem qT (F:Fun K "between" "between" hJ a fd) (hm:mg "between"=some (.ref a)) (hb:Binds K fd ["hall","box","other"] []):FnX P w K mg base C 3 "between" 3 bK :=
 ⟨a,fd,_,oH (den:=fo) F qK (λ_ _ _ _ _ _ hr=>(aj (kf (EB.of (eX f4 hr (ac (vE 0) (ac (vE 1) ah aa) aa) aa (am aa av))))
 (aj (kf (EB.of (eX f4 hr (ac (vE 0) (ac (vE 2) ah aa) aa) aa (am aa av))))
 (ag (aQ (cH (bT (N':=Nc_between_0) (n:=2) rfl rfl rfl (B4 3) uP (cB rfl T.enumerate (ac (dS (k:=0) (vB 0) T.cl T.nE rfl (λ_ _ _=>rfl)) ah aT) (aW aT)) (λL cs s H fp=>(cr rfl (aE (i:=3) iV rfl (Or.inl rfl)) (aE (i:=4) iV rfl (Or.inl rfl)))) (λL cs s H fp=>(sE (iN (bp hr) (vB 4) (EB.of (cO (ac (vE 1) (ac (vE 2) ah aa) aa)))))) (λL cs s H fp=>(vE 3))))))))),hm,F.kp,hb⟩
abbrev d8:Stmt:=sAt 34
abbrev je:List Str:=["hall","things","arrow","pair"]
theorem DN:ax je ["hall","things","arrow"] (ai d8):=by constructor<;>first|rfl|decide +kernel
abbrev Nc_led_behind_0:List Str:=["hall","things","arrow","pair","first"]
theorem jW:Nc_led_behind_0.Nodup:=by decide +kernel
def eS:Rho->R D:=(sqK (asg 3 (bin fix (una (eD 0) (vb 0)) (vb 2)))
 (eLs (bn (fIt (bin fix (vb 1) (bin fix (vb 3) (kd (.int 0))))) 1 (tgN 4) tT (q9 (bin fix (vb 1) (bin fix (vb 3) (kd (.int 1)))) (bin fix (bin fix (una (eD 2) (vb 0)) (vb 4)) (vb 2))))))
def cI (ds:List D):R D:=eS (st0 je ds)
include T in
theorem my (F:Fun K "led_behind" "led_behind" d8 a fd) (hm:mg "led_behind"=some (.ref a)) (hb:Binds K fd ["hall","things","arrow"] []):FnK P w K mg base C 1 "led_behind" 3 (.l .s) cI :=
 ⟨a,fd,_,tD (den:=eS) F DN (λ_ _ _ _ _ _ hr=>(iO (sS 3 DN.nd (aq (EB.of (dS (k:=0) (vB 0) T.cl T.nE rfl (λ_ _ _=>rfl))) (vB 2)))
 (xm (sC (N':=Nc_led_behind_0) (n:=1) rfl rfl rfl (gD 4) (cE (aq (vB 1) (EB.of (aq (vB 3) bI)))) (λL cs s H fp=>(gN 4 jW)) (λL cs s H fp=>bw) (λL cs s H fp=>(m4 (ql (EB.of (aq (vB 1) (EB.of (aq (vB 3) bI)))) (aq (EB.of (aq (EB.of (dS (k:=2) (vB 0) T.cl T.nT rfl (λ_ _ _=>rfl))) (vB 4))) (vB 2)) af))))))),hm,F.kp,hb⟩
abbrev iP:Stmt:=sAt 33
abbrev qz:List Str:=["hall","box","things","counts","maps"]
theorem DO:ax qz ["hall","box"] (ai iP):=by constructor<;>first|rfl|decide +kernel
abbrev Nc_out_of_0:List Str:=["hall","box","things","counts","maps","other"]
theorem pD:Nc_out_of_0.Nodup:=by decide +kernel
abbrev Nc_out_of_1:List Str:=["hall","box","things","counts","maps","arrows"]
theorem pC:Nc_out_of_1.Nodup:=by decide +kernel
abbrev Nc_out_of_2:List Str:=["hall","box","things","counts","maps","arrow"]
theorem pA:Nc_out_of_2.Nodup:=by decide +kernel
def iK:Rho->R D:=(sqK (asg 2 (eLs (bn (bW (aC (una aL (una (eD 1) (vb 0))) aN)) 1 (tgN 5) tT (cal 3 bK (aC (vr 0) (aC (vr 1) (aC (vr 5) aN)))))))
 (sqK (trS 3 (.l .s) (eLs (bn (fIt (vr 2)) 1 (tgN 5) tT (una aL (vb 5)))))
 (sqK (trS 4 (.l (.l .s)) (eLs (bn (bW (aC (una aL (una (eD 0) (vb 0))) aN)) 1 (tgN 5) tT (cal 3 cI (aC (vr 0) (aC (vr 2) (aC (vr 5) aN)))))))
 (rtP 3 4 (.l .s) (.l (.l .s))))))
def cS (ds:List D):R D:=iK (st0 qz ds)
variable (f2:FnX P w K mg base C 3 "between" 3 bK)
variable (f31:FnK P w K mg base C 1 "led_behind" 3 (.l .s) cI)
include T f2 f31 in
theorem t9 (F:Fun K "out_of" "out_of" iP a fd) (hm:mg "out_of"=some (.ref a)) (hb:Binds K fd ["hall","box"] []):FnK P w K mg base C 4 "out_of" 2 (.p (.l .s) (.l (.l .s))) cS :=
 ⟨a,fd,_,tD (den:=iK) F DO (λ_ _ _ _ _ _ hr=>(iO (sS 2 DO.nd (cH (bT (N':=Nc_out_of_0) (n:=1) rfl rfl rfl (gD 5) cL (bD rfl T.range (ac (edl (EB.of (dS (k:=1) (vB 0) T.cl T.nR rfl (λ_ _ _=>rfl))) rfl T.len aT) ah ar) (aW ar)) (λL cs s H fp=>(gN 5 pD)) (λL cs s H fp=>bw) (λL cs s H fp=>(eA f2.fn hr (ac (vE 0) (ac (vE 1) (ac (vE 5) ah aa) aa) aa) aa (am aa (am aa av)))))))
 (iO (rQ (gI (i:=3) (aE (i:=3) DO.nd rfl (Or.inl rfl)) (N':=Nc_out_of_1) (n:=1) rfl rfl rfl (gD 5) (cE (vE 2)) (λL cs s H fp=>(gN 5 pC)) (λL cs s H fp=>bw) (λL cs s H fp=>(m4 (edl (vB 5) rfl T.len aa))) rfl))
 (iO (rQ (gI (i:=4) (aE (i:=4) DO.nd rfl (Or.inl rfl)) (N':=Nc_out_of_2) (n:=1) rfl rfl rfl (gD 5) (bD rfl T.range (ac (edl (EB.of (dS (k:=0) (vB 0) T.cl T.nE rfl (λ_ _ _=>rfl))) rfl T.len aT) ah ar) (aW ar)) (λL cs s H fp=>(gN 5 pA)) (λL cs s H fp=>bw) (λL cs s H fp=>(vS f31 (hr.mono (by decide)) rfl (ac (vE 0) (ac (vE 2) (ac (vE 5) ah aa) aa) aa) (he:=aa) (hpl:=(am aa (am aa av))))) rfl))
 (uU (k1:=(.l .s)) (k2:=(.l (.l .s))) (by decide) (pv 3) (pv 4)))))),hm,F.kp,hb⟩
abbrev fR:Stmt:=sAt 33
abbrev lX:List Str:=["hall","box","things"]
theorem o6:ax lX ["hall","box"] (ai fR):=by constructor<;>first|rfl|decide +kernel
abbrev Nc_out_of_x_0:List Str:=["hall","box","things","other"]
theorem mt:Nc_out_of_x_0.Nodup:=by decide +kernel
def gk:Rho->R Out:=(sq (rcS (bW (aC (una aL (una (eD 1) (vb 0))) aN)) 1 (tgN 3) (wQ 3 bK (aC (vr 0) (aC (vr 1) (aC (vr 3) aN)))))
 bad)
def dP (ds:List D):R D:=fin (gk (st0 lX ds))
include T f2 in
theorem pJ (F:Fun K "out_of" "out_of" fR a fd) (hm:mg "out_of"=some (.ref a)) (hb:Binds K fd ["hall","box"] []):FnX P w K mg base C 4 "out_of" 2 dP :=
 ⟨a,fd,_,oH (den:=gk) F o6 (λ_ _ _ _ _ _ hr=>(aj (tR (N':=Nc_out_of_x_0) (n:=1) rfl rfl rfl rfl rfl rfl (bD rfl T.range (ac (edl (EB.of (dS (k:=1) (vB 0) T.cl T.nR rfl (λ_ _ _=>rfl))) rfl T.len aT) ah ar) (aW ar)) (λL cs s H fp=>(gN 3 mt)) (λL cs s H fp=>(AO f2 (hr.mono (by decide)) rfl (ac (vE 0) (ac (vE 1) (ac (vE 3) ah aa) aa) aa) (λ_ _ z=>z) (he:=aa) (hpl:=(am aa (am aa av))))) rfl)
 xl)),hm,F.kp,hb⟩
abbrev fW:Stmt:=sAt 37
abbrev l0:List Str:=["found","due","k"]
theorem DG:ax l0 ["found","due"] (ai fW):=by constructor<;>first|rfl|decide +kernel
def gq:Rho->R Out:=(sq (iff (orB (cU (tst (una (i3 "list") (vb 0)))) (tst (bin fne (una aL (vb 0)) (una aL (vb 1)))))
 (ret (kd (.bl false)))
 nxt)
 (sq (bq (bW (aC (una aL (vb 1)) aN)) (tgN 2)
 (iff (orB (cU (tst (una (i3 "int") (bin fix (vb 0) (vb 2))))) (orB (tst (una (i3 "bool") (bin fix (vb 0) (vb 2)))) (tst (bin fne (bin fix (vb 0) (vb 2)) (bin fix (vb 1) (vb 2))))))
 (ret (kd (.bl false)))
 nxt))
 (ret (kd (.bl true)))))
def cu (ds:List D):R D:=fin (gq (st0 l0 ds))
include T in
theorem pP (F:Fun K "_law_ints" "_law_ints" fW a fd) (hm:mg "_law_ints"=some (.ref a)) (hb:Binds K fd ["found","due"] []):Fn P w K mg base C 1 "_law_ints" 2 cu :=
 ⟨a,fd,_,bc (den:=gq) F DG (λ_ _ _ _ _ _ hr=>(aj (bf (iE (eK (b_ (cq (lL T.kt_list rfl T.isinstance rfl T.list qt (vB 0) aa))) (dq (cD (bp hr) (EB.of (edl (vB 0) rfl T.len aa)) (EB.of (edl (vB 1) rfl T.len aa))))))
 (ag (aQ dn))
 aK)
 (aj (br PassesOwn.never rfl (bD rfl T.range (ac (edl (vB 1) rfl T.len aa) ah ar) (aW ar)) (gN 2 DG.nd)
 (ag (bf (iE (eK (b_ (cq (lL T.kt_int rfl T.isinstance rfl T.int yR (EB.of (aq (vB 0) (vB 2))) af))) (eK (cq (lL T.kt_bool rfl T.isinstance rfl T.bool wR (EB.of (aq (vB 0) (vB 2))) af)) (dq (cD (bp hr) (EB.of (aq (vB 0) (vB 2))) (EB.of (aq (vB 1) (vB 2))))))))
 (ag (aQ dn))
 aK)))
 (ag (aQ dn))))),hm,F.kp,hb⟩
abbrev cz:Stmt:=sAt 38
abbrev fP:List Str:=["found","due","one","other"]
theorem DH:ax fP ["found","due"] (ai cz):=by constructor<;>first|rfl|decide +kernel
def cR:Rho->R Out:=(sq (iff (orB (cU (tst (una (i3 "list") (vb 0)))) (tst (bin fne (una aL (vb 0)) (una aL (vb 1)))))
 (ret (kd (.bl false)))
 nxt)
 (sq (bq (rb (aC (vr 0) (aC (vr 1) aN))) (tg2 2 3)
 (iff (cU (tst (cal 2 cu (aC (vr 2) (aC (vr 3) aN)))))
 (ret (kd (.bl false)))
 nxt))
 (ret (kd (.bl true)))))
def ba (ds:List D):R D:=fin (cR (st0 fP ds))
variable (f23:Fn P w K mg base C 1 "_law_ints" 2 cu)
include T f23 in
theorem iX (F:Fun K "_law_lists_like" "_law_lists_like" cz a fd) (hm:mg "_law_lists_like"=some (.ref a)) (hb:Binds K fd ["found","due"] []):Fn P w K mg base C 2 "_law_lists_like" 2 ba :=
 ⟨a,fd,_,bc (den:=cR) F DH (λ_ _ _ _ _ _ hr=>(aj (bf (iE (eK (b_ (cq (lL T.kt_list rfl T.isinstance rfl T.list qt (vB 0) aa))) (dq (cD (bp hr) (EB.of (edl (vB 0) rfl T.len aa)) (EB.of (edl (vB 1) rfl T.len aa))))))
 (ag (aQ dn))
 aK)
 (aj (br PassesOwn.never rfl (vW rfl T.zip (ac (vE 0) (ac (vE 1) ah aa) aa) aa (am aa av)) (cr rfl (aE (i:=2) DH.nd rfl (Or.inl rfl)) (aE (i:=3) DH.nd rfl (Or.inl rfl)))
 (ag (bf (b_ (cq (eA f23 hr (ac (vE 2) (ac (vE 3) ah aa) aa) aa (am aa av))))
 (ag (aQ dn))
 aK)))
 (ag (aQ dn))))),hm,F.kp,hb⟩
abbrev fU:Stmt:=sAt 51
abbrev lY:List Str:=["found","due"]
theorem o7:ax lY ["found","due"] (ai fU):=by constructor<;>first|rfl|decide +kernel
def gl:Rho->R Out:=(sq (iff (orB (cU (tst (una (i3 "tuple") (vb 0)))) (tst (bin fne (una aL (vb 0)) (kd (.int 2)))))
 (ret (kd (.bl false)))
 nxt)
 (ret (wW (cal 2 cu (aC (bin fix (vb 0) (kd (.int 0))) (aC (bin fix (vb 1) (kd (.int 0))) aN))) (cal 2 ba (aC (bin fix (vb 0) (kd (.int 1))) (aC (bin fix (vb 1) (kd (.int 1))) aN))))))
def bR (ds:List D):R D:=fin (gl (st0 lY ds))
variable (f24:Fn P w K mg base C 2 "_law_lists_like" 2 ba)
include T f23 f24 in
theorem pM (F:Fun K "_law_told" "_law_told" fU a fd) (hm:mg "_law_told"=some (.ref a)) (hb:Binds K fd ["found","due"] []):Fn P w K mg base C 3 "_law_told" 2 bR :=
 ⟨a,fd,_,bc (den:=gl) F o7 (λ_ _ _ _ _ _ hr=>(aj (bf (iE (eK (b_ (cq (lL T.kt_tuple rfl T.isinstance rfl T.tuple uq (vB 0) aa))) (dq (cD (bp hr) (EB.of (edl (vB 0) rfl T.len aa)) bI))))
 (ag (aQ dn))
 aK)
 (ag (aQ (rm (eA f23 hr (ac (aq (vB 0) bI) (ac (aq (vB 1) bI) ah af) af) af (am af av)) (wA (eA f24 hr (ac (aq (vB 0) bI) (ac (aq (vB 1) bI) ah af) af) af (am af av)))))))),hm,F.kp,hb⟩
abbrev fg:Stmt:=sAt 50
abbrev jP:List Str:=["e","low","told"]
theorem DM:ax jP ["e"] (ai fg):=by constructor<;>first|rfl|decide +kernel
def iq:Rho->R Out:=(sq (asg 1 (eL (aC (una (mI [2] 0) (vb 0)) (aC (una (mI [2] 1) (vb 0)) (aC (una (mI [2] 2) (vb 0)) (aC (una (mI [2] 3) (vb 0)) aN))))))
 (sq (asg 2 (bin dm (vb 1) (eL (aC (una (mI [2] 4) (vb 0)) (aC (una (mI [2] 5) (vb 0)) (aC (una (mI [2] 6) (vb 0)) aN))))))
 (sq (iff (orB (cU (tst (una (ym [2]) (vb 0)))) (tst (bin fne (una A_ (vb 2)) (kd (.int 1)))))
 (ret (kd (.int 9)))
 nxt)
 (ret (una AB (vb 2))))))
def eI (ds:List D):R D:=fin (iq (st0 jP ds))
include T in
theorem nZ (F:Fun K "_law_which" "_law_which" fg a fd) (hm:mg "_law_which"=some (.ref a)) (hb:Binds K fd ["e"] []):FnN P w K mg base C 1 "_law_which" 1 eI :=
 ⟨a,fd,_,yK (den:=iq) F DM (λ_ _ _ _ _ hr=>(aj (sS 1 DM.nd (ci (ac (iJ (k:=0) T.xa (by decide) rfl rfl T.isinstance rfl (vB 0) aa) (ac (iJ (k:=1) T.xa (by decide) rfl rfl T.isinstance rfl (vB 0) aa) (ac (iJ (k:=2) T.xa (by decide) rfl rfl T.isinstance rfl (vB 0) aa) (ac (iJ (k:=3) T.xa (by decide) rfl rfl T.isinstance rfl (vB 0) aa) ah ar) ar) ar) ar)))
 (aj (sS 2 DM.nd (eR (vB 1) (EB.of (ci (ac (iJ (k:=4) T.xa (by decide) rfl rfl T.isinstance rfl (vB 0) aa) (ac (iJ (k:=5) T.xa (by decide) rfl rfl T.isinstance rfl (vB 0) aa) (ac (iJ (k:=6) T.xa (by decide) rfl rfl T.isinstance rfl (vB 0) aa) ah ar) ar) ar)))))
 (aj (bf (iE (eK (b_ (cq (AZ T.xa rfl T.isinstance rfl T.verr Bg (vB 0) aa))) (dq (cD (kK hr) (EB.of (yE (kK hr) (vB 2) (λho ha=>jK PySem.F.plainAttrs_list PySem.F.slot_list_count PySem.F.type_list_count (pH (kK hr)) ho ha))) bI))))
 (ag (aQ aM))
 aK)
 (ag (aQ (yC (kK hr) (vB 2) (λho ha=>jK PySem.F.plainAttrs_list PySem.F.slot_list_index PySem.F.type_list_index (pG (kK hr)) ho ha)))))))),hm,F.kp,hb⟩
abbrev fk:Stmt:=sAt 27
abbrev jT:List Str:=["numbers","count"]
theorem nH:ax jT ["numbers","count"] (ai fk):=by constructor<;>first|rfl|decide +kernel
abbrev Nc_are_below_0:List Str:=["numbers","count","number"]
theorem k_:Nc_are_below_0.Nodup:=by decide +kernel
def fA:Rho->R Out:=(ret (una ue (eLs (bn (fIt (vr 0)) 1 (tgN 2) tT (cal 2 bb (aC (vr 2) (aC (vr 1) aN)))))))
def bF (ds:List D):R D:=fin (fA (st0 jT ds))
include T f15 in
theorem n_ (F:Fun K "are_below" "are_below" fk a fd) (hm:mg "are_below"=some (.ref a)) (hb:Binds K fd ["numbers","count"] []):Fn P w K mg base C 2 "are_below" 2 bF :=
 ⟨a,fd,_,bc (den:=fA) F nH (λ_ _ _ _ _ _ hr=>(ag (aQ (wC rfl rfl T.all bi (EB.of (cH (bT (N':=Nc_are_below_0) (n:=1) rfl rfl rfl (gD 2) cL (cE (vE 0)) (λL cs s H fp=>(gN 2 k_)) (λL cs s H fp=>bw) (λL cs s H fp=>(eA f15 hr (ac (vE 2) (ac (vE 1) ah aa) aa) aa (am aa av)))))))))),hm,F.kp,hb⟩
abbrev f_:Stmt:=sAt 29
abbrev mh:List Str:=["hall","counts","maps","pair","things"]
theorem DA:ax mh ["hall","counts","maps"] (ai f_):=by constructor<;>first|rfl|decide +kernel
def gu:Rho->R Out:=(sq (iff (orB (tst (bin fne (una aL (vb 1)) (una aL (una (eD 1) (vb 0))))) (tst (bin fne (una aL (vb 2)) (una aL (una (eD 0) (vb 0))))))
 (ret (kd (.bl false)))
 nxt)
 (sq (iff (cU (tst (cal 2 bF (aC (vr 1) (aC (bin dm (kd (.int 40)) (kd (.int 1))) aN)))))
 (ret (kd (.bl false)))
 nxt)
 (sq (bq (rb (aC (una (eD 0) (vb 0)) (aC (vr 2) aN))) (tg2 3 4)
 (iff (orB (tst (bin fne (una aL (vb 4)) (bin fix (vb 1) (bin fix (vb 3) (kd (.int 0)))))) (cU (tst (cal 2 bF (aC (vr 4) (aC (bin fix (vb 1) (bin fix (vb 3) (kd (.int 1)))) aN))))))
 (ret (kd (.bl false)))
 nxt))
 (ret (kd (.bl true))))))
def dQ (ds:List D):R D:=fin (gu (st0 mh ds))
variable (f1:Fn P w K mg base C 2 "are_below" 2 bF)
include T f1 in
theorem pW (F:Fun K "has_form" "has_form" f_ a fd) (hm:mg "has_form"=some (.ref a)) (hb:Binds K fd ["hall","counts","maps"] []):Fn P w K mg base C 3 "has_form" 3 dQ :=
 ⟨a,fd,_,bc (den:=gu) F DA (λ_ _ _ _ _ _ hr=>(aj (bf (iE (eK (cD (bp hr) (EB.of (edl (vB 1) rfl T.len aa)) (EB.of (edl (EB.of (dS (k:=1) (vB 0) T.cl T.nR rfl (λ_ _ _=>rfl))) rfl T.len aT))) (dq (cD (bp hr) (EB.of (edl (vB 2) rfl T.len aa)) (EB.of (edl (EB.of (dS (k:=0) (vB 0) T.cl T.nE rfl (λ_ _ _=>rfl))) rfl T.len aT))))))
 (ag (aQ dn))
 aK)
 (aj (bf (b_ (cq (eA f1 hr (ac (vE 1) (ac (eR (EB.of (lM rfl T.most_things.choose_spec)) bI) ah bo) aa) aa (am bo av))))
 (ag (aQ dn))
 aK)
 (aj (br PassesOwn.never rfl (vW rfl T.zip (ac (dS (k:=0) (vB 0) T.cl T.nE rfl (λ_ _ _=>rfl)) (ac (vE 2) ah aa) aT) aT (am aa av)) (cr rfl (aE (i:=3) DA.nd rfl (Or.inl rfl)) (aE (i:=4) DA.nd rfl (Or.inl rfl)))
 (ag (bf (iE (eK (cD (bp hr) (EB.of (edl (vB 4) rfl T.len aa)) (EB.of (aq (vB 1) (EB.of (aq (vB 3) bI))))) (dq (b_ (cq (eA f1 hr (ac (vE 4) (ac (aq (vB 1) (EB.of (aq (vB 3) bI))) ah af) aa) aa (am af av)))))))
 (ag (aQ dn))
 aK)))
 (ag (aQ dn)))))),hm,F.kp,hb⟩
abbrev dF:Stmt:=sAt 30
abbrev iw:List Str:=["hall","counts","maps"]
theorem kH:ax iw ["hall","counts","maps"] (ai dF):=by constructor<;>first|rfl|decide +kernel
abbrev Nc_keeps_rests_0:List Str:=["hall","counts","maps","box","rest"]
theorem fF:Nc_keeps_rests_0.Nodup:=by decide +kernel
def dX:Rho->R Out:=(ret (una ue (eLs (bn (e_ (aC (una (eD 1) (vb 0)) aN)) 2 (tg2 3 4) tT (bin feq (bin fix (vb 2) (vb 4)) (eLs (wm (aC (bin fix (vb 1) (vb 3)) aN))))))))
def cw (ds:List D):R D:=fin (dX (st0 iw ds))
include T in
theorem lf (F:Fun K "keeps_rests" "keeps_rests" dF a fd) (hm:mg "keeps_rests"=some (.ref a)) (hb:Binds K fd ["hall","counts","maps"] []):Fn P w K mg base C 1 "keeps_rests" 3 cw :=
 ⟨a,fd,_,bc (den:=dX) F kH (λ_ _ _ _ _ _ hr=>(ag (aQ (wC rfl rfl T.all bi (EB.of (cH (bT (N':=Nc_keeps_rests_0) (n:=2) rfl rfl rfl (B4 3) uP (cB rfl T.enumerate (ac (dS (k:=1) (vB 0) T.cl T.nR rfl (λ_ _ _=>rfl)) ah aT) (aW aT)) (λL cs s H fp=>(cr rfl (aE (i:=3) fF rfl (Or.inl rfl)) (aE (i:=4) fF rfl (Or.inl rfl)))) (λL cs s H fp=>bw) (λL cs s H fp=>(zf (bp hr) (EB.of (aq (vB 2) (vB 4))) (EB.of (cH (AM rfl (ac (aq (vB 1) (vB 3)) ah af) rfl T.range rfl T.list (aW af))))))))))))),hm,F.kp,hb⟩
abbrev ge:Stmt:=sAt 28
abbrev mi:List Str:=["first","second"]
theorem pb:ax mi ["first","second"] (ai ge):=by constructor<;>first|rfl|decide +kernel
abbrev Nc_followed_0:List Str:=["first","second","thing"]
theorem mw:Nc_followed_0.Nodup:=by decide +kernel
def gv:Rho->R Out:=(ret (eLs (bn (fIt (vr 0)) 1 (tgN 2) tT (bin fix (vb 1) (vb 2)))))
def cx (ds:List D):R D:=fin (gv (st0 mi ds))
include T in
theorem pX (F:Fun K "followed" "followed" ge a fd) (hm:mg "followed"=some (.ref a)) (hb:Binds K fd ["first","second"] []):Fn P w K mg base C 1 "followed" 2 cx :=
 ⟨a,fd,_,bc (den:=gv) F pb (λ_ _ _ _ _ _ hr=>(ag (aQ (cH (bT (N':=Nc_followed_0) (n:=1) rfl rfl rfl (gD 2) cL (cE (vE 0)) (λL cs s H fp=>(gN 2 mw)) (λL cs s H fp=>bw) (λL cs s H fp=>(aq (vB 1) (vB 2)))))))),hm,F.kp,hb⟩
abbrev dE:Stmt:=sAt 31
abbrev iu:List Str:=["hall","maps","one","row","other","made"]
theorem DB:ax iu ["hall","maps"] (ai dE):=by constructor<;>first|rfl|decide +kernel
def dW:Rho->R Out:=(sq (bq (e_ (aC (una (eD 2) (vb 0)) aN)) (tg2 2 3)
 (bq (e_ (aC (vr 3) aN)) (tg2 4 5)
 (iff (uu (tst (bin fne (vb 5) (una im (kd (.int 1))))) (tst (bin fne (bin fix (vb 1) (vb 5)) (cal 2 cx (aC (bin fix (vb 1) (vb 2)) (aC (bin fix (vb 1) (vb 4)) aN))))))
 (ret (kd (.bl false)))
 nxt)))
 (ret (kd (.bl true))))
def cv (ds:List D):R D:=fin (dW (st0 iu ds))
variable (f13:Fn P w K mg base C 1 "followed" 2 cx)
include T f13 in
theorem le (F:Fun K "keeps_table" "keeps_table" dE a fd) (hm:mg "keeps_table"=some (.ref a)) (hb:Binds K fd ["hall","maps"] []):Fn P w K mg base C 2 "keeps_table" 2 cv :=
 ⟨a,fd,_,bc (den:=dW) F DB (λ_ _ _ _ _ _ hr=>(aj (br PassesOwn.never rfl (cB rfl T.enumerate (ac (dS (k:=2) (vB 0) T.cl T.nT rfl (λ_ _ _=>rfl)) ah aT) (aW aT)) (cr rfl (aE (i:=2) DB.nd rfl (Or.inl rfl)) (aE (i:=3) DB.nd rfl (Or.inl rfl)))
 (ag (br PassesOwn.never rfl (cB rfl T.enumerate (ac (vE 3) ah aa) (aW aa)) (cr rfl (aE (i:=4) DB.nd rfl (Or.inl rfl)) (aE (i:=5) DB.nd rfl (Or.inl rfl)))
 (ag (bf (iE (uF (cD (bp hr) (vB 5) (EB.of (iH bI))) (rJ (cD (bp hr) (EB.of (aq (vB 1) (vB 5))) (EB.of (eA f13 hr (ac (aq (vB 1) (vB 2)) (ac (aq (vB 1) (vB 4)) ah af) af) af (am af av)))))))
 (ag (aQ dn))
 aK)))))
 (ag (aQ dn)))),hm,F.kp,hb⟩
abbrev d_:Stmt:=sAt 32
abbrev jg:List Str:=["hall","counts","maps"]
theorem mn:ax jg ["hall","counts","maps"] (ai d_):=by constructor<;>first|rfl|decide +kernel
def eW:Rho->R Out:=(ret (wW (cal 3 dQ (aC (vr 0) (aC (vr 1) (aC (vr 2) aN)))) (wW (cal 3 cw (aC (vr 0) (aC (vr 1) (aC (vr 2) aN)))) (cal 2 cv (aC (vr 0) (aC (vr 2) aN))))))
def bX (ds:List D):R D:=fin (eW (st0 jg ds))
variable (f14:Fn P w K mg base C 3 "has_form" 3 dQ)
variable (f17:Fn P w K mg base C 1 "keeps_rests" 3 cw)
variable (f18:Fn P w K mg base C 2 "keeps_table" 2 cv)
include T f14 f17 f18 in
theorem mD (F:Fun K "is_reading" "is_reading" d_ a fd) (hm:mg "is_reading"=some (.ref a)) (hb:Binds K fd ["hall","counts","maps"] []):Fn P w K mg base C 4 "is_reading" 3 bX :=
 ⟨a,fd,_,bc (den:=eW) F mn (λ_ _ _ _ _ _ hr=>(ag (aQ (rm (eA f14 hr (ac (vE 0) (ac (vE 1) (ac (vE 2) ah aa) aa) aa) aa (am aa (am aa av))) (rm (eA f17 hr (ac (vE 0) (ac (vE 1) (ac (vE 2) ah aa) aa) aa) aa (am aa (am aa av))) (wA (eA f18 hr (ac (vE 0) (ac (vE 2) ah aa) aa) aa (am aa av)))))))),hm,F.kp,hb⟩
abbrev iQ:Stmt:=sAt 52
abbrev wY:List Str:=["script","parts","hall","box","due","found","which","e"]
theorem DC:ax wY ["script"] (ai iQ):=by constructor<;>first|rfl|decide +kernel
def oG:Rho->R Out:=(sq (asg 1 (cal 2 dj (aC (vr 0) (aC (kd (.int 0)) aN))))
 (sq (asg 2 (cal 1 cT (aC (vr 1) aN)))
 (sq (bq (bW (aC (una aL (bin fix (vb 1) (kd (.int 1)))) aN)) (tgN 3)
 (sq (asg 4 (cal 2 cQ (aC (vr 1) (aC (vr 3) aN))))
 (sq (trS 5 (.p (.l .s) (.l (.l .s))) (cal 2 cS (aC (vr 2) (aC (vr 3) aN))))
 (sq (iff (orB (cU (tst (flF (cal 2 bR (aC (va 5) (aC (vb 4) aN)))))) (tst (bin fnt (flF (cal 3 bX (aC (vb 2) (aC (bin fix (va 5) (kd (.int 0))) (aC (bin fix (va 5) (kd (.int 1))) aN))))) (kd (.bl true)))))
 (ret (kd (.bl false)))
 nxt)
 (sq (asO (apP 5 .s (pN 5 (pN0 5) (kd (.int 0))) (kd (.int 1))))
 (sq (asO (apP 5 .s (pN 5 (pN 5 (pN0 5) (kd (.int 1))) (kd (.int 0))) (kd (.int 1))))
 (sq (iff (cU (tst (flF (cal 2 ba (aC (eLs (fSl (bin fix (va 5) (kd (.int 1))) (oS (kd (.int 1))) oN)) (aC (eLs (fSl (bin fix (vb 4) (kd (.int 1))) (oS (kd (.int 1))) oN)) aN))))))
 (ret (kd (.bl false)))
 nxt)
 (iff (cU (tst (cal 2 bR (aC (cal 2 cS (aC (vr 2) (aC (vr 3) aN))) (aC (vr 4) aN)))))
 (ret (kd (.bl false)))
 nxt))))))))
 (sq (asg 6 (una im (kd (.int 1))))
 (sq (uO [2] 7
 (drp (rD 2 dP (aC (vr 2) (aC (bin fix (eL (aC (una im (kd (.int 1))) (aC (una aL (bin fix (vb 1) (kd (.int 1)))) (aC (bin (iI mH) (kd (.int 10)) (kd (.int 29))) aN)))) (bin (iI a_) (cal 2 aP (aC (vr 0) (aC (kd (.int 4)) aN))) (kd (.int 3)))) aN))))
 (asg 6 (cal 1 eI (aC (vr 7) aN))))
 (ret (bin feq (vb 6) (kd (.int 2)))))))))
def lN (ds:List D):R D:=fin (oG (st0 wY ds))
variable (f22:Fn P w K mg base C 6 "_law_hall" 1 cT)
variable (f26:Fn P w K mg base C 2 "_law_out" 2 cQ)
variable (f27:Fn P w K mg base C 3 "_law_parts" 2 dj)
variable (f29:Fn P w K mg base C 3 "_law_told" 2 bR)
variable (f30:FnN P w K mg base C 1 "_law_which" 1 eI)
variable (f16:Fn P w K mg base C 4 "is_reading" 3 bX)
variable (f32:FnK P w K mg base C 4 "out_of" 2 (.p (.l .s) (.l (.l .s))) cS)
variable (f33:FnX P w K mg base C 4 "out_of" 2 dP)
include T f21 f24 f22 f26 f27 f29 f30 f16 f32 f33 in
theorem wS (hr:Room 6 (A.deeper (envOfC "law" (ai iQ) s.heap.objs.size f cdv))) :
  SDs C (gw CX0 P w K mg base wY "law" (ai iQ) f cdv A outer s H E).nox (bM iQ) oG :=
 (aj (sS 1 DC.nd (eA f27 hr (ac (vE 0) (ac aM ah ao) aa) aa (am ao av)))
 (aj (sS 2 DC.nd (eA f22 hr (ac (vE 1) ah aa) aa av))
 (aj (br PassesOwn.never rfl (bD rfl T.range (ac (edl (EB.of (aq (vB 1) bI)) rfl T.len af) ah ar) (aW ar)) (gN 3 DC.nd)
 (aj (sS 4 DC.nd (eA f26 hr (ac (vE 1) (ac (vE 3) ah aa) aa) aa (am aa av)))
 (aj (zv (i:=5) DC.nd rfl (Or.inl rfl) (vS f32 (hr.mono (by decide)) rfl (ac (vE 2) (ac (vE 3) ah aa) aa) (he:=aa) (hpl:=(am aa av))))
 (aj (bf (iE (eK (b_ (cq (oB (wv f29 (hr.mono (by decide)) rfl (gx (ou (pv 5)) (gx (m8 (vB 4)) rE aa) aa) (he:=aa) (hpl:=(am aa av)))))) (dq (w6 (EB.of (oB (wv f16 (hr.mono (by decide)) rfl (gx (m8 (vB 2)) (gx (ww (ou (pv 5)) (m8 bI)) (gx (ww (ou (pv 5)) (m8 bI)) rE af) af) aa) (he:=aa) (hpl:=(am af (am af av)))))) (EB.of dn)))))
 (ag (aQ dn))
 aK)
 (aj (BA (o5 (k':=.s) (vJ (su (pv 5)) aM) (m4 aM) (hst:=ao)))
 (aj (BA (o5 (k':=.s) (vJ (vJ (su (pv 5)) aM) aM) (m4 aM) (hst:=ao)))
 (aj (bf (b_ (cq (oB (wv f24 (hr.mono (by decide)) rfl (gx (Ca (v3 (ww (ou (pv 5)) (m8 bI)) (si aM) sk)) (gx (m8 (EB.of (cH (wl (EB.of (aq (vB 4) bI)) (si aM) sk)))) rE af) af) (he:=af) (hpl:=(am af av))))))
 (ag (aQ dn))
 aK)
 (ag (bf (b_ (cq (eA f29 hr (ac (Cb (vS f32 (hr.mono (by decide)) rfl (ac (vE 2) (ac (vE 3) ah aa) aa) (he:=aa) (hpl:=(am aa av)))) (ac (vE 4) ah aa) ar) ar (am aa av))))
 (ag (aQ dn))
 aK)))))))))
 (aj (sS 6 DC.nd (iH bI))
 (aj (zu (ie:=7) T.xb.choose_spec T.xa (by decide) rfl DC.nd rfl rfl rfl rfl rfl rfl rfl
 (λpn xe=>(uV (uW (EB.of (eX f33 hr (ac (vE 2) (ac (aq (EB.of (ci (ac (iH bI) (ac (edl (EB.of (aq (vB 1) bI)) rfl T.len af) (ac (AW bI bI) ah bo) ar) qI))) (EB.of (cP (EB.of (eA f21 hr (ac (vE 0) (ac aM ah ao) aa) aa (am ao av))) bI))) ah af) aa) aa (am af av))))))
 (λev pn=>(ag (sS 6 DC.nd (A6 f30 (RoomN.mono (RoomN.mark (RoomN.of hr)) (by decide)) rfl (ac (vE 7) ah aa) (he:=aa) (hpl:=av))))))
 (ag (aQ (zf (bp hr) (vB 6) bI))))))))
end DL
namespace DL
open PySem L2 Ar
theorem gP (a b:Int):bb [.int a,.int b]=.val (.bl (decide (0<=a)&&decide (a<b))):=by
 simp only[bb,gt];show fin (ret _ [sh (.int a),sh (.int b)])=_;by_cases h:(0:Int)<=a<;>simp[h]
variable {a b:Nat}
theorem fO (h:a<b):bb [.int (a:Int),.int (b:Int)]=.val (.bl true):=by
 rw[gP];simp;exact h
variable {k i j:Nat} {x:D} {xs:List D} {U:Rho}
section
variable {en:List (Nat×Nat)} {re:List Nat} {tb:List (List Int)}
theorem j8 (h:bG en re tb):bA [aX en,aD re]=.val .non:=by
 have h1:=h.nb1;have h2:=h.nb6;have h3:=h.na1;have h4:=h.na40;simp only[bA,dA];show fin (sq _ _ [sh (aX en),sh (aD re)])=_;have a1:(1:Int)<=re.length:=by omega
 have a2:(re.length:Int)<=6:=by omega
 have a3:(1:Int)<=en.length:=by omega
 have a4:(en.length:Int)<=40:=by omega
 simp[a1,a2,a3,a4]
theorem wz (e:(en.map cN)[k]?=some x):k<en.length/\x=cN (en.getD k (0,0)):=by
 have hk:k<en.length:=by have:=(List.getElem?_eq_some_iff.mp e).1;simpa using this
 rw[dv (d:=(0,0)) hk]at e;exact⟨hk,(Option.some.inj e).symm⟩
theorem zC (e:(re.map nD)[k]?=some x):k<re.length/\x=nD (re.getD k 0):=by
 have hk:k<re.length:=by have:=(List.getElem?_eq_some_iff.mp e).1;simpa using this
 rw[dv (d:=0) hk]at e;exact⟨hk,(Option.some.inj e).symm⟩
theorem qF (e:(tb.map aw)[k]?=some x):k<tb.length/\x=aw (tb.getD k []):=by
 have hk:k<tb.length:=by have:=(List.getElem?_eq_some_iff.mp e).1;simpa using this
 rw[dv (d:=[]) hk]at e;exact⟨hk,(Option.some.inj e).symm⟩
theorem qL {r:List Int} (e:(r.map D.int)[k]?=some x):k<r.length/\x=.int (r.getD k (-1)):=by
 have hk:k<r.length:=by have:=(List.getElem?_eq_some_iff.mp e).1;simpa using this
 rw[dv (d:=-1) hk]at e;exact⟨hk,(Option.some.inj e).symm⟩
theorem keep {F:Rho->R Out} {U1:Rho} {I:Rho->Prop} (h:F U1=.val (.nx U1)) (hI:I U1):∃U2,F U1=.val (.nx U2)/\I U2:=⟨U1,h,hI⟩
theorem gj {F:Rho->R Out} (I:Rho->Prop) (step:∀(k:Nat) x U,xs[k]?=some x->I U->∃U2,F ((U.set i (sh (.int (k:Int)))).set j (sh x))=.val (.nx U2)/\I U2) (h:I U):fin (bu (tg2 i j) F (enu 0 xs) U)=.val .non:=by
 obtain⟨ρ',e,_⟩:=ln I step h;rw[e];rfl
theorem mM (h:bG en re tb):bZ [aX en,.int re.length]=.val .non:=by
 simp only[bZ,e7];show fin (bu (tg2 2 3) _ (enu 0 (en.map cN)) [sh (aX en),sh (.int re.length),none,none])=_;refine gj (λU=>∃a b,U=[sh (aX en),sh (.int re.length),a,b]) (λk x U ex hI=>?_) ⟨none,none,rfl⟩;obtain⟨a,b,rfl⟩:=hI;obtain⟨hk,rfl⟩:=wz ex;obtain⟨b1,b2⟩:=h.eb k hk;refine keep ?_ ⟨_,_,rfl⟩;simp[-List.getD_eq_getElem?_getD,fO b1,fO b2]
theorem lH (h:bG en re tb):bP [aX en,aD re]=.val .non:=by
 simp only[bP,dZ];show fin (bu (tg2 2 3) _ (enu 0 (re.map nD)) [sh (aX en),sh (aD re),none,none])=_;refine gj (λU=>∃a b,U=[sh (aX en),sh (aD re),a,b]) (λk x U ex hI=>?_) ⟨none,none,rfl⟩;obtain⟨a,b,rfl⟩:=hI;obtain⟨hk,rfl⟩:=zC ex;obtain⟨b1,b2⟩:=h.rs k hk;have e2:fne (cN (en.getD (re.getD k 0) (0,0))) (.tup [.int (k:Int),.int (k:Int)])=.val (.bl false):=by
  rw[b2];exact i0 (x:=cN (k,k)) (iS _)
 refine keep ?_ ⟨_,_,rfl⟩;simp[-List.getD_eq_getElem?_getD,fO b1,eE b1,e2]
theorem mL (h:bG en re tb):bY [az tb,.int en.length]=.val .non:=by
 simp only[bY,eZ];have ht:=h.tl;have:sq (DL.iff (tst (bin fne (una aL (vb 0)) (vb 1))) bad nxt) (bq (e_ (aC (vr 0) aN)) (tg2 2 3) (DL.iff (tst (bin fne (una aL (vb 3)) (vb 1))) bad nxt)) (st0 gz [az tb,.int en.length])=bu (tg2 2 3) (DL.iff (tst (bin fne (una aL (vb 3)) (vb 1))) bad nxt) (enu 0 (tb.map aw)) [sh (az tb),sh (.int en.length),none,none]:=by
  show sq _ _ [sh (az tb),sh (.int en.length),none,none]=_;simp[ht];rfl
 rw[this];refine gj (λU=>∃a b,U=[sh (az tb),sh (.int en.length),a,b]) (λk x U ex hI=>?_) ⟨none,none,rfl⟩;obtain⟨a,b,rfl⟩:=hI;obtain⟨hk,rfl⟩:=qF ex;have b1:=h.rl k (by omega);refine keep ?_ ⟨_,_,rfl⟩;simp[-List.getD_eq_getElem?_getD,b1]
theorem lI (h:bG en re tb) (hi:i<en.length) (hj:j<en.length):bQ [aX en,.int (i:Int),.int (j:Int),.int ((tb.getD i []).getD j (-1))]=.val .non:=by
 simp only[bQ,d5];show fin (DL.iff _ _ _ [sh (aX en),sh (.int (i:Int)),sh (.int (j:Int)),sh (.int ((tb.getD i []).getD j (-1)))])=_;by_cases e:(en.getD i (0,0)).2=(en.getD j (0,0)).1
 ·obtain⟨k,k1,k2,k3⟩:=h.tp i j hi hj e;have e2:fne (cN (en.getD k (0,0))) (.tup [nD (en.getD i (0,0)).1,nD (en.getD j (0,0)).2])=.val (.bl false):=by
   rw[k3];exact i0 (x:=cN _) (iS _)
  rw[k2];simp[-List.getD_eq_getElem?_getD,eE hi,eE hj,e,fO k1,eE k1,e2]
 ·have e1:=h.tn i j hi hj e;have e':((en.getD i (0,0)).2:Int)≠((en.getD j (0,0)).1:Int):=by omega
  rw[e1];simp[-List.getD_eq_getElem?_getD,eE hi,eE hj,e']
theorem lG (h:bG en re tb):bO [aX en,az tb]=.val .non:=by
 simp only[bO,dY];show fin (bu (tg2 2 3) _ (enu 0 (tb.map aw)) [sh (aX en),sh (az tb),none,none,none,none])=_;refine gj (λU=>∃a b c d,U=[sh (aX en),sh (az tb),a,b,c,d]) (λk x U ex hI=>?_) ⟨none,none,none,none,rfl⟩;obtain⟨a,b,c,d,rfl⟩:=hI;obtain⟨hk,rfl⟩:=qF ex;have hk':k<en.length:=by have:=h.tl;omega
 show ∃U2,bu (tg2 4 5) _ (enu 0 ((tb.getD k []).map D.int)) [sh (aX en),sh (az tb),sh (.int (k:Int)),sh (aw (tb.getD k [])),c,d]=_/\_;have:=ln (i:=4) (j:=5) (F:=drp (cal 4 bQ (aC (vr 0) (aC (vr 2) (aC (vr 4) (aC (vr 5) aN)))))) (λU=>∃c d,U=[sh (aX en),sh (az tb),sh (.int (k:Int)),sh (aw (tb.getD k [])),c,d]) (xs:=(tb.getD k []).map D.int) (λm x U ex hI=>?_) (U:=[sh (aX en),sh (az tb),sh (.int (k:Int)),sh (aw (tb.getD k [])),c,d]) ⟨c,d,rfl⟩
 ·obtain⟨ρ',e,c',d',rfl⟩:=this;exact⟨_,e,_,_,_,_,rfl⟩
 ·obtain⟨c,d,rfl⟩:=hI;obtain⟨hm,rfl⟩:=qL ex;have hm':m<en.length:=by rw[h.rl k hk']at hm;exact hm
  refine keep ?_ ⟨_,_,rfl⟩;simp[-List.getD_eq_getElem?_getD,lI h hk' hm']
theorem m9 (h:bG en re tb) (hi:i<en.length) (hj:j<en.length):(tb.getD i []).getD j (-1)=-1\/∃k:Nat,k<en.length/\(tb.getD i []).getD j (-1)=(k:Int):=by
 by_cases e:(en.getD i (0,0)).2=(en.getD j (0,0)).1
 ·obtain⟨k,k1,k2,_⟩:=h.tp i j hi hj e;exact .inr ⟨k,k1,k2⟩
 ·exact .inl (h.tn i j hi hj e)
theorem tm (h:bG en re tb) (hi:i<en.length) (hj:j<en.length) (e:(tb.getD i []).getD j (-1)=(k:Int)):(en.getD i (0,0)).2=(en.getD j (0,0)).1/\k<en.length/\en.getD k (0,0)=((en.getD i (0,0)).1,(en.getD j (0,0)).2):=by
 by_cases e0:(en.getD i (0,0)).2=(en.getD j (0,0)).1
 ·obtain⟨k',k1,k2,k3⟩:=h.tp i j hi hj e0;have:k'=k:=by rw[k2]at e;omega
  subst this;exact⟨e0,k1,k3⟩
 ·rw[h.tn i j hi hj e0]at e;omega
theorem gE (h:bG en re tb):aV [aX en,aD re,az tb]=.val .non:=by
 simp only[aV,bU];show fin (bu (tg2 3 4) _ (enu 0 (en.map cN)) [sh (aX en),sh (aD re),sh (az tb),none,none])=_;refine gj (λU=>∃a b,U=[sh (aX en),sh (aD re),sh (az tb),a,b]) (λk x U ex hI=>?_) ⟨none,none,rfl⟩;obtain⟨a,b,rfl⟩:=hI;obtain⟨hk,rfl⟩:=wz ex;obtain⟨b1,b2⟩:=h.eb k hk;have r1:=(h.rs _ b1).1;have r2:=(h.rs _ b2).1;have u1:=h.ul k hk;have u2:=h.ur k hk;have ht:=h.tl;have t1:=df (tb:=tb) (show re.getD (en.getD k (0,0)).1 0<tb.length by omega);have t2:=df (tb:=tb) (show k<tb.length by omega);have t3:=dg (r:=tb.getD (re.getD (en.getD k (0,0)).1 0) []) (i:=k) (by rw[h.rl _ r1];exact hk);have t4:=dg (r:=tb.getD k []) (i:=re.getD (en.getD k (0,0)).2 0) (by rw[h.rl _ hk];exact r2);refine keep ?_ ⟨_,_,rfl⟩;simp[-List.getD_eq_getElem?_getD,oo b1,oo b2,t1,t2,t3,t4,u1,u2]
theorem j7 (h:bG en re tb) {x:Nat} (hi:i<en.length) (hj:j<en.length) (e:(tb.getD i []).getD j (-1)=(x:Int)):bz [az tb,.int (i:Int),.int (j:Int),.int (x:Int)]=.val .non:=by
 simp only[bz,dz];have ht:=h.tl;obtain⟨_,hx,_⟩:=tm h hi hj e;have t1:=df (tb:=tb) (show i<tb.length by omega);have t2:=df (tb:=tb) (show j<tb.length by omega);have t3:=df (tb:=tb) (show x<tb.length by omega);have:∀F,bq (e_ (aC (bin fix (vb 0) (vb 2)) aN)) (tg2 4 5) F (st0 e9 [az tb,.int (i:Int),.int (j:Int),.int (x:Int)])=bu (tg2 4 5) F (enu 0 ((tb.getD j []).map D.int)) [sh (az tb),sh (.int (i:Int)),sh (.int (j:Int)),sh (.int (x:Int)),none,none]:=λF=>by
  show bq _ _ F [sh (az tb),sh (.int (i:Int)),sh (.int (j:Int)),sh (.int (x:Int)),none,none]=_;simp[-List.getD_eq_getElem?_getD,t2];rfl
 rw[this];refine gj (λU=>∃a b,U=[sh (az tb),sh (.int (i:Int)),sh (.int (j:Int)),sh (.int (x:Int)),a,b]) (λk d U ex hI=>?_) ⟨none,none,rfl⟩;obtain⟨a,b,rfl⟩:=hI;obtain⟨hk,rfl⟩:=qL ex;rw[h.rl j hj]at hk;refine keep ?_ ⟨_,_,rfl⟩;rcases m9 h hj hk with ey|⟨y,hy,ey⟩
 ·rw[ey];simp
 ·rw[ey];have as:=h.as i j k x y hi hj hk e ey;have t4:=dg (r:=tb.getD x []) (i:=k) (by rw[h.rl _ hx];exact hk);have t5:=dg (r:=tb.getD i []) (i:=y) (by rw[h.rl _ hi];exact hy);have ny:(y:Int) ≠ -1:=by omega
  simp[-List.getD_eq_getElem?_getD,t1,t3,t4,t5,as,ny]
theorem j6 (h:bG en re tb):bx [az tb]=.val .non:=by
 simp only[bx,dw];show fin (bu (tg2 1 2) _ (enu 0 (tb.map aw)) [sh (az tb),none,none,none,none])=_;refine gj (λU=>∃a b c d,U=[sh (az tb),a,b,c,d]) (λk x U ex hI=>?_) ⟨none,none,none,none,rfl⟩;obtain⟨a,b,c,d,rfl⟩:=hI;obtain⟨hk,rfl⟩:=qF ex;have hk':k<en.length:=by have:=h.tl;omega
 have:=ln (i:=3) (j:=4) (F:=DL.iff (tst (bin fne (vb 4) (una im (kd (.int 1))))) (drp (cal 4 bz (aC (vr 0) (aC (vr 1) (aC (vr 3) (aC (vr 4) aN)))))) nxt) (λU=>∃c d,U=[sh (az tb),sh (.int (k:Int)),sh (aw (tb.getD k [])),c,d]) (xs:=(tb.getD k []).map D.int) (λm x U ex hI=>?_) (U:=[sh (az tb),sh (.int (k:Int)),sh (aw (tb.getD k [])),c,d]) ⟨c,d,rfl⟩
 ·obtain⟨ρ',e,c',d',rfl⟩:=this;exact⟨_,e,_,_,_,_,rfl⟩
 ·obtain⟨c,d,rfl⟩:=hI;obtain⟨hm,rfl⟩:=qL ex;have hm':m<en.length:=by rw[h.rl k hk']at hm;exact hm
  refine keep ?_ ⟨_,_,rfl⟩;rcases m9 h hk' hm' with ey|⟨y,hy,ey⟩
  ·rw[ey];simp
  ·have:=j7 h hk' hm' ey;rw[ey];have ny:(y:Int) ≠ -1:=by omega
   simp[-List.getD_eq_getElem?_getD,this,ny]
theorem yA (h:bG en re tb):gW (ij (aX en) (aD re) (az tb))=.val (.ob (aX en) (aD re) (az tb)):=by
 have n1:=h.na40;have n2:=h.tl;have hf:bn (fIt (vr 3)) 1 (tgN 4) tT (eLs (fIt (vb 4))) (ij (aX en) (aD re) (az tb))=.val (tb.map aw):=cG (f:=aw) rfl (by omega) λr _=>rfl;unfold gW yJ;rw[hf];unfold ij;simp[-List.getD_eq_getElem?_getD,uw,j8 h,mM h,lH h,mL h,lG h,gE h,j6 h];rfl
end
theorem i7 (ns:List Int) (k:Nat):∃c:Int,aP [.scr ns,.int (k:Int)]=.val (.int c):=by
 simp only[aP,gs];have m1:∀i:Int,a_ i 65521=.val (.int (i%65521)):=λi=>dM (by decide);have m2:∀i:Int,gi i 48271=.val (.int (i*48271)):=λi=>km (by decide);have m3:∀i:Int,gi i 30103=.val (.int (i*30103)):=λi=>km (by decide);show ∃c,fin (sq _ _ [sh (.scr ns),sh (.int (k:Int)),none])=_;have t1:tst (bin (iI flt) (vb 1) (una aL (vb 0))) [sh (.scr ns),sh (.int (k:Int)),none]=.val (decide ((k:Int)<(ns.length:Int))):=Eq.trans rfl rfl;rw[aS,bH,t1,ae];by_cases h:k<ns.length
 ·have e:fix (.scr ns) (.int (k:Int))=.val (.int ns[k]):=zd (List.getElem?_eq_getElem h);refine⟨ns[k],?_⟩;rw[if_pos (decide_eq_true (Int.ofNat_lt.mpr h)),c_,bt];show fin (R.bind (R.bind (fix (.scr ns) (.int (k:Int))) _) _)=_;rw[e];rfl
 ·rw[if_neg (by rw[decide_eq_false (λz=>h (Int.ofNat_lt.mp z))];decide),gK,ae];dsimp only;have t2:tst (bin (iI fgt) (una aL (vb 0)) (kd (.int 0))) [sh (.scr ns),sh (.int (k:Int)),sh (.int 0)]=.val (decide ((0:Int)<(ns.length:Int))):=Eq.trans rfl rfl;have last:∀b:Int,ret (bin (iI a_) (bin dm (bin (iI gi) (bin (iI a_) (vb 2) (kd (.int 65521))) (kd (.int 48271))) (bin (iI gi) (vb 1) (kd (.int 30103)))) (kd (.int 65521))) [sh (.scr ns),sh (.int (k:Int)),sh (.int b)]=.val (.rt (.int ((b%65521*48271+k*30103)%65521))):=λb=>by
   have v2:vb 2 [sh (.scr ns),sh (.int (k:Int)),sh (.int b)]=.val (.int b):=Eq.trans rfl rfl;have v1:vb 1 [sh (.scr ns),sh (.int (k:Int)),sh (.int b)]=.val (.int (k:Int)):=Eq.trans rfl rfl;rw[c_,bt _ (iI a_),bt _ dm,bt _ (iI gi),bt _ (iI a_),v2,ae,fL,ae,lw,m1,ae,fL,ae,lw,m2,ae,bt _ (iI gi),v1,ae,fL,ae,lw,m3,ae,sP,ae,ae,lw,m1,ae]
  have a2:asg 2 (kd (.int 0)) [sh (.scr ns),sh (.int (k:Int)),none]=.val (.nx [sh (.scr ns),sh (.int (k:Int)),sh (.int 0)]):=Eq.trans rfl rfl;rw[aS,a2,ae];dsimp only;rw[aS,bH,t2,ae];by_cases h0:0<ns.length
  ·have e:fix (.scr ns) (.int 0)=.val (.int ns[0]):=zd (i:=0) (List.getElem?_eq_getElem h0);refine⟨(ns[0]%65521*48271+k*30103)%65521,?_⟩;rw[if_pos (decide_eq_true (show(0:Int)<(ns.length:Int)from Int.ofNat_lt.mpr h0)),d6,bt];show fin (R.bind (R.bind (fix (.scr ns) (.int 0)) _) _)=_;rw[e];show fin (ret _ [sh (.scr ns),sh (.int (k:Int)),sh (.int ns[0])])=_;rw[last];rfl
  ·refine⟨(0%65521*48271+k*30103)%65521,?_⟩;rw[if_neg (by rw[decide_eq_false (λ(z:(0:Int)<(ns.length:Int))=>h0 (Int.ofNat_lt.mp z))];decide),gK,ae];dsimp only;rw[last];rfl
theorem i5 (s:Int):∃c:Int,aH [.int s]=.val (.int c):=by
 simp only[aH,gp];have m1:∀i:Int,a_ i 2147483647=.val (.int (i%2147483647)):=λi=>dM (by decide);have m2:∀i:Int,gi i 48271=.val (.int (i*48271)):=λi=>km (by decide);show ∃c,fin (ret _ [sh (.int s)])=_;refine⟨(s*48271+11)%2147483647,?_⟩;simp[m1,m2]
theorem uS (m:Nat) (h:m=1\/m=2\/m=3\/m=4):∃sz∈szs,D.lst ((List.range m).map λ_=>D.int 1)=aD sz:=by
 rcases h with rfl|rfl|rfl|rfl
 ·exact⟨[1],by decide,rfl⟩
 ·exact⟨[1,1],by decide,rfl⟩
 ·exact⟨[1,1,1],by decide,rfl⟩
 ·exact⟨[1,1,1,1],by decide,rfl⟩
def l6:List (List Nat):=[[1,2],[2,1],[2,2],[0,2],[2],[1]]
def l5:List (List Nat):=[[1,1,2],[0,1,2],[1,2,2],[2,1,0],[2,2]]
theorem B0:∀i,i<6->l6.getD i []∈szs:=by decide
theorem B1:∀i,i<5->l5.getD i []∈szs:=by decide
theorem gS (c:Int) (m:Nat) (h:0<m):∃i:Nat,i<m/\c%(m:Int)=(i:Int):=by
 have h':(0:Int)<(m:Int):=Int.ofNat_lt.mpr h;obtain⟨i,e⟩:=Int.eq_ofNat_of_zero_le (Int.emod_nonneg c (Int.ne_of_gt h'));refine⟨i,?_,e⟩;have:=Int.emod_lt_of_pos c h';rw[e]at this;exact Int.ofNat_lt.mp this
theorem wo (ns:List Int) (k:Nat):∃sz∈szs,cC [.scr ns,.int (k:Int)]=.val (aD sz):=by
 simp only[cC,fx];obtain⟨c,hc⟩:=i7 ns k;have d4:cV c 4=.val (.int (c/4)):=sO (by decide);show ∃sz∈szs,fin (sq _ _ [sh (.scr ns),sh (.int (k:Int)),none,none])=_;have x1:asg 2 (cal 2 aP (aC (vr 0) (aC (vr 1) aN))) [sh (.scr ns),sh (.int (k:Int)),none,none]=.val (.nx [sh (.scr ns),sh (.int (k:Int)),sh (.int c),none]):=by
  rw[d6,wP];show R.bind (noex (aP [.scr ns,.int (k:Int)])) _=_;rw[hc];rfl
 have x2:asg 3 (bin (iI a_) (vb 2) (kd (.int 4))) [sh (.scr ns),sh (.int (k:Int)),sh (.int c),none]=.val (.nx [sh (.scr ns),sh (.int (k:Int)),sh (.int c),sh (.int (c%4))]):=by
  rw[d6,bt];show R.bind (a_ c 4) _=_;rw[dM (by decide)];rfl
 rw[aS,x1,ae];dsimp only;rw[aS,x2,ae];dsimp only;have ix:∀(w:Int) (m:Int),0<m->bin (iI a_) (bin (iI cV) (vb 2) (kd (.int 4))) (kd (.int m)) [sh (.scr ns),sh (.int (k:Int)),sh (.int c),sh (.int w)]=.val (.int (c/4%m)):=λw m hm=>by
  rw[bt,bt];show R.bind (cV c 4) _=_;rw[d4];show a_ (c/4) m=_;exact dM hm
 have ts:∀(w:Int) (m:Int),tst (bin feq (vb 3) (kd (.int m))) [sh (.scr ns),sh (.int (k:Int)),sh (.int c),sh (.int w)]=.val (decide (w=m)):=λw m=>by
  rw[fu,bt];show R.bind (feq (.int w) (.int m)) asB=_;rw[wg];rfl
 obtain⟨i,hi,ei⟩:=gS c 4 (by decide);have ei:c%4=(i:Int):=ei;rw[ei]
 match i,hi with
 | 0,_ =>
  obtain⟨j,hj,ej⟩:=gS (c/4) 4 (by decide);have ej:c/4%4=(j:Int):=ej;have hz:mq [.int (1+c/4%4)]=.val (rng 0 (1+j)):=by
   rw[ej];have:=fD (n:=1+j) (Nat.le_trans (Nat.add_le_add_left (Nat.le_of_lt hj) 1) (by decide));rw[Int.natCast_add]at this;exact this
  have hf:bn (bW (aC (bin dm (kd (.int 1)) (bin (iI a_) (bin (iI cV) (vb 2) (kd (.int 4))) (kd (.int 4)))) aN)) 1 (tgN 4) tT (kd (.int 1)) [sh (.scr ns),sh (.int (k:Int)),sh (.int c),sh (.int ((0:Nat):Int))]=.val ((List.range (1+j)).map λ_=>D.int 1):=by
   refine lD ?_ (Nat.le_trans (Nat.add_le_add_left (Nat.le_of_lt hj) 1) (by decide)) λk _=>rfl;rw[sQ,d7,bt,fL,ae,ix _ 4 (by decide),ae,sP,ae,lV,ae,ae,hz]
  obtain⟨sz,hs,e⟩:=uS (1+j) (by
   match j,hj with
   | 0,_=>exact .inl rfl
   | 1,_=>exact .inr (.inl rfl)
   | 2,_=>exact .inr (.inr (.inl rfl))
   | 3,_=>exact .inr (.inr (.inr rfl)))
  refine⟨sz,hs,?_⟩;rw[aS,bH,ts,ae,if_pos (by decide),c_,cF,hf,ae,ae,ae];exact congrArg R.val e
 | 1,_ =>
  obtain⟨j,hj,ej⟩:=gS (c/4) 6 (by decide);have ej:c/4%6=(j:Int):=ej;refine⟨_,B0 j hj,?_⟩;have el:eL (aC (eL (aC (kd (.int 1)) (aC (kd (.int 2)) aN))) (aC (eL (aC (kd (.int 2)) (aC (kd (.int 1)) aN))) (aC (eL (aC (kd (.int 2)) (aC (kd (.int 2)) aN))) (aC (eL (aC (kd (.int 0)) (aC (kd (.int 2)) aN))) (aC (eL (aC (kd (.int 2)) aN)) (aC (eL (aC (kd (.int 1)) aN)) aN)))))) [sh (.scr ns),sh (.int (k:Int)),sh (.int c),sh (.int ((1:Nat):Int))]=.val (.lst (l6.map aD)):=Eq.trans rfl rfl;rw[aS,bH,ts,ae,if_neg (by decide),gK,ae];dsimp only;rw[aS,bH,ts,ae,if_pos (by decide),c_,bt,el,ae,ix _ 6 (by decide),ae,ej,gO (dv (d:=[]) hj)];rfl
 | 2,_ =>
  refine⟨[3],by decide,?_⟩;rw[aS,bH,ts,ae,if_neg (by decide),gK,ae];dsimp only;rw[aS,bH,ts,ae,if_neg (by decide),gK,ae];dsimp only;rw[aS,bH,ts,ae,if_pos (by decide)];exact Eq.trans rfl rfl
 | 3,_ =>
  obtain⟨j,hj,ej⟩:=gS (c/4) 5 (by decide);have ej:c/4%5=(j:Int):=ej;refine⟨_,B1 j hj,?_⟩;have el:eL (aC (eL (aC (kd (.int 1)) (aC (kd (.int 1)) (aC (kd (.int 2)) aN)))) (aC (eL (aC (kd (.int 0)) (aC (kd (.int 1)) (aC (kd (.int 2)) aN)))) (aC (eL (aC (kd (.int 1)) (aC (kd (.int 2)) (aC (kd (.int 2)) aN)))) (aC (eL (aC (kd (.int 2)) (aC (kd (.int 1)) (aC (kd (.int 0)) aN)))) (aC (eL (aC (kd (.int 2)) (aC (kd (.int 2)) aN))) aN))))) [sh (.scr ns),sh (.int (k:Int)),sh (.int c),sh (.int ((3:Nat):Int))]=.val (.lst (l5.map aD)):=Eq.trans rfl rfl;rw[aS,bH,ts,ae,if_neg (by decide),gK,ae];dsimp only;rw[aS,bH,ts,ae,if_neg (by decide),gK,ae];dsimp only;rw[aS,bH,ts,ae,if_neg (by decide),gK,ae];dsimp only;rw[c_,bt,el,ae,ix _ 5 (by decide),ae,ej,gO (dv (d:=[]) hj)];rfl
def fJ (x:Arr):KA:=((x.1:Int),(x.2.1:Int),x.2.2.map λ(n:Nat)=>(n:Int))
theorem jv:∀l:List Nat,ip (l.map nD)=some (l.map λ(n:Nat)=>(n:Int))
 | []=>rfl
 | a::l=>by
  show(ip (l.map nD)).map _=_;rw[jv l];rfl
theorem fI (x:Arr):mG (ak x)=some (fJ x):=by
 show(ip (x.2.2.map nD)).map _=_;rw[jv];rfl
theorem lu {x y:Arr} (h:fJ x=fJ y):x=y:=by
 obtain⟨a,b,l⟩:=x;obtain⟨c,d,m⟩:=y;simp only[fJ,Prod.mk.injEq]at h;obtain⟨h1,h2,h3⟩:=h;have e3:l=m:=by
  have:∀{l m:List Nat},(l.map λ(n:Nat)=>(n:Int))=(m.map λ(n:Nat)=>(n:Int))->l=m:=by
   intro l
   induction l with
   | nil=>intro m h;cases m with
    | nil=>rfl
    | cons _ _=>simp at h
   | cons a l ih=>intro m h;cases m with
    | nil=>simp at h
    | cons b m =>
     simp only[List.map_cons,List.cons.injEq]at h;rw[ih h.2];congr 1;omega
  exact this h3
 rw[e3,show a=c by omega,show b=d by omega]
def met (kn:List Arr):List (KA×D):=kn.map λx=>(fJ x,.bl true)
theorem sy (kn:List Arr) (x:Arr):((met kn).any λp=>decide (p.1=fJ x))=decide (x∈kn):=by
 unfold met;rw[List.any_map];by_cases h:x∈kn
 ·rw[decide_eq_true h,List.any_eq_true];exact⟨x,h,by simp⟩
 ·rw[decide_eq_false h,List.any_eq_false];intro y hy;simp only[Function.comp,decide_eq_true_eq];exact λe=>h (lu e▸hy)
variable {kn:List Arr}
theorem sx {x:Arr} (h:x∉kn):lq (met kn) (fJ x) (.bl true)=met (kn++[x]):=by
 unfold lq;rw[sy,decide_eq_false h,if_neg (by decide)];unfold met;rw[List.map_append];rfl
theorem sA:∀(l acc:List Arr),(acc++l).Nodup->(acc++l).length<=100000->pY (l.map ak) (met acc)=some (met (acc++l))
 | [],acc,_,_=>by rw[List.append_nil];rfl
 | x::l,acc,nd,hl=>by
  have hx:x∉acc:=λh=>by
   rw[List.nodup_append]at nd;exact nd.2.2 x h x (by simp) rfl
  have e:acc++x::l=(acc++[x])++l:=by simp
  rw[List.map_cons];unfold pY;rw[fI];dsimp only;have hl1:(met acc).length<=100000:=by unfold met;rw[List.length_map];simp at hl;omega
  rw[if_pos hl1,sx hx,e];exact sA l (acc++[x]) (by rw[<- e];exact nd) (by rw[<- e];exact hl)
variable {d:D} {n:Nat} {kvs:List (KA×D)} {ka:KA}
section
variable (U:Rho)
@[simp] theorem tx (i:Nat):wG i U=.val (.nx (U.set i (some (.dic [])))):=Eq.trans rfl rfl
theorem jG {e:Rho->R D} (h:U[i]?=some (some (.own xs))) (he:e U=.val d) (hl:xs.length<100000):app i e U=.val (.nx (U.set i (some (.own (xs++[d]))))):=by
 unfold app;rw[h];dsimp only;rw[he,ae,if_pos (show xs.length<LIM from hl)]
theorem vV {k e:Rho->R D} (h:U[i]?=some (some (.own xs))) (hk:k U=.val (.int (n:Int))) (he:e U=.val d) (hn:n<=xs.length) (hl:xs.length<100000):ins i k e U=.val (.nx (U.set i (some (.own (xs.take n++d::xs.drop n))))):=by
 unfold ins;rw[h];dsimp only;rw[hk,ae,he,ae];dsimp only;rw[if_pos ⟨by omega,by omega,(show xs.length<LIM from hl)⟩];rfl
theorem tw {k e:Rho->R D} {kd:D} (h:U[i]?=some (some (.dic kvs))) (hk:k U=.val kd) (he:e U=.val d) (ek:mG kd=some ka) (hl:kvs.length<=100000):oC i k e U=.val (.nx (U.set i (some (.dic (lq kvs ka d))))):=by
 unfold oC;rw[he,ae,hk,iU,ae,ek];dsimp only;rw[h];dsimp only;rw[if_pos hl]
theorem tz {k:Rho->R D} {kd:D} (h:U[i]?=some (some (.dic kvs))) (hk:k U=.val kd) (ek:mG kd=some ka) (hg:qX kvs ka=some d):oF i k U=.val d:=by
 unfold oF;rw[h];dsimp only;rw[hk,ae,ek];dsimp only;rw[hg]
theorem yI {k:Rho->R D} {kd:D} (h:U[i]?=some (some (.dic kvs))) (hk:k U=.val kd) (ek:mG kd=some ka):wF i k U=.val (!(kvs.any λp=>decide (p.1=ka))):=by
 unfold wF;rw[hk,ae,h];dsimp only;rw[ek]
end
def rC (kn:List Arr) (a:Nat) (o f s m:Option Slt):Rho:=[some (.own (kn.map ak)),some (.dic (met kn)),none,sh (nD a),o,f,s,m]
abbrev lU:Rho->R Out:=DL.iff (tst (bin feq (bin fix (vb 5) (kd (.int 1))) (bin fix (vb 6) (kd (.int 0)))))
 (sq (asg 7 (eT (aC (bin fix (vb 5) (kd (.int 0))) (aC (bin fix (vb 6) (kd (.int 1))) (aC (una ik (eLs (bn (fIt (bin fix (vb 5) (kd (.int 2)))) 1 (tgN 8) tT (bin fix (bin fix (vb 6) (kd (.int 2))) (vb 8))))) aN)))))
 (DL.iff (wF 1 (vr 7))
 (sq (oC 1 (vr 7) (kd (.bl true)))
 (app 0 (vr 7)))
 nxt))
 nxt
variable {f s:Arr}
theorem Ai {sz:List Nat} (hf:Ok sz f) (hs:Ok sz s) (e:f.2.1=s.1):∀i∈f.2.2,i<s.2.2.length:=by
 obtain⟨n,m,h1,h2,h3,h4⟩:=hf;obtain⟨n',m',g1,g2,g3,g4⟩:=hs;have hm:m=n':=by rw[e]at h2;rw[h2]at g1;exact Option.some.inj g1
 intro i hi;rw[g3,<- hm];exact h4 i hi
theorem Ah {sz:List Nat} (hz:sz∈szs) (hf:Ok sz f):f.2.2.length<=3:=by
 obtain⟨n,m,h1,h2,h3,h4⟩:=hf;rw[h3];exact(g_ sz hz).2.2 n (List.mem_of_getElem? h1)
theorem Kn.few {sz kn} (hz:sz∈szs) (g:Kn sz kn):kn.length<=27 :=
 Nat.le_trans (fw g.nd λx hx=>pZ (g.ok x hx)) (o4 sz hz)
variable {src:Rho->R (List D)}
theorem tE {sz:List Nat} (hz:sz∈szs) (hf:Ok sz f) (hs:Ok sz s) (e:f.2.1=s.1) {el:Rho->R D} (h1:src U=.val (f.2.2.map nD)) (h2:∀k:Nat,el ((U++List.replicate 1 none).set i (sh (nD k)))=fix (.tup (s.2.2.map nD)) (.int (k:Int))) :
  bn src 1 (tgN i) tT el U=.val ((comp f s).2.2.map nD):=by
 have hl:=Ah hz hf;have:=cG (f:=nD) (g:=λk=>nD (s.2.2.getD k 0)) (n:=1) (i:=i) (e:=el) h1 (by omega) λk hk=>by
  rw[h2 k];exact sJ (dv (Ai hf hs e k hk))
 rw[this];simp only[comp,List.map_map];rfl
theorem qi {sz kn:List _} (hz:sz∈szs) (hk:Kn sz kn) (hf:Ok sz f) (hs:Ok sz s) (a:Nat) (o m:Option Slt) :
  ∃m',lU (rC kn a o (sh (ak f)) (sh (ak s)) m)=.val (.nx (rC (gG kn f s) a o (sh (ak f)) (sh (ak s)) m')):=by
 have few:=Kn.few hz hk;unfold gG;by_cases e:f.2.1=s.1
 ·rw[if_pos e];have hc:=tE hz hf hs e (src:=fIt (bin fix (vb 5) (kd (.int 2)))) (el:=bin fix (bin fix (vb 6) (kd (.int 2))) (vb 8)) (i:=8) (U:=rC kn a o (sh (ak f)) (sh (ak s)) m) (by simp[rC]) (λk=>by simp[rC]);refine⟨sh (ak (comp f s)),?_⟩;have ht:tst (bin feq (bin fix (vb 5) (kd (.int 1))) (bin fix (vb 6) (kd (.int 0)))) (rC kn a o (sh (ak f)) (sh (ak s)) m)=.val true:=by
   unfold rC;simp[e]
  have hv:eT (aC (bin fix (vb 5) (kd (.int 0))) (aC (bin fix (vb 6) (kd (.int 1))) (aC (una ik (eLs (bn (fIt (bin fix (vb 5) (kd (.int 2)))) 1 (tgN 8) tT (bin fix (bin fix (vb 6) (kd (.int 2))) (vb 8))))) aN))) (rC kn a o (sh (ak f)) (sh (ak s)) m)=.val (ak (comp f s)):=by
   simp only[tt,d7,ft,cF,hc];unfold rC;simp;rfl
  show DL.iff _ _ _ _=_;rw[bH,ht,ae,if_pos rfl,aS,d6,hv];show DL.iff _ _ _ (rC kn a o (sh (ak f)) (sh (ak s)) (sh (ak (comp f s))))=_;unfold mO;rw[bH,yI (kvs:=met kn) _ rfl (kd:=ak (comp f s)) rfl (fI _),sy];by_cases hin:comp f s∈kn
  ·rw[if_pos hin,decide_eq_true hin];rfl
  ·rw[if_neg hin,decide_eq_false hin];show sq _ _ _=_;rw[aS,tw (kvs:=met kn) _ rfl (kd:=ak (comp f s)) rfl (d:=.bl true) rfl (fI _) (by unfold met;rw[List.length_map];omega),sx hin];rw[ae];dsimp only;rw[jG (xs:=kn.map ak) _ rfl (d:=ak (comp f s)) rfl (by rw[List.length_map];omega)];unfold rC;rw[List.map_append];rfl
 ·rw[if_neg e];refine⟨m,?_⟩;have e':¬ ((f.2.1:Int)=(s.1:Int)):=by omega
  unfold rC;simp[e']
abbrev uT:Rho->R (List D):=fIt (eL (aC (eT (aC (bin fix (vb 0) (vb 3)) (aC (vr 4) aN))) (aC (eT (aC (vr 4) (aC (bin fix (vb 0) (vb 3)) aN))) aN)))
theorem yp {sz kn:List _} (hz:sz∈szs) (hk:Kn sz kn) {k o:Arr} (ha:kn[a]?=some k) (ho:Ok sz o) (f s m:Option Slt) :
  ∃f' s' m',bq uT (tg2 5 6) lU (rC kn a (sh (ak o)) f s m)=.val (.nx (rC (iD k kn o) a (sh (ak o)) f' s' m')):=by
 have hkk:Ok sz k:=hk.ok k (List.mem_of_getElem? ha);have hx:fix (.lst (kn.map ak)) (.int (a:Int))=.val (ak k):=gO (by rw[List.getElem?_map,ha];rfl);have hs:uT (rC kn a (sh (ak o)) f s m)=.val [.tup [ak k,ak o],.tup [ak o,ak k]]:=by
  unfold rC;simp[hx]
 obtain⟨m1,e1⟩:=qi hz hk hkk ho a (sh (ak o)) m;obtain⟨m2,e2⟩:=qi hz (kD hk hkk ho) ho hkk a (sh (ak o)) m1;refine⟨sh (ak o),sh (ak k),m2,?_⟩;rw[dL,hs,ae];unfold bu;show(lU (rC kn a (sh (ak o)) (sh (ak k)) (sh (ak o)) m)).bind _=_;rw[e1,ae];dsimp only;unfold bu;show(lU (rC (gG kn k o) a (sh (ak o)) (sh (ak o)) (sh (ak k)) m1)).bind _=_;rw[e2,ae];rfl
theorem sU {sz:List Nat} (hz:sz∈szs) {a:Nat} {k:Arr}:∀(snap:List Arr) {kn:List Arr} (hk:Kn sz kn) (ha:kn[a]?=some k) (hs:∀o∈snap,Ok sz o) (o f s m:Option Slt),
  ∃o' f' s' m',bu (tgN 4) (bq uT (tg2 5 6) lU) (snap.map ak) (rC kn a o f s m)=.val (.nx (rC (nU k kn snap) a o' f' s' m'))
 | [],kn,hk,ha,hs,o,f,s,m=>⟨o,f,s,m,rfl⟩
 | q::r,kn,hk,ha,hs,o,f,s,m=>by
  have hq:=hs q (by simp);have hkk:Ok sz k:=hk.ok k (List.mem_of_getElem? ha);obtain⟨f1,s1,m1,e1⟩:=yp hz hk ha hq f s m;obtain⟨o2,f2,s2,m2,e2⟩:=sU hz r (rK hk hkk hq) (rZ (o0 k kn q) ha) (λx hx=>hs x (by simp[hx])) (sh (ak q)) f1 s1 m1;refine⟨o2,f2,s2,m2,?_⟩;rw[List.map_cons];unfold bu;show(bq uT (tg2 5 6) lU (rC kn a (sh (ak q)) f s m)).bind _=_;rw[e1,ae];exact e2
abbrev wT:Rho->R Out:=sq (bq (fIt (eLs (fIt (vb 0)))) (tgN 4) (bq uT (tg2 5 6) lU)) (asg 3 (bin dm (vb 3) (kd (.int 1))))
abbrev wI:Rho->R Bool:=tst (bin (iI flt) (vb 3) (una aL (vb 0)))
theorem wt {sz:List Nat} (hz:sz∈szs) {k:Arr} (hk:Kn sz kn) (ha:kn[a]?=some k) (o f s m:Option Slt) :
  ∃o' f' s' m',wT (rC kn a o f s m)=.val (.nx (rC (nU k kn kn) (a+1) o' f' s' m')):=by
 obtain⟨o',f',s',m',e⟩:=sU hz kn hk ha hk.ok o f s m;refine⟨o',f',s',m',?_⟩;show sq _ _ _=_;rw[aS,dL];have:fIt (eLs (fIt (vb 0))) (rC kn a o f s m)=.val (kn.map ak):=by unfold rC;simp
 rw[this,ae,e,ae];show asg 3 _ _=_;unfold rC;simp
theorem qe {sz:List Nat} (hz:sz∈szs):∀(n a:Nat) (kn:List Arr) (o f s m:Option Slt),Kn sz kn->Cl kn a->a<=kn.length->28<=n+a ->
  ∃kn' a' o' f' s' m',whD wI wT n (rC kn a o f s m)=.val (.nx (rC kn' a' o' f' s' m'))/\Kn sz kn'/\kn <+: kn'/\Cl kn' kn'.length
 | 0,a,kn,o,f,s,m,hk,hc,hl,hn=>by have:=Kn.few hz hk;omega
 | n+1,a,kn,o,f,s,m,hk,hc,hl,hn=>by
  have hcond:wI (rC kn a o f s m)=.val (decide (a<kn.length)):=by
   unfold rC;simp
  unfold whD;rw[hcond,ae];by_cases h:a<kn.length
  ·rw[decide_eq_true h,if_pos rfl];have ha:kn[a]?=some kn[a]:=by simp[h]
   obtain⟨o',f',s',m',e⟩:=wt hz hk ha o f s m;have hkk:Ok sz kn[a]:=hk.ok _ (List.getElem_mem h);have pre:=gJ kn[a] kn kn;obtain⟨kn',a',o2,f2,s2,m2,e2,g1,g2,g3⟩:=qe hz n (a+1) (nU kn[a] kn kn) o' f' s' m' (so hkk hk hk.ok) (xK hc ha) (Nat.le_trans h pre.length_le) (by omega);rw[e,ae];exact⟨kn',a',o2,f2,s2,m2,e2,g1,pre.trans g2,g3⟩
  ·rw[decide_eq_false h];have:a=kn.length:=by omega
   subst this;exact⟨kn,kn.length,o,f,s,m,rfl,hk,List.prefix_refl _,hc⟩
theorem uh {sz kn:List _} (hz:sz∈szs) (hk:Kn sz kn):∃kn',bL (kn.map ak)=.val (.lst (kn'.map ak))/\Kn sz kn'/\kn <+: kn'/\∀x∈kn',∀y∈kn',x.2.1=y.1->comp x y∈kn':=by
 have few:=Kn.few hz hk;obtain⟨kn',a',o',f',s',m',e,g1,g2,g3⟩:=qe hz 30 0 kn none none none none hk (λi j x y hi=>absurd hi (Nat.not_lt_zero _)) (Nat.zero_le _) (by omega);refine⟨kn',?_,g1,g2,Ba g3⟩;have hm:pY (kn.map ak) []=some (met kn):=sA kn [] (by simpa using hk.nd) (by simp;omega);have h0:lx 0 2 1 [some (.own (kn.map ak)),some (.dic []),none,none,none,none,none,none]=.val (.nx [some (.own (kn.map ak)),some (.dic (met kn)),none,none,none,none,none,none]):=by
  show(match pY (kn.map ak) []with|some kvs'=>_|none=>_)=_;rw[hm];rfl
 simp only[bL,eU];show fin (sq (wG 1) _ [some (.own (kn.map ak)),none,none,none,none,none,none,none])=_;rw[aS,tx,ae];show fin (sq (lx 0 2 1) _ [some (.own (kn.map ak)),some (.dic []),none,none,none,none,none,none])=_;rw[aS,h0,ae];show fin (sq (asg 3 (kd (.int 0))) _ [some (.own (kn.map ak)),some (.dic (met kn)),none,none,none,none,none,none])=_;rw[aS,d6,fL,ae,ae];show fin (sq (whD wI wT 30) _ (rC kn 0 none none none none))=_;rw[aS,e,ae];rfl
theorem xu (n:Nat):rng 0 n=(List.range n).map nD:=by
 unfold rng;apply List.map_congr_left;intro k _;simp[nD]
theorem rT (h:n<=100000):rgT [.int (n:Int)]=.val (.tup ((List.range n).map nD)):=by
 have:-(2 ^ 62)<=(n:Int)/\(n:Int)<=100000:=by constructor<;>omega
 unfold rgT;dsimp only;rw[if_pos this,Int.toNat_natCast,xu]
theorem v8 (x:Arr) (kn:List Arr):j5 true (ak x) (.lst (kn.map ak))=.val (.bl (!decide (x∈kn))):=by
 have h1:eqb 8 (ak x)=true:=dJ (h9 x);have h2:(kn.map ak).all (eqb 8)=true:=by
  rw[List.all_eq_true];intro y hy;obtain⟨a,_,rfl⟩:=List.mem_map.mp hy;exact dJ (h9 a)
 unfold j5;dsimp only;rw[if_pos ⟨h1,h2⟩];have:((kn.map ak).any λy=>pyq 8 y (ak x))=decide (x∈kn):=by
  rw[List.any_map];by_cases h:x∈kn
  ·rw[decide_eq_true h,List.any_eq_true];exact⟨x,h,(hV 8 (h9 x) (h9 x)).mpr rfl⟩
  ·rw[decide_eq_false h,List.any_eq_false];intro y hy e;exact h (arrD_inj.mp ((hV 8 (h9 y) (h9 x)).mp e)▸hy)
 rw[this];rfl
theorem tO:∀sz∈szs,∀a,a<sz.length->∀b,b<sz.length->sz.getD a 0=3->sz.getD b 0=3:=by decide +kernel
theorem ib {sz:List Nat} (h:i<sz.length):fix (aD sz) (.int (i:Int))=.val (.int ((sz.getD i 0:Nat):Int)):=oo h
theorem AE {sz:List Nat} (h:b<sz.length):Ok sz (idm sz b):=by
 refine⟨sz[b],sz[b],by simp[idm,h],by simp[idm,h],?_,λy hy=>?_⟩
 ·simp[idm,h]
 ·simp[idm,h]at hy;exact hy
theorem AC (sz:List Nat):Kn sz ((List.range sz.length).map (idm sz)):=by
 refine⟨?_,λx hx=>?_⟩
 ·unfold List.Nodup;rw[List.pairwise_map];exact List.nodup_range.imp λ{a b} h e=>h (by simpa[idm]using congrArg (·.1) e)
 ·obtain⟨b,hb,rfl⟩:=List.mem_map.mp hx;exact AE (List.mem_range.mp hb)
def rA (ns:List Int) (k:Nat) (sz:List Nat) (known:Slt) (st:Int) (a5 a6 a7 a8 a9 a10 a11:Option Slt):Rho:=[sh (.scr ns),sh (nD k),sh (aD sz),some known,sh (.int st),a5,a6,a7,a8,a9,a10,a11]
variable {o:Nat} {known:Slt} {st s1:Int} {l:List Nat} {a5 a10 a11 a9 a6 a7 a8:Option Slt}
section
variable {ns:List Int} {k:Nat} {sz:List Nat}
abbrev u3:Rho->R Out:=sq (asg 4 (cal 1 aH (aC (vr 4) aN)))
 (DL.iff (tst (bin feq (bin fix (vb 2) (vb 6)) (kd (.int 3))))
 (ins 8 (bin (iI a_) (bin (iI cV) (vb 4) (kd (.int 64))) (bin dm (vb 9) (kd (.int 1)))) (vr 9))
 (app 8 (bin (iI a_) (bin (iI cV) (vb 4) (kd (.int 64))) (yH (aC (kd (.int 1)) (aC (bin fix (vb 2) (vb 7)) aN))))))
def bnd (s1 s2:Nat):Nat:=if s1=3 then 3 else max 1 s2
theorem d64 (i:Int):cV i 64=.val (.int (i/64)):=sO (by decide)
theorem yt {o1 o2 x:Nat} (h1:o1<sz.length) (h2:o2<sz.length) (hx:x<sz.getD o1 0) (hl:l.length=x) (hx3:sz.getD o1 0<=3) (hb:∀y∈l,y<bnd (sz.getD o1 0) (sz.getD o2 0)) :
  ∃(st':Int) (l':List Nat),u3 (rA ns k sz known st a5 (sh (nD o1)) (sh (nD o2)) (some (.own (l.map nD))) (sh (nD x)) a10 a11)=.val (.nx (rA ns k sz known st' a5 (sh (nD o1)) (sh (nD o2)) (some (.own (l'.map nD))) (sh (nD x)) a10 a11))/\l'.length=x+1/\∀y∈l',y<bnd (sz.getD o1 0) (sz.getD o2 0):=by
 obtain⟨st',hst⟩:=i5 st;have f1:=ib (sz:=sz) h1;have f2:=ib (sz:=sz) h2;have hA:asg 4 (cal 1 aH (aC (vr 4) aN)) (rA ns k sz known st a5 (sh (nD o1)) (sh (nD o2)) (some (.own (l.map nD))) (sh (nD x)) a10 a11)=.val (.nx (rA ns k sz known st' a5 (sh (nD o1)) (sh (nD o2)) (some (.own (l.map nD))) (sh (nD x)) a10 a11)):=by
  unfold rA;simp[hst]
 have hT:tst (bin feq (bin fix (vb 2) (vb 6)) (kd (.int 3))) (rA ns k sz known st' a5 (sh (nD o1)) (sh (nD o2)) (some (.own (l.map nD))) (sh (nD x)) a10 a11)=.val (decide (((sz.getD o1 0:Nat):Int)=3)):=by
  unfold rA;simp[-List.getD_eq_getElem?_getD,f1]
 show ∃(st':Int) (l':List Nat),sq _ _ _=_/\_;rw[aS,hA,ae];dsimp only;rw[bH,hT,ae];by_cases e3:sz.getD o1 0=3
 ·rw[if_pos (by simp[-List.getD_eq_getElem?_getD,e3])];have hm:a_ (st'/64) ((x:Int)+1)=.val (.int (st'/64%((x:Int)+1))):=dM (by omega);have p0:0<=st'/64%((x:Int)+1):=Int.emod_nonneg _ (by omega);have p1:st'/64%((x:Int)+1)<(x:Int)+1:=Int.emod_lt_of_pos _ (by omega);obtain⟨p,hp⟩:∃p:Nat,st'/64%((x:Int)+1)=(p:Int):=⟨_,(Int.toNat_of_nonneg p0).symm⟩;refine⟨st',l.take p++x::l.drop p,?_,?_,λy hy=>?_⟩
  ·rw[vV (xs:=l.map nD) (n:=p) (d:=nD x) _ rfl (by unfold rA;simp[d64,hm,hp]) rfl (by rw[List.length_map];omega) (by rw[List.length_map];omega)];unfold rA;simp
  ·rw[List.length_append,List.length_cons,List.length_take,List.length_drop];omega
  ·unfold bnd;rw[if_pos e3];rcases List.mem_append.mp hy with q|q
   ·have:=hb y (List.mem_of_mem_take q);unfold bnd at this;rw[if_pos e3]at this;exact this
   ·rcases List.mem_cons.mp q with q|q
    ·rw[q];omega
    ·have:=hb y (List.mem_of_mem_drop q);unfold bnd at this;rw[if_pos e3]at this;exact this
 ·have e3':¬ (((sz.getD o1 0:Nat):Int)=3):=by omega
  rw[if_neg (by simp[-List.getD_eq_getElem?_getD];exact e3')];have hmx:(if((sz.getD o2 0:Nat):Int)>1 then((sz.getD o2 0:Nat):Int)else 1)=((max 1 (sz.getD o2 0):Nat):Int):=by
   split<;>omega
  have hm:a_ (st'/64) ((max 1 (sz.getD o2 0):Nat):Int)=.val (.int (st'/64%((max 1 (sz.getD o2 0):Nat):Int))):=dM (by omega);have p0:0<=st'/64%((max 1 (sz.getD o2 0):Nat):Int):=Int.emod_nonneg _ (by omega);have p1:st'/64%((max 1 (sz.getD o2 0):Nat):Int)<((max 1 (sz.getD o2 0):Nat):Int):=Int.emod_lt_of_pos _ (by omega);obtain⟨p,hp⟩:∃p:Nat,st'/64%((max 1 (sz.getD o2 0):Nat):Int)=(p:Int):=⟨_,(Int.toNat_of_nonneg p0).symm⟩;refine⟨st',l++[p],?_,by rw[List.length_append,hl];rfl,λy hy=>?_⟩
  ·rw[jG (xs:=l.map nD) (d:=nD p) _ rfl (by unfold rA;simp only[bt,ft,Bo,fL,ae,yG,d7,lV,lw,List.getElem?_cons_succ,List.getElem?_cons_zero,f2,yj,d64];rw[hmx,hm,hp]) (by rw[List.length_map];omega)];unfold rA;simp
  ·rcases List.mem_append.mp hy with q|q
   ·exact hb y q
   ·rw[List.mem_singleton.mp q];unfold bnd;rw[if_neg e3];omega
theorem yq {o1 o2:Nat} (h1:o1<sz.length) (h2:o2<sz.length) (hx3:sz.getD o1 0<=3) :
  ∃(st':Int) (l:List Nat) (a9':Option Slt),bu (tgN 9) u3 (rng 0 (sz.getD o1 0)) (rA ns k sz known st a5 (sh (nD o1)) (sh (nD o2)) (some (.own [])) a9 a10 a11)=.val (.nx (rA ns k sz known st' a5 (sh (nD o1)) (sh (nD o2)) (some (.own (l.map nD))) a9' a10 a11))/\l.length=sz.getD o1 0/\∀y∈l,y<bnd (sz.getD o1 0) (sz.getD o2 0):=by
 obtain⟨ρ',e,st',l,a9',rfl,g1,g2⟩:=iY (i:=9) (n:=sz.getD o1 0) (F:=u3) (U:=rA ns k sz known st a5 (sh (nD o1)) (sh (nD o2)) (some (.own [])) a9 a10 a11) (λx U=>∃(st:Int) (l:List Nat) (a9:Option Slt),U=rA ns k sz known st a5 (sh (nD o1)) (sh (nD o2)) (some (.own (l.map nD))) a9 a10 a11/\l.length=x/\∀y∈l,y<bnd (sz.getD o1 0) (sz.getD o2 0)) (λx U hx hI=>by
  obtain⟨st,l,a9,rfl,hl,hb⟩:=hI;obtain⟨st',l',e,g1,g2⟩:=yt (ns:=ns) (k:=k) (known:=known) (st:=st) (a5:=a5) (a10:=a10) (a11:=a11) h1 h2 hx hl hx3 hb;exact⟨_,e,st',l',_,rfl,g1,g2⟩) ⟨st,[],a9,rfl,rfl,λy hy=>by cases hy⟩
 exact⟨st',l,a9',e,g1,g2⟩
abbrev qu:Rho->R Out:=sq (asg 4 (cal 1 aH (aC (vr 4) aN)))
 (sq (asg 6 (bin (iI a_) (bin (iI cV) (vb 4) (kd (.int 64))) (una aL (vb 2))))
 (sq (asg 4 (cal 1 aH (aC (vr 4) aN)))
 (sq (asg 7 (bin (iI a_) (bin (iI cV) (vb 4) (kd (.int 64))) (una aL (vb 2))))
 (sq (own 8 (jA aN))
 (sq (bq (bW (aC (bin fix (vb 2) (vb 6)) aN)) (tgN 9) u3)
 (DL.iff (orB (tst (bin feq (bin fix (vb 2) (vb 6)) (kd (.int 0)))) (tst (bin (iI fgt) (bin fix (vb 2) (vb 7)) (kd (.int 0)))))
 (DL.iff (tst (bin (j5 true) (eT (aC (vr 6) (aC (vr 7) (aC (una ik (vb 8)) aN)))) (vb 3)))
 (app 3 (eT (aC (vr 6) (aC (vr 7) (aC (una ik (vb 8)) aN)))))
 nxt)
 nxt))))))
theorem v_:aL (aD sz)=.val (.int ((sz.length:Nat):Int)):=by
 show R.val (D.int (((sz.map nD).length:Nat):Int))=_;rw[List.length_map]
theorem vH (h:aH [.int st]=.val (.int s1)):asg 4 (cal 1 aH (aC (vr 4) aN)) (rA ns k sz known st a5 a6 a7 a8 a9 a10 a11)=.val (.nx (rA ns k sz known s1 a5 a6 a7 a8 a9 a10 a11)):=by
 rw[d6,wP];show R.bind (noex (aH [.int st])) _=_;rw[h];rfl
theorem vo (q:a_ (s1/64) (sz.length:Int)=.val (.int (o:Int))):bin (iI a_) (bin (iI cV) (vb 4) (kd (.int 64))) (una aL (vb 2)) (rA ns k sz known s1 a5 a6 a7 a8 a9 a10 a11)=.val (nD o):=by
 rw[bt,bt];show R.bind (cV s1 64) _=_;rw[d64,ae,ft];show R.bind (R.bind (.val (aD sz)) aL) _=_;rw[ae,v_];exact q
theorem xE (q:a_ (s1/64) (sz.length:Int)=.val (.int (o:Int))):asg 6 (bin (iI a_) (bin (iI cV) (vb 4) (kd (.int 64))) (una aL (vb 2))) (rA ns k sz known s1 a5 a6 a7 a8 a9 a10 a11)=.val (.nx (rA ns k sz known s1 a5 (sh (nD o)) a7 a8 a9 a10 a11)):=by
 rw[d6,vo q];rfl
theorem xD (q:a_ (s1/64) (sz.length:Int)=.val (.int (o:Int))):asg 7 (bin (iI a_) (bin (iI cV) (vb 4) (kd (.int 64))) (una aL (vb 2))) (rA ns k sz known s1 a5 a6 a7 a8 a9 a10 a11)=.val (.nx (rA ns k sz known s1 a5 a6 (sh (nD o)) a8 a9 a10 a11)):=by
 rw[d6,vo q];rfl
theorem pick (st:Int) (h:1<=n):∃p:Nat,p<n/\a_ (st/64) (n:Int)=.val (.int (p:Int)):=by
 have hm:a_ (st/64) (n:Int)=.val (.int (st/64%(n:Int))):=dM (by omega);have p0:0<=st/64%(n:Int):=Int.emod_nonneg _ (by omega);have p1:st/64%(n:Int)<(n:Int):=Int.emod_lt_of_pos _ (by omega);refine⟨(st/64%(n:Int)).toNat,by omega,?_⟩;rw[hm,Int.toNat_of_nonneg p0]
theorem wu (hz:sz∈szs) (hk:Kn sz kn) (st:Int) (a5 a6 a7 a8 a9 a10 a11:Option Slt) :
  ∃(kn':List Arr) (st':Int) (b6 b7 b8 b9:Option Slt),qu (rA ns k sz (.own (kn.map ak)) st a5 a6 a7 a8 a9 a10 a11)=.val (.nx (rA ns k sz (.own (kn'.map ak)) st' a5 b6 b7 b8 b9 a10 a11))/\Kn sz kn'/\kn <+: kn':=by
 obtain⟨l1,l4,l3⟩:=g_ sz hz;have few:=Kn.few hz hk;obtain⟨s1,hs1⟩:=i5 st;obtain⟨o1,ho1,q1⟩:=pick s1 l1;obtain⟨s2,hs2⟩:=i5 s1;obtain⟨o2,ho2,q2⟩:=pick s2 l1;have g3:sz.getD o1 0<=3:=by rw[aG ho1];exact l3 _ (List.getElem_mem ho1)
 obtain⟨s3,l,a9',e,hl,hb⟩:=yq (ns:=ns) (k:=k) (sz:=sz) (known:=.own (kn.map ak)) (st:=s2) (a5:=a5) (a9:=a9) (a10:=a10) (a11:=a11) ho1 ho2 g3;have f1:=ib (sz:=sz) ho1;have f2:=ib (sz:=sz) ho2;have hr:mq [.int ((sz.getD o1 0:Nat):Int)]=.val (rng 0 (sz.getD o1 0)):=fD (by omega);have start:qu (rA ns k sz (.own (kn.map ak)) st a5 a6 a7 a8 a9 a10 a11)=DL.iff (orB (tst (bin feq (bin fix (vb 2) (vb 6)) (kd (.int 0)))) (tst (bin (iI fgt) (bin fix (vb 2) (vb 7)) (kd (.int 0)))))
   (DL.iff (tst (bin (j5 true) (eT (aC (vr 6) (aC (vr 7) (aC (una ik (vb 8)) aN)))) (vb 3)))
   (app 3 (eT (aC (vr 6) (aC (vr 7) (aC (una ik (vb 8)) aN))))) nxt) nxt (rA ns k sz (.own (kn.map ak)) s3 a5 (sh (nD o1)) (sh (nD o2)) (some (.own (l.map nD))) a9' a10 a11):=by
  have x1:asg 4 (cal 1 aH (aC (vr 4) aN)) (rA ns k sz (.own (kn.map ak)) st a5 a6 a7 a8 a9 a10 a11)=.val (.nx (rA ns k sz (.own (kn.map ak)) s1 a5 a6 a7 a8 a9 a10 a11)):=vH hs1;have x2:asg 6 (bin (iI a_) (bin (iI cV) (vb 4) (kd (.int 64))) (una aL (vb 2))) (rA ns k sz (.own (kn.map ak)) s1 a5 a6 a7 a8 a9 a10 a11)=.val (.nx (rA ns k sz (.own (kn.map ak)) s1 a5 (sh (nD o1)) a7 a8 a9 a10 a11)):=xE q1;have x3:asg 4 (cal 1 aH (aC (vr 4) aN)) (rA ns k sz (.own (kn.map ak)) s1 a5 (sh (nD o1)) a7 a8 a9 a10 a11)=.val (.nx (rA ns k sz (.own (kn.map ak)) s2 a5 (sh (nD o1)) a7 a8 a9 a10 a11)):=vH hs2;have x4:asg 7 (bin (iI a_) (bin (iI cV) (vb 4) (kd (.int 64))) (una aL (vb 2))) (rA ns k sz (.own (kn.map ak)) s2 a5 (sh (nD o1)) a7 a8 a9 a10 a11)=.val (.nx (rA ns k sz (.own (kn.map ak)) s2 a5 (sh (nD o1)) (sh (nD o2)) a8 a9 a10 a11)):=xD q2;have x5:own 8 (jA aN) (rA ns k sz (.own (kn.map ak)) s2 a5 (sh (nD o1)) (sh (nD o2)) a8 a9 a10 a11)=.val (.nx (rA ns k sz (.own (kn.map ak)) s2 a5 (sh (nD o1)) (sh (nD o2)) (some (.own [])) a9 a10 a11)):=Eq.trans rfl rfl;have x6:bq (bW (aC (bin fix (vb 2) (vb 6)) aN)) (tgN 9) u3 (rA ns k sz (.own (kn.map ak)) s2 a5 (sh (nD o1)) (sh (nD o2)) (some (.own [])) a9 a10 a11)=.val (.nx (rA ns k sz (.own (kn.map ak)) s3 a5 (sh (nD o1)) (sh (nD o2)) (some (.own (l.map nD))) a9' a10 a11)):=by
   rw[dL];have:bW (aC (bin fix (vb 2) (vb 6)) aN) (rA ns k sz (.own (kn.map ak)) s2 a5 (sh (nD o1)) (sh (nD o2)) (some (.own [])) a9 a10 a11)=.val (rng 0 (sz.getD o1 0)):=by unfold rA;simp[-List.getD_eq_getElem?_getD,f1,hr]
   rw[this,ae,e]
  show sq _ _ _=_;rw[aS,x1,ae];dsimp only;rw[aS,x2,ae];dsimp only;rw[aS,x3,ae];dsimp only;rw[aS,x4,ae];dsimp only;rw[aS,x5,ae];dsimp only;rw[aS,x6,ae]
 rw[start];have hT:orB (tst (bin feq (bin fix (vb 2) (vb 6)) (kd (.int 0)))) (tst (bin (iI fgt) (bin fix (vb 2) (vb 7)) (kd (.int 0)))) (rA ns k sz (.own (kn.map ak)) s3 a5 (sh (nD o1)) (sh (nD o2)) (some (.own (l.map nD))) a9' a10 a11)=.val (decide (sz.getD o1 0=0\/0<sz.getD o2 0)):=by
  unfold rA;by_cases z:sz.getD o1 0=0
  ·simp[-List.getD_eq_getElem?_getD,f1,z]
  ·have z':¬ (((sz.getD o1 0:Nat):Int)=0):=by omega
   simp[-List.getD_eq_getElem?_getD,f1,f2,z,z']
 rw[bH,hT,ae];by_cases hc:sz.getD o1 0=0\/0<sz.getD o2 0
 ·rw[decide_eq_true hc,if_pos rfl];have hok:Ok sz (o1,o2,l):=by
   refine⟨sz.getD o1 0,sz.getD o2 0,by rw[aG ho1];simp[ho1],by rw[aG ho2];simp[ho2],hl,λy hy=>?_⟩;have:=hb y hy;unfold bnd at this;have hy0:sz.getD o1 0≠0:=λz=>by
    rw[z]at hl;have:l=[]:=List.length_eq_zero_iff.mp hl;rw[this]at hy;cases hy
   split at this
   ·rename_i e3;have:=tO sz hz o1 ho1 o2 ho2 e3;omega
   ·rcases hc with hc|hc
    ·exact absurd hc hy0
    ·have:max 1 (sz.getD o2 0)=sz.getD o2 0:=by omega
     omega
  have hv:eT (aC (vr 6) (aC (vr 7) (aC (una ik (vb 8)) aN))) (rA ns k sz (.own (kn.map ak)) s3 a5 (sh (nD o1)) (sh (nD o2)) (some (.own (l.map nD))) a9' a10 a11)=.val (ak (o1,o2,l)):=by
   unfold rA;simp;rfl
  have hn:tst (bin (j5 true) (eT (aC (vr 6) (aC (vr 7) (aC (una ik (vb 8)) aN)))) (vb 3)) (rA ns k sz (.own (kn.map ak)) s3 a5 (sh (nD o1)) (sh (nD o2)) (some (.own (l.map nD))) a9' a10 a11)=.val (!decide ((o1,o2,l)∈kn)):=by
   rw[fu,bt,hv,ae];show((R.val (D.lst (kn.map ak))).bind λy=>j5 true (ak (o1,o2,l)) y).bind asB=_;rw[ae,v8];rfl
  rw[bH,hn,ae];refine⟨mO kn (o1,o2,l),s3,sh (nD o1),sh (nD o2),some (.own (l.map nD)),a9',?_,tJ hk hok,qw _ _⟩;unfold mO;by_cases hin:(o1,o2,l)∈kn
  ·rw[if_pos hin,decide_eq_true hin];rfl
  ·rw[if_neg hin,decide_eq_false hin];rw[if_pos (show(!false)=true from rfl)];rw[jG (xs:=kn.map ak) _ rfl hv (by rw[List.length_map];omega)];unfold rA;rw[List.map_append];rfl
 ·rw[decide_eq_false hc];exact⟨kn,s3,_,_,_,_,rfl,hk,List.prefix_refl _⟩
end
section
variable {ns:List Int} {k:Nat} {sz:List Nat}
theorem AS (hz:sz∈szs) (a3 a4 a5 a6 a7 a8 a9 a10 a11:Option Slt):bn (bW (aC (una aL (vb 2)) aN)) 1 (tgN 12) tT (eT (aC (vr 12) (aC (vr 12) (aC (gT (aC (bin fix (vb 2) (vb 12)) aN)) aN)))) [sh (.scr ns),sh (nD k),sh (aD sz),a3,a4,a5,a6,a7,a8,a9,a10,a11]=.val (((List.range sz.length).map (idm sz)).map ak):=by
 obtain⟨l1,l4,l3⟩:=g_ sz hz;have:=lD (src:=bW (aC (una aL (vb 2)) aN)) (m:=sz.length) (n:=1) (i:=12) (e:=eT (aC (vr 12) (aC (vr 12) (aC (gT (aC (bin fix (vb 2) (vb 12)) aN)) aN)))) (g:=λb=>ak (idm sz b)) (U:=[sh (.scr ns),sh (nD k),sh (aD sz),a3,a4,a5,a6,a7,a8,a9,a10,a11]) (by simp;exact fD (by omega)) (by omega) λb hb=>by
  have f1:=ib (sz:=sz) hb;have hs:sz.getD b 0<=3:=by rw[aG hb];exact l3 _ (List.getElem_mem hb)
  have:=rT (n:=sz.getD b 0) (by omega);simp[-List.getD_eq_getElem?_getD,f1,this];rfl
 rw[this,List.map_map];rfl
theorem vq {mx:List Arr} {x:Arr} {l:List Arr} (p:Nat) (h:mx.Perm l):(mx.take p++x::mx.drop p).Perm (l++[x]):=by
 have h1:(mx.take p++x::mx.drop p).Perm (x::(mx.take p++mx.drop p)):=List.perm_middle;rw[List.take_append_drop]at h1;exact h1.trans ((h.cons x).trans (List.perm_append_singleton x l).symm)
abbrev xZ:Rho->R Out:=sq (asg 4 (cal 1 aH (aC (vr 4) aN)))
 (ins 10 (bin (iI a_) (bin (iI cV) (vb 4) (kd (.int 64))) (bin dm (una aL (vb 10)) (kd (.int 1)))) (vr 11))
theorem yu {mx:List Arr} {x:Arr} (hl:mx.length<=27) (a5 a6 a7 a8 a9:Option Slt) :
  ∃(st':Int) (p:Nat),xZ (rA ns k sz known st a5 a6 a7 a8 a9 (some (.own (mx.map ak))) (sh (ak x)))=.val (.nx (rA ns k sz known st' a5 a6 a7 a8 a9 (some (.own ((mx.take p++x::mx.drop p).map ak))) (sh (ak x)))):=by
 obtain⟨s1,hs1⟩:=i5 st;obtain⟨p,hp,q⟩:=pick s1 (n:=mx.length+1) (by omega);have q':a_ (s1/64) ((mx.length:Int)+1)=.val (.int (p:Int)):=q;refine⟨s1,p,?_⟩;have x1:asg 4 (cal 1 aH (aC (vr 4) aN)) (rA ns k sz known st a5 a6 a7 a8 a9 (some (.own (mx.map ak))) (sh (ak x)))=.val (.nx (rA ns k sz known s1 a5 a6 a7 a8 a9 (some (.own (mx.map ak))) (sh (ak x)))):=by unfold rA;simp[hs1]
 show sq _ _ _=_;rw[aS,x1,ae];dsimp only;rw[vV (xs:=mx.map ak) (n:=p) (d:=ak x) _ rfl (by unfold rA;simp[d64,q']) rfl (by rw[List.length_map];omega) (by rw[List.length_map];omega)];unfold rA;simp
theorem uk (hz:sz∈szs) (ns:List Int) (k:Nat):∃kn,Good sz kn/\bJ [.scr ns,.int (k:Int),aD sz]=.val (.lst (kn.map ak)):=by
 obtain⟨l1,l4,l3⟩:=g_ sz hz;obtain⟨c1,hc1⟩:=i7 ns k;obtain⟨c2,hc2⟩:=i7 ns (k+1);obtain⟨s0,hs0⟩:=i5 (c1*1000003%2147483647+17);have hc2':aP [.scr ns,.int ((k:Int)+1)]=.val (.int c2):=hc2;have m5:a_ c2 5=.val (.int (c2%5)):=dM (by decide);have mm:gi c1 1000003=.val (.int (c1*1000003)):=km (by decide);have md:a_ (c1*1000003) 2147483647=.val (.int (c1*1000003%2147483647)):=dM (by decide);have hr:mq [.int (c2%5)]=.val (rng 0 (c2%5).toNat):=u4 (by omega) (by omega)
 let kn0:=(List.range sz.length).map (idm sz)
 have hk0:Kn sz kn0:=AC sz;obtain⟨U1,e1,kn1,st1,a5,a6,a7,a8,a9,rfl,hk1,hp1⟩:=iY (i:=5) (n:=(c2%5).toNat) (F:=qu) (U:=rA ns k sz (.own (kn0.map ak)) s0 none none none none none none none) (λ_ U=>∃(kn:List Arr) (st:Int) (a5 a6 a7 a8 a9:Option Slt),U=rA ns k sz (.own (kn.map ak)) st a5 a6 a7 a8 a9 none none/\Kn sz kn/\kn0 <+: kn) (λx U hx hI=>by
  obtain⟨kn,st,a5,a6,a7,a8,a9,rfl,hk,hp⟩:=hI;obtain⟨kn',st',b6,b7,b8,b9,e,g1,g2⟩:=wu (ns:=ns) (k:=k) hz hk st (sh (.int (x:Int))) a6 a7 a8 a9 none none;exact⟨_,e,kn',st',_,b6,b7,b8,b9,rfl,g1,hp.trans g2⟩) ⟨kn0,s0,none,none,none,none,none,rfl,hk0,List.prefix_refl _⟩
 obtain⟨kn2,hcl,hk2,hp2,hcl2⟩:=uh hz hk1;have few2:=Kn.few hz hk2;have good:Good sz kn2:=⟨hz,hk2.nd,hk2.ok,λb hb=>hp2.subset (hp1.subset (List.mem_map.mpr ⟨b,List.mem_range.mpr hb,rfl⟩)),hcl2⟩;obtain⟨U3,e3,mx,st3,a11,rfl,hperm⟩:=fG (T:=tgN 11) (F:=xZ) (xs:=kn2.map ak) (U:=rA ns k sz (.shr (.lst (kn2.map ak))) st1 a5 a6 a7 a8 a9 (some (.own [])) none) (λi U=>∃(mx:List Arr) (st:Int) (a11:Option Slt),U=rA ns k sz (.shr (.lst (kn2.map ak))) st a5 a6 a7 a8 a9 (some (.own (mx.map ak))) a11/\mx.Perm (kn2.take i)) (λi x U hx hI=>by
  obtain⟨mx,st,a11,rfl,hperm⟩:=hI;have hi:i<kn2.length:=by have:=(List.getElem?_eq_some_iff.mp hx).1;simpa using this
  have hxe:x=ak kn2[i]:=by
   rw[List.getElem?_map]at hx;simp[hi]at hx;exact hx.symm
  subst hxe;have hml:mx.length<=27:=by rw[hperm.length_eq,List.length_take];omega
  obtain⟨st',p,e⟩:=yu (ns:=ns) (k:=k) (sz:=sz) (known:=.shr (.lst (kn2.map ak))) (st:=st) (x:=kn2[i]) hml a5 a6 a7 a8 a9;refine⟨_,_,rfl,e,_,st',_,rfl,?_⟩;rw[List.take_succ_eq_append_getElem hi];exact vq p hperm) ⟨[],st1,none,rfl,by simp⟩
 rw[List.length_map,List.take_length]at hperm;refine⟨mx,good.perm hperm,?_⟩;simp only[bJ,eV];show fin (sq (own 3 _) _ [sh (.scr ns),sh (nD k),sh (aD sz),none,none,none,none,none,none,none,none,none])=_;rw[aS,z6,AS hz,ae,ae];show fin (sq (asg 4 _) _ [sh (.scr ns),sh (nD k),sh (aD sz),some (.own (kn0.map ak)),none,none,none,none,none,none,none,none])=_;have x1:asg 4 (cal 1 aH (aC (bin dm (bin (iI a_) (bin (iI gi) (cal 2 aP (aC (vr 0) (aC (vr 1) aN))) (kd (.int 1000003))) (kd (.int 2147483647))) (kd (.int 17))) aN)) [sh (.scr ns),sh (nD k),sh (aD sz),some (.own (kn0.map ak)),none,none,none,none,none,none,none,none]=.val (.nx (rA ns k sz (.own (kn0.map ak)) s0 none none none none none none none)):=by
  unfold rA;simp[hc1,mm,md,hs0]
 rw[aS,x1,ae];dsimp only;have x2:bq (bW (aC (bin (iI a_) (cal 2 aP (aC (vr 0) (aC (bin dm (vb 1) (kd (.int 1))) aN))) (kd (.int 5))) aN)) (tgN 5) qu (rA ns k sz (.own (kn0.map ak)) s0 none none none none none none none)=.val (.nx (rA ns k sz (.own (kn1.map ak)) st1 a5 a6 a7 a8 a9 none none)):=by
  rw[dL];have:bW (aC (bin (iI a_) (cal 2 aP (aC (vr 0) (aC (bin dm (vb 1) (kd (.int 1))) aN))) (kd (.int 5))) aN) (rA ns k sz (.own (kn0.map ak)) s0 none none none none none none none)=.val (rng 0 (c2%5).toNat):=by unfold rA;simp[hc2',m5,hr]
  rw[this,ae,e1]
 show fin (sq (bq (bW (aC (bin (iI a_) (cal 2 aP (aC (vr 0) (aC (bin dm (vb 1) (kd (.int 1))) aN))) (kd (.int 5))) aN)) (tgN 5) qu) _ _)=_;rw[aS,x2,ae];dsimp only;have x3:xX 3 bL (rA ns k sz (.own (kn1.map ak)) st1 a5 a6 a7 a8 a9 none none)=.val (.nx (rA ns k sz (.shr (.lst (kn2.map ak))) st1 a5 a6 a7 a8 a9 none none)):=by
  show(noex (bL (kn1.map ak))).bind _=_;rw[hcl];rfl
 rw[aS,x3,ae];dsimp only;have x4:own 10 (jA aN) (rA ns k sz (.shr (.lst (kn2.map ak))) st1 a5 a6 a7 a8 a9 none none)=.val (.nx (rA ns k sz (.shr (.lst (kn2.map ak))) st1 a5 a6 a7 a8 a9 (some (.own [])) none)):=by unfold rA;simp
 rw[aS,x4,ae];dsimp only;show fin (sq (bq (fIt (vr 3)) (tgN 11) xZ) _ (rA ns k sz (.shr (.lst (kn2.map ak))) st1 a5 a6 a7 a8 a9 (some (.own [])) none))=_;have x5:bq (fIt (vr 3)) (tgN 11) xZ (rA ns k sz (.shr (.lst (kn2.map ak))) st1 a5 a6 a7 a8 a9 (some (.own [])) none)=.val (.nx (rA ns k sz (.shr (.lst (kn2.map ak))) st3 a5 a6 a7 a8 a9 (some (.own (mx.map ak))) a11)):=by
  rw[dL];show(R.val (kn2.map ak)).bind _=_;rw[ae,e3]
 rw[aS,x5,ae];rfl
end
def plD:List Arr->Nat->List (KA×D)
 | [],_=>[]
 | x::r,s=>(fJ x,nD s)::plD r (s+1)
theorem vk:∀(l:List Arr) (s:Nat),(plD l s).length=l.length
 | [],_=>rfl
 | x::r,s=>by simp[plD,vk r (s+1)]
theorem vn (x:Arr):∀(l:List Arr) (s:Nat),((plD l s).any λp=>decide (p.1=fJ x))=decide (x∈l)
 | [],_=>by simp[plD]
 | y::r,s=>by
  show(decide (fJ y=fJ x)||(plD r (s+1)).any λp=>decide (p.1=fJ x))=_;rw[vn x r (s+1)];by_cases h:y=x
  ·subst h;simp
  ·have:¬ fJ y=fJ x:=λe=>h (lu e);have h':¬ x=y:=λe=>h e.symm;simp[this,h']
theorem vm (x:Arr):∀(l:List Arr) (s:Nat),plD (l++[x]) s=plD l s++[(fJ x,nD (s+l.length))]
 | [],s=>rfl
 | y::r,s=>by
  show(fJ y,nD s)::plD (r++[x]) (s+1)=_;rw[vm x r (s+1)];have:s+1+r.length=s+(y::r).length:=by simp;omega
  rw[this];rfl
theorem zS {x:Arr} {l:List Arr} (h:x∉l):lq (plD l 0) (fJ x) (nD l.length)=plD (l++[x]) 0:=by
 unfold lq;rw[vn,decide_eq_false h,if_neg (by decide),vm,Nat.zero_add]
theorem qQ {x:Arr}:∀{l:List Arr} (s:Nat),x∈l->qX (plD l s) (fJ x)=some (nD (s+l.idxOf x))
 | [],_,h=>by cases h
 | y::r,s,h=>by
  unfold qX plD;by_cases e:y=x
  ·subst e;simp
  ·have e':¬ fJ y=fJ x:=λz=>e (lu z);rw[List.find?_cons_of_neg (by simpa using e')];have hr:x∈r:=by
    rcases List.mem_cons.mp h with q|q
    ·exact absurd q.symm e
    ·exact q
   have ih:=qQ (l:=r) (s+1) hr;unfold qX at ih;rw[ih];have:(y::r).idxOf x=r.idxOf x+1:=by
    rw[List.idxOf_cons];have:(y==x)=false:=by simpa using e
    rw[this];rfl
   rw[this]
   congr 2
   omega
def rP (ns:List Int) (k:Nat) (sz:List Nat) (kn:List Arr) (pl:List (KA×D)) (a5 a6 a7 a8 a9 a10 a11:Option Slt):Rho:=[sh (.scr ns),sh (nD k),sh (aD sz),sh (.lst (kn.map ak)),some (.dic pl),a5,a6,a7,a8,a9,a10,a11]
section
variable {ns:List Int} {k:Nat} {sz:List Nat} {kn:List Arr}
theorem AL (h:i<kn.length):fix (.lst (kn.map ak)) (.int (i:Int))=.val (ak kn[i]):=gO (by simp[h])
theorem wp (g:Good sz kn) (a6 a7 a8 a9 a10 a11:Option Slt):∃a5,bq (bW (aC (una aL (vb 3)) aN)) (tgN 5) (oC 4 (bin fix (vb 3) (vb 5)) (vr 5)) (rP ns k sz kn [] none a6 a7 a8 a9 a10 a11)=.val (.nx (rP ns k sz kn (plD kn 0) a5 a6 a7 a8 a9 a10 a11)):=by
 have few:=g.few;obtain⟨ρ',e,a5,rfl⟩:=iY (i:=5) (n:=kn.length) (F:=oC 4 (bin fix (vb 3) (vb 5)) (vr 5)) (U:=rP ns k sz kn [] none a6 a7 a8 a9 a10 a11) (λi U=>∃a5,U=rP ns k sz kn (plD (kn.take i) 0) a5 a6 a7 a8 a9 a10 a11) (λi U hi hI=>by
  obtain⟨a5,rfl⟩:=hI;have hx:=AL hi;have hl:(kn.take i).length=i:=by rw[List.length_take];omega
  have nin:kn[i]∉kn.take i:=λh=>by
   obtain⟨j,hj,e⟩:=List.mem_take_iff_getElem.mp h;exact(List.pairwise_iff_getElem.mp g.nd) j i (by omega) hi (by omega) e
  refine⟨_,?_,sh (.int (i:Int)),rfl⟩;show oC 4 _ _ (rP ns k sz kn (plD (kn.take i) 0) (sh (.int (i:Int))) a6 a7 a8 a9 a10 a11)=_;rw[tw (kvs:=plD (kn.take i) 0) (kd:=ak kn[i]) (d:=nD i) _ rfl (by unfold rP;simp[hx]) rfl (fI _) (by rw[vk];omega)];have:=zS nin;rw[hl]at this;rw[this,<- List.take_succ_eq_append_getElem hi];rfl) ⟨none,rfl⟩
 refine⟨a5,?_⟩;rw[dL];have:bW (aC (una aL (vb 3)) aN) (rP ns k sz kn [] none a6 a7 a8 a9 a10 a11)=.val (rng 0 kn.length):=by
  unfold rP;simp;exact fD (by omega)
 rw[this,ae,e,List.take_length]
abbrev AU:Rho->R Out:=sq (asg 10 (una im (kd (.int 1))))
 (sq (DL.iff (tst (bin feq (bin fix (vb 7) (kd (.int 1))) (bin fix (vb 9) (kd (.int 0)))))
 (asg 10 (oF 4 (eT (aC (bin fix (vb 7) (kd (.int 0))) (aC (bin fix (vb 9) (kd (.int 1))) (aC (una ik (eLs (bn (fIt (bin fix (vb 7) (kd (.int 2)))) 1 (tgN 12) tT (bin fix (bin fix (vb 9) (kd (.int 2))) (vb 12))))) aN))))))
 nxt)
 (app 8 (vr 10)))
theorem yz (g:Good sz kn) {x y:Arr} (hx:x∈kn) (hy:y∈kn) {row:List D} (hl:row.length<=27) (a5 a6 a10 a11:Option Slt) :
  ∃b10,AU (rP ns k sz kn (plD kn 0) a5 a6 (sh (ak x)) (some (.own row)) (sh (ak y)) a10 a11)=.val (.nx (rP ns k sz kn (plD kn 0) a5 a6 (sh (ak x)) (some (.own (row++[.int (mk kn x y)]))) (sh (ak y)) b10 a11)):=by
 have x1:asg 10 (una im (kd (.int 1))) (rP ns k sz kn (plD kn 0) a5 a6 (sh (ak x)) (some (.own row)) (sh (ak y)) a10 a11)=.val (.nx (rP ns k sz kn (plD kn 0) a5 a6 (sh (ak x)) (some (.own row)) (sh (ak y)) (sh (.int (-1))) a11)):=by unfold rP;simp
 have last:∀z:Int,app 8 (vr 10) (rP ns k sz kn (plD kn 0) a5 a6 (sh (ak x)) (some (.own row)) (sh (ak y)) (sh (.int z)) a11)=.val (.nx (rP ns k sz kn (plD kn 0) a5 a6 (sh (ak x)) (some (.own (row++[.int z]))) (sh (ak y)) (sh (.int z)) a11)):=λz=>by
  rw[jG (xs:=row) (d:=.int z) _ rfl rfl (by omega)];rfl
 have hT:tst (bin feq (bin fix (vb 7) (kd (.int 1))) (bin fix (vb 9) (kd (.int 0)))) (rP ns k sz kn (plD kn 0) a5 a6 (sh (ak x)) (some (.own row)) (sh (ak y)) (sh (.int (-1))) a11)=.val (decide (x.2.1=y.1)):=by
  unfold rP;simp;omega
 show ∃b10,sq _ _ _=_;rw[aS,x1,ae];dsimp only;rw[aS,bH,hT,ae];unfold mk;by_cases e:x.2.1=y.1
 ·rw[decide_eq_true e,if_pos rfl,if_pos e];have hc:=tE g.szm (g.ok x hx) (g.ok y hy) e (src:=fIt (bin fix (vb 7) (kd (.int 2)))) (el:=bin fix (bin fix (vb 9) (kd (.int 2))) (vb 12)) (i:=12) (U:=rP ns k sz kn (plD kn 0) a5 a6 (sh (ak x)) (some (.own row)) (sh (ak y)) (sh (.int (-1))) a11) (by simp[rP]) (λk=>by simp[rP]);have hv:eT (aC (bin fix (vb 7) (kd (.int 0))) (aC (bin fix (vb 9) (kd (.int 1))) (aC (una ik (eLs (bn (fIt (bin fix (vb 7) (kd (.int 2)))) 1 (tgN 12) tT (bin fix (bin fix (vb 9) (kd (.int 2))) (vb 12))))) aN))) (rP ns k sz kn (plD kn 0) a5 a6 (sh (ak x)) (some (.own row)) (sh (ak y)) (sh (.int (-1))) a11)=.val (ak (comp x y)):=by
   simp only[tt,d7,ft,cF,hc];unfold rP;simp;rfl
  have hg:=qQ 0 (g.cl x hx y hy e);rw[Nat.zero_add]at hg;rw[d6,tz (kvs:=plD kn 0) _ rfl hv (fI _) hg,ae,ae];dsimp only;exact⟨_,last _⟩
 ·rw[decide_eq_false e,if_neg (by decide),if_neg e];exact⟨_,last _⟩
abbrev xt:Rho->R Out:=sq (own 8 (jA aN))
 (sq (bq (fIt (vr 3)) (tgN 9) AU)
 (fz 8 (app 6 (vr 8))))
theorem yr (g:Good sz kn) {x:Arr} (hx:x∈kn) {tab:List D} (hl:tab.length<=27) (a5 a8 a9 a10 a11:Option Slt) :
  ∃b8 b9 b10,xt (rP ns k sz kn (plD kn 0) a5 (some (.own tab)) (sh (ak x)) a8 a9 a10 a11)=.val (.nx (rP ns k sz kn (plD kn 0) a5 (some (.own (tab++[aw (kn.map λy=>mk kn x y)]))) (sh (ak x)) b8 b9 b10 a11)):=by
 have few:=g.few;obtain⟨ρ',e,a9',a10',rfl⟩:=fG (T:=tgN 9) (F:=AU) (xs:=kn.map ak) (U:=rP ns k sz kn (plD kn 0) a5 (some (.own tab)) (sh (ak x)) (some (.own [])) a9 a10 a11) (λi U=>∃a9 a10,U=rP ns k sz kn (plD kn 0) a5 (some (.own tab)) (sh (ak x)) (some (.own (((kn.take i).map λy=>mk kn x y).map D.int))) a9 a10 a11) (λi d U hd hI=>by
  obtain⟨a9,a10,rfl⟩:=hI;have hi:i<kn.length:=by have:=(List.getElem?_eq_some_iff.mp hd).1;simpa using this
  have hde:d=ak kn[i]:=by
   rw[List.getElem?_map]at hd;simp[hi]at hd;exact hd.symm
  subst hde;obtain⟨b10,e⟩:=yz (ns:=ns) (k:=k) g hx (List.getElem_mem hi) (row:=((kn.take i).map λy=>mk kn x y).map D.int) (by simp;omega) a5 (some (.own tab)) a10 a11;refine⟨_,_,rfl,e,sh (ak kn[i]),b10,?_⟩;rw[List.take_succ_eq_append_getElem hi,List.map_append,List.map_append];rfl) ⟨a9,a10,rfl⟩
 rw[List.length_map,List.take_length]at e;refine⟨sh (aw (kn.map λy=>mk kn x y)),a9',a10',?_⟩;show sq _ _ _=_;have x1:own 8 (jA aN) (rP ns k sz kn (plD kn 0) a5 (some (.own tab)) (sh (ak x)) a8 a9 a10 a11)=.val (.nx (rP ns k sz kn (plD kn 0) a5 (some (.own tab)) (sh (ak x)) (some (.own [])) a9 a10 a11)):=by unfold rP;simp
 rw[aS,x1,ae];dsimp only;rw[aS,dL];show((((R.val (kn.map ak)).bind _)).bind _)=_;rw[ae,e,ae];dsimp only;rw[vZ];show app 6 (vr 8) (rP ns k sz kn (plD kn 0) a5 (some (.own tab)) (sh (ak x)) (sh (aw (kn.map λy=>mk kn x y))) a9' a10' a11)=_;rw[jG (xs:=tab) (d:=aw (kn.map λy=>mk kn x y)) _ rfl rfl (by omega)];rfl
theorem wq (ns:List Int) (k:Nat):∃sz kn,Good sz kn/\dj [.scr ns,.int (k:Int)]=.val (.tup [aX (di kn),aD (cM sz kn),az (dl kn),.lst (kn.map ak),aD sz]):=by
 obtain⟨sz,hz,hs⟩:=wo ns k;obtain⟨l1,l4,l3⟩:=g_ sz hz;obtain⟨kn,g,ha⟩:=uk hz ns (k+1);have ha':bJ [.scr ns,.int ((k:Int)+1),aD sz]=.val (.lst (kn.map ak)):=ha;have few:=g.few;obtain⟨a5,ep⟩:=wp (ns:=ns) (k:=k) g none none none none none none;obtain⟨ρ',et,a7,a8,a9,a10,rfl⟩:=fG (T:=tgN 7) (F:=xt) (xs:=kn.map ak) (U:=rP ns k sz kn (plD kn 0) a5 (some (.own [])) none none none none none) (λi U=>∃a7 a8 a9 a10,U=rP ns k sz kn (plD kn 0) a5 (some (.own ((kn.take i).map λx=>aw (kn.map λy=>mk kn x y)))) a7 a8 a9 a10 none) (λi d U hd hI=>by
  obtain⟨a7,a8,a9,a10,rfl⟩:=hI;have hi:i<kn.length:=by have:=(List.getElem?_eq_some_iff.mp hd).1;simpa using this
  have hde:d=ak kn[i]:=by
   rw[List.getElem?_map]at hd;simp[hi]at hd;exact hd.symm
  subst hde;obtain⟨b8,b9,b10,e⟩:=yr (ns:=ns) (k:=k) g (List.getElem_mem hi) (tab:=(kn.take i).map λx=>aw (kn.map λy=>mk kn x y)) (by simp;omega) a5 a8 a9 a10 none;refine⟨_,_,rfl,e,sh (ak kn[i]),b8,b9,b10,?_⟩;rw[List.take_succ_eq_append_getElem hi,List.map_append];rfl) ⟨none,none,none,none,rfl⟩
 rw[List.length_map,List.take_length]at et;refine⟨sz,kn,g,?_⟩;simp only[dj,fy];show fin (sq (asg 2 _) _ [sh (.scr ns),sh (nD k),none,none,none,none,none,none,none,none,none,none])=_;have x1:asg 2 (cal 2 cC (aC (vr 0) (aC (vr 1) aN))) [sh (.scr ns),sh (nD k),none,none,none,none,none,none,none,none,none,none]=.val (.nx [sh (.scr ns),sh (nD k),sh (aD sz),none,none,none,none,none,none,none,none,none]):=by simp[hs]
 rw[aS,x1,ae];dsimp only;have x2:asg 3 (cal 3 bJ (aC (vr 0) (aC (bin dm (vb 1) (kd (.int 1))) (aC (vr 2) aN)))) [sh (.scr ns),sh (nD k),sh (aD sz),none,none,none,none,none,none,none,none,none]=.val (.nx [sh (.scr ns),sh (nD k),sh (aD sz),sh (.lst (kn.map ak)),none,none,none,none,none,none,none,none]):=by simp[ha']
 rw[aS,x2,ae];dsimp only;rw[aS,tx,ae];dsimp only;show fin (sq (bq _ (tgN 5) _) _ (rP ns k sz kn [] none none none none none none none))=_;rw[aS,ep,ae];dsimp only;have x3:own 6 (jA aN) (rP ns k sz kn (plD kn 0) a5 none none none none none none)=.val (.nx (rP ns k sz kn (plD kn 0) a5 (some (.own [])) none none none none none)):=by unfold rP;simp
 rw[aS,x3,ae];dsimp only;have x4:bq (fIt (vr 3)) (tgN 7) xt (rP ns k sz kn (plD kn 0) a5 (some (.own [])) none none none none none)=.val (.nx (rP ns k sz kn (plD kn 0) a5 (some (.own (kn.map λx=>aw (kn.map λy=>mk kn x y)))) a7 a8 a9 a10 none)):=by
  rw[dL];show(R.val (kn.map ak)).bind _=_;rw[ae,et]
 show fin (sq (bq (fIt (vr 3)) (tgN 7) xt) _ _)=_;rw[aS,x4,ae];dsimp only;have hrest:bn (bW (aC (una aL (vb 2)) aN)) 1 (tgN 12) tT (oF 4 (eT (aC (vr 12) (aC (vr 12) (aC (gT (aC (bin fix (vb 2) (vb 12)) aN)) aN))))) (rP ns k sz kn (plD kn 0) a5 (some (.own (kn.map λx=>aw (kn.map λy=>mk kn x y)))) a7 a8 a9 a10 none)=.val ((cM sz kn).map nD):=by
  have:=lD (src:=bW (aC (una aL (vb 2)) aN)) (m:=sz.length) (n:=1) (i:=12) (e:=oF 4 (eT (aC (vr 12) (aC (vr 12) (aC (gT (aC (bin fix (vb 2) (vb 12)) aN)) aN))))) (g:=λb=>nD (kn.idxOf (idm sz b))) (U:=rP ns k sz kn (plD kn 0) a5 (some (.own (kn.map λx=>aw (kn.map λy=>mk kn x y)))) a7 a8 a9 a10 none) (by unfold rP;simp;exact fD (by omega)) (by omega) λb hb=>by
   have f1:=ib (sz:=sz) hb;have hs:sz.getD b 0<=3:=by rw[aG hb];exact l3 _ (List.getElem_mem hb)
   have hrg:=rT (n:=sz.getD b 0) (by omega);have hg:=qQ 0 (g.rest b hb);rw[Nat.zero_add]at hg;refine tz (kvs:=plD kn 0) (kd:=ak (idm sz b)) _ rfl ?_ (fI _) hg;unfold rP;simp[-List.getD_eq_getElem?_getD,f1,hrg];rfl
  rw[this];unfold cM;rw[List.map_map];rfl
 rw[aS,d6,cF,hrest,ae,ae,ae];dsimp only;rw[vZ];have hens:∀t a7 a8 a9 a10 a11,bn (fIt (vr 3)) 1 (tgN 12) tT (eT (aC (bin fix (vb 12) (kd (.int 0))) (aC (bin fix (vb 12) (kd (.int 1))) aN))) (rP ns k sz kn (plD kn 0) a5 t a7 a8 a9 a10 a11)=.val ((di kn).map cN):=λt a7 a8 a9 a10 a11=>by
  rw[cG (f:=ak) (l:=kn) (g:=λx=>cN (x.1,x.2.1)) rfl (by omega) λx _=>by unfold rP;simp;rfl];unfold di;rw[List.map_map];rfl
 have htab:D.lst (kn.map λx=>aw (kn.map λy=>mk kn x y))=az (dl kn):=by
  unfold az dl;rw[List.map_map];rfl
 show fin (ret _ (rP ns k sz kn (plD kn 0) a5 (sh (.lst (kn.map λx=>aw (kn.map λy=>mk kn x y)))) a7 a8 a9 a10 (sh (aD (cM sz kn)))))=_;rw[htab,c_,tt,d7,cF,hens,ae,ae];unfold rP;simp;rfl
theorem yx {sz kn:List _} (g:Good sz kn) (r:List D):cT [.tup (aX (di kn)::aD (cM sz kn)::az (dl kn)::r)]=.val (.ob (aX (di kn)) (aD (cM sz kn)) (az (dl kn))):=by
 have h:=sI g;have n1:=h.na40;have n2:=h.tl;simp only[cT,gr];have hf:bn (fIt (bin fix (vb 0) (kd (.int 2)))) 1 (tgN 1) tT (eLs (fIt (vb 1))) [sh (.tup (aX (di kn)::aD (cM sz kn)::az (dl kn)::r))]=.val ((dl kn).map aw):=cG (f:=aw) (by simp;rfl) (by omega) λr _=>rfl;have eh:=yA h;show fin (ret _ [sh (.tup (aX (di kn)::aD (cM sz kn)::az (dl kn)::r))])=_;have ha:aC (eLs (fIt (bin fix (vb 0) (kd (.int 0))))) (aC (eLs (fIt (bin fix (vb 0) (kd (.int 1))))) (aC (eLs (bn (fIt (bin fix (vb 0) (kd (.int 2)))) 1 (tgN 1) tT (eLs (fIt (vb 1))))) aN)) [sh (.tup (aX (di kn)::aD (cM sz kn)::az (dl kn)::r))]=.val [aX (di kn),aD (cM sz kn),az (dl kn)]:=by
  simp only[d7,cF,hf];simp;rfl
 rw[c_,Am,ha,ae];dsimp only;rw[eh];rfl
end
variable {c:Nat}
section
variable (U:Rho)
@[simp] theorem yQ (n:Nat) (den:List D->R D) (a:Rho->R (List D)):rD n den a U=(a U).bind λds=>if ds.length=n then den ds else .bad:=Eq.trans rfl rfl
@[simp] theorem yU (a b:Rho->R D):wW a b U=(a U).bind λx=>(asB x).bind λc=>if c=true then b U else .val (.bl false):=Eq.trans rfl rfl
theorem zy {a:Rho->R D} {U:Rho} {i:Int} (h:a U=.val (.int i)) (hi:i.natAbs<10 ^ 40):rse c (fS a) U=.exc c:=by
 unfold rse fS;rw[h];dsimp only;rw[if_pos hi]
end
theorem m_ {Y:Type} {T:D->Rho->Option Rho} {t:Rho->R Bool} {e:Rho->R D} {f g:Y->D} {p:Y->Bool} {U:Rho}:∀{l:List Y},(∀a∈l,∃U1,T (f a) U=some U1/\t U1=.val (p a)/\e U1=.val (g a))->gY T t e (l.map f) U=.val ((l.filter p).map g)
 | [],_=>rfl
 | a::r,h=>by
  obtain⟨U1,h1,h2,h3⟩:=h a (by simp);have ih:=m_ (T:=T) (t:=t) (e:=e) (f:=f) (g:=g) (p:=p) (U:=U) (l:=r) λb hb=>h b (by simp[hb]);rw[List.map_cons];unfold gY;rw[h1];show(noE (t U1)).bind _=_;rw[h2,List.filter_cons];cases q:p a with
  | true=>simp[h3,ih]
  | false=>simp[ih]
variable {Y:Type} {T:D->Rho->Option Rho} {t:Rho->R Bool}
theorem jB {e:Rho->R D} {f g:Y->D} {p:Y->Bool} {l:List Y} (hs:src U=.val (l.map f)) (hl:l.length<=100000)
  (h:∀a∈l,∃U1,T (f a) (U++List.replicate n none)=some U1/\t U1=.val (p a)/\e U1=.val (g a)):bn src n T t e U=.val ((l.filter p).map g):=by
 unfold bn;rw[hs,ae,if_pos (show(l.map f).length<=LIM by rw[List.length_map];exact hl),m_ h];rfl
theorem nL (n:Nat):rng 0 n=(List.range n).map nD:=by
 unfold rng nD;apply List.map_congr_left;intro k _;rw[Int.zero_add]
theorem i9:∀(l:List D) (s:Nat),enu s l=(List.range l.length).map λi=>.tup [nD (s+i),l.getD i .non]
 | [],s=>rfl
 | x::r,s=>by
  unfold enu;rw[i9 r (s+1),List.length_cons,List.range_succ_eq_map,List.map_cons,List.map_map];simp only[Nat.add_zero,List.getD_cons_zero]
  congr 1
  apply List.map_congr_left;intro i _;simp only[Function.comp,List.getD_cons_succ];rw[show s+1+i=s+(i+1) by omega]
theorem mX {Y:Type} {T:D->Rho->Option Rho} {F:Rho->R Out} {f g:Y->D} {p:Y->Bool} (I:Rho->Prop):∀{l:List Y} {U:Rho},(∀a∈l,∀U,I U->∃U1,T (f a) U=some U1/\(p a=true->F U1=.val (.rt (g a)))/\(p a=false->∃U2,F U1=.val (.nx U2)/\I U2))->I U ->
  (∃a,l.find? p=some a/\bu T F (l.map f) U=.val (.rt (g a)))\/(l.find? p=none/\∃ρ',bu T F (l.map f) U=.val (.nx ρ')/\I ρ')
 | [],U,_,h=>.inr ⟨rfl,U,rfl,h⟩
 | a::r,U,step,h=>by
  obtain⟨U1,h1,h2,h3⟩:=step a (by simp) U h;rw[List.find?_cons,List.map_cons];unfold bu;rw[h1];cases q:p a with
  | true=>exact .inl ⟨a,rfl,by dsimp only;rw[h2 q];rfl⟩
  | false =>
   obtain⟨U2,e2,i2⟩:=h3 q;dsimp only;rw[e2];exact mX (T:=T) (F:=F) (f:=f) (g:=g) (p:=p) I (λb hb=>step b (by simp[hb])) i2
theorem sN (p q:Nat×Nat):feq (cN p) (cN q)=.val (.bl (decide (p=q))):=by
 by_cases h:p=q
 ·subst h;rw[lz (iS _)];simp
 ·rw[lA (iS _) (iS _) (λz=>h (endD_inj.mp z))];simp[h]
def hlD (en:List (Nat×Nat)) (re:List Nat) (tb:List (List Int)):D:=.ob (aX en) (aD re) (az tb)
section
variable {en:List (Nat×Nat)} {re:List Nat} {tb:List (List Int)}
@[simp] theorem Do:eD 0 (hlD en re tb)=.val (aX en):=Eq.trans rfl rfl
@[simp] theorem Dm:eD 1 (hlD en re tb)=.val (aD re):=Eq.trans rfl rfl
@[simp] theorem Dl:eD 2 (hlD en re tb)=.val (az tb):=Eq.trans rfl rfl
end
section
variable (U:Rho)
@[simp] theorem Ct (F:Rho->R (List D)):rb F U=(F U).bind zj:=Eq.trans rfl rfl
@[simp] theorem Cp (xs ys:List D):zj [.lst xs,.lst ys]=.val (zp xs ys):=Eq.trans rfl rfl
@[simp] theorem Cu (F:Rho->R (List D)):wm F U=(F U).bind vP:=Eq.trans rfl rfl
end
theorem vO (h:n<=100000):vP [.int (n:Int)]=.val ((List.range n).map nD):=by
 unfold vP;dsimp only;rw[if_pos (by constructor<;>omega),Int.toNat_natCast,nL]
theorem ni {Y:Type} (p:Y->Bool):∀l:List Y,fB (l.map λa=>D.bl (p a))=some (l.map p)
 | []=>rfl
 | a::r=>by
  rw[List.map_cons,List.map_cons];unfold fB;rw[ni p r];rfl
theorem qb (p:Y->Bool) (l:List Y):ue (.lst (l.map λa=>D.bl (p a)))=.val (.bl (l.all p)):=by
 unfold ue;dsimp only;rw[ni];dsimp only;rw[List.all_map];rfl
theorem uC:∀{xs ys:List D},xs.length=ys.length->zp xs ys=(List.range xs.length).map λi=>.tup [xs.getD i .non,ys.getD i .non]
 | [],[],_=>rfl
 | [],_::_,h=>by simp at h
 | _::_,[],h=>by simp at h
 | x::xs,y::ys,h=>by
  unfold zp;rw[uC (by simpa using h),List.length_cons,List.range_succ_eq_map,List.map_cons,List.map_map]
  congr 1
theorem uB {β:Type} {f:Y->D} {g:β->D} {l:List Y} {m:List β} {a:Y} {b:β} (h:l.length=m.length):zp (l.map f) (m.map g)=(List.range l.length).map λi=>.tup [f (l.getD i a),g (m.getD i b)]:=by
 rw[uC (by simpa using h),List.length_map];apply List.map_congr_left;intro i hi;have hi:=List.mem_range.mp hi;rw[aG (show i<(l.map f).length by simpa using hi),aG (show i<(m.map g).length by simpa[<- h]using hi),aG hi,aG (show i<m.length by omega),List.getElem_map,List.getElem_map]
theorem vQ {F:Rho->R Out} {f:Y->D} {ok:Y->Bool} (I:Rho->Prop) {l:List Y} (step:∀a∈l,∀U,I U->∃U1,T (f a) U=some U1/\(ok a=false->F U1=.val (.rt (.bl false)))/\(ok a=true->∃U2,F U1=.val (.nx U2)/\I U2)) (h:I U) :
  (l.all ok=false/\bu T F (l.map f) U=.val (.rt (.bl false)))\/(l.all ok=true/\∃ρ',bu T F (l.map f) U=.val (.nx ρ')/\I ρ'):=by
 rcases mX (T:=T) (F:=F) (f:=f) (g:=λ_=>.bl false) (p:=λa=>!ok a) I (l:=l) (U:=U) (λa ha U hI=>by
  obtain⟨U1,h1,h2,h3⟩:=step a ha U hI;exact⟨U1,h1,λq=>h2 (by simpa using q),λq=>h3 (by simpa using q)⟩) h with⟨a,e,z⟩|⟨e,z⟩
 ·refine .inl ⟨?_,z⟩;have:=List.find?_some e;rw[Bool.eq_false_iff];intro q;have q:=List.all_eq_true.mp q a (List.mem_of_find?_eq_some e);simp[q]at this
 ·refine .inr ⟨?_,z⟩;rw[List.all_eq_true];intro a ha;have:=List.find?_eq_none.mp e a ha;simpa using this
theorem kl {F:Rho->R Out} {f:Y->D} {ok:Y->Bool} (I:Rho->Prop) {l:List Y} (hs:src U=.val (l.map f)) (step:∀a∈l,∀U,I U->∃U1,T (f a) U=some U1/\(ok a=false->F U1=.val (.rt (.bl false)))/\(ok a=true->∃U2,F U1=.val (.nx U2)/\I U2)) (h:I U) :
  (l.all ok=false/\bq src T F U=.val (.rt (.bl false)))\/(l.all ok=true/\∃ρ',bq src T F U=.val (.nx ρ')/\I ρ'):=by
 rw[dL,hs,ae];exact vQ I step h
theorem on {F:Rho->R Out} {f:Y->D} {ok:Y->Bool} (I:Rho->Prop) {l:List Y} (hs:src U=.val (l.map f)) (step:∀a∈l,∀U,I U->∃U1,T (f a) U=some U1/\(ok a=false->F U1=.val (.rt (.bl false)))/\(ok a=true->∃U2,F U1=.val (.nx U2)/\I U2)) (h:I U) :
  fin (sq (bq src T F) (ret (kd (.bl true))) U)=.val (.bl (l.all ok)):=by
 rw[aS];rcases kl I hs step h with⟨e,z⟩|⟨e,ρ',z,_⟩
 ·rw[z,e];rfl
 ·rw[z,e];rfl
def cK (n:Int) (z:Int):Bool:=decide (0<=z)&&decide (z<n)
theorem i8 (l:List Int) (n:Int) (hl:l.length<=100000):bF [aw l,.int n]=.val (.bl (l.all (cK n))):=by
 simp only[bF,fA];show fin (ret _ [sh (aw l),sh (.int n)])=_;have hc:bn (fIt (vr 0)) 1 (tgN 2) tT (cal 2 bb (aC (vr 2) (aC (vr 1) aN))) [sh (aw l),sh (.int n)]=.val (l.map λz=>.bl (cK n z)):=cG (f:=D.int) rfl hl λz _=>by
  have:=gP z n;simp[this,cK]
 rw[c_,ft,cF,hc,ae,ae,qb];rfl
variable {A B:Rho->R Out}
theorem zt {c r:Bool} (I:Rho->Prop) (hA:(c=false/\A U=.val (.rt (.bl false)))\/(c=true/\∃ρ',A U=.val (.nx ρ')/\I ρ')) (hB:c=true->∀ρ',I ρ'->fin (B ρ')=.val (.bl r)):fin (sq A B U)=.val (.bl (c&&r)):=by
 rw[aS];rcases hA with⟨e,h⟩|⟨e,ρ',h,i⟩
 ·rw[h,e];rfl
 ·rw[h,ae,e,Bool.true_and];exact hB e ρ' i
theorem ifR {c:Bool} (ht:t U=.val (!c)):(c=false/\DL.iff t (ret (kd (.bl false))) nxt U=.val (.rt (.bl false)))\/(c=true/\∃ρ',DL.iff t (ret (kd (.bl false))) nxt U=.val (.nx ρ')/\ρ'=U):=by
 rw[bH,ht];cases c with
 | false=>exact .inl ⟨rfl,rfl⟩
 | true=>exact .inr ⟨rfl,_,rfl,rfl⟩
theorem zb {c:Bool} (ht:t U=.val (!c)):(c=false->DL.iff t (ret (kd (.bl false))) nxt U=.val (.rt (.bl false)))/\(c=true->DL.iff t (ret (kd (.bl false))) nxt U=.val (.nx U)):=by
 rw[bH,ht];exact⟨λz=>by rw[z];rfl,λz=>by rw[z];rfl⟩
@[simp] theorem Dg (T:D->Rho->Option Rho) (e:Rho->R D) (U:Rho):asT T e U=(e U).bind λd=>match T d U with
 | some ρ'=>.val (.nx ρ')
 | none=>.bad:=Eq.trans rfl rfl
variable {F:Rho->R D}
theorem ff (h:F U=.val (.int (n:Int))) (hn:n<=100000):bW (aC F aN) U=.val ((List.range n).map nD):=by
 rw[sQ,d7,h,ae,lV,ae,ae,fD hn,nL]
theorem rowD_inj {a b:List Int}:aw a=aw b↔a=b:=by
 constructor
 ·intro h;unfold aw at h;injection h with h;exact oa (λa b e=>by cases e;rfl) h
 ·rintro rfl;rfl
theorem yn (a b:List Int):feq (aw a) (aw b)=.val (.bl (decide (a=b))):=by
 by_cases h:a=b
 ·subst h;rw[lz (h8 _)];simp
 ·rw[lA (h8 _) (h8 _) (λz=>h (rowD_inj.mp z))];simp[h]
theorem yi (a b:List Int):fne (aw a) (aw b)=.val (.bl (!decide (a=b))):=by
 by_cases h:a=b
 ·subst h;rw[i0 (h8 _)];simp
 ·rw[qa (h8 _) (h8 _) (λz=>h (rowD_inj.mp z))];simp[h]
def rg (n:Nat):List Int:=(List.range n).map λ(k:Nat)=>(k:Int)
theorem zA (n:Nat):D.lst ((List.range n).map nD)=aw (rg n):=by
 unfold aw rg;rw[List.map_map];rfl
theorem we {r:List Int} {x:Int} (h:0<=x) (h2:x<r.length):fix (aw r) (.int x)=.val (.int (r.getD x.toNat (-1))):=by
 have:=dg (r:=r) (i:=x.toNat) (by omega);rwa[Int.toNat_of_nonneg h]at this
def fol (a b:List Int):List Int:=a.map λx=>b.getD x.toNat (-1)
theorem AH {a b:List Int} {e:Rho->R D} (hl:a.length<=100000) (h:∀x∈a,0<=x/\x<b.length) (hs:src U=.val (a.map D.int)) (he:∀x:Int,e ((U++List.replicate 1 none).set i (sh (.int x)))=fix (aw b) (.int x)):eLs (bn src 1 (tgN i) tT e) U=.val (aw (fol a b)):=by
 rw[cF,cG (f:=D.int) (g:=λx=>.int (b.getD x.toNat (-1))) hs hl λx hx=>(by rw[he,we (h x hx).1 (h x hx).2])];unfold aw fol;rw[List.map_map];rfl
theorem qh {a b:List Int} (hl:a.length<=100000) (h:∀x∈a,0<=x/\x<b.length):cx [aw a,aw b]=.val (aw (fol a b)):=by
 simp only[cx,gv];show fin (ret _ [sh (aw a),sh (aw b)])=_;rw[c_,AH (a:=a) (b:=b) hl h rfl λx=>rfl];rfl
structure Bd (cs:List Int) (ms:List (List Int)):Prop where
 c:cs.length<=1000
 m:ms.length<=1000
 r:∀l∈ms,l.length<=1000
section
variable {en:List (Nat×Nat)} {re:List Nat} {tb:List (List Int)} {cs:List Int} {ms:List (List Int)}
theorem Bd.at (b:Bd cs ms) (i:Nat):(ms.getD i []).length<=1000:=by
 by_cases h:i<ms.length
 ·rw[aG h];exact b.r _ (List.getElem_mem h)
 ·rw[List.getD_eq_getElem?_getD,List.getElem?_eq_none (by omega)];exact Nat.zero_le _
def r1 (en:List (Nat×Nat)) (re:List Nat) (cs:List Int) (ms:List (List Int)):Bool:=decide (cs.length=re.length)&&decide (ms.length=en.length)
def fOk (en:List (Nat×Nat)) (cs:List Int) (ms:List (List Int)) (i:Nat):Bool:=decide (((ms.getD i []).length:Int)=cs.getD (en.getD i (0,0)).1 (-1))&&(ms.getD i []).all (cK (cs.getD (en.getD i (0,0)).2 (-1)))
def okR (re:List Nat) (cs:List Int) (ms:List (List Int)) (b:Nat):Bool:=decide (ms.getD (re.getD b 0) []=rg (cs.getD b (-1)).toNat)
def okT (tb:List (List Int)) (ms:List (List Int)) (i j:Nat):Bool:=decide ((tb.getD i []).getD j (-1)=-1)||decide (ms.getD ((tb.getD i []).getD j (-1)).toNat []=fol (ms.getD i []) (ms.getD j []))
def r3 (en:List (Nat×Nat)) (cs:List Int) (ms:List (List Int)):Bool:=(List.range en.length).all (fOk en cs ms)
def r4 (re:List Nat) (cs:List Int) (ms:List (List Int)):Bool:=(List.range re.length).all (okR re cs ms)
def r5 (en:List (Nat×Nat)) (tb ms:List (List Int)):Bool:=(List.range en.length).all λi=>(List.range en.length).all (okT tb ms i)
theorem lJ (h:bG en re tb) (hi:i<en.length) (hj:j<en.length):(tb.getD i []).getD j (-1)=-1\/∃k,k<en.length/\(tb.getD i []).getD j (-1)=(k:Int)/\(en.getD i (0,0)).2=(en.getD j (0,0)).1:=by
 by_cases e:(en.getD i (0,0)).2=(en.getD j (0,0)).1
 ·obtain⟨k,h1,h2,_⟩:=h.tp i j hi hj e;exact .inr ⟨k,h1,h2,e⟩
 ·exact .inl (h.tn i j hi hj e)
theorem AG (h3:r3 en cs ms=true) (hi:i<en.length) (hj:j<en.length) (e:(en.getD i (0,0)).2=(en.getD j (0,0)).1):∀x∈ms.getD i [],0<=x/\x<(ms.getD j []).length:=by
 have q1:=List.all_eq_true.mp h3 i (List.mem_range.mpr hi);have q2:=List.all_eq_true.mp h3 j (List.mem_range.mpr hj);unfold fOk at q1 q2;rw[Bool.and_eq_true,decide_eq_true_iff]at q1 q2;intro x hx;have:=List.all_eq_true.mp q1.2 x hx;unfold cK at this;rw[Bool.and_eq_true,decide_eq_true_iff,decide_eq_true_iff]at this;refine⟨this.1,?_⟩;rw[q2.1,<- e];exact this.2
theorem qg (h:bG en re tb) (b:Bd cs ms):dQ [hlD en re tb,aw cs,az ms]=.val (.bl (r1 en re cs ms&&(cs.all (cK 41)&&(r3 en cs ms&&true)))):=by
 simp only[dQ,gu];show fin (sq _ _ [sh (hlD en re tb),sh (aw cs),sh (az ms),none,none])=_;refine zt (·=[sh (hlD en re tb),sh (aw cs),sh (az ms),none,none]) (ifR ?_) ?_
 ·unfold r1;by_cases p1:cs.length=re.length
  ·by_cases p2:ms.length=en.length
   ·simp[p1,p2]
   ·have q2:¬ (ms.length:Int)=en.length:=by omega
    simp[p1,p2,q2]
  ·have q1:¬ (cs.length:Int)=re.length:=by omega
   simp[p1,q1]
 ·rintro e1 _ rfl;unfold r1 at e1;rw[Bool.and_eq_true,decide_eq_true_iff,decide_eq_true_iff]at e1;obtain⟨l1,l2⟩:=e1;refine zt (·=[sh (hlD en re tb),sh (aw cs),sh (az ms),none,none]) (ifR ?_) ?_
  ·have e:=i8 cs 41 (by have:=b.c;omega);simp[-List.all_eq_true,e]
  ·rintro e2 _ rfl;refine zt (λ_=>True) ?_ λ_ ρ' _=>rfl;have main:=kl (src:=rb (aC (una (eD 0) (vb 0)) (aC (vr 2) aN))) (T:=tg2 3 4) (F:=(DL.iff (orB (tst (bin fne (una aL (vb 4)) (bin fix (vb 1) (bin fix (vb 3) (kd (.int 0)))))) (cU (tst (cal 2 bF (aC (vr 4) (aC (bin fix (vb 1) (bin fix (vb 3) (kd (.int 1)))) aN)))))) (ret (kd (.bl false))) nxt)) (f:=λi=>.tup [cN (en.getD i (0,0)),aw (ms.getD i [])]) (ok:=fOk en cs ms) (l:=List.range en.length) (U:=[sh (hlD en re tb),sh (aw cs),sh (az ms),none,none]) (λU=>∃x y,U=[sh (hlD en re tb),sh (aw cs),sh (az ms),x,y]) ?_ (λi hi U hI=>?_) ⟨_,_,rfl⟩
   ·rcases main with⟨q,e⟩|⟨q,ρ',e,_⟩
    ·exact .inl ⟨q,e⟩
    ·exact .inr ⟨q,ρ',e,trivial⟩
   ·have:=uB (f:=cN) (g:=aw) (l:=en) (m:=ms) (a:=(0,0)) (b:=[]) l2.symm;simp[aX,az,this]
   ·obtain⟨x,y,rfl⟩:=hI;have hi:=List.mem_range.mp hi;have eb:=h.eb i hi;have f2:=dg (r:=cs) (i:=(en.getD i (0,0)).1) (by omega);have f3:=dg (r:=cs) (i:=(en.getD i (0,0)).2) (by omega);have e:=i8 (ms.getD i []) (cs.getD (en.getD i (0,0)).2 (-1)) (by have:=b.at i;omega);have ht:orB (tst (bin fne (una aL (vb 4)) (bin fix (vb 1) (bin fix (vb 3) (kd (.int 0)))))) (cU (tst (cal 2 bF (aC (vr 4) (aC (bin fix (vb 1) (bin fix (vb 3) (kd (.int 1)))) aN))))) [sh (hlD en re tb),sh (aw cs),sh (az ms),sh (cN (en.getD i (0,0))),sh (aw (ms.getD i []))]=.val (!fOk en cs ms i):=by
     unfold fOk;by_cases p:((ms.getD i []).length:Int)=cs.getD (en.getD i (0,0)).1 (-1)
     ·simp[-List.getD_eq_getElem?_getD,-List.all_eq_true,f2,f3,e,p]
     ·simp[-List.getD_eq_getElem?_getD,-List.all_eq_true,f2,f3,e,p]
    obtain⟨k1,k2⟩:=zb ht;exact⟨_,rfl,k1,λz=>⟨_,k2 z,_,_,rfl⟩⟩
theorem lF (h:bG en re tb) (b:Bd cs ms) (l1:cs.length=re.length) (l2:ms.length=en.length) (h2:cs.all (cK 41)=true) :
  cw [hlD en re tb,aw cs,az ms]=.val (.bl (r4 re cs ms)):=by
 simp only[cw,dX];show fin (ret _ [sh (hlD en re tb),sh (aw cs),sh (az ms)])=_;have n6:=h.nb6;have hc:bn (e_ (aC (una (eD 1) (vb 0)) aN)) 2 (tg2 3 4) tT (bin feq (bin fix (vb 2) (vb 4)) (eLs (wm (aC (bin fix (vb 1) (vb 3)) aN)))) [sh (hlD en re tb),sh (aw cs),sh (az ms)]=.val ((List.range re.length).map λi=>.bl (okR re cs ms i)):=by
  have:=jB (src:=e_ (aC (una (eD 1) (vb 0)) aN)) (n:=2) (T:=tg2 3 4) (t:=tT) (e:=bin feq (bin fix (vb 2) (vb 4)) (eLs (wm (aC (bin fix (vb 1) (vb 3)) aN)))) (f:=λi=>.tup [nD i,nD (re.getD i 0)]) (g:=λi=>.bl (okR re cs ms i)) (p:=λ_=>true) (l:=List.range re.length) (U:=[sh (hlD en re tb),sh (aw cs),sh (az ms)]) ?_ (by rw[List.length_range];omega) λi hi=>?_
  ·rw[this,List.filter_eq_self.mpr λ_ _=>rfl]
  ·have:enu 0 (re.map nD)=_:=i9 _ _;simp only[oq,d7,ft,lV];show(rj [.lst (re.map nD)])=_;rw[ow,this,List.length_map]
   congr 1
   apply List.map_congr_left;intro i hi;have hi:=List.mem_range.mp hi;rw[Nat.zero_add,aG (show i<(re.map nD).length by simpa using hi),aG hi,List.getElem_map]
  ·have hi:=List.mem_range.mp hi;have q1:=(h.rs i hi).1;have f1:=df (tb:=ms) (i:=re.getD i 0) (by omega);have f2:=dg (r:=cs) (i:=i) (by omega);have cb:cK 41 (cs.getD i (-1))=true:=by
    rw[aG (show i<cs.length by omega)];exact List.all_eq_true.mp h2 _ (List.getElem_mem _)
   unfold cK at cb;rw[Bool.and_eq_true,decide_eq_true_iff,decide_eq_true_iff]at cb;have lr:=vO (n:=(cs.getD i (-1)).toNat) (by omega);rw[Int.toNat_of_nonneg cb.1]at lr;refine⟨_,rfl,rfl,?_⟩;have q:=yn (ms.getD (re.getD i 0) []) (rg (cs.getD i (-1)).toNat);rw[<- zA]at q;simp[-List.getD_eq_getElem?_getD,f1,f2,lr,q,okR]
 rw[c_,ft,cF,hc,ae,ae,qb];rfl
theorem lE (h:bG en re tb) (b:Bd cs ms) (l2:ms.length=en.length) (h3:r3 en cs ms=true) :
  cv [hlD en re tb,az ms]=.val (.bl (r5 en tb ms)):=by
 simp only[cv,dW];show fin (sq _ _ [sh (hlD en re tb),sh (az ms),none,none,none,none])=_;have hl:=h.tl;refine on (f:=λi=>.tup [nD i,aw (tb.getD i [])]) (λU=>∃x y z w,U=[sh (hlD en re tb),sh (az ms),x,y,z,w]) ?_ (λi hi U hI=>?_) ⟨_,_,_,_,rfl⟩
 ·have:enu 0 (tb.map aw)=_:=i9 _ _;simp only[oq,d7,ft,lV];show(rj [.lst (tb.map aw)])=_;rw[ow,this,List.length_map,hl]
  congr 1
  apply List.map_congr_left;intro i hi;have hi:=List.mem_range.mp hi;rw[Nat.zero_add,aG (show i<(tb.map aw).length by simpa[hl]using hi),aG (show i<tb.length by omega),List.getElem_map]
 ·obtain⟨x,y,z,w,rfl⟩:=hI;have hi:=List.mem_range.mp hi;have rl:=h.rl i hi;refine⟨_,rfl,?_⟩;have main:=kl (src:=e_ (aC (vr 3) aN)) (T:=tg2 4 5) (F:=DL.iff (uu (tst (bin fne (vb 5) (una im (kd (.int 1))))) (tst (bin fne (bin fix (vb 1) (vb 5)) (cal 2 cx (aC (bin fix (vb 1) (vb 2)) (aC (bin fix (vb 1) (vb 4)) aN)))))) (ret (kd (.bl false))) nxt) (f:=λj=>.tup [nD j,.int ((tb.getD i []).getD j (-1))]) (ok:=okT tb ms i) (l:=List.range en.length) (U:=[sh (hlD en re tb),sh (az ms),sh (nD i),sh (aw (tb.getD i [])),z,w])
   (λU=>∃z w,U=[sh (hlD en re tb),sh (az ms),sh (nD i),sh (aw (tb.getD i [])),z,w]) ?_ (λj hj U hI=>?_) ⟨_,_,rfl⟩
  ·rcases main with⟨q,e⟩|⟨q,ρ',e,z',w',rfl⟩
   ·exact⟨λ_=>e,λt=>(by rw[t]at q;cases q)⟩
   ·exact⟨λt=>(by rw[t]at q;cases q),λ_=>⟨_,e,_,_,_,_,rfl⟩⟩
  ·have:enu 0 ((tb.getD i []).map D.int)=_:=i9 _ _;simp only[oq,d7,Bn,lV];show(rj [.lst ((tb.getD i []).map D.int)])=_;rw[ow,this,List.length_map,rl]
   congr 1
   apply List.map_congr_left;intro j hj;have hj:=List.mem_range.mp hj;rw[Nat.zero_add,aG (show j<((tb.getD i []).map D.int).length by rw[List.length_map,rl];exact hj),aG (show j<(tb.getD i []).length by omega),List.getElem_map]
  ·obtain⟨z,w,rfl⟩:=hI;have hj:=List.mem_range.mp hj;refine⟨_,rfl,?_⟩;have ht:uu (tst (bin fne (vb 5) (una im (kd (.int 1))))) (tst (bin fne (bin fix (vb 1) (vb 5)) (cal 2 cx (aC (bin fix (vb 1) (vb 2)) (aC (bin fix (vb 1) (vb 4)) aN))))) [sh (hlD en re tb),sh (az ms),sh (nD i),sh (aw (tb.getD i [])),sh (nD j),sh (.int ((tb.getD i []).getD j (-1)))]=.val (!okT tb ms i j):=by
    unfold okT;rcases lJ h hi hj with e|⟨k,hk,e,e2⟩
    ·rw[e];simp
    ·rw[e];have f1:=df (tb:=ms) (i:=k) (by omega);have f2:=df (tb:=ms) (i:=i) (by omega);have f3:=df (tb:=ms) (i:=j) (by omega);have q:=qh (a:=ms.getD i []) (b:=ms.getD j []) (by have:=b.at i;omega) (AG h3 hi hj e2);have q2:=yi (ms.getD k []) (fol (ms.getD i []) (ms.getD j []));have nk:¬ (k:Int)=-1:=by omega
     simp[-List.getD_eq_getElem?_getD,f1,f2,f3,q,q2,nk]
   obtain⟨k1,k2⟩:=zb ht;exact⟨k1,λz=>⟨_,k2 z,_,_,rfl⟩⟩
def isR (en:List (Nat×Nat)) (re:List Nat) (tb:List (List Int)) (cs:List Int) (ms:List (List Int)):Bool:=r1 en re cs ms&&(cs.all (cK 41)&&(r3 en cs ms&&(r4 re cs ms&&(r5 en tb ms&&true))))
theorem mK (h:bG en re tb) (b:Bd cs ms):bX [hlD en re tb,aw cs,az ms]=.val (.bl (isR en re tb cs ms)):=by
 simp only[bX,eW];show fin (ret _ [sh (hlD en re tb),sh (aw cs),sh (az ms)])=_;have e1:=qg h b;unfold isR;cases c1:r1 en re cs ms with
 | false=>rw[c1]at e1;simp[e1]
 | true =>
  cases c2:cs.all (cK 41)with
  | false=>rw[c1,c2]at e1;simp[e1]
  | true =>
   cases c3:r3 en cs ms with
   | false=>rw[c1,c2,c3]at e1;simp[e1]
   | true =>
    rw[c1,c2,c3]at e1;have c1:=c1;unfold r1 at c1;rw[Bool.and_eq_true,decide_eq_true_iff,decide_eq_true_iff]at c1;have e2:=lF h b c1.1 c1.2 c2;have e3:=lE h b c1.2 c3;cases c4:r4 re cs ms with
    | false=>rw[c4]at e2;simp[e1,e2]
    | true=>rw[c4]at e2;simp[e1,e2,e3]
end
structure IsR (L:Nat) (en:List (Nat×Nat)) (re:List Nat) (tb:List (List Int)) (cs:List Int) (ms:List (List Int)):Prop where
 lc:cs.length=re.length
 lm:ms.length=en.length
 cb:∀b,b<re.length->0<=cs.getD b (-1)/\cs.getD b (-1)<=(L:Int)
 ml:∀i,i<en.length->((ms.getD i []).length:Int)=cs.getD (en.getD i (0,0)).1 (-1)
 mb:∀i,i<en.length->∀x∈ms.getD i [],0<=x/\x<cs.getD (en.getD i (0,0)).2 (-1)
 idn:∀b,b<re.length->ms.getD (re.getD b 0) []=rg (cs.getD b (-1)).toNat
 cmp:∀i j k:Nat,i<en.length->j<en.length->(tb.getD i []).getD j (-1)=(k:Int)->ms.getD k []=fol (ms.getD i []) (ms.getD j [])
section
variable {en:List (Nat×Nat)} {re:List Nat} {tb:List (List Int)} {cs ds:List Int} {ms ns:List (List Int)} {L M:Nat}
theorem below_iff {n z:Int}:cK n z=true↔0<=z/\z<n:=by
 unfold cK;rw[Bool.and_eq_true,decide_eq_true_iff,decide_eq_true_iff]
theorem IsR.tru (h:bG en re tb) (r:IsR L en re tb cs ms) (hL:L<=40):isR en re tb cs ms=true:=by
 have e1:r1 en re cs ms=true:=by unfold r1;rw[decide_eq_true r.lc,decide_eq_true r.lm];rfl
 have e2:cs.all (cK 41)=true:=List.all_eq_true.mpr λx hx=>by
  obtain⟨i,hi,rfl⟩:=List.mem_iff_getElem.mp hx;have:=r.cb i (by rw[<- r.lc];exact hi);rw[aG hi]at this;rw[below_iff];omega
 have e3:r3 en cs ms=true:=List.all_eq_true.mpr λi hi=>by
  have hi:=List.mem_range.mp hi;unfold fOk;rw[decide_eq_true (r.ml i hi),Bool.true_and,List.all_eq_true];exact λx hx=>below_iff.mpr (r.mb i hi x hx)
 have e4:r4 re cs ms=true:=List.all_eq_true.mpr λb hb=>decide_eq_true (r.idn b (List.mem_range.mp hb));have e5:r5 en tb ms=true:=List.all_eq_true.mpr λi hi=>List.all_eq_true.mpr λj hj=>by
  have hi:=List.mem_range.mp hi;have hj:=List.mem_range.mp hj;unfold okT;rcases lJ h hi hj with e|⟨k,hk,e,_⟩
  ·rw[e];rfl
  ·rw[e,Int.toNat_natCast,decide_eq_true (r.cmp i j k hi hj e),Bool.or_true]
 unfold isR;rw[e1,e2,e3,e4,e5];rfl
theorem zB (n:Nat):(rg n).length=n:=by unfold rg;simp
theorem BB {d:Int} (h:i<n):(rg n).getD i d=(i:Int):=by
 unfold rg;rw[aG (by simpa using h)];simp
theorem vM {l:List Y} {f:Y->Int} {d:Y} {e:Int} (h:i<l.length):(l.map f).getD i e=f (l.getD i d):=by
 rw[aG (by simpa using h),aG h,List.getElem_map]
theorem u7 {f:Nat->List Int} (h:i<n):((List.range n).map f).getD i []=f i:=by
 rw[aG (by simpa using h)];simp
theorem u8 {f:Nat->Int} {e:Int} (h:i<n):((List.range n).map f).getD i e=f i:=by
 rw[aG (by simpa using h)];simp
end
section
variable {sz:List Nat} {kn:List Arr}
end
variable {L:Nat}
section
variable {en:List (Nat×Nat)} {re:List Nat} {tb:List (List Int)} {s:Nat}
def btw (en:List (Nat×Nat)) (a b:Nat):List Nat:=(List.range en.length).filter λn=>decide (en.getD n (0,0)=(a,b))
theorem jd (a b:Nat):(btw en a b).length<=en.length:=by
 unfold btw;exact Nat.le_trans (List.length_filter_le _ _) (by rw[List.length_range];exact Nat.le_refl _)
theorem mem_btw:n∈btw en a b↔n<en.length/\en.getD n (0,0)=(a,b):=by
 unfold btw;rw[List.mem_filter,List.mem_range,decide_eq_true_iff]
theorem Be (a b:Nat):(btw en a b).Nodup:=List.nodup_range.filter _
def pj (en:List (Nat×Nat)) (re:List Nat) (s:Nat):List Int:=(List.range re.length).map λt=>((btw en s t).length:Int)
def ent (tb:List (List Int)) (i j:Nat):Nat:=((tb.getD i []).getD j (-1)).toNat
def jV (en:List (Nat×Nat)) (tb:List (List Int)) (s k:Nat):List Int:=(btw en s (en.getD k (0,0)).1).map λx=>((btw en s (en.getD k (0,0)).2).idxOf (ent tb x k):Int)
def mr (en:List (Nat×Nat)) (tb:List (List Int)) (s:Nat):List (List Int):=(List.range en.length).map (jV en tb s)
theorem oy (h:bG en re tb) {x:Nat} (hk:k<en.length) (hx:x∈btw en s (en.getD k (0,0)).1):(tb.getD x []).getD k (-1)=(ent tb x k:Int)/\ent tb x k∈btw en s (en.getD k (0,0)).2:=by
 obtain⟨x1,x2⟩:=mem_btw.mp hx;obtain⟨q,q1,q2,q3⟩:=h.tp x k x1 hk (by rw[x2]);have e:ent tb x k=q:=by unfold ent;rw[q2,Int.toNat_natCast]
 rw[e];rw[x2]at q3;exact⟨q2,mem_btw.mpr ⟨q1,q3⟩⟩
theorem xL (h:bG en re tb) (hL:∀t,t<re.length->(btw en s t).length<=L):IsR L en re tb (pj en re s) (mr en tb s):=by
 have gc:∀b,b<re.length->(pj en re s).getD b (-1)=((btw en s b).length:Int):=λb hb=>u8 hb;have gm:∀i,i<en.length->(mr en tb s).getD i []=jV en tb s i:=λi hi=>u7 hi;refine⟨by simp[pj],by simp[mr],λb hb=>?_,λi hi=>?_,λi hi x hx=>?_,λb hb=>?_,λi j k hi hj e=>?_⟩
 ·rw[gc b hb];have:=hL b hb;omega
 ·rw[gm i hi,gc _ (h.eb i hi).1];unfold jV;rw[List.length_map]
 ·rw[gm i hi]at hx;rw[gc _ (h.eb i hi).2];unfold jV at hx;obtain⟨y,hy,rfl⟩:=List.mem_map.mp hx;have:=List.idxOf_lt_length_of_mem (oy h hi hy).2;omega
 ·obtain⟨q1,q2⟩:=h.rs b hb;rw[gm _ q1,gc b hb,Int.toNat_natCast];unfold jV;rw[q2];dsimp only;apply List.ext_getElem
  ·rw[List.length_map,zB]
  ·intro n n1 n2;rw[List.length_map]at n1;rw[List.getElem_map];have hm:=List.getElem_mem n1;obtain⟨x1,x2⟩:=mem_btw.mp hm;have u:=h.ur _ x1;rw[x2]at u;have e:ent tb (btw en s b)[n] (re.getD b 0)=(btw en s b)[n]:=by
    unfold ent;rw[u,Int.toNat_natCast]
   rw[e,(Be s b).idxOf_getElem n n1,<- aG (d:=(-1:Int)) n2,BB n1]
 ·obtain⟨e1,hk,e2⟩:=tm h hi hj e;rw[gm k hk,gm i hi,gm j hj];unfold jV fol;rw[e2,List.map_map];dsimp only;apply List.map_congr_left;intro x hx;simp only[Function.comp,Int.toNat_natCast];obtain⟨y1,y2⟩:=oy h hi hx;rw[e1]at y2;have yl:=List.idxOf_lt_length_of_mem y2;rw[e1];rw[vM (d:=0) yl,aG yl,List.getElem_idxOf];have x1:=(mem_btw.mp hx).1;have as:=h.as x i j _ k x1 hi hj y1 e;have:ent tb (ent tb x i) j=ent tb x k:=by
   unfold ent at as ⊢;rw[as]
  rw[this]
end
theorem sL {k:Nat}:∀{l:List Nat},k∈l->(l.map λ(n:Nat)=>(n:Int)).findIdx? (· == (k:Int))=some (l.idxOf k)
 | [],h=>by cases h
 | a::r,h=>by
  rw[List.map_cons,List.findIdx?_cons,List.idxOf_cons];by_cases e:a=k
  ·subst e;simp
  ·have e1:((a:Int)==(k:Int))=false:=by rw[beq_eq_false_iff_ne];omega
   have e2:(a==k)=false:=by rw[beq_eq_false_iff_ne];exact e
   have hr:k∈r:=by
    rcases List.mem_cons.mp h with rfl|h
    ·exact absurd rfl e
    ·exact h
   rw[e1,e2,sL hr];rfl
theorem sK (h:k∈l) (hl:l.length<=100000):wf (aD l) (.int (k:Int))=.val (.int (l.idxOf k:Int)):=by
 unfold wf aD;dsimp only;rw[jv];dsimp only;rw[if_pos (by rw[List.length_map];exact hl),sL h]
theorem sF {Fo:Rho->R D} {t:Int} (h1:Fo U=.val (aD l)) (h2:F U=.val (.int t)):q9 Fo F U=wf (aD l) (.int t):=by
 unfold q9;rw[h1,h2];rfl
variable {ρ':Rho}
theorem mV (h:A U=.val (.nx ρ')):sq A B U=B ρ':=by rw[aS,h];rfl
theorem w9 (l:List Y) (f:Y->List Int):D.lst (l.map λa=>aw (f a))=az (l.map f):=by
 unfold az;rw[List.map_map];rfl
theorem xq (l:List Y) (f:Y->Int):D.lst (l.map λa=>.int (f a))=aw (l.map f):=by
 unfold aw;rw[List.map_map];rfl
theorem i4 {e:Rho->R D} {f:Y->D} {g:Y->Int} {l:List Y} (hs:src U=.val (l.map f)) (hl:l.length<=100000) (h:∀a∈l,e ((U++List.replicate n none).set i (sh (f a)))=.val (.int (g a))) :
  eLs (bn src n (tgN i) tT e) U=.val (aw (l.map g)):=by
 rw[cF,cG (f:=f) (g:=λa=>.int (g a)) hs hl h,ae,xq]
section
variable {en:List (Nat×Nat)} {re:List Nat} {tb:List (List Int)} {r:List D}
theorem qf (h:bG en re tb) (a b:Nat):bv [.tup (aX en::r),nD a,nD b]=.val (aD (btw en a b)):=by
 simp only[bv,dU];show fin (ret _ [sh (.tup (aX en::r)),sh (nD a),sh (nD b)])=_;have n40:=h.na40;have hc:=jB (src:=bW (aC (una aL (bin fix (vb 0) (kd (.int 0)))) aN)) (n:=1) (T:=tgN 3) (t:=tst (bin feq (bin fix (bin fix (vb 0) (kd (.int 0))) (vb 3)) (eT (aC (vr 1) (aC (vr 2) aN))))) (e:=vr 3) (f:=nD) (g:=nD) (p:=λn=>decide (en.getD n (0,0)=(a,b))) (l:=List.range en.length) (U:=[sh (.tup (aX en::r)),sh (nD a),sh (nD b)]) (ff (by simp) (by omega)) (by rw[List.length_range];omega) λn hn=>⟨_,rfl,by
  have hn:=List.mem_range.mp hn;have f1:=eE (en:=en) hn;have q:=sN (en.getD n (0,0)) (a,b);simp[-List.getD_eq_getElem?_getD,f1];exact congrArg (λz=>R.bind z asB) q,rfl⟩
 rw[c_,cF,hc];rfl
theorem yw (h:bG en re tb) (s:Nat):cQ [.tup (aX en::aD re::az tb::r),nD s]=.val (.tup [aw (pj en re s),az (mr en tb s)]):=by
 simp only[cQ,gU];have n40:=h.na40;have n6:=h.nb6;have tl:=h.tl;show fin (sq _ _ [sh (.tup (aX en::aD re::az tb::r)),sh (nD s),none,none,none,none,none])=_;have s1:asg 2 (eLs (bn (bW (aC (una aL (bin fix (vb 0) (kd (.int 1)))) aN)) 1 (tgN 7) tT (cal 3 bv (aC (vr 0) (aC (vr 1) (aC (vr 7) aN)))))) [sh (.tup (aX en::aD re::az tb::r)),sh (nD s),none,none,none,none,none]=.val (.nx [sh (.tup (aX en::aD re::az tb::r)),sh (nD s),sh (.lst ((List.range re.length).map λt=>aD (btw en s t))),none,none,none,none]):=by
  have hc:=cG (src:=bW (aC (una aL (bin fix (vb 0) (kd (.int 1)))) aN)) (n:=1) (i:=7) (e:=cal 3 bv (aC (vr 0) (aC (vr 1) (aC (vr 7) aN)))) (f:=nD) (g:=λt=>aD (btw en s t)) (l:=List.range re.length) (U:=[sh (.tup (aX en::aD re::az tb::r)),sh (nD s),none,none,none,none,none]) (ff (by simp) (by omega)) (by rw[List.length_range];omega) λt _=>by
   have:=qf (r:=aD re::az tb::r) h s t;simp[this]
  rw[d6,cF,hc];rfl
 rw[mV s1,aS];show fin (sq _ _ [sh (.tup (aX en::aD re::az tb::r)),sh (nD s),sh (.lst ((List.range re.length).map λt=>aD (btw en s t))),some (.own []),none,none,none])=_;have th:∀t,t<re.length->fix (.lst ((List.range re.length).map λt=>aD (btw en s t))) (.int (t:Int))=.val (aD (btw en s t)):=λt ht=>gO (by simp[ht]);obtain⟨ρ',e,a4,a5,a6,rfl⟩:=iY (i:=4) (n:=en.length) (F:=(sq (asT (tg2 5 6) (bin fix (bin fix (vb 0) (kd (.int 0))) (vb 4)))
  (app 3 (eLs (bn (fIt (bin fix (vb 2) (vb 5))) 1 (tgN 7) tT (q9 (bin fix (vb 2) (vb 6)) (bin fix (bin fix (bin fix (vb 0) (kd (.int 2))) (vb 7)) (vb 4)))))))) (λk U=>∃(a4 a5 a6:Option Slt),U=[sh (.tup (aX en::aD re::az tb::r)),sh (nD s),sh (.lst ((List.range re.length).map λt=>aD (btw en s t))),some (.own (((List.range k).map (jV en tb s)).map aw)),a4,a5,a6]) (λk U hk hI=>by
  obtain⟨a4,a5,a6,rfl⟩:=hI;have eb:=h.eb k hk;have fe:=eE (en:=en) (i:=k) hk;have s2:asT (tg2 5 6) (bin fix (bin fix (vb 0) (kd (.int 0))) (vb 4)) [sh (.tup (aX en::aD re::az tb::r)),sh (nD s),sh (.lst ((List.range re.length).map λt=>aD (btw en s t))),some (.own (((List.range k).map (jV en tb s)).map aw)),sh (nD k),a5,a6]=.val (.nx [sh (.tup (aX en::aD re::az tb::r)),sh (nD s),sh (.lst ((List.range re.length).map λt=>aD (btw en s t))),some (.own (((List.range k).map (jV en tb s)).map aw)),sh (nD k),sh (nD (en.getD k (0,0)).1),sh (nD (en.getD k (0,0)).2)]):=by
   simp[-List.getD_eq_getElem?_getD,fe,cN];rfl
  generalize hw:((List.range k).map (jV en tb s)).map aw=acc at s2 ⊢;have al:acc.length=k:=by rw[<- hw];simp
  have z2:=i4 (src:=fIt (bin fix (vb 2) (vb 5))) (n:=1) (i:=7) (e:=q9 (bin fix (vb 2) (vb 6)) (bin fix (bin fix (bin fix (vb 0) (kd (.int 2))) (vb 7)) (vb 4))) (f:=nD) (g:=λx=>((btw en s (en.getD k (0,0)).2).idxOf (ent tb x k):Int)) (l:=btw en s (en.getD k (0,0)).1) (U:=[sh (.tup (aX en::aD re::az tb::r)),sh (nD s),sh (.lst ((List.range re.length).map λt=>aD (btw en s t))),some (.own acc),sh (nD k),sh (nD (en.getD k (0,0)).1),sh (nD (en.getD k (0,0)).2)]) (by
    have:=th _ eb.1;exact(congrArg (λz=>R.bind z itD) this).trans rfl) (by have:=jd (en:=en) s (en.getD k (0,0)).1;omega) (λx hx=>by
    obtain⟨x1,x2⟩:=mem_btw.mp hx;obtain⟨q2,q3⟩:=oy h hk hx;have f1:=df (tb:=tb) (i:=x) (by omega);have f2:=dg (r:=tb.getD x []) (i:=k) (by rw[h.rl x x1];exact hk);rw[q2]at f2;have hj:=sK (l:=btw en s (en.getD k (0,0)).2) (k:=ent tb x k) q3 (by have:=jd (en:=en) s (en.getD k (0,0)).2;omega);have g1:bin fix (vb 2) (vb 6) ((([sh (.tup (aX en::aD re::az tb::r)),sh (nD s),sh (.lst ((List.range re.length).map λt=>aD (btw en s t))),some (.own acc),sh (nD k),sh (nD (en.getD k (0,0)).1),sh (nD (en.getD k (0,0)).2)]:Rho)++List.replicate 1 none).set 7 (sh (nD x)))=.val (aD (btw en s (en.getD k (0,0)).2)):=th _ eb.2;have g2:bin fix (bin fix (bin fix (vb 0) (kd (.int 2))) (vb 7)) (vb 4) ((([sh (.tup (aX en::aD re::az tb::r)),sh (nD s),sh (.lst ((List.range re.length).map λt=>aD (btw en s t))),some (.own acc),sh (nD k),sh (nD (en.getD k (0,0)).1),sh (nD (en.getD k (0,0)).2)]:Rho)++List.replicate 1 none).set 7 (sh (nD x)))=.val (.int (ent tb x k:Int)):=by
     simp[-List.getD_eq_getElem?_getD,f1,f2]
    rw[sF g1 g2,hj])
  have s3:=jG (i:=3) (U:=[sh (.tup (aX en::aD re::az tb::r)),sh (nD s),sh (.lst ((List.range re.length).map λt=>aD (btw en s t))),some (.own acc),sh (nD k),sh (nD (en.getD k (0,0)).1),sh (nD (en.getD k (0,0)).2)]) rfl z2 (by omega);exact⟨_,(mV s2).trans s3,sh (nD k),sh (nD (en.getD k (0,0)).1),sh (nD (en.getD k (0,0)).2),by rw[List.range_succ,List.map_append,List.map_append,hw];rfl⟩) (U:=[sh (.tup (aX en::aD re::az tb::r)),sh (nD s),sh (.lst ((List.range re.length).map λt=>aD (btw en s t))),some (.own []),none,none,none]) ⟨none,none,none,rfl⟩
 have sr:bW (aC (una aL (bin fix (vb 0) (kd (.int 0)))) aN) [sh (.tup (aX en::aD re::az tb::r)),sh (nD s),sh (.lst ((List.range re.length).map λt=>aD (btw en s t))),some (.own []),none,none,none]=.val (rng 0 en.length):=by
  rw[nL];exact ff (by simp) (by omega)
 rw[aS,dL,sr,ae,e,ae];dsimp only;have hc:=i4 (src:=fIt (vr 2)) (n:=1) (i:=7) (e:=una aL (vb 7)) (f:=λt=>aD (btw en s t)) (g:=λt=>((btw en s t).length:Int)) (l:=List.range re.length) (U:=[sh (.tup (aX en::aD re::az tb::r)),sh (nD s),sh (.lst ((List.range re.length).map λt=>aD (btw en s t))),sh (az (mr en tb s)),a4,a5,a6]) rfl (by rw[List.length_range];omega) λt _=>by simp
 rw[vZ];show fin (ret _ [sh (.tup (aX en::aD re::az tb::r)),sh (nD s),sh (.lst ((List.range re.length).map λt=>aD (btw en s t))),sh (az (mr en tb s)),a4,a5,a6])=_;rw[c_,tt,d7,hc,ae];rfl
end
variable {ms:List (List Int)}
theorem IsR.row {en:List (Nat×Nat)} {re:List Nat} {tb:List (List Int)} {cs:List Int} (h:bG en re tb) (r:IsR L en re tb cs ms):∀l∈ms,l.length<=L:=by
 intro l hl;obtain⟨i,hi,rfl⟩:=List.mem_iff_getElem.mp hl;have hi':i<en.length:=by rw[<- r.lm];exact hi
 have:=r.ml i hi';rw[aG hi]at this;have:=r.cb _ (h.eb i hi').1;omega
theorem IsR.bd {en:List (Nat×Nat)} {re:List Nat} {tb:List (List Int)} {cs:List Int} (h:bG en re tb) (r:IsR L en re tb cs ms) (hL:L<=1000):Bd cs ms:=by
 have:=h.nb6;have:=h.na40;exact⟨by rw[r.lc];omega,by rw[r.lm];omega,λl hl=>Nat.le_trans (r.row h l hl) hL⟩
variable {den:List D->R D}
theorem Bb {A B C:Rho->R D} {a b c:D} (ha:A U=.val a) (hb:B U=.val b) (hc:C U=.val c) (h:den [a,b,c]=.val x):cal 3 den (aC A (aC B (aC C aN))) U=.val x:=by
 simp[ha,hb,hc,h]
theorem AT {f:Y->D} (l:List Y) (d:Y):enu 0 (l.map f)=(List.range l.length).map λi=>.tup [nD i,f (l.getD i d)]:=by
 rw[i9,List.length_map];apply List.map_congr_left;intro i hi;have hi:=List.mem_range.mp hi;rw[Nat.zero_add,aG (show i<(l.map f).length by simpa using hi),aG hi,List.getElem_map]
theorem Cg {A:Rho->R D} {a:D} (ha:A U=.val a) (h:den [a]=.val x):cal 1 den (aC A aN) U=.val x:=by
 simp[ha,h]
theorem j9 {A B:Rho->R D} {a b:D} (ha:A U=.val a) (hb:B U=.val b) (h:den [a,b]=.val x):cal 2 den (aC A (aC B aN)) U=.val x:=by
 simp[ha,hb,h]
theorem iM {e:Rho->R D} (h:e U=.val x):asg i e U=.val (.nx (U.set i (sh x))):=by rw[d6,h];rfl
theorem wD {e:Rho->R D} (h:e U=.val x):drp e U=.val (.nx U):=by rw[wE,h];rfl
theorem gM {a:Rho->R Out} (h:t U=.val false):DL.iff t a nxt U=.val (.nx U):=by rw[bH,h];rfl
theorem fgo {x:R D} (h:A U=.val (.nx ρ')) (k:fin (B ρ')=x):fin (sq A B U)=x:=by rw[mV h];exact k
theorem fex (h:A U=.exc c):fin (sq A B U)=.exc c:=by rw[aS,h];rfl
theorem AA {a b:Rho->R Out} {x:R Out} (h:t U=.val true) (k:a U=x):DL.iff t a b U=x:=by rw[bH,h,<- k];rfl
theorem tu {e:Rho->R D} (h:e U=.exc c):drp e U=.exc c:=by rw[wE,h];rfl
theorem tH {A B:Rho->R D} {a b:D} {x:R D} (ha:A U=.val a) (hb:B U=.val b) (h:den [a,b]=x):rD 2 den (aC A (aC B aN)) U=x:=by
 rw[yQ,d7,ha,ae,d7,hb,ae,lV];simp only[ae,h];rfl
theorem sW {l:List Int} (hl:l.length<=100000):cu [aw l,aw l]=.val (.bl true):=by
 simp only[cu,gq];show fin (sq _ _ [sh (aw l),sh (aw l),none])=_;have s1:DL.iff (orB (cU (tst (una (i3 "list") (vb 0)))) (tst (bin fne (una aL (vb 0)) (una aL (vb 1))))) (ret (kd (.bl false))) nxt [sh (aw l),sh (aw l),none]=.val (.nx [sh (aw l),sh (aw l),none]):=by
  refine gM ?_;have t1:tst (una (i3 "list") (vb 0)) [sh (aw l),sh (aw l),none]=.val true:=Eq.trans rfl rfl;rw[kS,ia,t1];simp
 rw[mV s1];have fe:=on (src:=bW (aC (una aL (vb 1)) aN)) (T:=tgN 2) (F:=DL.iff (orB (cU (tst (una (i3 "int") (bin fix (vb 0) (vb 2))))) (orB (tst (una (i3 "bool") (bin fix (vb 0) (vb 2)))) (tst (bin fne (bin fix (vb 0) (vb 2)) (bin fix (vb 1) (vb 2)))))) (ret (kd (.bl false))) nxt) (f:=nD) (ok:=λ_=>true) (l:=List.range l.length) (U:=[sh (aw l),sh (aw l),none]) (λU=>∃x,U=[sh (aw l),sh (aw l),x]) (ff (by simp) hl) (λi hi U hI=>by
  obtain⟨x,rfl⟩:=hI;have hi:=List.mem_range.mp hi;have f:=dg (r:=l) hi;refine⟨_,rfl,(λz=>by cases z),λ_=>⟨_,gM (U:=[sh (aw l),sh (aw l),sh (nD i)]) ?_,_,rfl⟩⟩;have v0:bin fix (vb 0) (vb 2) [sh (aw l),sh (aw l),sh (nD i)]=.val (.int (l.getD i (-1))):=f;have v1:bin fix (vb 1) (vb 2) [sh (aw l),sh (aw l),sh (nD i)]=.val (.int (l.getD i (-1))):=f;have t1:tst (una (i3 "int") (bin fix (vb 0) (vb 2))) [sh (aw l),sh (aw l),sh (nD i)]=.val true:=by rw[fu,ft,v0];rfl
  have t2:tst (una (i3 "bool") (bin fix (vb 0) (vb 2))) [sh (aw l),sh (aw l),sh (nD i)]=.val false:=by rw[fu,ft,v0];rfl
  have t3:tst (bin fne (bin fix (vb 0) (vb 2)) (bin fix (vb 1) (vb 2))) [sh (aw l),sh (aw l),sh (nD i)]=.val false:=by
   rw[fu,bt,v0,v1,ae,ae,v9];simp
  rw[kS,ia,t1,ae,ae,if_neg (by decide),kS,t2,ae,if_neg (by decide),t3]) ⟨_,rfl⟩
 rw[fe,List.all_eq_true.mpr λ_ _=>rfl]
theorem sV (hm:ms.length<=100000) (hr:∀l∈ms,l.length<=100000):ba [az ms,az ms]=.val (.bl true):=by
 simp only[ba,cR];show fin (sq _ _ [sh (az ms),sh (az ms),none,none])=_;have s1:DL.iff (orB (cU (tst (una (i3 "list") (vb 0)))) (tst (bin fne (una aL (vb 0)) (una aL (vb 1))))) (ret (kd (.bl false))) nxt [sh (az ms),sh (az ms),none,none]=.val (.nx [sh (az ms),sh (az ms),none,none]):=by
  refine gM ?_;have t1:tst (una (i3 "list") (vb 0)) [sh (az ms),sh (az ms),none,none]=.val true:=Eq.trans rfl rfl;rw[kS,ia,t1];simp
 rw[mV s1];have fe:=on (src:=rb (aC (vr 0) (aC (vr 1) aN))) (T:=tg2 2 3) (F:=DL.iff (cU (tst (cal 2 cu (aC (vr 2) (aC (vr 3) aN))))) (ret (kd (.bl false))) nxt) (f:=λi=>.tup [aw (ms.getD i []),aw (ms.getD i [])]) (ok:=λ_=>true) (l:=List.range ms.length) (U:=[sh (az ms),sh (az ms),none,none]) (λU=>∃x y,U=[sh (az ms),sh (az ms),x,y]) (by
   have:=uB (f:=aw) (g:=aw) (l:=ms) (m:=ms) (a:=[]) (b:=[]) rfl;rw[<- this];rfl) (λi hi U hI=>by
  obtain⟨x,y,rfl⟩:=hI;have hi:=List.mem_range.mp hi;refine⟨_,rfl,(λz=>by cases z),λ_=>⟨_,gM (U:=[sh (az ms),sh (az ms),sh (aw (ms.getD i [])),sh (aw (ms.getD i []))]) ?_,_,_,rfl⟩⟩;rw[ia,fu,j9 (a:=aw (ms.getD i [])) (b:=aw (ms.getD i [])) rfl rfl (sW (by rw[aG hi];exact hr _ (List.getElem_mem hi)))];rfl) ⟨_,_,rfl⟩
 rw[fe,List.all_eq_true.mpr λ_ _=>rfl]
theorem nB {B:Rho->R D} {x:R D} (h:A U=.val (.nx ρ')) (k:B ρ'=x):sqK A B U=x:=by
 unfold sqK;rw[h];exact k
theorem qE {k:OK} {e:Rho->R D} (h:e U=.val x):trS i k e U=.val (.nx (U.set i (some (.tre k x)))):=by
 unfold trS;rw[h];rfl
abbrev rdD (cs:List Int) (ms:List (List Int)):D:=.tup [aw cs,az ms]
section
variable {en:List (Nat×Nat)} {re:List Nat} {tb:List (List Int)} {cs:List Int} {ms:List (List Int)} {r:List D} {z:Int}
theorem i6 (hb:b<re.length):bE [hlD en re tb,nD b]=.val .non:=by
 simp only[bE,dN];show fin (DL.iff _ _ _ [sh (hlD en re tb),sh (nD b)])=_;have:=fO hb;simp[this]
theorem Bf (h:cK re.length z=false) (hz:z.natAbs<10 ^ 40):bE [hlD en re tb,.int z]=.exc 2:=by
 simp only[bE,dN];show fin (DL.iff _ _ _ [sh (hlD en re tb),sh (.int z)])=_;have v:una aL (una (eD 1) (vb 0)) [sh (hlD en re tb),sh (.int z)]=.val (nD re.length):=fN re;rw[AA (by rw[ia,fu,j9 rfl v (gP _ _)];exact congrArg (λb=>R.val (!b)) h) (zy (i:=z) rfl hz)];rfl
theorem rd (h:bG en re tb) (ha:a<re.length) (hb:b<re.length):bK [hlD en re tb,nD a,nD b]=.val (aD (btw en a b)):=by
 simp only[bK,fo];show fin (sq _ _ [sh (hlD en re tb),sh (nD a),sh (nD b)])=_;have n40:=h.na40;refine fgo (wD (tH rfl rfl (i6 ha))) (fgo (wD (tH rfl rfl (i6 hb))) ?_);have hc:=jB (src:=e_ (aC (una (eD 0) (vb 0)) aN)) (n:=2) (T:=tg2 3 4) (t:=tst (bin feq (vb 4) (eT (aC (vr 1) (aC (vr 2) aN))))) (e:=vr 3) (f:=λi=>.tup [nD i,cN (en.getD i (0,0))]) (g:=nD) (p:=λn=>decide (en.getD n (0,0)=(a,b))) (l:=List.range en.length) (U:=[sh (hlD en re tb),sh (nD a),sh (nD b)]) (by
  rw[<- AT (f:=cN) en (0,0)];rfl) (by rw[List.length_range];omega) λn hn=>⟨_,rfl,by
  have q:=sN (en.getD n (0,0)) (a,b);exact congrArg (λz=>R.bind z asB) q,rfl⟩
 rw[c_,cF,hc];rfl
theorem Bc {y:D} (h:cK re.length z=false) (hz:z.natAbs<10 ^ 40):bK [hlD en re tb,.int z,y]=.exc 2:=by
 simp only[bK,fo];show fin (sq _ _ [sh (hlD en re tb),sh (.int z),sh y])=_;exact fex (tu (tH rfl rfl (Bf h hz)))
theorem Ag (h:bG en re tb) (hb:cK re.length z=false) (hz:z.natAbs<10 ^ 40):dP [hlD en re tb,.int z]=.exc 2:=by
 simp only[dP,gk];show fin (sq _ _ [sh (hlD en re tb),sh (.int z),none])=_;have n6:=h.nb6;have n1:=h.nb1;refine fex ?_;obtain⟨k,hk⟩:∃k,re.length=k+1:=⟨re.length-1,by omega⟩;have src:bW (aC (una aL (una (eD 1) (vb 0))) aN) [sh (hlD en re tb),sh (.int z),none]=.val ((List.range re.length).map nD):=ff (fN re) (by omega);unfold rcS;rw[src,ae,hk,List.range_succ_eq_map,List.map_cons];have c:wQ 3 bK (aC (vr 0) (aC (vr 1) (aC (vr 3) aN))) [sh (hlD en re tb),sh (.int z),none,sh (nD 0)]=.exc 2:=Bc hb hz;show(match wQ 3 bK (aC (vr 0) (aC (vr 1) (aC (vr 3) aN))) [sh (hlD en re tb),sh (.int z),none,sh (nD 0)]with | .exc c=>R.exc c|_=>.bad)=_;rw[c]
def thD (en:List (Nat×Nat)) (re:List Nat) (s:Nat):D:=.lst ((List.range re.length).map λt=>aD (btw en s t))
theorem wb {s t:Nat} (ht:t<re.length):fix (thD en re s) (.int (t:Int))=.val (aD (btw en s t)):=gO (by simp[ht])
theorem mJ (h:bG en re tb) {s:Nat} (hk:k<en.length):cI [hlD en re tb,thD en re s,nD k]=.val (aw (jV en tb s k)):=by
 simp only[cI,eS];show sqK _ _ [sh (hlD en re tb),sh (thD en re s),sh (nD k),none]=_;have n40:=h.na40;have tl:=h.tl;have eb:=h.eb k hk;have s1:asg 3 (bin fix (una (eD 0) (vb 0)) (vb 2)) [sh (hlD en re tb),sh (thD en re s),sh (nD k),none]=.val (.nx [sh (hlD en re tb),sh (thD en re s),sh (nD k),sh (cN (en.getD k (0,0)))]):=iM (eE (en:=en) hk);refine nB s1 ?_;have g0:bin fix (vb 1) (bin fix (vb 3) (kd (.int 0))) [sh (hlD en re tb),sh (thD en re s),sh (nD k),sh (cN (en.getD k (0,0)))]=.val (aD (btw en s (en.getD k (0,0)).1)):=wb eb.1;refine i4 (f:=nD) (g:=λx=>((btw en s (en.getD k (0,0)).2).idxOf (ent tb x k):Int)) (l:=btw en s (en.getD k (0,0)).1) (by rw[AN,g0];rfl) (by have:=jd (en:=en) s (en.getD k (0,0)).1;omega) λx hx=>by
  obtain⟨x1,x2⟩:=mem_btw.mp hx;obtain⟨q2,q3⟩:=oy h hk hx;have f1:=df (tb:=tb) (i:=x) (by omega);have f2:=dg (r:=tb.getD x []) (i:=k) (by rw[h.rl x x1];exact hk);rw[q2]at f2;have hj:=sK (l:=btw en s (en.getD k (0,0)).2) (k:=ent tb x k) q3 (by have:=jd (en:=en) s (en.getD k (0,0)).2;omega);have g1:bin fix (vb 1) (bin fix (vb 3) (kd (.int 1))) [sh (hlD en re tb),sh (thD en re s),sh (nD k),sh (cN (en.getD k (0,0))),sh (nD x)]=.val (aD (btw en s (en.getD k (0,0)).2)):=wb eb.2;have g2:bin fix (bin fix (una (eD 2) (vb 0)) (vb 4)) (vb 2) [sh (hlD en re tb),sh (thD en re s),sh (nD k),sh (cN (en.getD k (0,0))),sh (nD x)]=.val (.int (ent tb x k:Int)):=by
   simp[-List.getD_eq_getElem?_getD,f1,f2]
  exact(sF g1 g2).trans hj
theorem ug (h:bG en re tb) {s:Nat} (hs:s<re.length):cS [hlD en re tb,nD s]=.val (rdD (pj en re s) (mr en tb s)):=by
 simp only[cS,iK];show sqK _ _ [sh (hlD en re tb),sh (nD s),none,none,none]=_;have n40:=h.na40;have n6:=h.nb6;refine nB (iM (x:=thD en re s) ?_) (nB (qE (x:=aw (pj en re s)) ?_) (nB (qE (x:=az (mr en tb s)) ?_) rfl))
 ·rw[cF,cG (f:=nD) (g:=λt=>aD (btw en s t)) (l:=List.range re.length) (ff (fN re) (by omega)) (by rw[List.length_range];omega) λt ht=>Bb rfl rfl rfl (rd h hs (List.mem_range.mp ht))];rfl
 ·exact i4 (f:=λt=>aD (btw en s t)) (g:=λt=>((btw en s t).length:Int)) (l:=List.range re.length) rfl (by rw[List.length_range];omega) λt _=>fN _
 ·rw[cF,cG (f:=nD) (g:=λk=>aw (jV en tb s k)) (l:=List.range en.length) (ff (wa en) (by omega)) (by rw[List.length_range];omega) λk hk=>Bb rfl rfl rfl (mJ h (List.mem_range.mp hk)),ae,w9];rfl
end
def cf (ns:List Int) (k:Nat):Int:=(i7 ns k).choose
theorem Cf {ns:List Int} {A B:Rho->R D} {z:Int} (ha:A U=.val (.scr ns)) (hb:B U=.val (.int z)) (hz:z=(k:Int)):cal 2 aP (aC A (aC B aN)) U=.val (.int (cf ns k)):=j9 ha hb (by rw[hz];exact(i7 ns k).choose_spec)
theorem xY (c:Int) {m:Nat} (h:0<m):(c%(m:Int)).toNat<m/\a_ c (m:Int)=.val (nD (c%(m:Int)).toNat):=by
 obtain⟨i,hi,e⟩:=gS c m h;rw[dM (by omega),e];exact⟨by simpa using hi,by simp⟩
theorem Al {G:Rho->R D} {c:Int} {m:Nat} (hf:F U=.val (.int c)) (hg:G U=.val (nD m)) (h:0<m):∃k,k<m/\bin (iI a_) F G U=.val (nD k):=by
 obtain⟨a,b⟩:=xY c h;exact⟨_,a,by rw[bt,hf,ae,hg,ae,lw,b]⟩
theorem zR:bin (iI mH) (kd (.int 10)) (kd (.int 29)) U=.val (.int (10 ^ 29)):=by
 rw[bt,fL,ae,fL,ae,lw];unfold mH;rw[if_pos (by decide)];rfl
theorem yc (h:i<n):ixN n (i:Int)=some i:=by
 unfold ixN;rw[if_pos (Int.natCast_nonneg i),if_pos (Int.ofNat_lt.mpr h),Int.toNat_natCast]
theorem w5 {S:List Nat} {ie:Nat} {F G:Rho->R Out} (h:F U=.exc c) (hc:c∈S) (k:G (U.set ie (sh (.exn c)))=.val (.nx ρ')):uO S ie F G U=.val (.nx (ρ'.set ie none)):=by
 unfold uO;rw[h];dsimp only;rw[if_pos hc,k]
theorem Aj {G:Rho->R D} {n c:Int} (hn:0<=n/\n<=100) (hF:F U=.val (.int n)) (hG:G U=.val (.int c)):∃z:Int,bin fix (eL (aC (una im (kd (.int 1))) (aC F (aC (bin (iI mH) (kd (.int 10)) (kd (.int 29))) aN)))) (bin (iI a_) G (kd (.int 3))) U=.val (.int z)/\cK n z=false/\z.natAbs<10 ^ 40:=by
 obtain⟨y,m1,ix⟩:=Al (G:=kd (.int 3)) hG rfl (m:=3) (by decide);have el:eL (aC (una im (kd (.int 1))) (aC F (aC (bin (iI mH) (kd (.int 10)) (kd (.int 29))) aN))) U=.val (.lst [.int (-1),.int n,.int (10 ^ 29)]):=by
  rw[Ce,d7,d7,hF,d7,zR];rfl
 obtain⟨z,hz,h1,h2⟩:∃z:Int,([.int (-1),.int n,.int (10 ^ 29)]:List D)[y]?=some (.int z)/\cK n z=false/\z.natAbs<10 ^ 40:=match y,m1 with
  | 0,_=>⟨-1,rfl,rfl,by decide⟩
  | 1,_=>⟨n,rfl,by unfold cK;rw[decide_eq_false (p:=n<n) (by omega),Bool.and_false],Nat.lt_of_le_of_lt (show n.natAbs<=100 by omega) (by decide)⟩
  | 2,_=>⟨10 ^ 29,rfl,by
    unfold cK;rw[decide_eq_false (p:=(10 ^ 29:Int)<n) (by
     have:(100:Int)<=10 ^ 29:=by decide
     omega),Bool.and_false],by decide⟩
 exact⟨z,by rw[bt,el,ae,ix,ae,gO hz],h1,h2⟩
theorem sgo {x:R Out} (h:A U=.val (.nx ρ')) (k:B ρ'=x):sq A B U=x:=by rw[mV h];exact k
theorem wH (f:Y->D) (l:List Y) (hn:n<=l.length):uo (l.map f) (some (n:Int)) none=(l.drop n).map f:=by
 have e:HT.sIx (l.map f).length 0 (some (n:Int))=n:=by
  unfold HT.sIx;dsimp only;rw[if_neg (by omega),Int.toNat_natCast,List.length_map];omega
 have e0:HT.sIx (l.map f).length (l.map f).length none=(l.map f).length:=rfl;unfold uo;rw[e,e0,<- List.map_drop,List.take_of_length_le (by simp)]
theorem y9 {A B:Rho->R Bool} (h:A U=.val false) (k:B U=.val false):orB A B U=.val false:=by
 rw[kS,h,ae,if_neg (by decide),k]
theorem nV (h:F U=.val (.bl true)):cU (tst F) U=.val false:=by rw[ia,fu,h];rfl
theorem AJ {b:Bool} (h:F U=.val (.bl b)):flF F U=.val (.bl b):=by
 unfold flF;rw[h];rfl
theorem wV {g:Y->D} {xs:List Y} {x:Y} (h:xs.length<=1000):apF (g x) (xs.map g)=.val ((xs++[x]).map g):=by
 unfold apF;rw[if_pos (by rw[List.length_map];show _<100000;omega),List.map_append];rfl
abbrev kp:OK:=.p (.l .s) (.l (.l .s))
section
variable {cs:List Int} {ms:List (List Int)} {U:Rho}
theorem Di (h:U[5]?=some (some (.tre kp (rdD cs ms)))) (hl:cs.length<=1000):asO (apP 5 .s (pN 5 (pN0 5) (kd (.int 0))) (kd (.int 1))) U=.val (.nx (U.set 5 (some (.tre kp (rdD (cs++[1]) ms))))):=by
 have p0:pN0 5 U=.val []:=by unfold pN0;rw[h]
 have p1:pN 5 (pN0 5) (kd (.int 0)) U=.val [0]:=by
  unfold pN;rw[p0,ae,fL,ae,h];rfl
 have u:qB 5 .s [0] (apF (.int 1)) U=.val (U.set 5 (some (.tre kp (rdD (cs++[1]) ms)))):=by
  unfold qB;rw[h];show(if gB kp [0]=some (.l .s)then _ else _)=_;rw[if_pos (show gB kp [0]=some (.l .s)from rfl)];show R.bind (apF (.int 1) (cs.map D.int)) _=_;rw[wV (g:=D.int) hl];rfl
 unfold asO apP;rw[p1,ae,fL,iU,ae,u];rfl
theorem Dh (h:U[5]?=some (some (.tre kp (rdD cs ms)))) (h0:0<ms.length) (hl:(ms.getD 0 []).length<=1000):asO (apP 5 .s (pN 5 (pN 5 (pN0 5) (kd (.int 1))) (kd (.int 0))) (kd (.int 1))) U=.val (.nx (U.set 5 (some (.tre kp (rdD cs (ms.set 0 (ms.getD 0 []++[1]))))))):=by
 have p0:pN0 5 U=.val []:=by unfold pN0;rw[h]
 have p1:pN 5 (pN0 5) (kd (.int 1)) U=.val [1]:=by
  unfold pN;rw[p0,ae,fL,ae,h];rfl
 have p2:pN 5 (pN 5 (pN0 5) (kd (.int 1))) (kd (.int 0)) U=.val [1,0]:=by
  show R.bind (pN 5 (pN0 5) (kd (.int 1)) U) (λpp=>(kd (.int 0) U).bind λn=>match U[5]?,n with|some (some (Slt.tre k d)),D.int n=>pIx k d pp n|_,_=>.bad)=_;rw[p1,ae,fL,ae,h];show(match ixN (ms.map aw).length 0 with|some j=>R.val ([1]++[j])|none=>.bad)=_;rw[List.length_map,show ixN ms.length 0=some 0 from yc (i:=0) h0];rfl
 have sub:kB (rdD cs ms) [1,0]=some (aw (ms.getD 0 [])):=by
  show(match(ms.map aw)[0]? with|some d=>kB d [] | none=>none)=_;rw[dv (d:=[]) h0];rfl
 have put:∀x,kM (rdD cs ms) [1,0] x=.tup [aw cs,.lst ((ms.map aw).set 0 x)]:=λx=>by
  show D.tup [aw cs,match(ms.map aw)[0]? with|some d=>.lst ((ms.map aw).set 0 (kM d [] x))|none=>.lst (ms.map aw)]=_;rw[dv (d:=[]) h0];rfl
 have u:qB 5 .s [1,0] (apF (.int 1)) U=.val (U.set 5 (some (.tre kp (rdD cs (ms.set 0 (ms.getD 0 []++[1])))))):=by
  unfold qB;rw[h];show(if gB kp [1,0]=some (.l .s)then _ else _)=_;rw[if_pos (show gB kp [1,0]=some (.l .s)from rfl),sub];show R.bind (apF (.int 1) ((ms.getD 0 []).map D.int)) _=_;rw[wV (g:=D.int) hl,ae,put];have:D.lst ((ms.map aw).set 0 (.lst ((ms.getD 0 []++[1]).map D.int)))=az (ms.set 0 (ms.getD 0 []++[1])):=congrArg D.lst (List.map_set (f:=aw)).symm;rw[this]
 unfold asO apP;rw[p2,ae,fL,iU,ae,u];rfl
theorem sT (g:Bd cs ms):bR [rdD cs ms,rdD cs ms]=.val (.bl true):=by
 simp only[bR,gl];show fin (sq _ _ [sh (rdD cs ms),sh (rdD cs ms)])=_;have gm:=g.m;have gc:=g.c;refine fgo (gM (y9 (nV rfl) ?_)) ?_
 ·rw[fu,bt];show R.bind (fne (.int 2) (.int 2)) asB=_;rw[v9];rfl
 ·rw[c_,yU,j9 (a:=aw cs) (b:=aw cs) rfl rfl (sW (by omega)),ae,Bi,ae,if_pos rfl,j9 (a:=az ms) (b:=az ms) rfl rfl (sV (by omega) λl hl=>Nat.le_trans (g.r l hl) (by decide))];rfl
theorem By (h:F U=.val (az ms)) (h0:0<ms.length):eLs (fSl F (oS (kd (.int 1))) oN) U=.val (az (ms.drop 1)):=by
 rw[cF];unfold fSl;rw[h];show R.bind (.val (uo (ms.map aw) (some ((1:Nat):Int)) none)) _=_;rw[wH aw ms (n:=1) h0];rfl
end
theorem wn:eI [.exn 2]=.val (nD 2):=Eq.trans rfl rfl
theorem law_val (ns:List Int) (hl:ns.length<=63):lN [.scr ns]=.val (.bl true):=by
 simp only[lN,oG];show fin (sq _ _ [sh (.scr ns),none,none,none,none,none,none,none])=_;obtain⟨sz,kn,gd,hp⟩:=wq ns 0;have h:=sI gd;have hh:cT [.tup [aX (di kn),aD (cM sz kn),az (dl kn),.lst (kn.map ak),aD sz]]=.val (hlD (di kn) (cM sz kn) (dl kn)):=yx gd _;have n6:=h.nb6;have n1:=h.nb1;have n40:=h.na40;have a1:=h.na1;refine fgo (iM (j9 rfl rfl hp)) (fgo (iM (Cg rfl hh)) ?_);have lp:=kl (src:=bW (aC (una aL (bin fix (vb 1) (kd (.int 1)))) aN)) (T:=tgN 3) (F:=sq (asg 4 (cal 2 cQ (aC (vr 1) (aC (vr 3) aN))))
   (sq (trS 5 (.p (.l .s) (.l (.l .s))) (cal 2 cS (aC (vr 2) (aC (vr 3) aN))))
   (sq (DL.iff (orB (cU (tst (flF (cal 2 bR (aC (va 5) (aC (vb 4) aN)))))) (tst (bin fnt (flF (cal 3 bX (aC (vb 2) (aC (bin fix (va 5) (kd (.int 0))) (aC (bin fix (va 5) (kd (.int 1))) aN))))) (kd (.bl true))))) (ret (kd (.bl false))) nxt)
   (sq (asO (apP 5 .s (pN 5 (pN0 5) (kd (.int 0))) (kd (.int 1))))
   (sq (asO (apP 5 .s (pN 5 (pN 5 (pN0 5) (kd (.int 1))) (kd (.int 0))) (kd (.int 1))))
   (sq (DL.iff (cU (tst (flF (cal 2 ba (aC (eLs (fSl (bin fix (va 5) (kd (.int 1))) (oS (kd (.int 1))) oN)) (aC (eLs (fSl (bin fix (vb 4) (kd (.int 1))) (oS (kd (.int 1))) oN)) aN)))))) (ret (kd (.bl false))) nxt)
   (DL.iff (cU (tst (cal 2 bR (aC (cal 2 cS (aC (vr 2) (aC (vr 3) aN))) (aC (vr 4) aN))))) (ret (kd (.bl false))) nxt))))))) (f:=nD) (ok:=λ_=>true) (l:=List.range (cM sz kn).length)
  (λU=>∃x3 x4 x5:Option Slt,U=[sh (.scr ns),sh (.tup [aX (di kn),aD (cM sz kn),az (dl kn),.lst (kn.map ak),aD sz]),sh (hlD (di kn) (cM sz kn) (dl kn)),x3,x4,x5,none,none]) (U:=[sh (.scr ns),sh (.tup [aX (di kn),aD (cM sz kn),az (dl kn),.lst (kn.map ak),aD sz]),sh (hlD (di kn) (cM sz kn) (dl kn)),none,none,none,none,none]) (ff (fN (cM sz kn)) (by omega)) (λb hb U hI=>by
   obtain⟨x3,x4,x5,rfl⟩:=hI;have hb:=List.mem_range.mp hb;have ro:IsR 40 (di kn) (cM sz kn) (dl kn) (pj (di kn) (cM sz kn) b) (mr (di kn) (dl kn) b):=xL h λt _=>Nat.le_trans (jd (en:=di kn) b t) n40;have lc:=ro.lc;have lm:=ro.lm;have g:=ro.bd h (by decide);have e1:cQ [.tup [aX (di kn),aD (cM sz kn),az (dl kn),.lst (kn.map ak),aD sz],nD b]=_:=yw (r:=[.lst (kn.map ak),aD sz]) h b;have e2:=ug h hb;have e3:=mK h g;rw[ro.tru h (by decide)]at e3;generalize pj (di kn) (cM sz kn) b=cs at *;generalize mr (di kn) (dl kn) b=ms at *;have g0:=g.at 0;refine⟨_,rfl,(λq=>by cases q),λ_=>⟨_,sgo (iM (j9 rfl rfl e1)) (sgo (qE (j9 rfl rfl e2)) (sgo (gM (y9 (nV (AJ (j9 rfl rfl (sT g)))) ?_)) (sgo (Di rfl (by omega)) (sgo (Dh rfl (by omega) g0) (sgo (gM (nV (AJ (j9 (By rfl (by rw[List.length_set];omega)) (By rfl (by omega)) ?_)))) (gM (nV (j9 (j9 rfl rfl e2) rfl (sT g))))))))),_,_,_,rfl⟩⟩
   ·rw[fu,bt,AJ (Bb rfl rfl rfl e3)];rfl
   ·rw[show(ms.set 0 (ms.getD 0 []++[1])).drop 1=ms.drop 1 by cases ms<;>rfl];exact sV (by rw[List.length_drop];omega) λl hl=>Nat.le_trans (g.r l (List.mem_of_mem_drop hl)) (by decide)) ⟨_,_,_,rfl⟩
 rcases lp with⟨q,_⟩|⟨_,U8,e8,x3,x4,x5,rfl⟩
 ·rw[List.all_eq_true.mpr λ_ _=>rfl]at q;cases q
 refine fgo e8 (fgo (iM (x:=.int (-1)) rfl) ?_);obtain⟨z,ez,z1,z2⟩:=Aj (F:=una aL (bin fix (vb 1) (kd (.int 1)))) (G:=cal 2 aP (aC (vr 0) (aC (kd (.int 4)) aN))) (U:=[sh (.scr ns),sh (.tup [aX (di kn),aD (cM sz kn),az (dl kn),.lst (kn.map ak),aD sz]),sh (hlD (di kn) (cM sz kn) (dl kn)),x3,x4,x5,sh (.int (-1)),none]) (n:=((cM sz kn).length:Int)) (by omega) (fN (cM sz kn)) (Cf (k:=4) rfl rfl rfl);refine fgo (w5 (tu (tH rfl ez (Ag h z1 z2))) (by decide) (iM (Cg rfl wn))) ?_;show fin (R.bind (R.bind (.val (nD 2)) λx=>R.bind (.val (.int 2)) λy=>feq x y) λd=>.val (.rt d))=_;rw[ae,ae,wg];rfl
end DL
namespace DL
open PySem PySem.Spec PyProof.Rows L2
variable {us:List Value}
theorem x9 {n:Nat} (h:us.length=n+1):∃y l,us=y::l/\l.length=n:=by
 cases us with
 | nil=>cases h
 | cons y l=>exact⟨y,l,rfl,Nat.succ.inj h⟩
theorem qW (h:us.length=1):∃y0,us=[y0]:=by
 obtain⟨y,l,e,h⟩:=x9 h;exact⟨y,by rw[e,List.eq_nil_of_length_eq_zero h]⟩
theorem fH (h:us.length=2):∃y0 y1,us=[y0,y1]:=by
 obtain⟨y,l,rfl,g⟩:=x9 h;obtain⟨y1,rfl⟩:=qW g;exact⟨y,y1,rfl⟩
theorem oi (h:us.length=3):∃y0 y1 y2,us=[y0,y1,y2]:=by
 obtain⟨y,l,rfl,g⟩:=x9 h;obtain⟨y1,y2,rfl⟩:=fH g;exact⟨y,y1,y2,rfl⟩
theorem Ap (h:us.length=4):∃y0 y1 y2 y3,us=[y0,y1,y2,y3]:=by
 obtain⟨y,l,rfl,g⟩:=x9 h;obtain⟨y1,y2,y3,rfl⟩:=oi g;exact⟨y,y1,y2,y3,rfl⟩
def rL (K:Frag):Sp:=λvs H Q _=>∃(a:Addr) (ns:List Int),vs=[.ref a]/\SqL K H a (ns.map V.int)/\ns.length<=63/\∀H',Q (.bl true) H'
theorem x_ {P:Program} {w:World} {K:Frag} {mg:Str->Option Value} {base:Heap} {C:Addr} {k:Nat} {f:Addr} {fd:FuncData} (hval:∀ns:List Int,ns.length<=63->lN [.scr ns]=.val (.bl true)) (F:FnOk P w K mg base CX0 k f fd ["script"] (spD K C 1 lN)):FnOk P w K mg base CX0 k f fd ["script"] (rL K) :=
 F.imp λvs H Q E ⟨a,ns,e,hS,hl,q⟩=>by
  subst e;refine⟨rfl,[.scr ns],.cons (.scr hS) .nil,?_⟩;rw[hval ns hl];intro v H' _ hv;cases hv;exact q H'
abbrev NI (K:Frag) (x:Str) (f:Addr):Prop:=nsIn K mainGlobals x=some (some (.ref f))
abbrev NN (K:Frag) (x:Str):Prop:=nsIn K mainGlobals x=some none
abbrev LK (K:Frag) (f:Addr) (n q:Str) (s:Stmt) (oc:Value) (od:Option Addr) (kV dc pm:Value) (an:Option Addr) (cd ct:Value) (sl:Array (Option Value)):Prop:=K.lookup f=some ⟨oc,od,.func (fnOf n q (ig s) (bM s) (ai s) .none kV dc pm an cd ct),sl⟩
abbrev CI (K:Frag) (c:Value) (n:Str):Prop:=codeIn K c n=true
abbrev KP (K:Frag) (f:Addr):Prop:=keepIn K (.ref f)=true
abbrev KO (K:Frag) (a b:Value) (c:Bool):Prop:=kitOne K a b=some c
set_option autoImplicit true in
theorem all_mk {l : PySem.W.OpenLaw} {w : World} {K : Frag} {h : Heap} {mg : Str -> Option Value} {fa C f1 f2 f3 f4 f5 f6 f7 f8 f9 f10 f11 f12 f13 f14 f15 f16 f17 f18 f19 f20 f21 f22 f23 f24 f25 f26 f27 f28 f29 f30 f31 f32 f33 f34 f35 f36 C0 C1 C2 C3 C4 C5 C6 CA : Addr} {tb ta tMOST_THINGS : Tok} (hval : ∀ ns : List Int, ns.length <= 63 -> lN [.scr ns] = .val (.bl true)) (X : K.In h) (G : h.Ns mainGlobals mg) (hfa : mg "law" = some (.ref fa))
    (aC : NI K "Hall" C)
    (a1 : NI K "_law_cell" f1) (l1 : LK K f1 "_law_cell" "_law_cell" fY oc1 od1 kV1 dc1 pm1 an1 cd1 ct1 sl1) (c1 : CI K cd1 "_law_cell") (k1 : KP K f1)
    (a2 : NI K "_law_sizes" f2) (l2 : LK K f2 "_law_sizes" "_law_sizes" fh oc2 od2 kV2 dc2 pm2 an2 cd2 ct2 sl2) (c2 : CI K cd2 "_law_sizes") (k2 : KP K f2)
    (a3 : NI K "_law_next" f3) (l3 : LK K f3 "_law_next" "_law_next" fV oc3 od3 kV3 dc3 pm3 an3 cd3 ct3 sl3) (c3 : CI K cd3 "_law_next") (k3 : KP K f3)
    (a4 : NI K "_law_closed" f4) (l4 : LK K f4 "_law_closed" "_law_closed" bS oc4 od4 kV4 dc4 pm4 an4 cd4 ct4 sl4) (c4 : CI K cd4 "_law_closed") (k4 : KP K f4)
    (a5 : NI K "_law_arrows" f5) (l5 : LK K f5 "_law_arrows" "_law_arrows" d9 oc5 od5 kV5 dc5 pm5 an5 cd5 ct5 sl5) (c5 : CI K cd5 "_law_arrows") (k5 : KP K f5)
    (a6 : NI K "_law_parts" f6) (l6 : LK K f6 "_law_parts" "_law_parts" fi oc6 od6 kV6 dc6 pm6 an6 cd6 ct6 sl6) (c6 : CI K cd6 "_law_parts") (k6 : KP K f6)
    (a7 : NI K "check_counts" f7) (l7 : LK K f7 "check_counts" "check_counts" cZ oc7 od7 kV7 dc7 pm7 an7 cd7 ct7 sl7) (c7 : CI K cd7 "check_counts") (k7 : KP K f7)
    (a8 : NI K "is_below" f8) (l8 : LK K f8 "is_below" "is_below" fZ oc8 od8 kV8 dc8 pm8 an8 cd8 ct8 sl8) (c8 : CI K cd8 "is_below") (k8 : KP K f8)
    (a9 : NI K "check_ends" f9) (l9 : LK K f9 "check_ends" "check_ends" eC oc9 od9 kV9 dc9 pm9 an9 cd9 ct9 sl9) (c9 : CI K cd9 "check_ends") (k9 : KP K f9)
    (a10 : NI K "check_rests" f10) (l10 : LK K f10 "check_rests" "check_rests" dH oc10 od10 kV10 dc10 pm10 an10 cd10 ct10 sl10) (c10 : CI K cd10 "check_rests") (k10 : KP K f10)
    (a11 : NI K "check_form" f11) (l11 : LK K f11 "check_form" "check_form" eB oc11 od11 kV11 dc11 pm11 an11 cd11 ct11 sl11) (c11 : CI K cd11 "check_form") (k11 : KP K f11)
    (a12 : NI K "check_entry" f12) (l12 : LK K f12 "check_entry" "check_entry" dI oc12 od12 kV12 dc12 pm12 an12 cd12 ct12 sl12) (c12 : CI K cd12 "check_entry") (k12 : KP K f12)
    (a13 : NI K "check_table" f13) (l13 : LK K f13 "check_table" "check_table" dG oc13 od13 kV13 dc13 pm13 an13 cd13 ct13 sl13) (c13 : CI K cd13 "check_table") (k13 : KP K f13)
    (a14 : NI K "check_beside_rests" f14) (l14 : LK K f14 "check_beside_rests" "check_beside_rests" bB oc14 od14 kV14 dc14 pm14 an14 cd14 ct14 sl14) (c14 : CI K cd14 "check_beside_rests") (k14 : KP K f14)
    (a15 : NI K "check_thirds" f15) (l15 : LK K f15 "check_thirds" "check_thirds" cY oc15 od15 kV15 dc15 pm15 an15 cd15 ct15 sl15) (c15 : CI K cd15 "check_thirds") (k15 : KP K f15)
    (a16 : NI K "check_threes" f16) (l16 : LK K f16 "check_threes" "check_threes" cX oc16 od16 kV16 dc16 pm16 an16 cd16 ct16 sl16) (c16 : CI K cd16 "check_threes") (k16 : KP K f16)
    (a17 : findIn K (.ref C) "__init__" = some (some (.ref f17))) (i17 : PySem.W.isFn K (.ref f17) = true) (l17 : LK K f17 "__init__" "Hall.__init__" bg oc17 od17 kV17 dc17 pm17 an17 cd17 ct17 sl17) (c17 : CI K cd17 "Hall.__init__") (k17 : KP K f17)
    (a18 : NI K "_law_hall" f18) (l18 : LK K f18 "_law_hall" "_law_hall" fX oc18 od18 kV18 dc18 pm18 an18 cd18 ct18 sl18) (c18 : CI K cd18 "_law_hall") (k18 : KP K f18)
    (a19 : NI K "_law_between" f19) (l19 : LK K f19 "_law_between" "_law_between" dD oc19 od19 kV19 dc19 pm19 an19 cd19 ct19 sl19) (c19 : CI K cd19 "_law_between") (k19 : KP K f19)
    (a20 : NI K "_law_out" f20) (l20 : LK K f20 "_law_out" "_law_out" hE oc20 od20 kV20 dc20 pm20 an20 cd20 ct20 sl20) (c20 : CI K cd20 "_law_out") (k20 : KP K f20)
    (a21 : NI K "check_box" f21) (l21 : LK K f21 "check_box" "check_box" fj oc21 od21 kV21 dc21 pm21 an21 cd21 ct21 sl21) (c21 : CI K cd21 "check_box") (k21 : KP K f21)
    (a22 : NI K "between" f22) (l22 : LK K f22 "between" "between" hJ oc22 od22 kV22 dc22 pm22 an22 cd22 ct22 sl22) (c22 : CI K cd22 "between") (k22 : KP K f22)
    (a23 : NI K "led_behind" f23) (l23 : LK K f23 "led_behind" "led_behind" d8 oc23 od23 kV23 dc23 pm23 an23 cd23 ct23 sl23) (c23 : CI K cd23 "led_behind") (k23 : KP K f23)
    (a24 : NI K "out_of" f24) (l24 : LK K f24 "out_of" "out_of" iP oc24 od24 kV24 dc24 pm24 an24 cd24 ct24 sl24) (c24 : CI K cd24 "out_of") (k24 : KP K f24)
    (a25 : NI K "out_of" f25) (l25 : LK K f25 "out_of" "out_of" fR oc25 od25 kV25 dc25 pm25 an25 cd25 ct25 sl25) (c25 : CI K cd25 "out_of") (k25 : KP K f25)
    (a26 : NI K "_law_ints" f26) (l26 : LK K f26 "_law_ints" "_law_ints" fW oc26 od26 kV26 dc26 pm26 an26 cd26 ct26 sl26) (c26 : CI K cd26 "_law_ints") (k26 : KP K f26)
    (a27 : NI K "_law_lists_like" f27) (l27 : LK K f27 "_law_lists_like" "_law_lists_like" cz oc27 od27 kV27 dc27 pm27 an27 cd27 ct27 sl27) (c27 : CI K cd27 "_law_lists_like") (k27 : KP K f27)
    (a28 : NI K "_law_told" f28) (l28 : LK K f28 "_law_told" "_law_told" fU oc28 od28 kV28 dc28 pm28 an28 cd28 ct28 sl28) (c28 : CI K cd28 "_law_told") (k28 : KP K f28)
    (a29 : NI K "_law_which" f29) (l29 : LK K f29 "_law_which" "_law_which" fg oc29 od29 kV29 dc29 pm29 an29 cd29 ct29 sl29) (c29 : CI K cd29 "_law_which") (k29 : KP K f29)
    (a30 : NI K "are_below" f30) (l30 : LK K f30 "are_below" "are_below" fk oc30 od30 kV30 dc30 pm30 an30 cd30 ct30 sl30) (c30 : CI K cd30 "are_below") (k30 : KP K f30)
    (a31 : NI K "has_form" f31) (l31 : LK K f31 "has_form" "has_form" f_ oc31 od31 kV31 dc31 pm31 an31 cd31 ct31 sl31) (c31 : CI K cd31 "has_form") (k31 : KP K f31)
    (a32 : NI K "keeps_rests" f32) (l32 : LK K f32 "keeps_rests" "keeps_rests" dF oc32 od32 kV32 dc32 pm32 an32 cd32 ct32 sl32) (c32 : CI K cd32 "keeps_rests") (k32 : KP K f32)
    (a33 : NI K "followed" f33) (l33 : LK K f33 "followed" "followed" ge oc33 od33 kV33 dc33 pm33 an33 cd33 ct33 sl33) (c33 : CI K cd33 "followed") (k33 : KP K f33)
    (a34 : NI K "keeps_table" f34) (l34 : LK K f34 "keeps_table" "keeps_table" dE oc34 od34 kV34 dc34 pm34 an34 cd34 ct34 sl34) (c34 : CI K cd34 "keeps_table") (k34 : KP K f34)
    (a35 : NI K "is_reading" f35) (l35 : LK K f35 "is_reading" "is_reading" d_ oc35 od35 kV35 dc35 pm35 an35 cd35 ct35 sl35) (c35 : CI K cd35 "is_reading") (k35 : KP K f35)
    (a36 : NI K "law" f36) (l36 : LK K f36 "law" "law" iQ oc36 od36 kV36 dc36 pm36 an36 cd36 ct36 sl36) (c36 : CI K cd36 "law") (k36 : KP K f36)
    (pg : plainGet K C Str.empty = true) (hd : hasDictIn K C = true) (po : PySem.W.plainOver K C = true) (sa : findIn K (.ref C) "__setattr__" = some (some (.builtin "object.__setattr__"))) (mk : PySem.W.makesIn K C = true) (kc : keepIn K (.ref C) = true)
    (nE : findIn K (.ref C) "ends" = some none) (nR : findIn K (.ref C) "rests" = some none) (nT : findIn K (.ref C) "table" = some none)
    (z_len : NN K "len")
    (z_list : NN K "list")
    (z_tuple : NN K "tuple")
    (z_range : NN K "range")
    (z_enumerate : NN K "enumerate")
    (z_max : NN K "max")
    (z_isinstance : NN K "isinstance")
    (z_all : NN K "all")
    (z_zip : NN K "zip")
    (z_min : NN K "min")
    (z_int : NN K "int")
    (z_bool : NN K "bool")
    (z_ValueError : NN K "ValueError")
    (mb : nsIn K mainGlobals "MOST_BOXES" = some (some (.int 6 tb))) (ma : nsIn K mainGlobals "MOST_ARROWS" = some (some (.int 40 ta))) (mMOST_THINGS : nsIn K mainGlobals "MOST_THINGS" = some (some (.int 40 tMOST_THINGS)))
    (ih1 : findIn K (.ref C) "__class__" = some (some (.builtin "object.__class__"))) (ih2 : specialIn K (.builtin "object.__class__") "__get__" = some (some (.builtin "getset_descriptor.__get__"))) (ih3 : takesIn K (.builtin "object.__class__") = some true)
    (ih4 : mroIn K C (.type "object") = some true)
    (e0 : NI K "NoHall" C0)
    (e1 : NI K "NoArrow" C1)
    (e2 : NI K "NoBox" C2)
    (e3 : NI K "NoPicture" C3)
    (e4 : NI K "NoReading" C4)
    (e5 : NI K "NoThing" C5)
    (e6 : NI K "NoSending" C6)
    (eA : NI K "ArrowError" CA)
    (x2a : excIn K C2 [.type "ValueError", .type "Exception", .type "BaseException", .type "object"] "ValueError.__new__" = true) (x2b : findIn K (.ref C2) "__getattribute__" = some (some (.builtin "BaseException.__getattribute__"))) (x2c : findIn K (.ref C2) "__getattr__" = some none) (x2d : findIn K (.ref C2) "__class__" = some (some (.builtin "object.__class__"))) (x2e : mroIn K C2 (.type "object") = some true)
    (q20 : KO K (.ref C2) (.ref C0) false)    (q21 : KO K (.ref C2) (.ref C1) false)    (q22 : KO K (.ref C2) (.ref C2) true)    (q23 : KO K (.ref C2) (.ref C3) false)    (q24 : KO K (.ref C2) (.ref C4) false)    (q25 : KO K (.ref C2) (.ref C5) false)    (q26 : KO K (.ref C2) (.ref C6) false)    (v2 : KO K (.ref C2) (.type "ValueError") true) (u2 : KO K (.ref C2) (.ref CA) true) (n2 : C2 ≠ CA)
    (be : KO K (.ref CA) (.type "BaseException") true)
    (kii : KO K (.type "int") (.type "int") true)
    (kbi : KO K (.type "bool") (.type "int") true)
    (kNi : KO K (.type "NoneType") (.type "int") false)
    (kli : KO K (.type "list") (.type "int") false)
    (kti : KO K (.type "tuple") (.type "int") false)
    (kib : KO K (.type "int") (.type "bool") false)
    (kbb : KO K (.type "bool") (.type "bool") true)
    (kNb : KO K (.type "NoneType") (.type "bool") false)
    (klb : KO K (.type "list") (.type "bool") false)
    (ktb : KO K (.type "tuple") (.type "bool") false)
    (kil : KO K (.type "int") (.type "list") false)
    (kbl : KO K (.type "bool") (.type "list") false)
    (kNl : KO K (.type "NoneType") (.type "list") false)
    (kll : KO K (.type "list") (.type "list") true)
    (ktl : KO K (.type "tuple") (.type "list") false)
    (kit : KO K (.type "int") (.type "tuple") false)
    (kbt : KO K (.type "bool") (.type "tuple") false)
    (kNt : KO K (.type "NoneType") (.type "tuple") false)
    (klt : KO K (.type "list") (.type "tuple") false)
    (ktt : KO K (.type "tuple") (.type "tuple") true)
 :
    ∃ fd : FuncData, (∀ (s : Shared) (v : Value), BindsTo s fd ⟨[v], []⟩ [("script", v)]) /\ ∀ base : Heap, K.In base -> base.Ns mainGlobals mg -> FnOk l.prog w K mg base CX0 7 fa fd ["script"] (rL K) := by
  have e := hfa.symm.trans (mg_of X G a36)
  cases e
  have cl : Cls K C := ⟨pg, hd, po, sa⟩
  have mem : ∀ c, c ∈ [2] -> c = 2 := fun c hc => by simpa using hc
  have xa : rG K mg [2] := by
    refine ⟨fun k hk => ?_, fun c hc Cc h => ?_, fun c hc k hk Cc Ck h1 h2 => ?_, fun c hc Cc h => ?_⟩
    · match k, hk with
      | 0, _ => exact ⟨C0, e0, mg_of X G e0⟩
      | 1, _ => exact ⟨C1, e1, mg_of X G e1⟩
      | 2, _ => exact ⟨C2, e2, mg_of X G e2⟩
      | 3, _ => exact ⟨C3, e3, mg_of X G e3⟩
      | 4, _ => exact ⟨C4, e4, mg_of X G e4⟩
      | 5, _ => exact ⟨C5, e5, mg_of X G e5⟩
      | 6, _ => exact ⟨C6, e6, mg_of X G e6⟩
    · rcases mem c hc with rfl
      · cases e2.symm.trans h; exact ⟨x2a, x2b, x2c, x2d, ih2, ih3, x2e⟩
    · rcases mem c hc with rfl
      · cases e2.symm.trans h1
        match k, hk with
        | 0, _ => cases e0.symm.trans h2; exact q20
        | 1, _ => cases e1.symm.trans h2; exact q21
        | 2, _ => cases e2.symm.trans h2; exact q22
        | 3, _ => cases e3.symm.trans h2; exact q23
        | 4, _ => cases e4.symm.trans h2; exact q24
        | 5, _ => cases e5.symm.trans h2; exact q25
        | 6, _ => cases e6.symm.trans h2; exact q26
    · rcases mem c hc with rfl
      · cases e2.symm.trans h; exact v2
  have xb : XB K mg [2] CA := by
    refine ⟨mg_of X G eA, be, fun c hc Cc h => ?_⟩
    rcases mem c hc with rfl
    · cases e2.symm.trans h; exact ⟨u2, n2⟩
  have T : Txt K mg C := ⟨cl, nE, nR, nT, mg_none_of X G z_len, mg_none_of X G z_list, mg_none_of X G z_tuple, mg_none_of X G z_range, mg_none_of X G z_enumerate, mg_none_of X G z_max, mg_none_of X G z_isinstance, mg_none_of X G z_all, mg_none_of X G z_zip, mg_none_of X G z_min, mg_none_of X G z_int, mg_none_of X G z_bool, mg_none_of X G z_ValueError, ⟨cl, ih1, ih2, ih3, ih4⟩, mg_of X G aC, ⟨tb, mg_of X G mb⟩, ⟨ta, mg_of X G ma⟩, ⟨tMOST_THINGS, mg_of X G mMOST_THINGS⟩, ⟨C2, mg_of X G e2, x2a⟩, xa, ⟨CA, xb⟩, ⟨kii, kbi, kNi, kli, kti⟩, ⟨kib, kbb, kNb, klb, ktb⟩, ⟨kil, kbl, kNl, kll, ktl⟩, ⟨kit, kbt, kNt, klt, ktt⟩⟩
  have F1 := aU (st := fY) l1 c1 k1
  have b1 := F1.binds (ps := ["script", "k"]) fun _ _ _ _ _ _ us hl => by obtain ⟨y0, y1, rfl⟩ := fH hl; rfl
  have F2 := aU (st := fh) l2 c2 k2
  have b2 := F2.binds (ps := ["script", "k"]) fun _ _ _ _ _ _ us hl => by obtain ⟨y0, y1, rfl⟩ := fH hl; rfl
  have F3 := aU (st := fV) l3 c3 k3
  have b3 := F3.binds (ps := ["step"]) fun _ _ _ _ _ _ us hl => by obtain ⟨y0, rfl⟩ := qW hl; rfl
  have F4 := aU (st := bS) l4 c4 k4
  have b4 := F4.binds (ps := ["known"]) fun _ _ _ _ _ _ us hl => by obtain ⟨y0, rfl⟩ := qW hl; rfl
  have F5 := aU (st := d9) l5 c5 k5
  have b5 := F5.binds (ps := ["script", "k", "sizes"]) fun _ _ _ _ _ _ us hl => by obtain ⟨y0, y1, y2, rfl⟩ := oi hl; rfl
  have F6 := aU (st := fi) l6 c6 k6
  have b6 := F6.binds (ps := ["script", "k"]) fun _ _ _ _ _ _ us hl => by obtain ⟨y0, y1, rfl⟩ := fH hl; rfl
  have F7 := aU (st := cZ) l7 c7 k7
  have b7 := F7.binds (ps := ["ends", "rests"]) fun _ _ _ _ _ _ us hl => by obtain ⟨y0, y1, rfl⟩ := fH hl; rfl
  have F8 := aU (st := fZ) l8 c8 k8
  have b8 := F8.binds (ps := ["number", "count"]) fun _ _ _ _ _ _ us hl => by obtain ⟨y0, y1, rfl⟩ := fH hl; rfl
  have F9 := aU (st := eC) l9 c9 k9
  have b9 := F9.binds (ps := ["ends", "boxes"]) fun _ _ _ _ _ _ us hl => by obtain ⟨y0, y1, rfl⟩ := fH hl; rfl
  have F10 := aU (st := dH) l10 c10 k10
  have b10 := F10.binds (ps := ["ends", "rests"]) fun _ _ _ _ _ _ us hl => by obtain ⟨y0, y1, rfl⟩ := fH hl; rfl
  have F11 := aU (st := eB) l11 c11 k11
  have b11 := F11.binds (ps := ["table", "arrows"]) fun _ _ _ _ _ _ us hl => by obtain ⟨y0, y1, rfl⟩ := fH hl; rfl
  have F12 := aU (st := dI) l12 c12 k12
  have b12 := F12.binds (ps := ["ends", "one", "other", "made"]) fun _ _ _ _ _ _ us hl => by obtain ⟨y0, y1, y2, y3, rfl⟩ := Ap hl; rfl
  have F13 := aU (st := dG) l13 c13 k13
  have b13 := F13.binds (ps := ["ends", "table"]) fun _ _ _ _ _ _ us hl => by obtain ⟨y0, y1, rfl⟩ := fH hl; rfl
  have F14 := aU (st := bB) l14 c14 k14
  have b14 := F14.binds (ps := ["ends", "rests", "table"]) fun _ _ _ _ _ _ us hl => by obtain ⟨y0, y1, y2, rfl⟩ := oi hl; rfl
  have F15 := aU (st := cY) l15 c15 k15
  have b15 := F15.binds (ps := ["table", "one", "other", "made"]) fun _ _ _ _ _ _ us hl => by obtain ⟨y0, y1, y2, y3, rfl⟩ := Ap hl; rfl
  have F16 := aU (st := cX) l16 c16 k16
  have b16 := F16.binds (ps := ["table"]) fun _ _ _ _ _ _ us hl => by obtain ⟨y0, rfl⟩ := qW hl; rfl
  have F17 := aU (st := bg) l17 c17 k17
  have b17 := F17.binds (ps := ["self", "ends", "rests", "table"]) fun _ _ _ _ _ _ us hl => by obtain ⟨y0, y1, y2, y3, rfl⟩ := Ap hl; rfl
  have F18 := aU (st := fX) l18 c18 k18
  have b18 := F18.binds (ps := ["parts"]) fun _ _ _ _ _ _ us hl => by obtain ⟨y0, rfl⟩ := qW hl; rfl
  have F19 := aU (st := dD) l19 c19 k19
  have b19 := F19.binds (ps := ["parts", "box", "other"]) fun _ _ _ _ _ _ us hl => by obtain ⟨y0, y1, y2, rfl⟩ := oi hl; rfl
  have F20 := aU (st := hE) l20 c20 k20
  have b20 := F20.binds (ps := ["parts", "box"]) fun _ _ _ _ _ _ us hl => by obtain ⟨y0, y1, rfl⟩ := fH hl; rfl
  have F21 := aU (st := fj) l21 c21 k21
  have b21 := F21.binds (ps := ["hall", "box"]) fun _ _ _ _ _ _ us hl => by obtain ⟨y0, y1, rfl⟩ := fH hl; rfl
  have F22 := aU (st := hJ) l22 c22 k22
  have b22 := F22.binds (ps := ["hall", "box", "other"]) fun _ _ _ _ _ _ us hl => by obtain ⟨y0, y1, y2, rfl⟩ := oi hl; rfl
  have F23 := aU (st := d8) l23 c23 k23
  have b23 := F23.binds (ps := ["hall", "things", "arrow"]) fun _ _ _ _ _ _ us hl => by obtain ⟨y0, y1, y2, rfl⟩ := oi hl; rfl
  have F24 := aU (st := iP) l24 c24 k24
  have b24 := F24.binds (ps := ["hall", "box"]) fun _ _ _ _ _ _ us hl => by obtain ⟨y0, y1, rfl⟩ := fH hl; rfl
  have F25 := aU (st := fR) l25 c25 k25
  have b25 := F25.binds (ps := ["hall", "box"]) fun _ _ _ _ _ _ us hl => by obtain ⟨y0, y1, rfl⟩ := fH hl; rfl
  have F26 := aU (st := fW) l26 c26 k26
  have b26 := F26.binds (ps := ["found", "due"]) fun _ _ _ _ _ _ us hl => by obtain ⟨y0, y1, rfl⟩ := fH hl; rfl
  have F27 := aU (st := cz) l27 c27 k27
  have b27 := F27.binds (ps := ["found", "due"]) fun _ _ _ _ _ _ us hl => by obtain ⟨y0, y1, rfl⟩ := fH hl; rfl
  have F28 := aU (st := fU) l28 c28 k28
  have b28 := F28.binds (ps := ["found", "due"]) fun _ _ _ _ _ _ us hl => by obtain ⟨y0, y1, rfl⟩ := fH hl; rfl
  have F29 := aU (st := fg) l29 c29 k29
  have b29 := F29.binds (ps := ["e"]) fun _ _ _ _ _ _ us hl => by obtain ⟨y0, rfl⟩ := qW hl; rfl
  have F30 := aU (st := fk) l30 c30 k30
  have b30 := F30.binds (ps := ["numbers", "count"]) fun _ _ _ _ _ _ us hl => by obtain ⟨y0, y1, rfl⟩ := fH hl; rfl
  have F31 := aU (st := f_) l31 c31 k31
  have b31 := F31.binds (ps := ["hall", "counts", "maps"]) fun _ _ _ _ _ _ us hl => by obtain ⟨y0, y1, y2, rfl⟩ := oi hl; rfl
  have F32 := aU (st := dF) l32 c32 k32
  have b32 := F32.binds (ps := ["hall", "counts", "maps"]) fun _ _ _ _ _ _ us hl => by obtain ⟨y0, y1, y2, rfl⟩ := oi hl; rfl
  have F33 := aU (st := ge) l33 c33 k33
  have b33 := F33.binds (ps := ["first", "second"]) fun _ _ _ _ _ _ us hl => by obtain ⟨y0, y1, rfl⟩ := fH hl; rfl
  have F34 := aU (st := dE) l34 c34 k34
  have b34 := F34.binds (ps := ["hall", "maps"]) fun _ _ _ _ _ _ us hl => by obtain ⟨y0, y1, rfl⟩ := fH hl; rfl
  have F35 := aU (st := d_) l35 c35 k35
  have b35 := F35.binds (ps := ["hall", "counts", "maps"]) fun _ _ _ _ _ _ us hl => by obtain ⟨y0, y1, y2, rfl⟩ := oi hl; rfl
  have F36 := aU (st := iQ) l36 c36 k36
  have b36 := F36.binds (ps := ["script"]) fun _ _ _ _ _ _ us hl => by obtain ⟨y0, rfl⟩ := qW hl; rfl
  refine ⟨fnOf "law" "law" (ig iQ) (bM iQ) (ai iQ) .none kV36 dc36 pm36 an36 cd36 ct36, fun s v => .of_eq rfl, fun base _ _ => ?_⟩
  have r1 := pT (P := l.prog) (w := w) (base := base) T F1 (mg_of X G a1) b1
  have r2 := n0 T r1 F2 (mg_of X G a2) b2
  have r3 := pO (P := l.prog) (w := w) (base := base) T F3 (mg_of X G a3) b3
  have r4 := mB (P := l.prog) (w := w) (base := base) T F4 (mg_of X G a4) b4
  have r5 := mC T r1 r4 r3 F5 (mg_of X G a5) b5
  have r6 := n8 T r5 r2 F6 (mg_of X G a6) b6
  have r7 := j3 (P := l.prog) (w := w) (base := base) T F7 (mg_of X G a7) b7
  have r8 := pU (P := l.prog) (w := w) (base := base) T F8 (mg_of X G a8) b8
  have r9 := mF T r8 F9 (mg_of X G a9) b9
  have r10 := lh T r8 F10 (mg_of X G a10) b10
  have r11 := mE (P := l.prog) (w := w) (base := base) T F11 (mg_of X G a11) b11
  have r12 := li T r8 F12 (mg_of X G a12) b12
  have r13 := lg T r12 F13 (mg_of X G a13) b13
  have r14 := gC (P := l.prog) (w := w) (base := base) T F14 (mg_of X G a14) b14
  have r15 := j0 (P := l.prog) (w := w) (base := base) T F15 (mg_of X G a15) b15
  have r16 := jZ T r15 F16 (mg_of X G a16) b16
  have r17 := lj T r14 r7 r9 r11 r10 r13 r16 F17 ⟨mk, a17, i17, kc⟩ b17
  have r18 := pQ T r17 F18 (mg_of X G a18) b18
  have r19 := ld (P := l.prog) (w := w) (base := base) T F19 (mg_of X G a19) b19
  have r20 := qS T r19 F20 (mg_of X G a20) b20
  have r21 := n9 T r8 F21 (mg_of X G a21) b21
  have r22 := qT T r21 F22 (mg_of X G a22) b22
  have r23 := my (P := l.prog) (w := w) (base := base) T F23 (mg_of X G a23) b23
  have r24 := t9 T r22 r23 F24 (mg_of X G a24) b24
  have r25 := pJ T r22 F25 (mg_of X G a25) b25
  have r26 := pP (P := l.prog) (w := w) (base := base) T F26 (mg_of X G a26) b26
  have r27 := iX T r26 F27 (mg_of X G a27) b27
  have r28 := pM T r26 r27 F28 (mg_of X G a28) b28
  have r29 := nZ (P := l.prog) (w := w) (base := base) T F29 (mg_of X G a29) b29
  have r30 := n_ T r8 F30 (mg_of X G a30) b30
  have r31 := pW T r30 F31 (mg_of X G a31) b31
  have r32 := lf (P := l.prog) (w := w) (base := base) T F32 (mg_of X G a32) b32
  have r33 := pX (P := l.prog) (w := w) (base := base) T F33 (mg_of X G a33) b33
  have r34 := le T r33 F34 (mg_of X G a34) b34
  have r35 := mD T r31 r32 r34 F35 (mg_of X G a35) b35
  exact x_ hval (bc (C := C) F36 DC (fun cdv A outer s H E hr => wS cdv A outer s H E T r1 r27 r18 r20 r6 r28 r29 r35 r24 r25 hr))
theorem walk {l:PySem.W.OpenLaw} {q:Program} {loose:List Str} {XP:(Str->Option Value)->Heap->Prop} {YP:World->Heap->Prop} {d:DefRec} {K:Params->Frag} (hn:l.most=some 63) (hdf:d.params.defaults=[])
  (hY:∀(w:World) (h:Heap),YP w h->(K w.params).In h)
  (F:∀(w:World) (mg:Str->Option Value) (fa:Addr) (h:Heap),(K w.params).In h->h.Ns mainGlobals mg->mg d.name=some (.ref fa) ->
   ∃fd:FuncData,(∀(s:Shared) (u:Value),BindsTo s fd ⟨[u],[]⟩ [("script",u)])/\∀base:Heap,(K w.params).In base->base.Ns mainGlobals mg->FnOk l.prog w (K w.params) mg base CX0 7 fa fd ["script"] (rL (K w.params))) :
  PySem.W.WalkO q loose XP YP l.row.toRowW d [] (λf vs=>PySem.call f vs) :=
 L2.walk_of (n:=63) (k:=7) (x:="script") (CX:=λ_=>CX0) (sp:=λw=>rL (K w.params)) hn (by decide) hdf ⟨rfl,by decide,by decide⟩ hY F (λ_ _ a ns hl _ hS=>⟨a,ns,rfl,hS,hl,λ_=>rfl⟩) λ_ _ _ _ _ z=>z
end DL
namespace PySem.W.Fast
def tw3922763761774802944:=0
def tw3101141426361304320:=0
def tw16732755811524555008:=0
def tw18050160454469371232:=0
def tw16391018828319372736:=0
def tw3027382167705026080:=0
def tw1468196915502160640:=0
def tw2312946426826726272:=0
def tw805674493261936576:=0
def tw11370729151869778880:=0
def tw67404191171872736:=0
def tw2333250946360366081:=0
def tw6180203716832983073:=0
def tw6048377354486576321:=0
def tw740270455334647041:=0
def tw8515608265667911137:=0
def tw12273379441964454497:=0
def tw10665553111277875841:=0
def tw12905751340221354689:=0
def tw13525988371123308257:=0
def tw2556986251218281185:=0
def tw2553114756722932513:=0
def tw4020096188933587841:=0
def tw4134760262245109826:=0
def tw16554237851113744482:=0
def tw7529250287734223970:=0
def tw15056414046992991490:=0
def tw10656638258384008514:=0
def tw3725984898552056194:=0
def tw11988090177145813410:=0
def tw7726442464825088450:=0
def tw7462131936327553538:=0
def tw17555183954704857634:=0
def tw7238746962646592066:=0
def tw17782859569166744194:=0
def tw7831289900828859106:=0
def tw15374950833147052834:=0
def tw15617582251294761922:=0
def tw161322327695589379:=0
def tw6853360923445430787:=0
def tw8408835035516212931:=0
def tw4711999443471531747:=0
def tw2833434787341802371:=0
def tw4757092830073924644:=0
def tw18214508214407817252:=0
def tw11439374004040923300:=0
def tw8146344141839771972:=0
def tw11908088756708297188:=0
def tw7965315224300296804:=0
def tw5424740975077487236:=0
def tw15651137247071781508:=0
def tw16637451641676951236:=0
def tw13270399963124647684:=0
def tw3735480310853685060:=0
def tw16341092275209259908:=0
def tw9097408401782037637:=0
def tw7493547229103775877:=0
def tw10688614434452270213:=0
def tw12484042426679605541:=0
def tw4371474166391205541:=0
def tw2184930155332924069:=0
def tw1860359644552241925:=0
def tw16474635846173628197:=0
def tw13486936487352916869:=0
def tw12774959019987738597:=0
def tw11921640632319442950:=0
def tw17125481246125679686:=0
def tw3081587914666248294:=0
def tw8761427169360983206:=0
def tw15726683800035091718:=0
def tw5023513100415872454:=0
def tw12844195435968766438:=0
def tw11312101888006819366:=0
def tw7480753942149964358:=0
def tw11218464247312846470:=0
def tw14661528056843275942:=0
def tw970247894730602310:=0
def tw2329342284077269830:=0
def tw10935191743013445671:=0
def tw5717073632290345063:=0
def tw11319725493729481863:=0
def tw15325605164372259079:=0
def tw7331001789074469223:=0
def tw6253292888668958119:=0
def tw5734424151338260999:=0
def tw3636674242225679975:=0
def tw8691871024959042151:=0
def tw9515092246138101543:=0
def tw9174618525896122311:=0
def tw4399396379636915240:=0
def tw4472420641504373800:=0
def tw11442062365235278984:=0
def tw10173479723817145512:=0
def tw13842492990191087816:=0
def tw1663241938660536648:=0
def tw291635026276109768:=0
def tw4817611019629206120:=0
def tw7740411792099918440:=0
def tw4917775638991130376:=0
def tw11528929447999045448:=0
def tw5141097791895006056:=0
def tw4617720355348100201:=0
def tw2293744428951913609:=0
def tw18295031752459900041:=0
def tw2964157390958516489:=0
def tw12711981308427173161:=0
def tw11901679664397745513:=0
def tw8603029673064549833:=0
def tw7268602393109692873:=0
def tw612738481612444265:=0
def tw10971093449343612553:=0
def tw4488754306143277801:=0
def tw4129632020081756937:=0
def tw18282503346953313225:=0
def tw6814618934570697802:=0
def tw5027031184243779722:=0
def tw10546578161634205866:=0
def tw14109310686812596394:=0
def tw4898411827343323562:=0
def tw11797998319245905482:=0
def tw8386484591936326250:=0
def tw14321744420912675466:=0
def tw13179859273575826186:=0
def tw8639347094521062218:=0
def tw18079322178562732043:=0
def tw6358173560088401995:=0
def tw1377813229529421931:=0
def tw11377014037062390891:=0
def tw1783252387003401323:=0
def tw4215656208112072907:=0
def tw6918783745404446955:=0
def tw33029211945151947:=0
def tw9051651268219481579:=0
def tw11991167350859617771:=0
def tw13267709111293960683:=0
def tw15598585929447305739:=0
def tw1954590231965885963:=0
def tw2503095468934717995:=0
def tw9953477852798028459:=0
def tw5828798926637945515:=0
def tw4404703031305039595:=0
def tw18137187925053961163:=0
def tw14441194090889835499:=0
def tw2469088084640938028:=0
def tw9559838302930764908:=0
def tw2223352030247796844:=0
def tw8650247570316891276:=0
def tw14204300122423669932:=0
def tw14744845026147096812:=0
def tw1241534987221529868:=0
def tw6253319836843455820:=0
def tw12195041709016230284:=0
def tw4212036266625325516:=0
def tw13292956681070147116:=0
def tw4529582781347934764:=0
def tw7621012253253387916:=0
def tw5775526703873701548:=0
def tw14883917528598048428:=0
def tw4368268790962688716:=0
def tw7971429059184265964:=0
def tw12614997011407308556:=0
def tw637962924695948076:=0
def tw16764548998074428268:=0
def tw16117859025560856621:=0
def tw2602493897803442541:=0
def tw17547080638256932429:=0
def tw17734765207314447949:=0
def tw9531357201336428301:=0
def tw15011339104932726701:=0
def tw12942795822803237837:=0
def tw6819348518364829645:=0
def tw16773229296032129005:=0
def tw6370245639155985454:=0
def tw1896075701610572878:=0
def tw2990287874888306830:=0
def tw195001084719375566:=0
def tw15994359878135928046:=0
def tw2084926973233275182:=0
def tw11226850058003618158:=0
def tw16499677739240193390:=0
def tw16916492446085417358:=0
def tw14116650795967369646:=0
def tw2359779050815802926:=0
def tw7611783917346868814:=0
def tw6470548358931480174:=0
def tw16740391312536079054:=0
def tw17842293738001706798:=0
def tw5142820988892236622:=0
def tw1848916595766632430:=0
def tw3473738073498588399:=0
def tw16285019542392818959:=0
def tw5389079602750152015:=0
def tw6440978132747388271:=0
def tw10791258456429925743:=0
def tw15654178108236345807:=0
def tw4314742840058964527:=0
def tw11397596724576224815:=0
def tw10143880848246329935:=0
def tw16938412327300636367:=0
def tw14880570640353689327:=0
def tw17275307831649670063:=0
def tw7196802885257709584:=0
def tw5301221698763963440:=0
def tw16643946432504523920:=0
def tw10965309712943066256:=0
def tw9647410415201521040:=0
def tw8361036007307036208:=0
def tw16420048996532682384:=0
def tw13781025851126490064:=0
def tw2373202270195513393:=0
def tw6721813280463447121:=0
def tw10066280249572712561:=0
def tw4896190168798277745:=0
def tw4588587236186517681:=0
def tw7953349845782182129:=0
def tw8121707968359794961:=0
def tw5189074558785629489:=0
def tw12854667059731557713:=0
def tw1496610614561439153:=0
def tw6726772149904078289:=0
def tw13139176785285782001:=0
def tw11890794708742866481:=0
def tw3941022698042243633:=0
def tw10592082611602220657:=0
def tw3357911743467173553:=0
def tw16006872488492381905:=0
def tw7815668206176939729:=0
def tw13034326347101048561:=0
def tw16519628528070479665:=0
def tw13608917178308105073:=0
def tw8007180084500915121:=0
def tw12368360387680961521:=0
def tw17112579366557061138:=0
def tw4759136036437168210:=0
def tw12768434407310922834:=0
def tw17751406280124195922:=0
def tw18379779298940524114:=0
def tw11400478529659487890:=0
def tw7593157929537154706:=0
def tw3168845392967867058:=0
def tw10836698926647702226:=0
def tw12834828993101911794:=0
def tw12996388329894953842:=0
def tw5861971324041113522:=0
def tw8564434900427140082:=0
def tw7285565681585762451:=0
def tw10116866442223277587:=0
def tw12201428348288688691:=0
def tw6267637965032131187:=0
def tw15900816541793441427:=0
def tw10573091728711939955:=0
def tw12250267675379289971:=0
def tw12876930110219282355:=0
def tw2726180826184890291:=0
def tw1551732647586452467:=0
def tw16737204724633757844:=0
def tw6112899715874307380:=0
def tw14154663147865502036:=0
def tw15150656906511380084:=0
def tw2742950794795335412:=0
def tw5224083637770263316:=0
def tw6471795236793960244:=0
def tw7415483947800348757:=0
def tw8687637380091163733:=0
def tw17751847138488283253:=0
def tw10329195664640540789:=0
def tw13227198253402168533:=0
def tw16645831143616317685:=0
def tw17146995597987774773:=0
def tw9919254250688859509:=0
def tw4095116093441562101:=0
def tw15432099497306551829:=0
def tw8071270332266324501:=0
def tw12773413366574048853:=0
def tw15670342239668123317:=0
def tw5279354206379387605:=0
def tw12674414322568952725:=0
def tw13950936930104269846:=0
def tw7233103841455199286:=0
def tw4326180170500485302:=0
def tw12469976234986503478:=0
def tw11223191858176334230:=0
def tw16105858768675436982:=0
def tw12360008021321701846:=0
def tw1755195525476562422:=0
def tw16697737030594750998:=0
def tw5705134190214292022:=0
def tw8858256619637166646:=0
def tw11567946893222191766:=0
def tw1495276124325250710:=0
def tw14480740306573577974:=0
def tw15649672750905568054:=0
def tw5870393963891253238:=0
def tw3919202661545133079:=0
def tw7208777323999426583:=0
def tw3075191475751978071:=0
def tw10390147889022532695:=0
def tw2753931564618380407:=0
def tw13445752912448485623:=0
def tw15634010955189162295:=0
def tw4617525855946339639:=0
def tw13661934858851074391:=0
def tw5749192003646393687:=0
def tw2471456938677350871:=0
def tw5015822650015991255:=0
def tw16686490011919330807:=0
def tw3924169339548850775:=0
def tw336579522202527415:=0
def tw7111459058722703031:=0
def tw11639795711306195767:=0
def tw17163186701558203287:=0
def tw14188832429721445303:=0
def tw12646154976489143255:=0
def tw2557828002077777911:=0
def tw11093816468559770615:=0
def tw4686384540541929463:=0
def tw2631200417372430424:=0
def tw11473178376867306680:=0
def tw10613083887621208280:=0
def tw1933637532166235608:=0
def tw12786894940204741240:=0
def tw5134690571314588504:=0
def tw1182237710504270712:=0
def tw7931131169422663576:=0
def tw438312280498192312:=0
def tw9080410849720675481:=0
def tw11971433906234629305:=0
def tw2879891799956181273:=0
def tw14416802451985433977:=0
def tw7476630078441187737:=0
def tw17168611763517141497:=0
def tw18326875367643421209:=0
def tw4756173015540963289:=0
def tw4818885060146739226:=0
def tw14951507385925345402:=0
def tw5717898091253317754:=0
def tw451357699274209562:=0
def tw16594254750515866970:=0
def tw9082913231324666330:=0
def tw7672863364046380506:=0
def tw13106966737693953658:=0
def tw11273737859442532026:=0
def tw9771838269585191642:=0
def tw107313833109116666:=0
def tw8780032565252114234:=0
def tw15205571998319726426:=0
def tw6362089207089440923:=0
def tw453907997201082747:=0
def tw14796306797786210907:=0
def tw8899422222617918043:=0
def tw10449058478648557275:=0
def tw3031134585222422331:=0
def tw8405449949080794971:=0
def tw9955482239740127163:=0
def tw6844463964931260508:=0
def tw6442310368175573276:=0
def tw4532436580309376316:=0
def tw7231792296189803868:=0
def tw8244378290191963740:=0
def tw5977760305945725564:=0
def tw7859965297470363324:=0
def tw4895099409874430908:=0
def tw1043161423421754332:=0
def tw972705457640226173:=0
def tw11054476584889461149:=0
def tw13711211337159188925:=0
def tw2292510738415689181:=0
def tw1370547348161983037:=0
def tw4612592154944009917:=0
def tw14120000216232009469:=0
def tw5113575831839501085:=0
def tw3893340281151991709:=0
def tw6509760442498228125:=0
def tw3436400679503438781:=0
def tw1993679942325607421:=0
def tw7706980433583198238:=0
def tw10414542676798668926:=0
def tw12547674487740159230:=0
def tw908926762862158078:=0
def tw16430783929837634942:=0
def tw12777184862773303710:=0
def tw1467692542918490622:=0
def tw626735769512867326:=0
def tw14929963681622800958:=0
def tw8151495496249484894:=0
def tw15568045519888990814:=0
def tw8055530026656661118:=0
def tw3807341640758224542:=0
def tw9742601759605825246:=0
def tw15145661982198708222:=0
def tw9397695268476387326:=0
def tw7299640355044649023:=0
def tw5081670574787398751:=0
def tw7025418848900891743:=0
def tw7059189875807856799:=0
def tw2581219033414553759:=0
def tw11327507295197977791:=0
def tw12329755690164415743:=0
def tw12873805110846448927:=0
def tw16192220124678857055:=0
def tw14707989004947884415:=0
def tw8978299752326212255:=0
def tw7883522126802793151:=0
def tw14843973582756784863:=0
def tw15644191516209953631:=0
def tw18143830246368023423:=0
def tw14711557883219399551:=0
def tw11158244416544602079:=0
end PySem.W.Fast
open PySem PySem.W PyProof.Rows
set_option maxRecDepth 100000 in
set_option maxHeartbeats 0 in
theorem PySem.Challenge.cw_arrowhall_k10_out_of_a_box_holds : PySem.Challenge.rw_arrowhall_k10_out_of_a_box.Holds := by
 w_on;o_law;k_head;(case hw=>w_witness2)
 k_fill
 refine DL.walk (l:=PySem.Challenge.rw_arrowhall_k10_out_of_a_box) rfl rfl (fun w h DQ=>PySem.W.kIn_of DQ) ?F
 case F =>
  intro w mg fa h KX G hmg
  refine' DL.all_mk DL.law_val KX G hmg ?aC ?a1 ?l1 ?c1 ?k1 ?a2 ?l2 ?c2 ?k2 ?a3 ?l3 ?c3 ?k3 ?a4 ?l4 ?c4 ?k4 ?a5 ?l5 ?c5 ?k5 ?a6 ?l6 ?c6 ?k6 ?a7 ?l7 ?c7 ?k7 ?a8 ?l8 ?c8 ?k8 ?a9 ?l9 ?c9 ?k9 ?a10 ?l10 ?c10 ?k10 ?a11 ?l11 ?c11 ?k11 ?a12 ?l12 ?c12 ?k12 ?a13 ?l13 ?c13 ?k13 ?a14 ?l14 ?c14 ?k14 ?a15 ?l15 ?c15 ?k15 ?a16 ?l16 ?c16 ?k16 ?a17 ?i17 ?l17 ?c17 ?k17 ?a18 ?l18 ?c18 ?k18 ?a19 ?l19 ?c19 ?k19 ?a20 ?l20 ?c20 ?k20 ?a21 ?l21 ?c21 ?k21 ?a22 ?l22 ?c22 ?k22 ?a23 ?l23 ?c23 ?k23 ?a24 ?l24 ?c24 ?k24 ?a25 ?l25 ?c25 ?k25 ?a26 ?l26 ?c26 ?k26 ?a27 ?l27 ?c27 ?k27 ?a28 ?l28 ?c28 ?k28 ?a29 ?l29 ?c29 ?k29 ?a30 ?l30 ?c30 ?k30 ?a31 ?l31 ?c31 ?k31 ?a32 ?l32 ?c32 ?k32 ?a33 ?l33 ?c33 ?k33 ?a34 ?l34 ?c34 ?k34 ?a35 ?l35 ?c35 ?k35 ?a36 ?l36 ?c36 ?k36 ?pg ?hd ?po ?sa ?mk ?kc ?nE ?nR ?nT ?z_len ?z_list ?z_tuple ?z_range ?z_enumerate ?z_max ?z_isinstance ?z_all ?z_zip ?z_min ?z_int ?z_bool ?z_ValueError ?mb ?ma ?mMOST_THINGS ?ih1 ?ih2 ?ih3 ?ih4 ?e0 ?e1 ?e2 ?e3 ?e4 ?e5 ?e6 ?eA ?x2a ?x2b ?x2c ?x2d ?x2e ?q20 ?q21 ?q22 ?q23 ?q24 ?q25 ?q26 ?v2 ?u2 ?n2 ?be ?kii ?kbi ?kNi ?kli ?kti ?kib ?kbb ?kNb ?klb ?ktb ?kil ?kbl ?kNl ?kll ?ktl ?kit ?kbt ?kNt ?klt ?ktt
  all_goals try unfold DL.NI
  all_goals try unfold DL.NN
  all_goals try unfold DL.LK
  all_goals try unfold DL.CI
  all_goals try unfold DL.KP
  all_goals try unfold DL.KO
  all_goals try first | k_is | kit_is | k_exc
  all_goals first | decide | exact (fun h=>by cases h)
