import PyProof.Rows.All
import Wide.All
import OpenK.AllK
import Wide.FinOn
import Lean
import PyProof.EqAt
import PyProof.EqKinds
import PyProof.TupleCall
import PyProof.NeKinds
import PyProof.ListRange
import PyProof.TupleOfGen
import PyProof.DictRoadsH
import PyProof.Rows.FStr
import PyProof.ExcBaseAll.ValueError
import PyProof.ExcClass2
import PyProof.ExcArgsOwn
import PyProof.ExcAttrAll.ValueError
import KE.KIsAll
import PyProof.RulesAs
import PyProof.NsDelKeeps
import PyProof.ConsumeWalk
import PyProof.ZipIter
import PyProof.Rows.ZipGen
import PyProof.Rows.SeqGen
import PyProof.Rows.FactsT2
import PyProof.WalkInts
import PyProof.Rows.MinMaxN
import PyProof.Rows.CallKwBuiltin
import KE.KMinKey
import KE.KSortAsk
import PyProof.Rows.FactsT3
import PySem.Challenge.RW_arrowhall_k06_no_picture
set_option Elab.async false
set_option linter.all false
set_option maxRecDepth 100000
set_option maxHeartbeats 4000000
open PySem.W (instObj Frag InstAt plainGet hasDictIn findIn emptyDict keepIn cellsFrom_some fnOf codeIn nsIn callWith_K mroIn excIn kitOne mg_of mg_none_of)
noncomputable section
namespace L2
open PySem PySem.Spec PyProof.Rows
abbrev Key:=Sum Int Str
def A7:Key->Value->Bool
 | .inl k,v=>Value.isInt k v
 | .inr x,v=>Value.isStrOf x v
def Ez (w:World):Key->Int
 | .inl k=>hashInt k
 | .inr x=>hashStr w x
theorem cC:∀ {k:Key} {v:Value},A7 k v=true->(∃ i t,k=Sum.inl i/\v=Value.int i t)\/(∃ x t,k=Sum.inr x/\v=Value.str x t)
 | .inl i,v,h=>by
  obtain ⟨t,e⟩:=Value.isInt_shape (k:=i) (v:=v) h
  exact .inl ⟨i,t,rfl,e⟩
 | .inr x,v,h=>by
  obtain ⟨t,e⟩:=Value.isStrOf_shape (x:=x) (v:=v) h
  exact .inr ⟨x,t,rfl,e⟩
theorem Cu (a b:Int):decide ((Sum.inl a:Key)=Sum.inl b)=(a == b):=by
 by_cases e:a=b
 ·subst e;simp
 ·have h:¬ (Sum.inl a:Key)=Sum.inl b:=fun q=>e (Sum.inl.inj q)
  rw [decide_eq_false h]
  exact (beq_eq_false_iff_ne.mpr e).symm
theorem Cr (a b:Str):decide ((Sum.inr a:Key)=Sum.inr b)=decide (a=b):=by
 by_cases e:a=b
 ·subst e;simp
 ·have h:¬ (Sum.inr a:Key)=Sum.inr b:=fun q=>e (Sum.inr.inj q)
  rw [decide_eq_false h,decide_eq_false e]
theorem Ct (a:Int) (b:Str):decide ((Sum.inl a:Key)=Sum.inr b)=false:=decide_eq_false (fun q=>nomatch q)
theorem Cs (a:Str) (b:Int):decide ((Sum.inr a:Key)=Sum.inl b)=false:=decide_eq_false (fun q=>nomatch q)
def u6 (prog:Program) (w:World):PySem.KeyKind prog w Key where
 is:=A7
 hash:=Ez w
 inj:=fun v a b ha hb=>by
  rcases cC ha with ⟨i,t,rfl,rfl⟩ | ⟨x,t,rfl,rfl⟩
  ·rcases cC hb with ⟨j,u,rfl,e⟩ | ⟨y,u,rfl,e⟩
   ·injection e with e1 _;rw [e1]
   ·exact nomatch e
  ·rcases cC hb with ⟨j,u,rfl,e⟩ | ⟨y,u,rfl,e⟩
   ·exact nomatch e
   ·injection e with e1 _;rw [e1]
 byValue:=fun k v h=>by
  rcases cC h with ⟨i,t,rfl,rfl⟩ | ⟨x,t,rfl,rfl⟩ <;> rfl
 pyHash:=fun hv h=>by
  rcases cC hv with ⟨i,t,rfl,rfl⟩ | ⟨x,t,rfl,rfl⟩
  ·exact wpAny_pyHash_int h
  ·exact wpAny_pyHash_str h
 eqBool:=fun hu hv h=>by
  rcases cC hu with ⟨i,t,rfl,rfl⟩ | ⟨x,t,rfl,rfl⟩
  ·rcases cC hv with ⟨j,u,rfl,rfl⟩ | ⟨y,u,rfl,rfl⟩
   ·rw [Cu] at h;exact wpAny_eqBool_int h
   ·rw [Ct] at h;exact SeqAt.EqAt.int_str i t y u _ _ _ _ h
  ·rcases cC hv with ⟨j,u,rfl,rfl⟩ | ⟨y,u,rfl,rfl⟩
   ·rw [Cs] at h;exact SeqAt.EqAt.str_int x t j u _ _ _ _ h
   ·rw [Cr] at h;exact wpAny_eqBool_str h
 «strs»:=fun k x t v h=>by
  rcases cC h with ⟨i,u,rfl,e⟩ | ⟨y,u,rfl,e⟩
  ·exact nomatch e
  ·injection e with e1 _
   subst e1
   cases v <;> rfl
end L2
namespace L2
open PySem PySem.Spec PyProof.Rows
inductive V where
 | non | bl (b:Bool) | int (i:Int) | str (x:Str) | byt (b:Array UInt8) | flt (b:UInt64) | ref (a:Addr) | ty (n:String)
 deriving DecidableEq
def RelV:V->Value->Prop
 | .non,u=>u=Value.none
 | .bl b,u=>u=Value.bool b
 | .int i,u=>∃ t,u=Value.int i t
 | .str x,u=>∃ t,u=Value.str x t
 | .byt b,u=>∃ t,u=Value.bytes b t
 | .flt b,u=>∃ t,u=Value.float b t
 | .ref a,u=>u=Value.ref a
 | .ty n,u=>u=Value.type n
abbrev Vals:List V->List Value->Prop:=Paired RelV
theorem Vals.length {xs:List V} {us:List Value} (r:Vals xs us):xs.length=us.length:=Paired.length r
theorem Vals.get:∀ {xs:List V} {us:List Value} {i:Nat} {x:V},Vals xs us->xs[i]?=some x->∃ u,us[i]?=some u/\RelV x u
 | _,_,_,_,.nil,e=>by simp at e
 | _,_,0,_,.cons r _,e=>by simp at e;subst e;exact ⟨_,rfl,r⟩
 | _,_,i + 1,x,.cons _ t,e=>by
  obtain ⟨u,h1,h2⟩:=Vals.get (i:=i) (x:=x) t (by simpa using e)
  exact ⟨u,by simpa using h1,h2⟩
theorem Vals.append:∀ {xs ys:List V} {us ws:List Value},Vals xs us->Vals ys ws->Vals (xs ++ ys) (us ++ ws)
 | _,_,_,_,.nil,s=>s
 | _,_,_,_,.cons r t,s=>.cons r (Vals.append t s)
theorem Vals.take:∀ {xs:List V} {us:List Value} (n:Nat),Vals xs us->Vals (xs.take n) (us.take n)
 | _,_,0,_=>.nil
 | _,_,_ + 1,.nil=>.nil
 | _,_,n + 1,.cons r t=>.cons r (Vals.take n t)
theorem Vals.drop:∀ {xs:List V} {us:List Value} (n:Nat),Vals xs us->Vals (xs.drop n) (us.drop n)
 | _,_,0,r=>r
 | _,_,_ + 1,.nil=>.nil
 | _,_,n + 1,.cons _ t=>Vals.drop n t
def RelO:Option V->Option Value->Prop
 | some v,some u=>RelV v u
 | none,none=>True
 | _,_=>False
def KV {κ:Type}:List (κ × V)->List (κ × Value)->Prop:=Paired fun (p:κ × V) (q:κ × Value)=>p.1=q.1/\RelV p.2 q.2
def kV:Key->V
 | .inl i=>.int i
 | .inr x=>.str x
inductive HO where
  | lst (xs:List V)
  | tup (xs:List V)
  | dK (kvs:List (Key × V)) | dT (kvs:List (List Key × V))
  | set (S:Int->Bool) (n:Nat)
  | ins (C dx:Addr) (fs:List (Str × V))
  | own (x:Addr)
  | xd (fs:List (Str × V))
  | met (f x:Addr)
  | rng (lo hi:Int)
  | frz (o:Obj) (u:HO)
  | tbl (ps:Array Value)
  | ext (φ:Heap->Prop)
abbrev Hp:=Addr->Option HO
def upd (H:Hp) (a:Addr) (o:HO):Hp:=fun b=>if b=a then some o else H b
theorem bp {H:Hp} {a:Addr} {o:HO}:upd H a o a=some o:=by unfold upd;rw [if_pos rfl]
theorem aO {H:Hp} {a b:Addr} {o:HO} (h:b ≠ a):upd H a o b=H b:=by unfold upd;rw [if_neg h]
theorem bE {H:Hp} {a b:Addr} {o:HO} (h:H a=some o) (h':H b=none):a ≠ b:=by
 intro e;subst e;rw [h] at h';cases h'
section
variable (P:Program) (w:World)
def ObjOk (H:Hp) (h:Heap) (a:Addr):HO->Prop
 | .lst xs=>xs.length<=sizeLine/\∃ (its:List Value) (n:Nat),Vals xs its/\h.get? a=some { cls:=.type "list",data:=.seq its.toArray n }
 | .tup xs=>xs.length<=sizeLine/\∃ its:List Value,Vals xs its/\IsTup h a its.toArray
 | .dK kvs=>kvs.length<=sizeLine/\(a == sysModules)=false/\∃ vs,KV kvs vs/\h.DictOf (u6 P w) a vs
 | .dT kvs=>kvs.length<=sizeLine/\(a == sysModules)=false/\∃ xs:List (List Key × Addr × Value),
   Paired (fun (p:List Key × V) (q:List Key × Addr × Value)=>p.1=q.1/\H q.2.1=some (.tup (p.1.map kV))/\RelV p.2 q.2.2) kvs xs /\
   ∃ o es ep,h.get? a=some o/\o.ExactDict/\o.data=.dict es ep/\es.toList=xs.map (entryOfKey (tupleKind (u6 P w)))/\(xs.map (·.1)).Nodup
 | .set S n=>h.SetOf (intKind P w) a S n
 | .ins C dx fs=>H dx=some (.own a)/\fs.length<=1000/\dx ≠ a/\h.get? a=some (instObj C dx) /\
   ∃ mA,h.Ns1 dx mA/\(∀ f,RelO (fs.lookup f) (mA f))/\PySem.Within mA (fs.map (·.1))
 | .own _=>∃ o,h.get? a=some o
 | .xd fs=>∃ mA,h.Ns1 a mA/\∀ f,RelO (fs.lookup f) (mA f)
 | .rng lo hi=>∃ t u v,h.get? a=some { cls:=.type "range",data:=.fields #[.int lo t,.int hi u,.int 1 v] }
 | .frz o u=>h.get? a=some o/\ObjOk H h a u
 | .tbl ps=>h.get? a=some { cls:=.none,data:=.fields ps }
 | .met f x=>h.get? a=some (PySem.W.methodObj (.ref f) (.ref x))
 | .ext φ=>φ h/\(∃ o,h.get? a=some o)/\∀ h1 h2:Heap,φ h1->(∀ o,h1.get? a=some o->h2.get? a=some o)->φ h2
def HOk (H:Hp) (h:Heap):Prop:=∀ a o,H a=some o->ObjOk P w H h a o
end
section
variable {P:Program} {w:World} {H H':Hp} {h h':Heap} {a:Addr} {o:HO}
theorem ObjOk.lt (x:ObjOk P w H h a o):a < h.objs.size:=by
 cases o with
 | lst xs=>obtain ⟨_,_,_,_,e⟩:=x;exact Heap.lt_size e
 | tup xs=>obtain ⟨_,_,_,p⟩:=x;exact p.lt
 | dK kvs=>obtain ⟨_,_,_,_,o,_,_,e,_⟩:=x;exact Heap.lt_size e
 | dT kvs=>obtain ⟨_,_,_,_,o,_,_,e,_⟩:=x;exact Heap.lt_size e
 | set S n=>obtain ⟨o,_,_,_,e,_⟩:=x;exact Heap.lt_size e
 | ins C dx fs=>obtain ⟨_,_,_,e,_⟩:=x;exact Heap.lt_size e
 | own y=>obtain ⟨_,e⟩:=x;exact Heap.lt_size e
 | xd fs=>obtain ⟨_,⟨_,_,_,e,_⟩,_⟩:=x;exact Heap.lt_size e
 | rng lo hi=>obtain ⟨_,_,_,e⟩:=x;exact Heap.lt_size e
 | frz ob u=>obtain ⟨e,_⟩:=x;exact Heap.lt_size e
 | tbl ps=>exact Heap.lt_size (show h.get? a=some _ from x)
 | met f y=>exact Heap.lt_size (show h.get? a=some _ from x)
 | ext φ=>obtain ⟨_,⟨_,e⟩,_⟩:=x;exact Heap.lt_size e
theorem Paired.mapP {α β:Type} {F G:α->β->Prop}:∀ {l₁:List α} {l₂:List β},Paired F l₁ l₂->(∀ a b,F a b->G a b)->Paired G l₁ l₂
 | _,_,.nil,_=>.nil
 | _,_,.cons r t,f=>.cons (f _ _ r) (Paired.mapP t f)
theorem ObjOk.stay (x:ObjOk P w H h a o) (k:∀ b u,(b=a\/H b=some (.own a))->h.get? b=some u->h'.get? b=some u)
  (ho:∀ b,H b=some (.own a)->H' b=some (.own a)) (ht:∀ b xs,H b=some (.tup xs)->H' b=some (.tup xs)):ObjOk P w H' h' a o:=by
 induction o with
 | lst xs=>obtain ⟨z,its,n,r,e⟩:=x;exact ⟨z,its,n,r,k _ _ (.inl rfl) e⟩
 | tup xs=>obtain ⟨z,its,r,ob,e,c⟩:=x;exact ⟨z,its,r,ob,k _ _ (.inl rfl) e,c⟩
 | dK kvs=>obtain ⟨z,y,vs,r,ob,es,ep,e,c⟩:=x;exact ⟨z,y,vs,r,ob,es,ep,k _ _ (.inl rfl) e,c⟩
 | dT kvs =>
  obtain ⟨z,y,xs,r,ob,es,ep,e,c⟩:=x
  exact ⟨z,y,xs,Paired.mapP r fun p q z=>⟨z.1,ht _ _ z.2.1,z.2.2⟩,ob,es,ep,k _ _ (.inl rfl) e,c⟩
 | set S n=>obtain ⟨ob,es,ep,t,e,c⟩:=x;exact ⟨ob,es,ep,t,k _ _ (.inl rfl) e,c⟩
 | ins C dx fs =>
  obtain ⟨d,z,ne,e,mA,⟨od,es,ep,e2,c⟩,r⟩:=x
  exact ⟨ho _ d,z,ne,k _ _ (.inl rfl) e,mA,⟨od,es,ep,k _ _ (.inr d) e2,c⟩,r⟩
 | own y=>obtain ⟨ob,e⟩:=x;exact ⟨ob,k _ _ (.inl rfl) e⟩
 | xd fs=>obtain ⟨mA,⟨od,es,ep,e,c⟩,r⟩:=x;exact ⟨mA,⟨od,es,ep,k _ _ (.inl rfl) e,c⟩,r⟩
 | rng lo hi=>obtain ⟨t,u,v,e⟩:=x;exact ⟨t,u,v,k _ _ (.inl rfl) e⟩
 | frz ob u ih=>obtain ⟨e,q⟩:=x;exact ⟨k _ _ (.inl rfl) e,ih q⟩
 | tbl ps =>
  have e:h.get? a=some { cls:=.none,data:=.fields ps }:=x
  show h'.get? a=some { cls:=.none,data:=.fields ps }
  exact k a _ (.inl rfl) e
 | met f y =>
  have e:h.get? a=some (PySem.W.methodObj (.ref f) (.ref y)):=x
  show h'.get? a=some (PySem.W.methodObj (.ref f) (.ref y))
  exact k a _ (.inl rfl) e
 | ext φ=>obtain ⟨p,⟨o,e⟩,st⟩:=x;exact ⟨st _ _ p fun o q=>k _ _ (.inl rfl) q,⟨o,k _ _ (.inl rfl) e⟩,st⟩
theorem HOk.lt (x:HOk P w H h) (e:H a=some o):a < h.objs.size:=(x a o e).lt
theorem HOk.fresh (x:HOk P w H h) (e:h.objs.size<=a):H a=none:=by
 cases q:H a with
 | none=>rfl
 | some u=>exact absurd (Nat.lt_of_lt_of_le (x.lt q) e) (Nat.lt_irrefl _)
theorem HOk.kept (x:HOk P w H h) (k:∀ b u,h.get? b=some u->h'.get? b=some u):HOk P w H h':=fun a o e =>
 (x a o e).stay (fun b u _ q=>k b u q) (fun _ q=>q) fun _ _ q=>q
theorem HOk.laid (x:HOk P w H h) (k:∀ b u,h.get? b=some u->h'.get? b=some u) (hp:h.objs.size<=a) (new:ObjOk P w (upd H a o) h' a o):HOk P w (upd H a o) h':=fun b u e=>by
 have hn:=x.fresh hp
 by_cases hb:b=a
 ·subst hb;rw [bp] at e;cases e;exact new
 ·rw [aO hb] at e
  exact (x b u e).stay (fun c v _ q=>k c v q) (fun c q=>by rw [aO (bE q hn)];exact q) fun c xs q=>by rw [aO (bE q hn)];exact q
end
def Rd (H:Hp) (a:Addr) (u:HO):Prop:=H a=some u\/∃ o,H a=some (.frz o u)
theorem Rd.ok {P:Program} {w:World} {H:Hp} {h:Heap} {a:Addr} {u:HO} (r:Rd H a u) (x:HOk P w H h):ObjOk P w H h a u:=by
 rcases r with r | ⟨o,r⟩
 ·exact x a u r
 ·obtain ⟨_,q⟩:=x a _ r
  exact q
def Mut:Option HO->Prop
 | some (.lst _)=>True
 | some (.dK _)=>True
 | some (.dT _)=>True
 | some (.set _ _)=>True
 | some (.ins _ _ _)=>True
 | some (.ext _)=>True
 | _=>False
section
variable {P:Program} {w:World} {H:Hp} {h h':Heap} {x e:Addr} {o':HO}
theorem HOk.write (ok:HOk P w H h) (mu:Mut (H x)) (he:e=x\/H e=some (.own x)) (k:∀ b u,b ≠ e->h.get? b=some u->h'.get? b=some u) (heo:∃ u,h'.get? e=some u)
  (new:ObjOk P w (upd H x o') h' x o'):HOk P w (upd H x o') h':=fun b u q=>by
 have nown:∀ c y,H c=some (.own y)->c ≠ x:=fun c y r z=>by subst z;rw [r] at mu;exact mu
 have ntup:∀ c xs,H c=some (.tup xs)->c ≠ x:=fun c xs r z=>by subst z;rw [r] at mu;exact mu
 by_cases hb:b=x
 ·subst hb;rw [bp] at q;cases q;exact new
 ·rw [aO hb] at q
  by_cases hbe:b=e
  ·have q':H b=some (.own x):=by
    rcases he with z | z
    ·exact absurd (hbe.trans z) hb
    ·rw [hbe];exact z
   rw [q] at q';cases q'
   obtain ⟨v,hv⟩:=heo
   exact ⟨v,by rw [hbe];exact hv⟩
  ·refine (ok b u q).stay (fun c v hc r=>k c v ?_ r) (fun c r=>by rw [aO (nown c b r)];exact r) fun c xs r=>by rw [aO (ntup c xs r)];exact r
   rcases hc with rfl | hc
   ·exact hbe
   ·rintro rfl
    rcases he with z | z
    ·exact nown c b hc z
    ·rw [hc] at z;cases z;exact hb rfl
end
structure Un (fs ex:List Addr) (H H':Hp) (h h':Heap):Prop where
 keep:∀ b o,h.get? b=some o->H b=none->b ∉ fs->b ∉ ex->h'.get? b=some o
 slot:∀ b o,h.get? b=some o->H b=none->b ∈ fs->b ∉ ex->∃ sl,h'.get? b=some { o with slots:=sl }
 free:∀ b o,h.get? b=some o->H b=none->b ∉ ex->H' b=none
 there:∀ b o,h.get? b=some o->b ∉ ex->∃ o',h'.get? b=some o'
 tups:∀ b xs,H b=some (.tup xs)->H' b=some (.tup xs)
 frzs:∀ b o u,H b=some (.frz o u)->H' b=some (.frz o u)
 tbls:∀ b ps,H b=some (.tbl ps)->∃ more,H' b=some (.tbl (ps ++ more))
section
variable {fs fs' ex ex':List Addr} {H H1 H2:Hp} {h h1 h2 h':Heap} {a x e:Addr} {o:HO}
theorem Un.any (u:Un fs ex H H1 h h1) {b:Addr} {ob:Obj} (q:h.get? b=some ob) (n:H b=none) (hx:b ∉ ex):∃ sl,h1.get? b=some { ob with slots:=sl }:=by
 by_cases hb:b ∈ fs
 ·exact u.slot b ob q n hb hx
 ·exact ⟨ob.slots,u.keep b ob q n hb hx⟩
theorem Un.kept (k:∀ b u,h.get? b=some u->h'.get? b=some u):Un fs ex H H h h' :=
 ⟨fun b ob q _ _ _=>k b ob q,fun b ob q _ _ _=>⟨ob.slots,k b ob q⟩,fun _ _ _ n _=>n,fun b ob q _=>⟨ob,k b ob q⟩,fun _ _ q=>q,fun _ _ _ q=>q,fun _ ps q=>⟨#[],by rw [q];simp⟩⟩
theorem Un.refl:Un fs ex H H h h:=Un.kept fun _ _ q=>q
theorem Un.laid (k:∀ b u,h.get? b=some u->h'.get? b=some u) (hp:h.objs.size<=a) (hn:H a=none):Un fs ex H (upd H a o) h h' where
 keep:=fun b u q _ _ _=>k b u q
 slot:=fun b u q _ _ _=>⟨u.slots,k b u q⟩
 free:=fun b u q n _=>by rw [aO (Nat.ne_of_lt (Nat.lt_of_lt_of_le (Heap.lt_size q) hp))];exact n
 there:=fun b u q _=>⟨u,k b u q⟩
 tups:=fun b xs q=>by rw [aO (bE q hn)];exact q
 frzs:=fun b u xs q=>by rw [aO (bE q hn)];exact q
 tbls:=fun b ps q=>⟨#[],by rw [aO (bE q hn),q];simp⟩
theorem Un.write (mu:Mut (H x)) (he:e=x\/H e=some (.own x)) (k:∀ b u,b ≠ e->h.get? b=some u->h'.get? b=some u) (heo:∃ u,h'.get? e=some u):Un fs ex H (upd H x o) h h':=by
 have hx:∀ b,H b=none->b ≠ x:=fun b n z=>by subst z;rw [n] at mu;exact mu
 have hb:∀ b,H b=none->b ≠ e:=fun b n z=>by
  subst z
  rcases he with r | r
  ·exact hx b n r
  ·rw [n] at r;cases r
 have hm:∀ b u,H b=some u->¬ Mut (some u)->b ≠ x:=fun b u q nm z=>by subst z;rw [q] at mu;exact nm mu
 refine ⟨fun b u q n _ _=>k b u (hb b n) q,fun b u q n _ _=>⟨u.slots,k b u (hb b n) q⟩,fun b u q n _=>by rw [aO (hx b n)];exact n,fun b u q _=>?_,
  fun b xs q=>by rw [aO (hm b _ q fun z=>z)];exact q,fun b u xs q=>by rw [aO (hm b _ q fun z=>z)];exact q,fun b ps q=>⟨#[],by rw [aO (hm b _ q fun z=>z),q];simp⟩⟩
 by_cases hbe:b=e
 ·subst hbe;exact heo
 ·exact ⟨u,k b u hbe q⟩
end
def trk (h:Heap) (H:Hp):List Addr:=(List.range h.objs.size).filter fun a=>(H a).isSome
def qB (h:Heap) (H:Hp):Heap:=PySem.W.hideAll h (trk h H)
theorem wq (h:Heap) (H:Hp):(qB h H).objs.size=h.objs.size:=PySem.W.hideAll_size _ _
theorem yd {h:Heap} {H:Hp} {b:Addr} {o:Obj} (e:h.get? b=some o) (n:H b=none):(qB h H).get? b=some o :=
 PySem.W.hideAll_get _ e fun hm=>by
  have q:(H b).isSome=true:=(List.mem_filter.mp hm).2
  rw [n] at q;simp at q
theorem zU {h:Heap} {H:Hp} {b:Addr} {o:Obj} (e:(qB h H).get? b=some o):h.get? b=some o/\H b=none:=by
 have e':h.get? b=some o:=PySem.W.of_hideAll (trk h H) e
 refine ⟨e',?_⟩
 cases q:H b with
 | none=>rfl
 | some x =>
  have hm:b ∈ trk h H:=List.mem_filter.mpr ⟨List.mem_range.mpr (Heap.lt_size e'),by simp [q]⟩
  have z:(qB h H).get? b=none:=PySem.W.hideAll_none (trk h H) hm
  rw [z] at e;cases e
end L2
namespace L2
open PySem PySem.Spec PyProof.Rows
structure Mod (K:Frag) (mg:Str->Option Value) (base:Heap):Prop where
 kin:K.In base
 glob:base.Ns mainGlobals mg
 blt:∃ mb,base.Ns builtinsNs mb/\∀ x:Str,x ≠ "__name__"->mb x=bootBuiltins x
 nolimit:base.NoLimit
structure Cx where
 prog:Program
 w:World
 K:Frag
 mg:Str->Option Value
 base:Heap
 A:Around
 N:List Str
 s₀:Shared
 H₀:Hp
 env:Env
 outer:List Env
 stack:List Env
 ex:List Addr
 fn:Str->Bool
 calm:Bool
 pn:List (Addr × Obj)
 xe:Value->Shared->Prop
def frs (l:List Env):List Addr:=l.filterMap (·.frame)
abbrev Cx.fs (X:Cx):List Addr:=frs X.outer
def Vis (sc:Scope) (x:Str):Prop:=sc.names.lookup x=some .local\/sc.names.lookup x=some .cell\/sc.names.lookup x=some .free
def Loc (sc:Scope) (x:Str):Prop:=sc.names.lookup x=some .local\/sc.names.lookup x=some .cell
def ER (env:Env) (h:Heap) (m:Str->Option Value) (x:Str) (u:Value):Prop :=
 (env.kindOf x=some .local/\m x=some u)\/((env.kindOf x=some .cell\/env.kindOf x=some .free)/\∃ c,env.cells.lookup x=some c/\h.IsCell c (some u))
structure Cx.Ok (X:Cx):Prop where
 mod:Mod X.K X.mg X.base
 kind:X.env.scope.kind=.function
 glob:X.env.globals=mainGlobals
 blt:X.env.builtins=builtinsNs
 above:X.s₀.heap.objs.size<=X.env.locals
 inj:∀ x y c,X.env.cells.lookup x=some c->X.env.cells.lookup y=some c->x=y
 has:∀ x,(X.env.kindOf x=some .cell\/X.env.kindOf x=some .free)->∃ c,X.env.cells.lookup x=some c
 cab:∀ x c,X.fn x=true->X.env.cells.lookup x=some c->X.s₀.heap.objs.size<=c
 hd:X.calm=true->X.A.handled=none
 frames:X.A.frames=some X.stack
 stk:X.stack=X.outer\/(X.stack=X.env :: X.outer/\X.env.frame=some X.env.locals)
 exf:∀ b ∈ X.ex,b ≠ X.env.locals/\∀ x c,X.env.cells.lookup x=some c->c ≠ b
 bs:∀ b o,X.base.get? b=some o->X.s₀.heap.get? b=some o/\X.H₀ b=none
 bsz:X.base.objs.size<=X.s₀.heap.objs.size
 noex:∀ b o,X.base.get? b=some o->b ∉ X.ex
 exfs:∀ b ∈ X.ex,b ∉ X.fs
 funs:X.s₀.heap.FunFrames X.base X.outer
 frf:∀ b ∈ X.fs,X.H₀ b=none
structure Inv (X:Cx) (pins:List (Addr × Obj)) (σ:List (Option V)) (H:Hp) (s:Shared):Prop where
 ok:X.Ok
 os:s.os=X.s₀.os
 bare:AllBare s.gens
 base:Un X.fs X.ex X.H₀ H X.s₀.heap s.heap
 loc:∃ m,s.heap.Ns X.env.locals m/\∀ (i:Nat) (x:Str) (v:V),X.N[i]?=some x->σ[i]?=some (some v)->Vis X.env.scope x->∃ u,RelV v u/\ER X.env s.heap m x u
 cell:∀ x c,X.env.cells.lookup x=some c->∃ v,s.heap.IsCell c v
 free:H X.env.locals=none
 freeC:∀ x c,X.env.cells.lookup x=some c->H c=none
 pin:∀ p ∈ X.pn ++ pins,s.heap.get? p.1=some p.2/\H p.1=none/\p.1 ≠ X.env.locals/\p.1 ∉ X.fs/\∀ v,p.2.data ≠ .cell v
 hok:HOk X.prog X.w H s.heap
 len:σ.length=X.N.length
section
variable {X:Cx} {pins:List (Addr × Obj)} {σ:List (Option V)} {H H':Hp} {s:Shared} {h':Heap}
theorem Cx.Ok.nofr (ok:X.Ok) {b:Addr} {o:Obj} (e:X.base.get? b=some o):b ∉ X.fs:=fun hb=>by
 have:=(ok.funs.mem hb).1
 rw [e] at this;cases this
theorem Inv.bs (I:Inv X pins σ H s):∀ b o,X.base.get? b=some o->s.heap.get? b=some o/\H b=none:=fun b o e =>
 ⟨I.base.keep b o (I.ok.bs b o e).1 (I.ok.bs b o e).2 (I.ok.nofr e) (I.ok.noex b o e),I.base.free b o (I.ok.bs b o e).1 (I.ok.bs b o e).2 (I.ok.noex b o e)⟩
theorem Inv.bk (I:Inv X pins σ H s):∀ b o,X.base.get? b=some o->s.heap.get? b=some o:=fun b o e=>(I.bs b o e).1
theorem Inv.mod (I:Inv X pins σ H s):Mod X.K X.mg X.base:=I.ok.mod
theorem Inv.kIn (I:Inv X pins σ H s):X.K.In s.heap:=I.ok.mod.kin.keeps I.bk
theorem Inv.lt (I:Inv X pins σ H s):X.env.locals < s.heap.objs.size:=let ⟨_,hn,_⟩:=I.loc;hn.lt
theorem Inv.sz (I:Inv X pins σ H s):X.s₀.heap.objs.size<=s.heap.objs.size:=Nat.le_trans I.ok.above (Nat.le_of_lt I.lt)
theorem Inv.nofs (I:Inv X pins σ H s) {a:Addr} (h:s.heap.objs.size<=a):a ∉ X.fs:=fun hb=>by
 obtain ⟨_,o,ho,_⟩:=I.ok.funs.mem hb
 exact absurd (Nat.lt_of_lt_of_le (Heap.lt_size ho) (Nat.le_trans I.sz h)) (Nat.lt_irrefl _)
theorem Inv.cne (I:Inv X pins σ H s):∀ x c,X.env.cells.lookup x=some c->c ≠ X.env.locals:=fun x c e z=>by
 obtain ⟨v,o,ho,hd⟩:=I.cell x c e
 obtain ⟨m,⟨o',es,ep,ho',hd',_⟩,_⟩:=I.loc
 rw [z,ho'] at ho;cases ho;rw [hd'] at hd;cases hd
theorem Inv.funs (I:Inv X pins σ H s):s.heap.FunFrames X.base X.outer:=by
 have all:∀ (l:List Env),(∀ b ∈ frs l,b ∈ X.fs)->X.s₀.heap.FunFrames X.base l->s.heap.FunFrames X.base l:=by
  intro l
  induction l with
  | nil=>intro _ _;trivial
  | cons env r ih =>
   intro hs hl
   obtain ⟨hk,⟨L,o,hf,hn,ho,hd⟩,hr⟩:=hl
   have hL:L ∈ X.fs:=hs L (by unfold frs;rw [List.filterMap_cons,hf];exact List.mem_cons_self)
   obtain ⟨sl,e⟩:=I.base.slot L o ho (I.ok.frf L hL) hL fun z=>I.ok.exfs L z hL
   exact ⟨hk,⟨L,_,hf,hn,e,hd⟩,ih (fun b hb=>hs b (by unfold frs;rw [List.filterMap_cons,hf];exact List.mem_cons_of_mem _ hb)) hr⟩
 exact all X.outer (fun _ hb=>hb) I.ok.funs
theorem Inv.stack (I:Inv X pins σ H s):s.heap.FunFrames X.base X.stack:=by
 rcases I.ok.stk with e | ⟨e,hf⟩
 ·rw [e];exact I.funs
 ·rw [e]
  obtain ⟨m,hn,_⟩:=I.loc
  refine .cons (by rw [I.ok.kind];decide) hf hn ?_ I.funs
  exact Heap.get?_none_of_le (Nat.le_trans I.ok.bsz I.ok.above)
theorem Inv.stkSub (I:Inv X pins σ H s):∀ b ∈ frs X.stack,b ∈ X.env.locals :: X.fs:=fun b hb=>by
 rcases I.ok.stk with e | ⟨e,hf⟩
 ·rw [e] at hb;exact List.mem_cons_of_mem _ hb
 ·rw [e] at hb
  unfold frs at hb
  rw [List.filterMap_cons,hf] at hb
  exact hb
theorem Inv.stkFree (I:Inv X pins σ H s):∀ b ∈ frs X.stack,H b=none:=fun b hb=>by
 rcases List.mem_cons.mp (I.stkSub b hb) with e | hb
 ·rw [e];exact I.free
 ·obtain ⟨_,o,ho,_⟩:=I.ok.funs.mem hb
  exact I.base.free b o ho (I.ok.frf b hb) fun z=>I.ok.exfs b z hb
theorem Inv.step {g':Array GenState} {t':Nat} {d':Drawn} {ch:List Addr} (I:Inv X pins σ H s)
  (hch:∀ b ∈ ch,(b ∈ X.ex\/X.s₀.heap.objs.size<=b)/\b ≠ X.env.locals/\(∀ x c,X.env.cells.lookup x=some c->c ≠ b)/\∀ p ∈ X.pn ++ pins,p.1 ≠ b)
  (keep:∀ b o,b ≠ X.env.locals->b ∉ X.fs->b ∉ ch->s.heap.get? b=some o->H b=none->h'.get? b=some o)
  (slot:∀ b o,b ≠ X.env.locals->b ∈ X.fs->b ∉ ch->s.heap.get? b=some o->H b=none->∃ sl,h'.get? b=some { o with slots:=sl }) (free:∀ b o,b ∉ ch->s.heap.get? b=some o->H b=none->H' b=none)
  (there:∀ b o,b ∉ ch->s.heap.get? b=some o->∃ o',h'.get? b=some o')
  (tups:∀ b xs,H b=some (.tup xs)->H' b=some (.tup xs)) (frzs:∀ b o u,H b=some (.frz o u)->H' b=some (.frz o u)) (tbls:∀ b ps,H b=some (.tbl ps)->∃ more,H' b=some (.tbl (ps ++ more)))
  (ns:∀ m,s.heap.Ns X.env.locals m->h'.Ns X.env.locals m) (hok:HOk X.prog X.w H' h') (hg:AllBare g') :
  Inv X pins σ H' { s with heap:=h',gens:=g',drawn:=d',toks:=t' }:=by
 have neL:∀ b o,X.s₀.heap.get? b=some o->b ≠ X.env.locals:=fun b o e=>Nat.ne_of_lt (Nat.lt_of_lt_of_le (Heap.lt_size e) I.ok.above)
 have neC:∀ b o,X.s₀.heap.get? b=some o->b ∉ X.ex->b ∉ ch:=fun b o e hx hb=>by
  rcases (hch b hb).1 with z | z
  ·exact hx z
  ·exact absurd (Nat.lt_of_lt_of_le (Heap.lt_size e) z) (Nat.lt_irrefl _)
 have cellK:∀ x c,X.env.cells.lookup x=some c->∀ v,s.heap.IsCell c v->h'.IsCell c v:=fun x c e v ⟨o,ho,hd⟩=>by
  have nch:c ∉ ch:=fun z=>(hch c z).2.2.1 x c e rfl
  by_cases hc:c ∈ X.fs
  ·obtain ⟨sl,q⟩:=slot c o (I.cne x c e) hc nch ho (I.freeC x c e)
   exact ⟨_,q,hd⟩
  ·exact ⟨o,keep c o (I.cne x c e) hc nch ho (I.freeC x c e),hd⟩
 refine ⟨I.ok,I.os,hg,⟨fun b o e n hb hx=>?_,fun b o e n hb hx=>?_,fun b o e n hx=>?_,fun b o e hx=>?_,fun b xs e=>tups b xs (I.base.tups b xs e),fun b o xs e=>frzs b o xs (I.base.frzs b o xs e),fun b ps e=>?_⟩,?_,fun x c e=>?_,?_,fun x c e=>?_,fun p hp=>?_,hok,I.len⟩
 ·exact keep b o (neL b o e) hb (neC b o e hx) (I.base.keep b o e n hb hx) (I.base.free b o e n hx)
 ·obtain ⟨sl,e1⟩:=I.base.slot b o e n hb hx
  obtain ⟨sl',e2⟩:=slot b _ (neL b o e) hb (neC b o e hx) e1 (I.base.free b o e n hx)
  exact ⟨sl',e2⟩
 ·obtain ⟨o',e1⟩:=I.base.there b o e hx
  exact free b o' (neC b o e hx) e1 (I.base.free b o e n hx)
 ·obtain ⟨o',e1⟩:=I.base.there b o e hx
  exact there b o' (neC b o e hx) e1
 ·obtain ⟨m1,e1⟩:=I.base.tbls b ps e
  obtain ⟨m2,e2⟩:=tbls b _ e1
  exact ⟨m1 ++ m2,by rw [e2,Array.append_assoc]⟩
 ·obtain ⟨m,hn,hl⟩:=I.loc
  refine ⟨m,ns m hn,fun i x v e1 e2 e3=>?_⟩
  obtain ⟨u,r,l⟩:=hl i x v e1 e2 e3
  refine ⟨u,r,?_⟩
  rcases l with l | ⟨k,c,e,z⟩
  ·exact .inl l
  ·exact .inr ⟨k,c,e,cellK x c e _ z⟩
 ·obtain ⟨v,z⟩:=I.cell x c e
  exact ⟨v,cellK x c e v z⟩
 ·obtain ⟨m,⟨o,_,_,ho,_⟩,_⟩:=I.loc
  exact free _ o (fun z=>(hch _ z).2.1 rfl) ho I.free
 ·obtain ⟨v,o,ho,hd⟩:=I.cell x c e
  exact free c o (fun z=>(hch c z).2.2.1 x c e rfl) ho (I.freeC x c e)
 ·obtain ⟨e,n,ne,nf,d⟩:=I.pin p hp
  have nch:p.1 ∉ ch:=fun z=>(hch p.1 z).2.2.2 p hp rfl
  exact ⟨keep p.1 p.2 ne nf nch e n,free p.1 p.2 nch e n,ne,nf,d⟩
theorem Inv.un {t':Nat} (I:Inv X pins σ H s) (u:Un X.fs [] H H' s.heap h') (hok:HOk X.prog X.w H' h'):Inv X pins σ H' { s with heap:=h',toks:=t' }:=by
 obtain ⟨m,⟨o,es,ep,ho,r⟩,_⟩:=id I.loc
 obtain ⟨sl,hL⟩:=u.any ho I.free (by simp)
 exact I.step (g':=s.gens) (d':=s.drawn) (ch:=[]) (fun _ z=>nomatch z) (fun b o _ hb _ e n=>u.keep b o e n hb (by simp)) (fun b o _ hb _ e n=>u.slot b o e n hb (by simp)) (fun b o _ e n=>u.free b o e n (by simp)) (fun b o _ e=>u.there b o e (by simp)) u.tups u.frzs u.tbls (fun m' hm=>by
  obtain ⟨o',es',ep',ho',r'⟩:=hm
  rw [ho] at ho';cases ho'
  exact ⟨_,es',ep',hL,r'⟩) hok I.bare
theorem Inv.call {g':Array GenState} {t':Nat} {d':Drawn} {ch:List Addr} (I:Inv X pins σ H s) (u:Un (frs X.stack) ch H H' s.heap h') (hok:HOk X.prog X.w H' h') (hg:AllBare g')
  (hch:∀ b ∈ ch,(b ∈ X.ex\/X.s₀.heap.objs.size<=b)/\b ≠ X.env.locals/\(∀ x c,X.env.cells.lookup x=some c->c ≠ b)/\∀ p ∈ X.pn ++ pins,p.1 ≠ b) :
  Inv X pins σ H' { s with heap:=h',gens:=g',drawn:=d',toks:=t' }:=by
 obtain ⟨m,⟨o,es,ep,ho,r⟩,_⟩:=id I.loc
 obtain ⟨sl,hL⟩:=u.any ho I.free fun z=>(hch _ z).2.1 rfl
 exact I.step (ch:=ch) hch (fun b o hL hb hc e n=>u.keep b o e n (fun z=>(List.mem_cons.mp (I.stkSub b z)).elim hL hb) hc) (fun b o _ _ hc e n=>u.any e n hc) (fun b o hc e n=>u.free b o e n hc) (fun b o hc e=>u.there b o e hc) u.tups u.frzs u.tbls (fun m' hm=>by
  obtain ⟨o',es',ep',ho',r'⟩:=hm
  rw [ho] at ho';cases ho'
  exact ⟨_,es',ep',hL,r'⟩) hok hg
theorem Inv.turned {t':Nat} {it:Addr} (I:Inv X pins σ H s) (k:∀ b o,b ≠ it->s.heap.get? b=some o->h'.get? b=some o) (hn:H it=none) (hL:it ≠ X.env.locals)
  (h1:it ∈ X.ex\/X.s₀.heap.objs.size<=it) (h2:∀ x c,X.env.cells.lookup x=some c->c ≠ it) (h3:∀ p ∈ X.pn ++ pins,p.1 ≠ it):Inv X pins σ H { s with heap:=h',toks:=t' }:=by
 have nit:∀ b u,H b=some u->b ≠ it:=fun b u e z=>by rw [z,hn] at e;cases e
 refine I.step (g':=s.gens) (d':=s.drawn) (ch:=[it]) (fun b hb=>?_) (fun b o _ _ hc e _=>k b o (fun z=>hc (by simp [z])) e) (fun b o _ _ hc e _=>⟨o.slots,k b o (fun z=>hc (by simp [z])) e⟩) (fun _ _ _ _ n=>n)
  (fun b o hc e=>⟨o,k b o (fun z=>hc (by simp [z])) e⟩) (fun _ _ e=>e) (fun _ _ _ e=>e) (fun b ps e=>⟨#[],by rw [e];simp⟩) (fun m hm=>?_) (fun b u e=>?_) I.bare
 ·have e:b=it:=by simpa using hb
  subst e
  exact ⟨h1,hL,h2,h3⟩
 ·obtain ⟨o,es,ep,ho,r⟩:=hm
  exact ⟨o,es,ep,k _ o (Ne.symm hL) ho,r⟩
 ·refine (I.hok b u e).stay (fun c v hc q=>k c v ?_ q) (fun _ q=>q) fun _ _ q=>q
  rcases hc with z | z
  ·rw [z];exact nit b u e
  ·exact nit c _ z
theorem Inv.tok (I:Inv X pins σ H s) (t:Nat):Inv X pins σ H { s with toks:=t }:=I.un (h':=s.heap) (t':=t) Un.refl I.hok
theorem Inv.kept {t':Nat} (I:Inv X pins σ H s) (k:∀ b u,s.heap.get? b=some u->h'.get? b=some u):Inv X pins σ H { s with heap:=h',toks:=t' }:=I.un (Un.kept k) (I.hok.kept k)
theorem Inv.laid {a:Addr} {o:HO} {t':Nat} (I:Inv X pins σ H s) (k:∀ b u,s.heap.get? b=some u->h'.get? b=some u) (hp:s.heap.objs.size<=a) (new:ObjOk X.prog X.w (upd H a o) h' a o) :
  Inv X pins σ (upd H a o) { s with heap:=h',toks:=t' }:=I.un (Un.laid k hp (I.hok.fresh hp)) (I.hok.laid k hp new)
theorem Inv.write {x e:Addr} {o:HO} {t':Nat} (I:Inv X pins σ H s) (mu:Mut (H x)) (he:e=x\/H e=some (.own x)) (k:∀ b u,b ≠ e->s.heap.get? b=some u->h'.get? b=some u) (heo:∃ u,h'.get? e=some u)
  (new:ObjOk X.prog X.w (upd H x o) h' x o):Inv X pins σ (upd H x o) { s with heap:=h',toks:=t' }:=I.un (Un.write mu he k heo) (I.hok.write mu he k heo new)
theorem Inv.pins_of {pins':List (Addr × Obj)} (I:Inv X pins σ H s) (h:∀ p ∈ pins',s.heap.get? p.1=some p.2/\H p.1=none/\p.1 ≠ X.env.locals/\p.1 ∉ X.fs/\∀ v,p.2.data ≠ .cell v):Inv X pins' σ H s :=
 ⟨I.ok,I.os,I.bare,I.base,I.loc,I.cell,I.free,I.freeC,fun p hp=>(List.mem_append.mp hp).elim (fun z=>I.pin p (List.mem_append_left _ z)) (h p),I.hok,I.len⟩
theorem nq {N:List Str} (hN:N.Nodup) {i j:Nat} {x:Str} (a:N[i]?=some x) (b:N[j]?=some x):i=j:=by
 obtain ⟨h1,e1⟩:=List.getElem?_eq_some_iff.mp a
 obtain ⟨h2,e2⟩:=List.getElem?_eq_some_iff.mp b
 exact (List.getElem_inj hN).mp (e1.trans e2.symm)
theorem vY {M:Model} {A:Around} {E:Value->Shared->Prop} {i:Nat} {x:Str} {v:V} {u:Value} {Q:Unit->Shared->Prop} (I:Inv X pins σ H s) (hN:X.N.Nodup) (hi:X.N[i]?=some x) (hx:Loc X.env.scope x) (r:RelV v u)
  (h:∀ s',Inv X pins (σ.set i (some v)) H s'->(∃ a,Heap.SameBut a s.heap s'.heap/\(a=X.env.locals\/X.env.cells.lookup x=some a))->Q () s') (hf:X.fn x=true\/X.env.scope.names.lookup x=some .local:=by first | exact .inl rfl | exact .inr rfl | assumption):wpAny M A (storeName X.env x u) Q E s:=by
 obtain ⟨m,hn,hl⟩:=id I.loc
 have hcls:(X.env.scope.kind == .class || (X.env.scope.kind == .module && X.env.locals != X.env.globals))=false:=by rw [I.ok.kind];rfl
 have hiσ:i < σ.length:=by rw [I.len];exact (List.getElem?_eq_some_iff.mp hi).1
 have cne:=I.cne
 have tracked:∀ {a:Addr} {h':Heap},(∃ o,s.heap.get? a=some o/\H a=none)->Heap.SameBut a s.heap h'->HOk X.prog X.w H h':=fun {a h'} ha hs b ob e=>by
  obtain ⟨_,_,hfree⟩:=ha
  refine (I.hok b ob e).stay (fun c w' hc q=>(hs.2 c ?_).trans q) (fun _ q=>q) fun _ _ q=>q
  rintro rfl
  rcases hc with rfl | hc
  ·rw [hfree] at e;cases e
  ·rw [hfree] at hc;cases hc
 rcases hx with hk | hk
 ·refine wpAny_storeName_local hk hn (fun h' hn' hs=>?_) hcls
  obtain ⟨oL,_,_,hoL,_⟩:=id hn
  refine h _ ⟨I.ok,I.os,I.bare,⟨fun b o e n hb hx=>?_,fun b o e n hb hx=>?_,I.base.free,fun b o e hx=>?_,I.base.tups,I.base.frzs,I.base.tbls⟩,⟨_,hn',fun j y v' e1 e2 e3=>?_⟩,fun y c e=>?_,I.free,I.freeC,fun p hp=>?_,tracked ⟨oL,hoL,I.free⟩ hs,by simpa using I.len⟩ ⟨_,hs,.inl rfl⟩
  ·exact (hs.2 b (Nat.ne_of_lt (Nat.lt_of_lt_of_le (Heap.lt_size e) I.ok.above))).trans (I.base.keep b o e n hb hx)
  ·obtain ⟨sl,e1⟩:=I.base.slot b o e n hb hx
   exact ⟨sl,(hs.2 b (Nat.ne_of_lt (Nat.lt_of_lt_of_le (Heap.lt_size e) I.ok.above))).trans e1⟩
  ·obtain ⟨o',e1⟩:=I.base.there b o e hx
   exact ⟨o',(hs.2 b (Nat.ne_of_lt (Nat.lt_of_lt_of_le (Heap.lt_size e) I.ok.above))).trans e1⟩
  ·by_cases hj:j=i
   ·subst hj
    rw [hi] at e1;cases e1
    rw [List.getElem?_set_self hiσ] at e2
    cases e2
    exact ⟨u,r,.inl ⟨hk,by simp⟩⟩
   ·rw [List.getElem?_set_ne (Ne.symm hj)] at e2
    obtain ⟨u',r',q⟩:=hl j y v' e1 e2 e3
    refine ⟨u',r',?_⟩
    rcases q with ⟨k,e⟩ | ⟨k,c,e,z⟩
    ·refine .inl ⟨k,?_⟩
     have:y ≠ x:=fun e=>hj (nq hN e1 (e ▸ hi))
     simp [this,e]
    ·exact .inr ⟨k,c,e,z.sameBut hs (cne y c e)⟩
  ·obtain ⟨w',z⟩:=I.cell y c e
   exact ⟨w',z.sameBut hs (cne y c e)⟩
  ·obtain ⟨e,n,ne,nf,d⟩:=I.pin p hp
   exact ⟨(hs.2 p.1 ne).trans e,n,ne,nf,d⟩
 ·have hfn:X.fn x=true:=by
   rcases hf with z | z
   ·exact z
   ·rw [z] at hk;cases hk
  obtain ⟨c,hc⟩:=I.ok.has x (.inl hk)
  obtain ⟨w',z⟩:=I.cell x c hc
  refine wpAny_storeName_cell I.ok.kind hk hc z (fun h' hc' hs=>?_)
  obtain ⟨oc,hoc,hocd⟩:=id z
  refine h { s with heap:=h' } ⟨I.ok,I.os,I.bare,⟨fun b o e n hb hx=>?_,fun b o e n hb hx=>?_,I.base.free,fun b o e hx=>?_,I.base.tups,I.base.frzs,I.base.tbls⟩,⟨m,hn.sameBut hs (Ne.symm (cne x c hc)),fun j y v' e1 e2 e3=>?_⟩,fun y c' e=>?_,I.free,I.freeC,fun p hp=>?_,tracked ⟨oc,hoc,I.freeC x c hc⟩ hs,by simpa using I.len⟩ ⟨c,hs,.inr hc⟩
  ·exact (hs.2 b (Nat.ne_of_lt (Nat.lt_of_lt_of_le (Heap.lt_size e) (I.ok.cab x c hfn hc)))).trans (I.base.keep b o e n hb hx)
  ·obtain ⟨sl,e1⟩:=I.base.slot b o e n hb hx
   exact ⟨sl,(hs.2 b (Nat.ne_of_lt (Nat.lt_of_lt_of_le (Heap.lt_size e) (I.ok.cab x c hfn hc)))).trans e1⟩
  ·obtain ⟨o',e1⟩:=I.base.there b o e hx
   exact ⟨o',(hs.2 b (Nat.ne_of_lt (Nat.lt_of_lt_of_le (Heap.lt_size e) (I.ok.cab x c hfn hc)))).trans e1⟩
  ·by_cases hj:j=i
   ·subst hj
    rw [hi] at e1;cases e1
    rw [List.getElem?_set_self hiσ] at e2
    cases e2
    exact ⟨u,r,.inr ⟨.inl hk,c,hc,hc'⟩⟩
   ·rw [List.getElem?_set_ne (Ne.symm hj)] at e2
    obtain ⟨u',r',q⟩:=hl j y v' e1 e2 e3
    refine ⟨u',r',?_⟩
    rcases q with q | ⟨k,c',e,z'⟩
    ·exact .inl q
    ·refine .inr ⟨k,c',e,z'.sameBut hs ?_⟩
     rintro rfl
     exact hj (nq hN e1 (I.ok.inj _ _ _ e hc ▸ hi))
  ·by_cases hcc:c'=c
   ·subst hcc;exact ⟨_,hc'⟩
   ·obtain ⟨w2,z2⟩:=I.cell y c' e
    exact ⟨w2,z2.sameBut hs hcc⟩
  ·obtain ⟨e,n,ne,nf,d⟩:=I.pin p hp
   refine ⟨(hs.2 p.1 ?_).trans e,n,ne,nf,d⟩
   intro q
   rw [q,hoc] at e
   have q':oc=p.2:=Option.some.inj e
   exact d w' (by rw [<- q'];exact hocd)
theorem mV {M:Model} {A:Around} {E:Value->Shared->Prop} {i:Nat} {x:Str} {v:V} {u:Value} {Q:Unit->Shared->Prop} (I:Inv X pins σ H s) (hN:X.N.Nodup) (hi:X.N[i]?=some x) (hx:Loc X.env.scope x) (r:RelV v u)
  (h:∀ s',Inv X pins (σ.set i (some v)) H s'->Q () s') (hf:X.fn x=true\/X.env.scope.names.lookup x=some .local:=by first | exact .inl rfl | exact .inr rfl | assumption):wpAny M A (storeName X.env x u) Q E s :=
 vY I hN hi hx r (fun s' I' _=>h s' I') hf
theorem Inv.call' {s':Shared} {ch:List Addr} (I:Inv X pins σ H s) (ho:s'.os=s.os) (u:Un (frs X.stack) ch H H' s.heap s'.heap) (hok:HOk X.prog X.w H' s'.heap) (hg:AllBare s'.gens)
  (hch:∀ b ∈ ch,(b ∈ X.ex\/X.s₀.heap.objs.size<=b)/\b ≠ X.env.locals/\(∀ x c,X.env.cells.lookup x=some c->c ≠ b)/\∀ p ∈ X.pn ++ pins,p.1 ≠ b):Inv X pins σ H' s':=by
 obtain ⟨h',g',d',t',o'⟩:=s'
 have e:o'=s.os:=ho
 subst e
 exact I.call (g':=g') (t':=t') (d':=d') u hok hg hch
end
abbrev XK:=Value->Option Addr->Hp->Prop
abbrev St:=List (Option V)
abbrev VK:=V->Hp->Prop
abbrev TE:=St->Hp->VK->Prop
abbrev TT:=St->Hp->(Bool->Hp->Prop)->Prop
abbrev TA:=St->Hp->(List V->Hp->Prop)->Prop
structure kg where
 nx:St->Hp->Prop
 rt:VK
 bk:St->Hp->Prop:=fun _ _=>False
 ct:St->Hp->Prop:=fun _ _=>False
abbrev TS:=kg->St->Hp->Prop
def EP (X:Cx) (pins:List (Addr × Obj)) (σ:St) (Q:VK) (u:Value) (s':Shared):Prop:=∃ v H',Inv X pins σ H' s'/\RelV v u/\Q v H'
def TP (X:Cx) (pins:List (Addr × Obj)) (σ:St) (Q:Bool->Hp->Prop) (b:Bool) (s':Shared):Prop:=∃ H',Inv X pins σ H' s'/\Q b H'
def AP (X:Cx) (pins:List (Addr × Obj)) (σ:St) (Q:List V->Hp->Prop) (us:List Value) (s':Shared):Prop:=∃ vs H',Inv X pins σ H' s'/\Vals vs us/\Q vs H'
def SP (X:Cx) (pins:List (Addr × Obj)) (D:kg) (f:Flow) (s':Shared):Prop :=
 match f with
 | .next=>∃ σ' H',Inv X pins σ' H' s'/\D.nx σ' H'
 | .brk=>∃ σ' H',Inv X pins σ' H' s'/\D.bk σ' H'
 | .cont=>∃ σ' H',Inv X pins σ' H' s'/\D.ct σ' H'
 | .ret u=>∃ v σ' H',Inv X pins σ' H' s'/\RelV v u/\D.rt v H'
def PE (X:Cx) (e:Expr) (t:TE):Prop :=
 ∀ (pins:List (Addr × Obj)) (s:Shared) (σ:St) (H:Hp) (Q:VK),Inv X pins σ H s->t σ H Q->wpAny (model X.prog X.w) X.A (eval e X.env) (EP X pins σ Q) X.xe s
def PT (X:Cx) (e:Expr) (t:TT):Prop :=
 ∀ (pins:List (Addr × Obj)) (s:Shared) (σ:St) (H:Hp) (Q:Bool->Hp->Prop),Inv X pins σ H s->t σ H Q->wpAny (model X.prog X.w) X.A (isTrue e X.env (eval e X.env)) (TP X pins σ Q) X.xe s
def PW (X:Cx) (e:Expr) (t:TT):Prop :=
 ∀ (whole:Sem Value) (pins:List (Addr × Obj)) (s:Shared) (σ:St) (H:Hp) (Q:Bool->Hp->Prop),Inv X pins σ H s->t σ H Q->wpAny (model X.prog X.w) X.A (isTrue e X.env whole) (TP X pins σ Q) X.xe s
theorem PW.pt {X:Cx} {e:Expr} {t:TT} (h:PW X e t):PT X e t:=h _
def PA (X:Cx) (es:List Expr) (t:TA):Prop :=
 ∀ (pos:Pos) (pins:List (Addr × Obj)) (s:Shared) (σ:St) (H:Hp) (Q:List V->Hp->Prop),Inv X pins σ H s->t σ H Q->wpAny (model X.prog X.w) X.A (spliced (backTo pos (starEach es X.env))) (AP X pins σ Q) X.xe s
def PS (X:Cx) (st:Stmt) (t:TS):Prop :=
 ∀ (pins:List (Addr × Obj)) (s:Shared) (σ:St) (H:Hp) (D:kg),Inv X pins σ H s->t D σ H->wpAny (model X.prog X.w) X.A (exec st X.env) (SP X pins D) X.xe s
def PSs (X:Cx) (st:List Stmt) (t:TS):Prop :=
 ∀ (pins:List (Addr × Obj)) (s:Shared) (σ:St) (H:Hp) (D:kg),Inv X pins σ H s->t D σ H->wpAny (model X.prog X.w) X.A (execs st X.env) (SP X pins D) X.xe s
theorem thn {α:Type} {t:Sem α} {Q Q':α->Shared->Prop} {M:Model} {A:Around} {E:Value->Shared->Prop} {s:Shared} (h:wpAny M A t Q E s) (hQ:∀ a s,Q a s->Q' a s):wpAny M A t Q' E s:=wpAny_mono h hQ fun _ _ x=>x
end L2
namespace L2
open PySem PySem.Spec PyProof.Rows
section
variable {X:Cx}
def fY (i:Nat):TE:=fun σ H Q=>∃ v,σ[i]?=some (some v)/\Q v H
def tC (v:V):TE:=fun _ H Q=>Q v H
theorem BT {i:Nat} {x:Str} {pos:Pos} (hN:X.N[i]?=some x) (hv:Vis X.env.scope x) (hd:(x == ("__debug__":Str))=false:=by decide) (hcd:(x == ("__classdict__":Str))=false:=by decide):PE X (.Name x pos) (fY i):=by
 intro pins s σ H Q I h
 obtain ⟨v,e,h⟩:=h
 obtain ⟨m,hn,hl⟩:=I.loc
 obtain ⟨u,r,l⟩:=hl i x v hN e hv
 have fin:EP X pins σ Q u s:=⟨v,H,I,r,h⟩
 rcases l with ⟨hk,hm⟩ | ⟨hk,c,hc,hcell⟩
 ·exact wpAny_Name (wpAny_loadName_local I.ok.kind hk hn hm fin) hd
 ·rcases hk with hk | hk
  ·exact wpAny_Name (wpAny_loadName_cell I.ok.kind hk hc hcell fin) hd
  ·exact wpAny_Name (wpAny_loadName_free I.ok.kind hk hc hcell fin hcd) hd
theorem BZ {i j pos}:PE X (.Constant (.int i) j pos) (tC (.int i)):=fun _ _ _ H _ I h=>wpAny_Constant_int ⟨.int i,H,I.tok _,⟨_,rfl⟩,h⟩
theorem uY {b j pos}:PE X (.Constant (.bool b) j pos) (tC (.bl b)):=fun _ _ _ H _ I h=>Constant_bool ⟨.bl b,H,I,rfl,h⟩
theorem BX {j pos}:PE X (.Constant .none j pos) (tC .non):=fun _ _ _ H _ I h=>Constant_none ⟨.non,H,I,rfl,h⟩
def Gl (X:Cx) (x:Str):Prop:=X.env.kindOf x=some .globalImplicit
theorem gE {E:Value->Shared->Prop} {pins:List (Addr × Obj)} {s:Shared} {σ:St} {H:Hp} {x:Str} {u:Value} {pos:Pos} {Q:Value->Shared->Prop} (I:Inv X pins σ H s) (hg:Gl X x) (hm:X.mg x=some u) (h:Q u s)
  (hd:(x == ("__debug__":Str))=false:=by decide):wpAny (model X.prog X.w) X.A (eval (.Name x pos) X.env) Q E s :=
 Calls.Name_function_global I.ok.kind hg (Calls.loadGlobal_global (by rw [I.ok.glob];exact I.mod.glob.keeps I.bk) hm h) hd
theorem jV {E:Value->Shared->Prop} {pins:List (Addr × Obj)} {s:Shared} {σ:St} {H:Hp} {x:Str} {u:Value} {pos:Pos} {Q:Value->Shared->Prop} (I:Inv X pins σ H s) (hg:Gl X x) (hm:X.mg x=none) (hv:bootBuiltins x=some u) (h:Q u s)
  (hn:x ≠ "__name__":=by decide) (hd:(x == ("__debug__":Str))=false:=by decide):wpAny (model X.prog X.w) X.A (eval (.Name x pos) X.env) Q E s:=by
 obtain ⟨mb,h1,h2⟩:=I.mod.blt
 exact Calls.Name_function_global I.ok.kind hg (Calls.loadGlobal_builtin (by rw [I.ok.glob];exact I.mod.glob.keeps I.bk) hm (by rw [I.ok.blt];exact h1.keeps I.bk) ((h2 x hn).trans hv) h) hd
theorem uX {x:Str} {v:V} {u:Value} {pos:Pos} (hg:Gl X x) (hm:X.mg x=some u) (r:RelV v u) (hd:(x == ("__debug__":Str))=false:=by decide):PE X (.Name x pos) (tC v) :=
 fun _ _ _ H _ I h=>gE I hg hm ⟨v,H,I,r,h⟩ hd
variable {a b:Expr} {ta tb:TE} {pos:Pos}
def PC (X:Cx) (op:CmpOp) (a b:Expr) (t:TE):Prop :=
 ∀ (pins:List (Addr × Obj)) (s:Shared) (σ:St) (H:Hp) (Q:VK),Inv X pins σ H s->t σ H Q ->
  wpAny (model X.prog X.w) X.A (eval a X.env) (fun v s₁=>wpAny (model X.prog X.w) X.A (eval b X.env) (fun u s₂=>wpAny (model X.prog X.w) X.A (compareOp op v u) (EP X pins σ Q) X.xe s₂) X.xe s₁) X.xe s
theorem xI (b:Expr) {op:CmpOp} (h:op ≠ .In) (h2:op ≠ .NotIn):behindInMarks op b=false:=by
 have e1:(op == CmpOp.In)=false:=by cases op <;> first | rfl | exact absurd rfl h
 have e2:(op == CmpOp.NotIn)=false:=by cases op <;> first | rfl | exact absurd rfl h2
 cases b <;> simp [behindInMarks,e1,e2]
def En (ta:TE):TE:=fun σ H Q=>ta σ H fun x H1=>Q (.bl (decide (x=.non))) H1
def Dl (ta:TE):TE:=fun σ H Q=>ta σ H fun x H1=>Q (.bl (!decide (x=.non))) H1
theorem RelV.none_iff {x:V} {v:Value} (r:RelV x v):(v == Value.none)=decide (x=.non):=by
 cases x with
 | non=>cases r;rfl
 | bl _=>cases r;rfl
 | int _=>obtain ⟨t,rfl⟩:=r;rfl
 | str _=>obtain ⟨t,rfl⟩:=r;rfl
 | byt _=>obtain ⟨t,rfl⟩:=r;rfl
 | flt _=>obtain ⟨t,rfl⟩:=r;rfl
 | ref _=>cases r;rfl
 | ty _=>cases r;rfl
theorem B2 {j pos'} (ha:PE X a ta):PC X .Is a (.Constant .none j pos') (En ta):=by
 intro pins s σ H Q I h
 refine thn (ha pins s σ H _ I h) fun v s1 ⟨x,H1,I1,r1,q1⟩=>?_
 exact Constant_none (is_none_gen ⟨.bl _,H1,I1,by rw [r1.none_iff];rfl,q1⟩)
theorem zJ {j pos'} (ha:PE X a ta):PC X .IsNot a (.Constant .none j pos') (Dl ta):=by
 intro pins s σ H Q I h
 refine thn (ha pins s σ H _ I h) fun v s1 ⟨x,H1,I1,r1,q1⟩=>?_
 exact Constant_none (isnot_none_gen ⟨.bl _,H1,I1,by rw [r1.none_iff];rfl,q1⟩)
def tB (t:TE):TT:=fun σ H Q=>t σ H fun x H1=>∃ c,x=.bl c/\Q c H1
theorem xk {op:CmpOp} {t:TE} (h:PC X op a b t) (h1:behindInMarks op b=false:=by first | exact xI _ (by decide) (by decide) | rfl):PT X (.Compare a [op] [b] pos) (tB t):=by
 intro pins s σ H Q I hw
 refine wpAny_isTrue_Compare1 (thn (h pins s σ H _ I hw) fun v s1 h1=>thn h1 fun u s2 h2=>thn h2 fun c s3 ⟨x,H1,I1,r1,q1⟩=>?_) h1
 obtain ⟨d,rfl,q⟩:=q1
 cases r1
 exact wpAny_truthy_bool ⟨H1,I1,q⟩
theorem BL {e:Expr} {t:TE} (h:PE X e t) (he:∀ whole,isTrue e X.env whole=(do let v <- whole;standAt e.pos;holding [v] (truthy v)):=by intro _;rfl):PT X e (tB t):=by
 intro pins s σ H Q I hw
 refine isTrue_plain (thn (h pins s σ H _ I hw) fun v s1 ⟨x,H1,I1,r1,q1⟩=>?_) (he _)
 obtain ⟨d,rfl,q⟩:=q1
 cases r1
 exact wpAny_truthy_bool ⟨H1,I1,q⟩
variable {tA tB':TT} {rest:List Expr}
def Er (t u:TT):TT:=fun σ H Q=>t σ H fun c H1=>if c=true then u σ H1 Q else Q false H1
def tOr (t u:TT):TT:=fun σ H Q=>t σ H fun c H1=>if c=true then Q true H1 else u σ H1 Q
def Ek (t:TT):TT:=fun σ H Q=>t σ H fun c H1=>Q (!c) H1
theorem zw (ha:PT X a tA):PW X (.BoolOp .And [a] pos) tA:=by
 intro wh pins s σ H Q I h
 refine isTrue_and (thn (ha pins s σ H Q I h) fun c s1 e=>?_)
 cases c with
 | true=>exact isTrue_and_nil e
 | false=>exact e
theorem BB (ha:PT X a tA):PW X (.BoolOp .Or [a] pos) tA:=by
 intro wh pins s σ H Q I h
 refine isTrue_or (thn (ha pins s σ H Q I h) fun c s1 e=>?_)
 cases c with
 | false=>exact isTrue_or_nil e
 | true=>exact e
theorem BC (ha:PT X a tA) (hb:PW X (.BoolOp .And (b :: rest) pos) tB'):PW X (.BoolOp .And (a :: b :: rest) pos) (Er tA tB'):=by
 intro wh pins s σ H Q I h
 refine isTrue_and (thn (ha pins s σ H _ I h) fun c s1 ⟨H1,I1,q1⟩=>?_)
 cases c with
 | true=>exact hb wh pins s1 σ H1 Q I1 q1
 | false=>exact ⟨H1,I1,q1⟩
theorem DC (ha:PT X a tA) (hb:PW X (.BoolOp .Or (b :: rest) pos) tB'):PW X (.BoolOp .Or (a :: b :: rest) pos) (tOr tA tB'):=by
 intro wh pins s σ H Q I h
 refine isTrue_or (thn (ha pins s σ H _ I h) fun c s1 ⟨H1,I1,q1⟩=>?_)
 cases c with
 | true=>exact ⟨H1,I1,q1⟩
 | false=>exact hb wh pins s1 σ H1 Q I1 q1
theorem BM (ha:PT X a tA):PT X (.UnaryOp .Not a pos) (Ek tA):=by
 intro pins s σ H Q I h
 exact isTrue_not (ha pins s σ H (fun c H1=>Q (!c) H1) I h)
def Dq (ta tb:TE):TE:=fun σ H Q=>ta σ H fun x H1=>∃ c,x=.bl c/\if c=true then tb σ H1 Q else Q (.bl false) H1
theorem BW {op} {t:TE} (h:PE X a t):PE X (.BoolOp op [a] pos) t:=fun pins s σ H Q I hw=>BoolOp_one (h pins s σ H Q I hw)
theorem B1 (ha:PE X a ta) (hb:PE X (.BoolOp .And (b :: rest) pos) tb):PE X (.BoolOp .And (a :: b :: rest) pos) (Dq ta tb):=by
 intro pins s σ H Q I h
 refine BoolOp_and (thn (ha pins s σ H _ I h) fun v s1 ⟨x,H1,I1,r1,q1⟩=>?_)
 obtain ⟨c,rfl,q1⟩:=q1
 cases r1
 refine wpAny_truthy_bool ?_
 cases c with
 | true=>exact hb pins s1 σ H1 Q I1 q1
 | false=>exact ⟨.bl false,H1,I1,rfl,q1⟩
end
end L2
namespace L2
open PySem PySem.Spec PyProof.Rows
def SqL (K:Frag) (H:Hp) (a:Addr) (xs:List V):Prop :=
 Rd H a (.lst xs) \/
  ∃ (o:Obj) (its:Array Value) (n:Nat),K.lookup a=some o/\o.cls=.type "list"/\o.dict=none/\o.data=.seq its n/\its.size<=sizeLine/\Vals xs its.toList
def SqT (K:Frag) (H:Hp) (a:Addr) (xs:List V):Prop :=
 Rd H a (.tup xs) \/
  ∃ (o:Obj) (its:Array Value) (n:Nat),K.lookup a=some o/\o.cls=.type "tuple"/\o.data=.seq its n/\its.size<=sizeLine/\Vals xs its.toList
def EQ:Value->Option V
 | .none=>some .non
 | .bool b=>some (.bl b)
 | .int i _=>some (.int i)
 | .str x _=>some (.str x)
 | .bytes b _=>some (.byt b)
 | .float b _=>some (.flt b)
 | .ref a=>some (.ref a)
 | .type n=>some (.ty n)
 | _=>none
theorem RelV.abs {x:V} {u:Value} (r:RelV x u):EQ u=some x:=by
 cases x with
 | non=>cases r;rfl
 | bl _=>cases r;rfl
 | int _=>obtain ⟨t,rfl⟩:=r;rfl
 | str _=>obtain ⟨t,rfl⟩:=r;rfl
 | byt _=>obtain ⟨t,rfl⟩:=r;rfl
 | flt _=>obtain ⟨t,rfl⟩:=r;rfl
 | ref _=>cases r;rfl
 | ty _=>cases r;rfl
theorem RelV.inj {x y:V} {u:Value} (r:RelV x u) (q:RelV y u):x=y:=Option.some.inj (r.abs.symm.trans q.abs)
theorem Vals.inj:∀ {xs ys:List V} {us:List Value},Vals xs us->Vals ys us->xs=ys
 | _,_,_,.nil,.nil=>rfl
 | _,_,_,.cons r t,.cons r' t'=>by rw [r.inj r',Vals.inj t t']
section
variable {X:Cx} {pins:List (Addr × Obj)} {σ:St} {H:Hp} {s:Shared} {a:Addr} {xs ys:List V}
theorem SqL.of {K:Frag} (h:H a=some (.lst xs)):SqL K H a xs:=.inl (.inl h)
theorem SqT.of {K:Frag} (h:H a=some (.tup xs)):SqT K H a xs:=.inl (.inl h)
theorem Inv.list (I:Inv X pins σ H s) (h:SqL X.K H a xs):∃ its:List Value,Vals xs its/\PlainL s.heap a its.toArray/\xs.length<=sizeLine:=by
 rcases h with h | ⟨o,its,n,hk,hc,hd,hs,hz,r⟩
 ·obtain ⟨z,its,n,r,e⟩:=h.ok I.hok
  exact ⟨its,r,⟨_,n,e,rfl,rfl,rfl⟩,z⟩
 ·refine ⟨its.toList,r,⟨o,n,I.kIn a o hk,hc,hd,by simpa using hs⟩,?_⟩
  have e:=r.length
  simp only [Array.length_toList] at e
  omega
theorem Inv.tuple (I:Inv X pins σ H s) (h:SqT X.K H a xs):∃ its:List Value,Vals xs its/\IsTup s.heap a its.toArray/\xs.length<=sizeLine:=by
 rcases h with h | ⟨o,its,n,hk,hc,hs,hz,r⟩
 ·obtain ⟨z,its,r,p⟩:=h.ok I.hok
  exact ⟨its,r,p,z⟩
 ·refine ⟨its.toList,r,⟨o,I.kIn a o hk,hc,n,by simpa using hs⟩,?_⟩
  have e:=r.length
  simp only [Array.length_toList] at e
  omega
theorem Inv.list_inj (I:Inv X pins σ H s) (h:SqL X.K H a xs) (h':SqL X.K H a ys):xs=ys:=by
 obtain ⟨its,r,⟨o,n,e,_,_,d⟩,_⟩:=I.list h
 obtain ⟨its',r',⟨o',n',e',_,_,d'⟩,_⟩:=I.list h'
 rw [e] at e';cases e'
 rw [d] at d'
 injection d' with d1 _
 have:its=its':=by simpa using congrArg Array.toList d1
 subst this
 exact r.inj r'
theorem Inv.tuple_inj (I:Inv X pins σ H s) (h:SqT X.K H a xs) (h':SqT X.K H a ys):xs=ys:=by
 obtain ⟨its,r,⟨o,e,_,n,d⟩,_⟩:=I.tuple h
 obtain ⟨its',r',⟨o',e',_,n',d'⟩,_⟩:=I.tuple h'
 rw [e] at e';cases e'
 rw [d] at d'
 injection d' with d1 _
 have:its=its':=by simpa using congrArg Array.toList d1
 subst this
 exact r.inj r'
end
abbrev Cx.wish (X:Cx) (E:Value->Shared->Prop):Cx:={ X with xe:=E }
abbrev Cx.nox (X:Cx):Cx:=X.wish fun _ _=>False
theorem Cx.Ok.wish {X:Cx} (ok:X.Ok) (E:Value->Shared->Prop):(X.wish E).Ok :=
 ⟨ok.mod,ok.kind,ok.glob,ok.blt,ok.above,ok.inj,ok.has,ok.cab,ok.hd,ok.frames,ok.stk,ok.exf,ok.bs,ok.bsz,ok.noex,ok.exfs,ok.funs,ok.frf⟩
theorem Cx.Ok.unwish {X:Cx} {E:Value->Shared->Prop} (ok:(X.wish E).Ok):X.Ok :=
 ⟨ok.mod,ok.kind,ok.glob,ok.blt,ok.above,ok.inj,ok.has,ok.cab,ok.hd,ok.frames,ok.stk,ok.exf,ok.bs,ok.bsz,ok.noex,ok.exfs,ok.funs,ok.frf⟩
section
variable {X:Cx} {pins:List (Addr × Obj)} {σ:St} {H:Hp} {s:Shared} {E:Value->Shared->Prop}
theorem Inv.wish (I:Inv X pins σ H s) (E:Value->Shared->Prop):Inv (X.wish E) pins σ H s:=⟨I.ok.wish E,I.os,I.bare,I.base,I.loc,I.cell,I.free,I.freeC,I.pin,I.hok,I.len⟩
theorem Inv.unwish (I:Inv (X.wish E) pins σ H s):Inv X pins σ H s:=⟨I.ok.unwish,I.os,I.bare,I.base,I.loc,I.cell,I.free,I.freeC,I.pin,I.hok,I.len⟩
theorem SP.unwish {D:kg} {f:Flow} {s':Shared} (h:SP (X.wish E) pins D f s'):SP X pins D f s':=by
 cases f with
 | next=>obtain ⟨σ',H',I,q⟩:=h;exact ⟨σ',H',I.unwish,q⟩
 | brk=>obtain ⟨σ',H',I,q⟩:=h;exact ⟨σ',H',I.unwish,q⟩
 | cont=>obtain ⟨σ',H',I,q⟩:=h;exact ⟨σ',H',I.unwish,q⟩
 | ret u=>obtain ⟨v,σ',H',I,r,q⟩:=h;exact ⟨v,σ',H',I.unwish,r,q⟩
theorem PSs.nox {st:List Stmt} {t:TS} (h:PSs X.nox st t):PSs X st t:=fun pins s σ H D I hw =>
 wpAny_mono (h pins s σ H D (I.wish _) hw) (fun _ _ q=>q.unwish) fun _ _ z=>False.elim z
end
section
variable {X:Cx} {st:Stmt} {rest:List Stmt} {t u:TS} {e:Expr} {te:TE} {pos:Pos}
def Dm:TS:=fun D σ H=>D.nx σ H
def zc (t u:TS):TS:=fun D σ H=>t { D with nx:=u D } σ H
theorem zx:PSs X [] Dm:=fun _ _ σ H _ I h=>wpAny_execs_nil ⟨σ,H,I,h⟩
theorem kr (h1:PS X st t) (h2:PSs X rest u):PSs X (st :: rest) (zc t u):=by
 intro pins s σ H D I h
 refine wpAny_execs_cons (thn (h1 pins s σ H { D with nx:=u D } I h) fun f s1 q=>?_)
 cases f with
 | next =>
  obtain ⟨σ',H',I',q⟩:=q
  exact h2 pins s1 σ' H' D I' q
 | ret v=>exact q
 | brk=>exact q
 | cont=>exact q
theorem mE (h1:PS X st t):PSs X [st] t:=by
 intro pins s σ H D I h
 refine wpAny_execs_cons (thn (h1 pins s σ H D I h) fun f s1 q=>?_)
 cases f with
 | next=>exact wpAny_execs_nil q
 | ret v=>exact q
 | brk=>exact q
 | cont=>exact q
theorem Inv.quiet {pins:List (Addr × Obj)} {σ:St} {H:Hp} {s:Shared} (I:Inv X pins σ H s):interactive X.env=false:=by simp [interactive,I.ok.kind]
def pf (te:TE):TS:=fun D σ H=>te σ H fun _ H1=>D.nx σ H1
theorem kt (he:PE X e te) (hs:swapsWith e none pos.line X.env=pure false:=by rfl):PS X (.Expr e pos) (pf te):=by
 intro pins s σ H D I h
 exact wpAny_Expr_any (thn (he pins s σ H _ I h) fun v s1 ⟨x,H1,I1,r1,q1⟩=>⟨σ,H1,I1,q1⟩) I.quiet hs
def Ej (te:TE):TS:=fun D σ H=>te σ H D.rt
theorem BN (he:PE X e te):PS X (.Return (some e) pos) (Ej te):=by
 intro pins s σ H D I h
 exact wpAny_Return_some (thn (he pins s σ H _ I h) fun v s1 ⟨x,H1,I1,r1,q1⟩=>⟨x,σ,H1,I1,r1,q1⟩)
def Eo (c:TT) (t u:TS):TS:=fun D σ H=>c σ H fun b H1=>if b=true then t D σ H1 else u D σ H1
theorem A3 {c:Expr} {a b:List Stmt} {tc:TT} (hc:PT X c tc) (ha:PSs X a t) (hb:PSs X b u):PS X (.If c a b pos) (Eo tc t u):=by
 intro pins s σ H D I h
 refine wpAny_If (thn (hc pins s σ H _ I h) fun d s1 ⟨H1,I1,q1⟩=>?_)
 cases d with
 | true=>exact ha pins s1 σ H1 D I1 q1
 | false=>exact hb pins s1 σ H1 D I1 q1
def Bp:TS:=fun _ _ _=>False
theorem xp:PS X st Bp:=fun _ _ _ _ _ _ h=>h.elim
end
abbrev TG:=V->St->Hp->(St->Hp->Prop)->Prop
abbrev TGs:=List V->St->Hp->(St->Hp->Prop)->Prop
def PG (X:Cx) (target:Expr) (t:TG):Prop :=
 ∀ (pins:List (Addr × Obj)) (s:Shared) (σ:St) (H:Hp) (v:V) (u:Value) (Q:St->Hp->Prop),Inv X pins σ H s->RelV v u->t v σ H Q ->
  wpAny (model X.prog X.w) X.A (assign target X.env u) (fun _ s'=>∃ σ' H',Inv X pins σ' H' s'/\Q σ' H') X.xe s
def PGs (X:Cx) (ts:List Expr) (t:TGs):Prop :=
 ∀ (pins:List (Addr × Obj)) (s:Shared) (σ:St) (H:Hp) (vs:List V) (us:List Value) (Q:St->Hp->Prop),Inv X pins σ H s->Vals vs us->t vs σ H Q ->
  wpAny (model X.prog X.w) X.A (assignInOrder ((assignEach ts X.env).map (·.2)) us) (fun _ s'=>∃ σ' H',Inv X pins σ' H' s'/\Q σ' H') X.xe s
abbrev AU:=V->V->V->Hp->(Hp->Prop)->Prop
def D9 (X:Cx) (t:AU):Prop :=
 ∀ (pins:List (Addr × Obj)) (s:Shared) (σ:St) (H:Hp) (o i v:V) (ov iv u:Value) (Q:Hp->Prop),Inv X pins σ H s->RelV o ov->RelV i iv->RelV v u->t o i v H Q ->
  wpAny (model X.prog X.w) X.A (setItem ov iv u) (fun _ s'=>∃ H',Inv X pins σ H' s'/\Q H') X.xe s
section
variable {X:Cx} {pos:Pos}
def i5 (i:Nat):TG:=fun v σ H Q=>Q (σ.set i (some v)) H
theorem aJ {i:Nat} {x:Str} (hN:X.N.Nodup) (hi:X.N[i]?=some x) (hx:Loc X.env.scope x) (hf:X.fn x=true\/X.env.scope.names.lookup x=some .local:=by first | exact .inl rfl | exact .inr rfl | assumption):PG X (.Name x pos) (i5 i):=by
 intro pins s σ H v u Q I r h
 exact wpAny_assign_Name (mV I hN hi hx r (fun s' I'=>⟨_,H,I',h⟩) hf)
def EE:TGs:=fun vs σ H Q=>vs=[]/\Q σ H
def DY (t:TG) (u:TGs):TGs:=fun vs σ H Q=>∃ v r,vs=v :: r/\t v σ H fun σ' H'=>u r σ' H' Q
theorem zG:PGs X [] EE:=by
 intro pins s σ H vs us Q I r h
 obtain ⟨e,h⟩:=h
 subst e
 cases r
 exact assignInOrder_nil ⟨σ,H,I,h⟩
theorem rO {e:Expr} {es:List Expr} {t:TG} {u:TGs} (h1:PG X e t) (h2:PGs X es u)
  (hs:(assignEach (e :: es) X.env).map (·.2)=assign e X.env :: (assignEach es X.env).map (·.2):=by rfl):PGs X (e :: es) (DY t u):=by
 intro pins s σ H vs us Q I r h
 obtain ⟨v,vr,e1,h⟩:=h
 subst e1
 cases r with
 | cons r rr =>
  rw [hs]
  refine assignInOrder_cons (thn (h1 pins s σ H _ _ _ I r h) fun _ s1 ⟨σ1,H1,I1,q1⟩=>?_)
  exact h2 pins s1 σ1 H1 _ _ Q I1 rr q1
def EA (K:Frag) (n:Nat) (t:TGs):TG:=fun v σ H Q=>∃ a xs,v=.ref a/\SqT K H a xs/\xs.length=n/\t xs σ H Q
theorem BS {es:List Expr} {k:Nat} {t:TGs} {n:Nat} (hc:X.calm=true) (h:PGs X es t)
  (hn:(assignEach es X.env).length=n:=by rfl) (hst:(assignEach es X.env).findIdx? (·.1)=none:=by rfl):PG X (.Tuple es k pos) (EA X.K n t):=by
 intro pins s σ H v u Q I r hw
 obtain ⟨a,xs,e1,hq,hl,hw⟩:=hw
 subst e1
 cases r
 obtain ⟨its,rv,ht,hz⟩:=I.tuple hq
 refine assign_Tuple_tuple (I.ok.hd hc) ht (by simp [hn,<- hl,rv.length]) hst fun h' hx=>?_
 have I1:Inv X pins σ H { s with heap:=h' }:=I.kept (t':=s.toks) fun b o e=>hx b o (Nat.ne_of_lt (Heap.lt_size e)) e
 exact h pins _ σ H xs _ Q I1 (by simpa using rv) hw
def EC (to ti:TE) (t:AU):TG:=fun v σ H Q=>to σ H fun o H1=>ti σ H1 fun i H2=>t o i v H2 fun H3=>Q σ H3
theorem xx {o i:Expr} {to ti:TE} {t:AU} (ho:PE X o to) (hi:PE X i ti) (hs:D9 X t)
  (ha:∀ v,assign (.Subscript o i pos) X.env v=(do
   let ov <- holding [v] (eval o X.env)
   let iv <- holding [v,ov] (eval i X.env)
   standAt pos
   holding [v,ov,iv] (setItem ov iv v)
   release [v,ov,iv] []):=by intro _;rfl):PG X (.Subscript o i pos) (EC to ti t):=by
 intro pins s σ H v u Q I r h
 rw [ha]
 refine wpAny_bind (wpAny_holding (thn (ho pins s σ H _ I h) fun ov s1 ⟨x,H1,I1,r1,q1⟩=>?_))
 refine wpAny_bind (wpAny_holding (thn (hi pins s1 σ H1 _ I1 q1) fun iv s2 ⟨y,H2,I2,r2,q2⟩=>?_))
 refine wpAny_bind (wpAny_standAt (wpAny_bind (wpAny_holding (thn (hs pins s2 σ H2 x y v ov iv u _ I2 r1 r2 r q2) fun _ s3 ⟨H3,I3,q3⟩=>?_))))
 exact wpAny_release ⟨σ,H3,I3,q3⟩
def vW (te:TE) (g:TG):TS:=fun D σ H=>te σ H fun x H1=>g x σ H1 D.nx
theorem tL {tg e:Expr} {te:TE} {g:TG} (he:PE X e te) (hg:PG X tg g) (hs:swapsWithSole [tg] e pos.line X.env=pure false:=by rfl) (hw:swappedStores [tg] e X.env=pure none:=by rfl)
  (h1:(assignEach [tg] X.env).map (·.2)=[assign tg X.env]:=by rfl):PS X (.Assign [tg] e pos) (vW te g):=by
 intro pins s σ H D I h
 refine wpAny_Assign_stores (thn (he pins s σ H _ I h) fun v s1 ⟨x,H1,I1,r1,q1⟩=>?_) hs hw
 rw [h1]
 exact thn (hg pins s1 σ H1 x v _ I1 r1 q1) fun _ s2 q=>q
theorem qg {i:Nat} {x:Str} {e:Expr} {te:TE} {pos':Pos} (hN:X.N.Nodup) (hi:X.N[i]?=some x) (hx:Loc X.env.scope x) (he:PE X e te) (hs:swapsWith e (some (.Name x pos')) pos.line X.env=pure false:=by rfl) (hf:X.fn x=true\/X.env.scope.names.lookup x=some .local:=by first | exact .inl rfl | exact .inr rfl | assumption) :
  PS X (.Assign [.Name x pos'] e pos) (vW te (i5 i)):=by
 intro pins s σ H D I h
 refine wpAny_Assign_Name (thn (he pins s σ H _ I h) fun v s1 ⟨y,H1,I1,r1,q1⟩=>?_) hs
 exact mV I1 hN hi hx r1 (fun s2 I2=>⟨_,H1,I2,q1⟩) hf
end
section
variable {X:Cx} {pos:Pos}
def Bo (c:TT) (tb:TS):TS:=fun D σ H=>∃ W:Nat->St->Hp->Prop,(∃ m,W m σ H)/\∀ m σ H,W m σ H ->
 c σ H fun b H1=>if b=true then ∃ N:St->Hp->Prop,(∀ σ' H',N σ' H'->∃ m',m' < m/\W m' σ' H')/\tb { D with nx:=N,ct:=N,bk:=D.nx } σ H1 else D.nx σ H1
theorem xm {c:Expr} {body:List Stmt} {tc:TT} {tb:TS} (hp:PassesOwn (model X.prog X.w) X.A X.env X.xe) (hc:PT X c tc) (hb:PSs X body tb):PS X (.While c body [] pos) (Bo tc tb):=by
 intro pins s σ H D I h
 obtain ⟨W,⟨m0,w0⟩,jQ⟩:=h
 refine wpAny_While (codeAny_whileLoop (fun n s'=>∃ σ' H',Inv X pins σ' H' s'/\W n σ' H') ?_ m0 ⟨σ,H,I,w0⟩)
 rintro n s1 ⟨σ1,H1,I1,w1⟩
 refine wpAny_passesOwn hp (thn (hc pins s1 σ1 H1 _ I1 (jQ n σ1 H1 w1)) fun b s2 ⟨H2,I2,q2⟩=>?_)
 cases b with
 | true =>
  obtain ⟨N,hN,q2⟩:=q2
  rw [if_pos rfl]
  refine wpAny_passesOwn hp (thn (hb pins s2 σ1 H2 _ I2 q2) fun f s3 q3=>?_)
  cases f with
  | next =>
   obtain ⟨σ3,H3,I3,n3⟩:=q3
   obtain ⟨m',hm,w3⟩:=hN σ3 H3 n3
   exact ⟨m',hm,σ3,H3,I3,w3⟩
  | cont =>
   obtain ⟨σ3,H3,I3,n3⟩:=q3
   obtain ⟨m',hm,w3⟩:=hN σ3 H3 n3
   exact ⟨m',hm,σ3,H3,I3,w3⟩
  | brk=>exact q3
  | ret v=>exact q3
 | false =>
  rw [if_neg Bool.false_ne_true]
  exact wpAny_execs_nil ⟨σ1,H2,I2,q2⟩
end
structure It where
 go:Nat->Hp->Prop
 yld:Nat->Hp->V->Hp->Prop
 stop:Nat->Hp->Prop
def oJ (X:Cx) (pins:List (Addr × Obj)) (H:Hp) (b:Addr):Prop :=
 H b=none/\b ≠ X.env.locals/\b ∉ X.fs/\(b ∈ X.ex\/X.s₀.heap.objs.size<=b)/\(∀ x c,X.env.cells.lookup x=some c->c ≠ b)/\∀ p ∈ X.pn ++ pins,p.1 ≠ b
theorem Inv.fpOk {X:Cx} {pins:List (Addr × Obj)} {σ:St} {H H':Hp} {s:Shared} {b:Addr} (I:Inv X pins σ H s) (hb:s.heap.objs.size<=b) (hn:H' b=none):oJ X pins H' b:=by
 refine ⟨hn,Nat.ne_of_gt (Nat.lt_of_lt_of_le I.lt hb),I.nofs hb,.inr (Nat.le_trans I.sz hb),fun x c e z=>?_,fun p hp z=>?_⟩
 ·obtain ⟨v,q⟩:=I.cell x c e
  exact absurd (Nat.lt_of_lt_of_le q.lt (by rw [z];exact hb)) (Nat.lt_irrefl _)
 ·exact absurd (Nat.lt_of_lt_of_le (Heap.lt_size (I.pin p hp).1) (by rw [z];exact hb)) (Nat.lt_irrefl _)
structure wI (P:Program) (w:World) (K:Frag) (tg:Expr) (J:It) (fp:List Addr) (it:Addr) (tn:Nat->Heap->Prop):Prop where
 mem:it ∈ fp
 obj:∀ i h,tn i h->∀ b ∈ fp,∃ o,h.get? b=some o/\∀ v,o.data ≠ .cell v
 keep:∀ i h h',tn i h->(∀ b ∈ fp,∀ o,h.get? b=some o->h'.get? b=some o)->tn i h'
 item:∀ (X:Cx),X.prog=P->X.w=w->X.K=K->X.calm=true->∀ (i:Nat) (pins:List (Addr × Obj)) (s:Shared) (σ:St) (H:Hp) (E:Value->Shared->Prop),Inv X pins σ H s->(∀ b ∈ fp,oJ X pins H b)->tn i s.heap->J.go i H ->
  wpAny (model P w) X.A (pyNext (.ref it)) (fun r s1=>∃ u,r=some u /\
   wpAny (model P w) X.A (letOwnedTupleGo tg (.ref it) u) (fun _ s2=>∃ x H',Inv X pins σ H' s2/\RelV x u/\J.yld i H x H'/\tn (i + 1) s2.heap/\∀ b ∈ fp,H' b=none) E s1) E s
 done:∀ (X:Cx),X.prog=P->X.w=w->X.K=K->X.calm=true->∀ (i:Nat) (pins:List (Addr × Obj)) (s:Shared) (σ:St) (H:Hp) (E:Value->Shared->Prop),Inv X pins σ H s->(∀ b ∈ fp,oJ X pins H b)->tn i s.heap->J.stop i H ->
  wpAny (model P w) X.A (pyNext (.ref it)) (fun r s1=>r=none/\Inv X pins σ H s1) E s
 self:∀ (A:Around) (i:Nat) (s:Shared) (Q:Value->Shared->Prop) (E:Value->Shared->Prop),tn i s.heap->Q (.ref it) s->wpAny (model P w) A (pyIter (.ref it)) Q E s
abbrev TI:=St->Hp->(It->Hp->Prop)->Prop
def PIE (X:Cx) (pins:List (Addr × Obj)) (σ:St) (tg:Expr) (R:It->Hp->Prop) (itv:Value) (s2:Shared):Prop :=
 ∃ (it:Addr) (fp:List Addr) (tn:Nat->Heap->Prop) (J:It) (H':Hp),itv=.ref it/\Inv X pins σ H' s2/\wI X.prog X.w X.K tg J fp it tn/\tn 0 s2.heap/\(∀ b ∈ fp,oJ X pins H' b)/\R J H'
def PI (X:Cx) (tg iter:Expr) (wi:TI):Prop :=
 ∀ (pins:List (Addr × Obj)) (s:Shared) (σ:St) (H:Hp) (R:It->Hp->Prop),Inv X pins σ H s->wi σ H R ->
  wpAny (model X.prog X.w) X.A (eval iter X.env) (fun v s1=>wpAny (model X.prog X.w) X.A (pyIter v) (PIE X pins σ tg R) X.xe s1) X.xe s
theorem yf {M : Model} {A : Around} {E : Value -> Shared -> Prop} {s : Shared} {tg : Expr} {it : Addr} {u : Value} {o : Obj} {n : String} {vs : Array Value} {Q : Unit -> Shared -> Prop} (ho : s.heap.get? it = some o) (hc : o.cls = .type n) (hd : o.data = .fields vs)
    (hn : ["enumerate", "zip", "dict_itemiterator", "dict_reverseitemiterator", "odict_iterator", "itertools.zip_longest", "itertools.pairwise"].contains n = false) (hQ : Q () s) : wpAny M A (letOwnedTupleGo tg (.ref it) u) Q E s := by
  unfold letOwnedTupleGo
  cases tg <;> first
    | exact wpAny_pure hQ
    | (cases u <;> first
        | exact wpAny_pure hQ
        | (refine wpAny_bind (wpAny_load ho ?_)
           rw [hc, hd]
           show wpAny M A (if (["enumerate", "zip", "dict_itemiterator", "dict_reverseitemiterator", "odict_iterator", "itertools.zip_longest", "itertools.pairwise"].contains n && vs[0]? == some (rawInt _)) = true then _ else _) Q E s
           rw [if_neg (by intro h; rw [hn, Bool.false_and] at h; cases h)]
           exact wpAny_pure hQ))
def Itl (K:Frag) (a:Addr):It :=
 ⟨fun i H=>∃ xs x,SqL K H a xs/\xs[i]?=some x,fun i H x H'=>H'=H/\∀ xs,SqL K H a xs->xs[i]?=some x,fun i H=>∃ xs,SqL K H a xs/\xs.length<=i⟩
def Itt (K:Frag) (a:Addr):It :=
 ⟨fun i H=>∃ xs x,SqT K H a xs/\xs[i]?=some x,fun i H x H'=>H'=H/\∀ xs,SqT K H a xs->xs[i]?=some x,fun i H=>∃ xs,SqT K H a xs/\xs.length<=i⟩
def Itr (lo:Int) (n:Nat):It:=⟨fun i _=>i < n,fun i H x H'=>H'=H/\x=.int (lo + i),fun i _=>n<=i⟩
theorem pc {P:Program} {w:World} {K:Frag} {tg:Expr} (a it:Addr):wI P w K tg (Itl K a) [it] it (fun i h=>h.IsListIter it a i) where
 mem:=by simp
 obj:=fun i h st b hb=>by
  have e:b=it:=by simpa using hb
  subst e
  obtain ⟨o,e,c,d⟩:=st
  exact ⟨o,e,fun v z=>by rw [d] at z;cases z⟩
 keep:=fun i h h' st k=>st.at fun o e=>k it (by simp) o e
 item:=by
  intro X hP hw hK hc i pins s σ H E I hf st hg
  subst hP hw hK
  obtain ⟨xs,x,hq,hx⟩:=hg
  obtain ⟨its,rv,p,hz⟩:=I.list hq
  obtain ⟨u,hu,ru⟩:=rv.get hx
  obtain ⟨f0,f1,f2,f3,f4,f5⟩:=hf it (by simp)
  refine wpAny_pyNext_list_item st p.isList (x:=u) (by simpa using hu) fun h' st' sb=>?_
  have I1:Inv X pins σ H { s with heap:=h' }:=I.turned (t':=s.toks) (fun b o hb e=>(sb.2 b hb).trans e) f0 f1 f3 f4 f5
  obtain ⟨o,e,c,d⟩:=id st'
  exact ⟨u,rfl,yf (s:={ s with heap:=h' }) e c d (by decide) ⟨x,H,I1,ru,⟨rfl,fun ys hy=>by rw [I.list_inj hy hq];exact hx⟩,st',fun b hb=>(hf b hb).1⟩⟩
 done:=by
  intro X hP hw hK hc i pins s σ H E I hf st hg
  subst hP hw hK
  obtain ⟨xs,hq,hx⟩:=hg
  obtain ⟨its,rv,p,hz⟩:=I.list hq
  obtain ⟨f0,f1,f2,f3,f4,f5⟩:=hf it (by simp)
  have hl:=rv.length
  exact wpAny_pyNext_list_end (I.ok.hd hc) st p.isList (by simp;omega) fun h' eb=>⟨rfl,I.turned (t':=s.toks) (fun b o hb e=>eb b o hb e) f0 f1 f3 f4 f5⟩
 self:=fun _ _ _ _ _ st h=>wpAny_pyIter_listiter st h
theorem td {P:Program} {w:World} {K:Frag} {tg:Expr} (a it:Addr):wI P w K tg (Itt K a) [it] it (fun i h=>h.IsTupleIter it a i) where
 mem:=by simp
 obj:=fun i h st b hb=>by
  have e:b=it:=by simpa using hb
  subst e
  obtain ⟨o,e,c,d⟩:=st
  exact ⟨o,e,fun v z=>by rw [d] at z;cases z⟩
 keep:=fun i h h' st k=>st.at fun o e=>k it (by simp) o e
 item:=by
  intro X hP hw hK hc i pins s σ H E I hf st hg
  subst hP hw hK
  obtain ⟨xs,x,hq,hx⟩:=hg
  obtain ⟨its,rv,p,hz⟩:=I.tuple hq
  obtain ⟨u,hu,ru⟩:=rv.get hx
  obtain ⟨f0,f1,f2,f3,f4,f5⟩:=hf it (by simp)
  refine wpAny_pyNext_tuple_item st (show s.heap.IsTuple a its.toArray from p) (x:=u) (by simpa using hu) fun h' st' sb=>?_
  have I1:Inv X pins σ H { s with heap:=h' }:=I.turned (t':=s.toks) (fun b o hb e=>(sb.2 b hb).trans e) f0 f1 f3 f4 f5
  obtain ⟨o,e,c,d⟩:=id st'
  exact ⟨u,rfl,yf (s:={ s with heap:=h' }) e c d (by decide) ⟨x,H,I1,ru,⟨rfl,fun ys hy=>by rw [I.tuple_inj hy hq];exact hx⟩,st',fun b hb=>(hf b hb).1⟩⟩
 done:=by
  intro X hP hw hK hc i pins s σ H E I hf st hg
  subst hP hw hK
  obtain ⟨xs,hq,hx⟩:=hg
  obtain ⟨its,rv,p,hz⟩:=I.tuple hq
  obtain ⟨f0,f1,f2,f3,f4,f5⟩:=hf it (by simp)
  have hl:=rv.length
  exact wpAny_pyNext_tuple_end (I.ok.hd hc) st (show s.heap.IsTuple a its.toArray from p) (by simp;omega) fun h' eb=>⟨rfl,I.turned (t':=s.toks) (fun b o hb e=>eb b o hb e) f0 f1 f3 f4 f5⟩
 self:=fun _ _ _ _ _ st h=>wpAny_pyIter_tupleiter st h
theorem tf {P:Program} {w:World} {K:Frag} {tg:Expr} (it:Addr) (lo:Int) (n:Nat):wI P w K tg (Itr lo n) [it] it (fun i h=>IsRangeIter h it (lo + (i:Nat) * 1) ((n:Int) - (i:Nat)) 1) where
 mem:=by simp
 obj:=fun i h st b hb=>by
  have e:b=it:=by simpa using hb
  subst e
  exact ⟨_,st,fun v z=>by
   have z':Data.fields _=Data.cell v:=z
   cases z'⟩
 keep:=fun i h h' st k=>k it (by simp) _ st
 item:=by
  intro X hP hw hK hc i pins s σ H E I hf st hg
  subst hP hw hK
  obtain ⟨f0,f1,f2,f3,f4,f5⟩:=hf it (by simp)
  have W:=Walks.range (prog:=X.prog) (w:=X.w) (I.ok.hd hc) it lo 1 n
  refine W.item i s _ _ hg st fun v h' tk hv st' kk=>?_
  obtain ⟨t,rfl⟩:=hv
  have I1:Inv X pins σ H { s with heap:=h',toks:=tk }:=I.turned (fun b o hb e=>kk b o (by simpa using hb) e) f0 f1 f3 f4 f5
  refine ⟨_,rfl,yf (s:={ s with heap:=h',toks:=tk }) (n:="range_iterator") st' rfl rfl (by decide) ⟨.int (lo + i),H,I1,⟨t,?_⟩,⟨rfl,rfl⟩,st',fun b hb=>(hf b hb).1⟩⟩
  rw [Int.mul_one]
 done:=by
  intro X hP hw hK hc i pins s σ H E I hf st hg
  subst hP hw hK
  obtain ⟨f0,f1,f2,f3,f4,f5⟩:=hf it (by simp)
  exact wpAny_pyNext_range_end (I.ok.hd hc) st (by have:n<=i:=hg;omega) fun h' eb=>⟨rfl,I.turned (t':=s.toks) (fun b o hb e=>eb b o hb e) f0 f1 f3 f4 f5⟩
 self:=fun _ _ _ _ _ st h=>wpAny_pyIter_rangeiter st h
end L2
namespace L2
open PySem PySem.Spec PyProof.Rows
section
variable {X:Cx} {tg:Expr}
def DW (K:Frag) (tl:TE):TI:=fun σ H R=>tl σ H fun x H1=>∃ a,x=.ref a/\(∃ xs,SqL K H1 a xs)/\R (Itl K a) H1
theorem zE {l:Expr} {tl:TE} (hl:PE X l tl):PI X tg l (DW X.K tl):=by
 intro pins s σ H R I h
 refine thn (hl pins s σ H _ I h) fun v s1 ⟨x,H1,I1,r1,q1⟩=>?_
 obtain ⟨a,e,⟨xs,hq⟩,q⟩:=q1
 subst e
 cases r1
 obtain ⟨its,rv,p,hz⟩:=I1.list hq
 refine wpAny_pyIter_list p.isList ?_
 refine ⟨s1.heap.objs.size,[s1.heap.objs.size],_,_,H1,rfl,I1.kept (t':=s1.toks) fun b o e=>Heap.get?_push_of_some _ e,pc a _,⟨_,Heap.get?_push_size _ rfl,rfl,rfl⟩,fun b hb=>?_,q⟩
 have e:b=s1.heap.objs.size:=by simpa using hb
 subst e
 exact I1.fpOk (Nat.le_refl _) (I1.hok.fresh (Nat.le_refl _))
theorem xi {pins:List (Addr × Obj)} {σ:St} {H:Hp} {s:Shared} {R:It->Hp->Prop} {E:Value->Shared->Prop} {lo hi:Int} {t u v:Tok} {tk:Nat} (I:Inv X pins σ H s) (h1:-(2 ^ 62)<=lo) (h2:lo < 2 ^ 62) (h3:-(2 ^ 62)<=hi) (h4:hi < 2 ^ 62)
  (q:R (Itr lo (hi - lo).toNat) H):wpAny (model X.prog X.w) X.A (pyIter (.ref s.heap.objs.size)) (PIE X pins σ tg R) E { s with heap:=s.heap.push { cls:=.type "range",data:=.fields #[.int lo t,.int hi u,.int 1 v] },toks:=tk }:=by
 refine wpAny_pyIter_range (IsRange.new ..) (small_one h1 h2 h3 h4) ?_
 have I1:Inv X pins σ H { s with heap:=s.heap.push { cls:=.type "range",data:=.fields #[.int lo t,.int hi u,.int 1 v] },toks:=tk }:=I.kept fun b o e=>Heap.get?_push_of_some _ e
 refine ⟨(s.heap.push { cls:=.type "range",data:=.fields #[.int lo t,.int hi u,.int 1 v] }).objs.size,[(s.heap.push { cls:=.type "range",data:=.fields #[.int lo t,.int hi u,.int 1 v] }).objs.size],_,_,H,rfl,
  I1.kept (t':=tk) fun b o e=>Heap.get?_push_of_some _ e,tf _ lo (hi - lo).toNat,?_,fun b hb=>?_,q⟩
 ·have e1:lo + ((0:Nat):Int) * 1=lo:=by simp
  have e2:(((hi - lo).toNat:Nat):Int) - ((0:Nat):Int)=Builtin.Range.rangeSize lo hi 1:=by rw [rangeSize_one];split <;> omega
  show IsRangeIter _ _ (lo + ((0:Nat):Int) * 1) ((((hi - lo).toNat:Nat):Int) - ((0:Nat):Int)) 1
  rw [e1,e2]
  exact Heap.get?_push_size _ rfl
 ·have e:b=(s.heap.push { cls:=.type "range",data:=.fields #[.int lo t,.int hi u,.int 1 v] }).objs.size:=by simpa using hb
  subst e
  exact I1.fpOk (Nat.le_refl _) (I1.hok.fresh (Nat.le_refl _))
def DV (ta:TA):TI:=fun σ H R=>ta σ H fun vs H1=>∃ j:Int,vs=[.int j]/\-(2 ^ 62)<=j/\j < 2 ^ 62/\R (Itr 0 j.toNat) H1
theorem wc {a:Expr} {ta:TA} {p pos:Pos} (hg:Gl X "range") (hm:X.mg "range"=none) (ha:PA X [a] ta) (hs:starEach [a] X.env=[(false,eval a X.env)]:=by rfl):PI X tg (.Call (.Name "range" p) [a] [] pos) (DV ta):=by
 intro pins s σ H R I h
 refine Call_ (jV I hg hm boot_range (PyProof.Rows.callWith_type1 (thn (ha pos pins s σ H _ I h) fun us s1 ⟨vs,H1,I1,r1,q1⟩=>?_) hs rfl))
 obtain ⟨j,e,q1,q2,q⟩:=q1
 subst e
 cases r1 with
 | cons r rr =>
  cases rr
  obtain ⟨t,rfl⟩:=r
  exact call_range_1 (xi I1 (by omega) (by omega) q1 q2 (by simpa using q))
def Bq (wi:TI) (g:TG) (tb:TS):TS:=fun D σ H=>wi σ H fun J H1=>∃ W:Nat->Nat->St->Hp->Prop,(∃ m,W 0 m σ H1)/\∀ i m σ H,W i m σ H ->
 (J.stop i H/\D.nx σ H)\/(J.go i H/\∃ N:St->Hp->Prop,(∀ σ' H',N σ' H'->∃ m',m' < m/\W (i + 1) m' σ' H')/\∀ x H',J.yld i H x H'->g x σ H' fun σ2 H2=>tb { D with nx:=N,ct:=N,bk:=D.nx } σ2 H2)
def dB (fp:List Addr) (h:Heap):List (Addr × Obj):=fp.filterMap fun b=>(h.get? b).map fun o=>(b,o)
theorem e9 {fp:List Addr} {h:Heap} {b:Addr} {o:Obj} (hb:b ∈ fp) (e:h.get? b=some o):(b,o) ∈ dB fp h:=List.mem_filterMap.mpr ⟨b,hb,by rw [e];rfl⟩
theorem jz {fp:List Addr} {h:Heap} {p:Addr × Obj} (hp:p ∈ dB fp h):p.1 ∈ fp/\h.get? p.1=some p.2:=by
 obtain ⟨b,hb,e⟩:=List.mem_filterMap.mp hp
 cases q:h.get? b with
 | none=>rw [q] at e;cases e
 | some o =>
  rw [q] at e
  have e':(b,o)=p:=Option.some.inj e
  subst e'
  exact ⟨hb,q⟩
theorem Inv.pinned {pins:List (Addr × Obj)} {σ:St} {H:Hp} {s:Shared} {fp:List Addr} (I:Inv X pins σ H s) (hf:∀ b ∈ fp,oJ X pins H b) (ho:∀ b ∈ fp,∃ o,s.heap.get? b=some o/\∀ v,o.data ≠ .cell v):Inv X (pins ++ dB fp s.heap) σ H s :=
 I.pins_of fun p hp=>(List.mem_append.mp hp).elim (fun z=>I.pin p (List.mem_append_right _ z)) fun z=>by
  obtain ⟨hb,e⟩:=jz z
  obtain ⟨f0,f1,f2,_⟩:=hf p.1 hb
  obtain ⟨o,e',d⟩:=ho p.1 hb
  rw [e] at e';cases e'
  exact ⟨e,f0,f1,f2,d⟩
theorem Inv.unpinned {pins pl:List (Addr × Obj)} {σ:St} {H:Hp} {s:Shared} (I:Inv X (pins ++ pl) σ H s):Inv X pins σ H s:=I.pins_of fun p hp=>I.pin p (List.mem_append_right _ (List.mem_append_left _ hp))
theorem xq {iter:Expr} {body:List Stmt} {wi:TI} {g:TG} {tb:TS} {pos:Pos} (hp:PassesOwn (model X.prog X.w) X.A X.env X.xe) (hc:X.calm=true) (hi:PI X tg iter wi) (hg:PG X tg g) (hb:PSs X body tb)
  (hs:∀ x,foldedSetIterable iter X.env x=pure x:=by intro _;rfl):PS X (.For tg iter body [] pos) (Bq wi g tb):=by
 intro pins s σ H D I h
 refine wpAny_For (thn (hi pins s σ H _ I h) fun v s1 h1=>thn h1 fun itv s2 h2=>?_) hs
 obtain ⟨it,fp,tn,J,H2,e,I2,T,st2,f2,W,⟨m0,w0⟩,jQ⟩:=h2
 subst e
 have stat:∀ {H':Hp},(∀ b ∈ fp,H' b=none)->∀ b ∈ fp,oJ X pins H' b:=fun hn b hb=>⟨hn b hb,(f2 b hb).2⟩
 refine codeAny_forLoop_any (fun n s'=>∃ i σ' H',Inv X pins σ' H' s'/\tn i s'.heap/\(∀ b ∈ fp,H' b=none)/\W i n σ' H') ?_ m0 ⟨0,σ,H2,I2,st2,fun b hb=>(f2 b hb).1,w0⟩
 rintro n s3 ⟨i,σ3,H3,I3,st3,fr3,w3⟩
 rcases jQ i n σ3 H3 w3 with ⟨stop,qn⟩ | ⟨go,N,hN,step⟩
 ·refine wpAny_passesOwn hp (thn (T.done X rfl rfl rfl hc i pins s3 σ3 H3 X.xe I3 (stat fr3) st3 stop) fun r s4 ⟨hr,I4⟩=>?_)
  subst hr
  exact wpAny_execs_nil ⟨σ3,H3,I4,qn⟩
 ·refine wpAny_passesOwn hp (thn (T.item X rfl rfl rfl hc i pins s3 σ3 H3 X.xe I3 (stat fr3) st3 go) fun r s4 ⟨u,hr,h4⟩=>?_)
  subst hr
  refine wpAny_passesOwn hp (thn h4 fun _ s5 ⟨x,H5,I5,r5,y5,st5,fr5⟩=>?_)
  have I5':=I5.pinned (stat fr5) (T.obj _ _ st5)
  refine wpAny_passesOwn hp (thn (hg _ s5 σ3 H5 x u _ I5' r5 (step x H5 y5)) fun _ s6 ⟨σ6,H6,I6,q6⟩=>?_)
  refine wpAny_passesOwn hp (thn (hb _ s6 σ6 H6 _ I6 q6) fun f s7 q7=>?_)
  have again:∀ {σ7:St} {H7:Hp},Inv X (pins ++ dB fp s5.heap) σ7 H7 s7->N σ7 H7->∃ m,m < n/\∃ i σ' H',Inv X pins σ' H' s7/\tn i s7.heap/\(∀ b ∈ fp,H' b=none)/\W i m σ' H':=fun {σ7 H7} I7 n7=>by
   obtain ⟨m',hm,w7⟩:=hN σ7 H7 n7
   refine ⟨m',hm,i + 1,σ7,H7,I7.unpinned,T.keep _ _ _ st5 fun b hb o e=>(I7.pin (b,o) (List.mem_append_right _ (List.mem_append_right _ (e9 hb e)))).1,fun b hb=>?_,w7⟩
   obtain ⟨o,e,d⟩:=T.obj _ _ st5 b hb
   exact (I7.pin (b,o) (List.mem_append_right _ (List.mem_append_right _ (e9 hb e)))).2.1
  cases f with
  | next=>obtain ⟨σ7,H7,I7,n7⟩:=q7;exact again I7 n7
  | cont=>obtain ⟨σ7,H7,I7,n7⟩:=q7;exact again I7 n7
  | brk=>obtain ⟨σ7,H7,I7,q7⟩:=q7;exact ⟨σ7,H7,I7.unpinned,q7⟩
  | ret v=>obtain ⟨x7,σ7,H7,I7,r7,q7⟩:=q7;exact ⟨x7,σ7,H7,I7.unpinned,r7,q7⟩
end
theorem yi {K:Frag} {a:Addr} {xs:List V} {g:TG} {tb:TS} {D:kg} {σ:St} {H:Hp} (Pv:Nat->St->Hp->Prop) (h0:Pv 0 σ H) (hl:∀ i σ H,i<=xs.length->Pv i σ H->SqL K H a xs)
  (hs:∀ i x σ H,xs[i]?=some x->Pv i σ H->g x σ H fun σ2 H2=>tb { D with nx:=Pv (i + 1),ct:=Pv (i + 1),bk:=D.nx } σ2 H2) (hd:∀ σ H,Pv xs.length σ H->D.nx σ H) :
  ∃ W:Nat->Nat->St->Hp->Prop,(∃ m,W 0 m σ H)/\∀ i m σ H,W i m σ H ->
   ((Itl K a).stop i H/\D.nx σ H)\/((Itl K a).go i H/\∃ N:St->Hp->Prop,(∀ σ' H',N σ' H'->∃ m',m' < m/\W (i + 1) m' σ' H')/\∀ x H',(Itl K a).yld i H x H'->g x σ H' fun σ2 H2=>tb { D with nx:=N,ct:=N,bk:=D.nx } σ2 H2):=by
 refine ⟨fun i m σ H=>m=xs.length - i/\i<=xs.length/\Pv i σ H,⟨xs.length,by simp,Nat.zero_le _,h0⟩,?_⟩
 rintro i m σ H ⟨rfl,hi,p⟩
 have q:=hl i σ H hi p
 by_cases hlt:i < xs.length
 ·refine .inr ⟨⟨xs,xs[i],q,by simp [hlt]⟩,Pv (i + 1),fun σ' H' p'=>⟨xs.length - (i + 1),by omega,rfl,hlt,p'⟩,fun x H' y=>?_⟩
  obtain ⟨e,y⟩:=y
  subst e
  exact hs i x σ _ (y xs q) p
 ·have e:i=xs.length:=by omega
  subst e
  exact .inl ⟨⟨xs,q,Nat.le_refl _⟩,hd σ H p⟩
end L2
namespace L2
open PySem PySem.Spec PyProof.Rows
abbrev R2:=V->V->Hp->VK->Prop
def OpR (X:Cx) (f:Value->Value->Sem Value) (r:R2):Prop :=
 ∀ (pins:List (Addr × Obj)) (s:Shared) (σ:St) (H:Hp) (x y:V) (v u:Value) (Q:VK),Inv X pins σ H s->RelV x v->RelV y u->r x y H Q ->
  wpAny (model X.prog X.w) X.A (f v u) (EP X pins σ Q) X.xe s
def UnR (X:Cx) (f:Value->Sem Value) (r:V->Hp->VK->Prop):Prop :=
 ∀ (pins:List (Addr × Obj)) (s:Shared) (σ:St) (H:Hp) (x:V) (v:Value) (Q:VK),Inv X pins σ H s->RelV x v->r x H Q ->
  wpAny (model X.prog X.w) X.A (f v) (EP X pins σ Q) X.xe s
def jO (X:Cx) (f:Value) (r:List V->Hp->VK->Prop):Prop :=
 ∀ (pins:List (Addr × Obj)) (s:Shared) (σ:St) (H:Hp) (xs:List V) (us:List Value) (Q:VK),Inv X pins σ H s->Vals xs us->r xs H Q ->
  wpAny (model X.prog X.w) X.A (call f us) (EP X pins σ Q) X.xe s
def tOp (r:R2) (ta tb:TE):TE:=fun σ H Q=>ta σ H fun x H1=>tb σ H1 fun y H2=>r x y H2 Q
def tUn (r:V->Hp->VK->Prop) (ta:TE):TE:=fun σ H Q=>ta σ H fun x H1=>r x H1 Q
def rI (C:Int->Int->Prop) (g:Int->Int->V):R2:=fun x y H Q=>∃ i j,x=.int i/\y=.int j/\C i j/\Q (g i j) H
def rI0 (g:Int->Int->V):R2:=fun x y H Q=>∃ i j,x=.int i/\y=.int j/\Q (g i j) H
def rU (g:Int->V):V->Hp->VK->Prop:=fun x H Q=>∃ i,x=.int i/\Q (g i) H
section
variable {X:Cx} {a b c:Expr} {ta tb tc:TE} {pos:Pos}
theorem Db (ha:PE X a ta) (hb:PE X b tb) {pins:List (Addr × Obj)} {s:Shared} {σ:St} {H:Hp} {R:V->V->Hp->Prop} (I:Inv X pins σ H s)
  (h:ta σ H fun x H1=>tb σ H1 fun y H2=>R x y H2) {Q:Value->Shared->Prop} {f:Value->Value->Sem Value}
  (hf:∀ v u s2 x y H2,Inv X pins σ H2 s2->RelV x v->RelV y u->R x y H2->wpAny (model X.prog X.w) X.A (f v u) Q X.xe s2) :
  wpAny (model X.prog X.w) X.A (eval a X.env) (fun v s₁=>wpAny (model X.prog X.w) X.A (eval b X.env) (fun u s₂=>wpAny (model X.prog X.w) X.A (f v u) Q X.xe s₂) X.xe s₁) X.xe s:=by
 refine thn (ha pins s σ H _ I h) fun v s1 ⟨x,H1,I1,r1,q1⟩=>?_
 refine thn (hb pins s1 σ H1 _ I1 q1) fun u s2 ⟨y,H2,I2,r2,q2⟩=>?_
 exact hf v u s2 x y H2 I2 r1 r2 q2
theorem DK {op:Operator} {r:R2} (ho:OpR X (binaryOp op) r) (ha:PE X a ta) (hb:PE X b tb):PE X (.BinOp a op b pos) (tOp r ta tb):=by
 intro pins s σ H Q I h
 exact wpAny_BinOp (Db ha hb I h fun v u s2 x y H2 I2 rx ry q=>ho pins s2 σ H2 x y v u Q I2 rx ry q)
theorem DJ {op:UnaryOp} {r:V->Hp->VK->Prop} (ho:UnR X (unaryOp op) r) (ha:PE X a ta):PE X (.UnaryOp op a pos) (tUn r ta):=by
 intro pins s σ H Q I h
 exact UnaryOp_ (thn (ha pins s σ H _ I h) fun v s1 ⟨x,H1,I1,r1,q1⟩=>ho pins s1 σ H1 x v Q I1 r1 q1)
theorem opI {f:Value->Value->Sem Value} {C:Int->Int->Prop} {g:Int->Int->Int}
  (rule:∀ (i j:Int) (t u:Tok) (s:Shared) (Q:Value->Shared->Prop) (E:Value->Shared->Prop),C i j->Q (.int (g i j) s.toks) { s with toks:=s.toks + 1 }->wpAny (model X.prog X.w) X.A (f (.int i t) (.int j u)) Q E s) :
  OpR X f (rI C fun i j=>.int (g i j)):=by
 intro pins s σ H x y v u Q I rx ry h
 obtain ⟨i,j,rfl,rfl,hc,q⟩:=h
 obtain ⟨t,rfl⟩:=rx
 obtain ⟨t',rfl⟩:=ry
 exact rule i j t t' s _ _ hc ⟨.int (g i j),H,I.tok _,⟨_,rfl⟩,q⟩
theorem DN {f:Value->Value->Sem Value} {g:Int->Int->Int}
  (rule:∀ (i j:Int) (t u:Tok) (s:Shared) (Q:Value->Shared->Prop) (E:Value->Shared->Prop),Q (.int (g i j) s.toks) { s with toks:=s.toks + 1 }->wpAny (model X.prog X.w) X.A (f (.int i t) (.int j u)) Q E s) :
  OpR X f (rI0 fun i j=>.int (g i j)):=by
 intro pins s σ H x y v u Q I rx ry h
 obtain ⟨i,j,rfl,rfl,q⟩:=h
 obtain ⟨t,rfl⟩:=rx
 obtain ⟨t',rfl⟩:=ry
 exact rule i j t t' s _ _ ⟨.int (g i j),H,I.tok _,⟨_,rfl⟩,q⟩
theorem Cg {f:Value->Value->Sem Value} {g:Int->Int->Bool}
  (rule:∀ (i j:Int) (t u:Tok) (s:Shared) (Q:Value->Shared->Prop) (E:Value->Shared->Prop),Q (.bool (g i j)) s->wpAny (model X.prog X.w) X.A (f (.int i t) (.int j u)) Q E s) :
  OpR X f (rI0 fun i j=>.bl (g i j)):=by
 intro pins s σ H x y v u Q I rx ry h
 obtain ⟨i,j,rfl,rfl,q⟩:=h
 obtain ⟨t,rfl⟩:=rx
 obtain ⟨t',rfl⟩:=ry
 exact rule i j t t' s _ _ ⟨.bl (g i j),H,I,rfl,q⟩
def Ec (i j:Int):Prop:=0 < j/\j < 1073741824
def Eb (i j:Int):Prop:=0<=j/\j<=1000000/\i.natAbs < 2 ^ 64
def CMul (i j:Int):Prop:=(-(2 ^ 64) < i/\i < 2 ^ 64)\/(-(2 ^ 64) < j/\j < 2 ^ 64)
theorem CMul.ok {i j:Int} (h:CMul i j):IntMulOk i j:=by
 rcases h with ⟨h1,h2⟩ | ⟨h1,h2⟩
 ·exact .of_left (intBits_le_64 h1 h2)
 ·exact .of_right (intBits_le_64 h1 h2)
theorem op_add:OpR X (binaryOp .Add) (rI0 fun i j=>.int (i + j)):=DN fun _ _ _ _ _ _ _ q=>add_int q
theorem B_:OpR X (binaryOp .Sub) (rI0 fun i j=>.int (i - j)):=DN fun _ _ _ _ _ _ _ q=>sub_int q
theorem Cd:OpR X (binaryOp .Mult) (rI CMul fun i j=>.int (i * j)):=opI fun _ _ _ _ _ _ _ hc q=>mul_int q hc.ok
theorem zT:OpR X (binaryOp .FloorDiv) (rI Ec fun i j=>.int (i / j)):=opI fun i j _ _ _ _ _ hc q=>by
 have h1:(0:Int) < j:=hc.1
 have h2:j < 1073741824:=hc.2
 exact floordiv_int (by omega) (by rw [Int.fdiv_eq_ediv_of_nonneg i (by omega)];exact q) (.inl (PyProof.noPylong_small (by omega)))
theorem Ce:OpR X (binaryOp .Mod) (rI (fun _ j=>0 < j) fun i j=>.int (i % j)):=opI fun i j _ _ _ _ _ hc q=>by
 have h1:(0:Int) < j:=hc
 exact mod_int' (by omega) (by rw [Int.fmod_eq_emod_of_nonneg i (by omega)];exact q)
theorem Ca:OpR X (binaryOp .Pow) (rI Eb fun i j=>.int (i ^ j.toNat)):=opI fun _ _ _ _ _ _ _ hc q=>pow_int_small hc.1 hc.2.1 hc.2.2 q
theorem unI {f:Value->Sem Value} {g:Int->Int}
  (rule:∀ (i:Int) (t:Tok) (s:Shared) (Q:Value->Shared->Prop) (E:Value->Shared->Prop),Q (.int (g i) s.toks) { s with toks:=s.toks + 1 }->wpAny (model X.prog X.w) X.A (f (.int i t)) Q E s) :
  UnR X f (rU fun i=>.int (g i)):=by
 intro pins s σ H x v Q I rx h
 obtain ⟨i,rfl,q⟩:=h
 obtain ⟨t,rfl⟩:=rx
 exact rule i t s _ _ ⟨.int (g i),H,I.tok _,⟨_,rfl⟩,q⟩
theorem Bj:UnR X (unaryOp .USub) (rU fun i=>.int (-i)):=unI fun _ _ _ _ _ q=>neg_int q
end
section
variable {X:Cx} {a b c:Expr} {ta tb tc:TE} {pos:Pos}
theorem A5:OpR X (compareOp .Lt) (rI0 fun i j=>.bl (decide (i < j))):=Cg fun _ _ _ _ _ _ _ q=>lt_int q
theorem rQ:OpR X (compareOp .LtE) (rI0 fun i j=>.bl (decide (i<=j))):=Cg fun _ _ _ _ _ _ _ q=>le_int q
theorem DM:OpR X (compareOp .Gt) (rI0 fun i j=>.bl (decide (j < i))):=Cg fun _ _ _ _ _ _ _ q=>gt_int q
theorem OpR.or {f:Value->Value->Sem Value} {r r':R2} (h:OpR X f r) (h':OpR X f r'):OpR X f (fun x y H Q=>r x y H Q\/r' x y H Q):=by
 intro pins s σ H x y v u Q I rx ry q
 rcases q with q | q
 ·exact h pins s σ H x y v u Q I rx ry q
 ·exact h' pins s σ H x y v u Q I rx ry q
theorem nl (b:Expr) {op:CmpOp} (h:op ≠ .In:=by decide) (h2:op ≠ .NotIn:=by decide):behindInMarks op b=false:=by
 have e1:(op == CmpOp.In)=false:=by cases op <;> first | rfl | exact absurd rfl h
 have e2:(op == CmpOp.NotIn)=false:=by cases op <;> first | rfl | exact absurd rfl h2
 cases b <;> simp [behindInMarks,e1,e2]
theorem zI {op:CmpOp} {r:R2} (ho:OpR X (compareOp op) r) (ha:PE X a ta) (hb:PE X b tb) (hm:behindInMarks op b=false):PE X (.Compare a [op] [b] pos) (tOp r ta tb):=by
 intro pins s σ H Q I h
 exact wpAny_Compare1 (Db ha hb I h fun v u s2 x y H2 I2 rx ry q=>ho pins s2 σ H2 x y v u Q I2 rx ry q) hm
def AY (t:TE):TT:=fun σ H Q=>t σ H fun x H'=>∃ k,x=.bl k/\Q k H'
theorem uS {op:CmpOp} {r:R2} (ho:OpR X (compareOp op) r) (ha:PE X a ta) (hb:PE X b tb) (hm:behindInMarks op b=false):PT X (.Compare a [op] [b] pos) (AY (tOp r ta tb)):=by
 intro pins s σ H Q I h
 refine wpAny_isTrue_Compare1 (thn (ha pins s σ H _ I h) fun v s1 ⟨x,H1,I1,r1,q1⟩=>thn (hb pins s1 σ H1 _ I1 q1) fun u s2 ⟨y,H2,I2,r2,q2⟩ =>
  thn (ho pins s2 σ H2 x y v u _ I2 r1 r2 q2) fun c s3 ⟨z,H3,I3,r3,k,e,q3⟩=>?_) hm
 subst e
 cases r3
 exact wpAny_truthy_bool ⟨H3,I3,q3⟩
def tu (r r':R2) (ta tb tc:TE):TE:=fun σ H Q=>ta σ H fun x H1=>tb σ H1 fun y H2=>r x y H2 fun z H3=>∃ k,z=.bl k /\
 (if k=true then tc σ H3 fun w' H4=>r' y w' H4 Q else Q (.bl false) H3)
theorem xC {op op':CmpOp} {r r':R2} (ho:OpR X (compareOp op) r) (ho':OpR X (compareOp op') r') (ha:PE X a ta) (hb:PE X b tb) (hc:PE X c tc)
  (hm:lastMarks [op,op'] [b,c]=false:=by with_unfolding_all rfl):PE X (.Compare a [op,op'] [b,c] pos) (tu r r' ta tb tc):=by
 intro pins s σ H Q I h
 refine Compare_chain (thn (ha pins s σ H _ I h) fun v s1 ⟨x,H1,I1,r1,q1⟩=>chain_link (thn (hb pins s1 σ H1 _ I1 q1) fun u s2 ⟨y,H2,I2,r2,q2⟩ =>
  thn (ho pins s2 σ H2 x y v u _ I2 r1 r2 q2) fun d s3 ⟨z,H3,I3,r3,k,e,q3⟩=>?_)) hm
 subst e
 cases r3
 refine wpAny_truthy_bool ?_
 cases k with
 | false=>exact ite_ff ⟨.bl false,H3,I3,rfl,q3⟩
 | true=>exact ite_tt (chain_last (thn (hc pins s3 σ H3 _ I3 q3) fun w' s4 ⟨z',H4,I4,r4,q4⟩=>ho' pins s4 σ H4 y z' u w' Q I4 r2 r4 q4))
theorem xl {op op':CmpOp} {r r':R2} (ho:OpR X (compareOp op) r) (ho':OpR X (compareOp op') r') (ha:PE X a ta) (hb:PE X b tb) (hc:PE X c tc)
  (hm:lastMarks [op,op'] [b,c]=false:=by with_unfolding_all rfl):PT X (.Compare a [op,op'] [b,c] pos) (AY (tu r r' ta tb tc)):=by
 intro pins s σ H Q I h
 refine isTrue_chain (thn (ha pins s σ H _ I h) fun v s1 ⟨x,H1,I1,r1,q1⟩=>test_link (thn (hb pins s1 σ H1 _ I1 q1) fun u s2 ⟨y,H2,I2,r2,q2⟩ =>
  thn (ho pins s2 σ H2 x y v u _ I2 r1 r2 q2) fun d s3 ⟨z,H3,I3,r3,k,e,q3⟩=>?_)) hm
 subst e
 cases r3
 refine wpAny_truthy_bool ?_
 cases k with
 | false =>
  obtain ⟨k',e',q'⟩:=q3
  cases e'
  exact ite_ff ⟨H3,I3,q'⟩
 | true =>
  refine ite_tt (test_last (thn (hc pins s3 σ H3 _ I3 q3) fun w' s4 ⟨z',H4,I4,r4,q4⟩=>thn (ho' pins s4 σ H4 y z' u w' _ I4 r2 r4 q4) fun d' s5 ⟨z2,H5,I5,r5,k2,e2,q5⟩=>?_))
  subst e2
  cases r5
  exact wpAny_truthy_bool ⟨H5,I5,q5⟩
theorem qu:(sizeLine:Nat) < 2 ^ 63:=by rw [sizeLine_eq];decide
theorem o_ {x:V} {us:List Value} (r:Vals [x] us):∃ u,us=[u]/\RelV x u:=by
 cases r with
 | cons r1 r2=>cases r2;exact ⟨_,rfl,r1⟩
theorem Dh {x y:V} {us:List Value} (r:Vals [x,y] us):∃ u w',us=[u,w']/\RelV x u/\RelV y w':=by
 cases r with
 | cons r1 r2 =>
  cases r2 with
  | cons r3 r4=>cases r4;exact ⟨_,_,rfl,r1,r3⟩
theorem lw (hc:X.calm=true):jO X (.builtin "max") (fun xs H Q=>∃ i j,xs=[.int i,.int j]/\Q (.int (if j > i then j else i)) H):=by
 intro pins s σ H xs us Q I r h
 obtain ⟨i,j,rfl,q⟩:=h
 obtain ⟨u,w',rfl,⟨t,rfl⟩,⟨t',rfl⟩⟩:=Dh r
 refine max_two_ints (I.ok.hd hc) fun h' tk k=>⟨_,H,I.kept k,?_,q⟩
 by_cases hj:j > i
 ·rw [if_pos hj,if_pos hj];exact ⟨_,rfl⟩
 ·rw [if_neg hj,if_neg hj];exact ⟨_,rfl⟩
end
end L2
namespace L2
open PySem PySem.Spec PyProof.Rows
structure ObjM (h:Heap) (x dx C:Addr) (mA:Str->Option Value):Prop where
 obj:h.get? x=some (instObj C dx)
 ns:h.Ns1 dx mA
 ne:dx ≠ x
theorem wl {h:Heap} {dx:Addr} {mA:Str->Option Value} (n:h.Ns1 dx mA):∃ od,h.get? dx=some od/\∀ name,PySem.W.lookIn name od=some (mA name):=by
 obtain ⟨o,es,ep,ho,hd,hk,_,hm⟩:=n
 refine ⟨o,ho,fun name=>?_⟩
 have e:=hm name
 unfold nsFind findBy at e
 rw [<- Array.find?_toList] at e
 unfold PySem.W.lookIn
 rw [hd]
 dsimp only
 split
 ·rename_i y q
  rw [q] at e
  exact congrArg some e
 ·rename_i q
  rw [q] at e
  have a:es.toList.any (·.refKey)=false:=by
   rw [List.any_eq_false]
   intro y hy
   obtain ⟨z,t,hkey⟩:=hk y (Array.mem_toList_iff.mp hy)
   simp [DictEntry.refKey,hkey]
  have a':¬ es.toList.any (·.refKey)=true:=by rw [a];exact Bool.false_ne_true
  rw [if_neg a']
  exact congrArg some e
theorem ObjM.look {h:Heap} {x dx C:Addr} {mA:Str->Option Value} (I:ObjM h x dx C mA):∃ od,InstAt h x (instObj C dx) C (some od)/\∀ name,PySem.W.lookIn name od=some (mA name) :=
 let ⟨od,ho,hl⟩:=wl I.ns
 ⟨od,⟨I.obj,rfl,rfl,ho⟩,hl⟩
section
variable {prog:Program} {w:World} {A:Around} {E:Value->Shared->Prop} {s:Shared} {K:Frag} {x dx C f:Addr} {mA:Str->Option Value} {name:Str} {v:Value}
theorem Ai {expr:Bool} {Q:Value->Shared->Prop} (X:K.In s.heap) (I:ObjM s.heap x dx C mA) (hg:plainGet K C name=true) (hh:hasDictIn K C=true)
  (ha:findIn K (.ref C) name=some none) (hv:mA name=some v) (hv':PySem.W.handedIn v=true) (h:Q v { s with toks:=s.toks + 1 }) :
  wpAny (model prog w) A (getAttr (.ref x) name expr) Q E s:=by
 obtain ⟨od,J,hl⟩:=I.look
 exact PySem.W.get_value X J (PySem.W.plainGet_of hg).1 (PySem.W.findObj_own hh ha rfl (by rw [hl,hv])) hv' h
theorem zi {ns:List Str} {Q:Unit->Shared->Prop} (X:K.In s.heap) (I:ObjM s.heap x dx C mA)
  (hs:findIn K (.ref C) "__setattr__"=some (some (.builtin "object.__setattr__"))) (hp:PySem.W.plainOver K C=true) (ht:PySem.W.takerIn K C name=some none) (hh:hasDictIn K C=true)
  (hw:PySem.Within mA ns) (hsz:ns.length<=sizeLine)
  (h:∀ h',ObjM h' x dx C (fun y=>if y=name then some v else mA y)->Heap.SameBut dx s.heap h'->Q () { s with heap:=h',toks:=s.toks + 2 }) :
  wpAny (model prog w) A (setAttr (.ref x) name v) Q E s:=by
 obtain ⟨od,J,hl⟩:=I.look
 refine PySem.W.set_plain X J hs (PySem.W.osa_open (s:={ s with toks:=s.toks + 1 }) (r:=none) X J hp ht fun b=>?_)
 obtain ⟨cd,hc,hd'⟩:=PySem.W.any_some hh
 have hx:s.heap.get? x=some ⟨.ref C,some dx,.plain,#[]⟩:=I.obj
 refine wpAny_bind (wpAny_pure (wpAny_bind (wpAny_bind (wpAny_loadPart hx (wpAny_bind (PySem.W.Looks.here (s:={ s with toks:=s.toks + 1 }) (PySem.W.looks_clsIn X hc) ?_))))))
 rw [hd']
 refine wpAny_pure (a:=some dx) (wpAny_bind (wpAny_pure (wpAny_bind ?_)))
 refine wpAny_nsSet1 (s:={ s with toks:=s.toks + 1 }) I.ns fun h' hn2 hs2=>?_
 obtain ⟨oD,esD,epD,hoD,hdD,hcD⟩:=hn2.count (PySem.Within.cons name v hw)
 refine wpAny_bind (wpAny_lookBehind hoD (by rw [hdD];exact pastItsLine_dict (Nat.le_trans hcD (by rw [List.length_cons];omega))) ?_)
 exact wpAny_pure (h _ ⟨(hs2.2 _ (Ne.symm I.ne)).trans I.obj,hn2,I.ne⟩ hs2)
theorem xR {R:Result->Shared->Prop} {vs:List Value} {kw:List (Str × Value)} (X:K.In s.heap) (hm:PySem.W.makesIn K C=true)
  (hi:findIn K (.ref C) "__init__"=some (some (.ref f))) (hf:PySem.W.typeIn K (.ref f)=some (.type "function"))
  (h:codeAny (model prog w) (A.under (.builtin "type.__call__" ⟨.ref C :: vs,kw⟩)) (.call (.ref f) ⟨.ref (s.heap.objs.size + 1) :: vs,kw⟩) (PySem.W.InitBack (s.heap.objs.size + 1) R)
   {s with heap:=(s.heap.push emptyDict).push (instObj C s.heap.objs.size) }) :
  codeAny (model prog w) A (.call (.ref C) ⟨vs,kw⟩) R s:=by
 obtain ⟨hh,g,d,t,os⟩:=s
 exact PySem.W.make_core (PySem.W.makes_of X hm) (PySem.W.looks_findIn X hi) (fun self=>PySem.W.bind_fn X self hf) (.inl rfl) h
end
def im (f:Str) (v:V):List (Str × V)->List (Str × V)
 | []=>[(f,v)]
 | (g,x) :: r=>if g=f then (g,v) :: r else (g,x) :: im f v r
theorem lS (f g:Str) (v:V):∀ fs:List (Str × V),(im f v fs).lookup g=if g=f then some v else fs.lookup g
 | []=>by
  show List.lookup g [(f,v)]=_
  by_cases h:g=f
  ·have hb:(g == f)=true:=beq_iff_eq.mpr h
   simp only [List.lookup,hb,if_pos h]
  ·have hb:(g == f)=false:=beq_eq_false_iff_ne.mpr h
   simp only [List.lookup,hb,if_neg h]
 | (k,x) :: r=>by
  have ih:=lS f g v r
  rw [show im f v ((k,x) :: r)=(if k=f then (k,v) :: r else (k,x) :: im f v r) from rfl]
  by_cases hk:k=f
  ·rw [if_pos hk]
   by_cases h:g=k
   ·have hb:(g == k)=true:=beq_iff_eq.mpr h
    simp only [List.lookup,hb,if_pos (h.trans hk)]
   ·have hb:(g == k)=false:=beq_eq_false_iff_ne.mpr h
    simp only [List.lookup,hb,if_neg (fun e:g=f=>h (e.trans hk.symm))]
  ·rw [if_neg hk]
   by_cases h:g=k
   ·have hb:(g == k)=true:=beq_iff_eq.mpr h
    simp only [List.lookup,hb,if_neg (fun e:g=f=>hk (h.symm.trans e))]
   ·have hb:(g == k)=false:=beq_eq_false_iff_ne.mpr h
    simp only [List.lookup,hb]
    exact ih
theorem li (f:Str) (v:V):∀ fs:List (Str × V),f ∈ (im f v fs).map (·.1)/\∀ g,g ∈ fs.map (·.1)->g ∈ (im f v fs).map (·.1)
 | []=>⟨by simp [im],fun g h=>by simp at h⟩
 | (k,x) :: r=>by
  obtain ⟨i1,i2⟩:=li f v r
  rw [show im f v ((k,x) :: r)=(if k=f then (k,v) :: r else (k,x) :: im f v r) from rfl]
  by_cases hk:k=f
  ·rw [if_pos hk]
   subst hk
   exact ⟨by simp,fun g h=>by simpa using h⟩
  ·rw [if_neg hk]
   refine ⟨?_,fun g h=>?_⟩
   ·rw [List.map_cons]
    exact List.mem_cons_of_mem _ i1
   ·rw [List.map_cons] at h ⊢
    rcases List.mem_cons.mp h with e | e
    ·exact List.mem_cons.mpr (.inl e)
    ·exact List.mem_cons_of_mem _ (i2 g e)
theorem lT (f:Str) (v:V):∀ fs:List (Str × V),(im f v fs).length<=fs.length + 1
 | []=>by simp [im]
 | (k,x) :: r=>by
  have ih:=lT f v r
  rw [show im f v ((k,x) :: r)=(if k=f then (k,v) :: r else (k,x) :: im f v r) from rfl]
  by_cases hk:k=f
  ·rw [if_pos hk,List.length_cons,List.length_cons];omega
  ·rw [if_neg hk,List.length_cons,List.length_cons];omega
theorem RelO.some_of {v:V} {o:Option Value} (r:RelO (some v) o):∃ u,o=some u/\RelV v u:=by
 cases o with
 | none=>exact (show False from r).elim
 | some u=>exact ⟨u,rfl,r⟩
theorem wt {v:V} {u:Value} (r:RelV v u):PySem.W.handedIn u=true:=by
 cases v with
 | non=>cases (show u=Value.none from r);rfl
 | bl b=>cases (show u=Value.bool b from r);rfl
 | int i=>obtain ⟨t,e⟩:=(show ∃ t,u=Value.int i t from r);cases e;rfl
 | str x=>obtain ⟨t,e⟩:=(show ∃ t,u=Value.str x t from r);cases e;rfl
 | byt b=>obtain ⟨t,e⟩:=(show ∃ t,u=Value.bytes b t from r);cases e;rfl
 | flt b=>obtain ⟨t,e⟩:=(show ∃ t,u=Value.float b t from r);cases e;rfl
 | ref a=>cases (show u=Value.ref a from r);rfl
 | ty n=>cases (show u=Value.type n from r);rfl
section
variable {P:Program} {w:World} {H H':Hp} {h h':Heap} {a C dx:Addr} {fs fs':List (Str × V)}
theorem vi (hok:HOk P w H h) (e:H a=some (.ins C dx fs)):∃ mA,ObjM h a dx C mA/\(∀ f,RelO (fs.lookup f) (mA f))/\PySem.Within mA (fs.map (·.1))/\fs.length<=1000/\H dx=some (.own a):=by
 obtain ⟨d,z,ne,ob,mA,n,r,q⟩:=(show ObjOk P w H h a (.ins C dx fs) from hok a _ e)
 exact ⟨mA,⟨ob,n,ne⟩,r,q,z,d⟩
end
structure Cls (K:Frag) (C:Addr):Prop where
 pg:plainGet K C Str.empty=true
 hd:hasDictIn K C=true
 po:PySem.W.plainOver K C=true
 sa:findIn K (.ref C) "__setattr__"=some (some (.builtin "object.__setattr__"))
theorem Cls.get {K:Frag} {C:Addr} (c:Cls K C) (f:Str):plainGet K C f=true:=c.pg
def NoAttr (K:Frag) (C:Addr) (f:Str):Prop:=findIn K (.ref C) f=some none
theorem NoAttr.taker {K:Frag} {C:Addr} {f:Str} (n:NoAttr K C f):PySem.W.takerIn K C f=some none:=by
 unfold PySem.W.takerIn
 rw [show findIn K (.ref C) f=some none from n]
 rfl
section
variable {X:Cx} {pins:List (Addr × Obj)} {σ:St} {H:Hp} {s:Shared} {a C dx:Addr} {fs:List (Str × V)} {f:Str} {v:V} {A:Around} {E:Value->Shared->Prop}
theorem ua {b:Bool} {Q:Value->Shared->Prop} (I:Inv X pins σ H s) (e:H a=some (.ins C dx fs)) (c:Cls X.K C) (n:NoAttr X.K C f) (l:fs.lookup f=some v)
  (h:∀ u s',Inv X pins σ H s'->RelV v u->Q u s'):wpAny (model X.prog X.w) A (getAttr (.ref a) f b) Q E s:=by
 obtain ⟨mA,O,r,_,_,_⟩:=vi I.hok e
 obtain ⟨u,hu,ru⟩:=RelO.some_of (v:=v) (o:=mA f) (by rw [<- l];exact r f)
 exact Ai I.kIn O (c.get f) c.hd n hu (wt ru) (h u _ (I.tok _) ru)
theorem tD {y:V} {u:Value} {Q:Unit->Shared->Prop} (I:Inv X pins σ H s) (e:H a=some (.ins C dx fs)) (c:Cls X.K C) (n:NoAttr X.K C f) (hl:fs.length < 1000) (ry:RelV y u)
  (h:∀ s',Inv X pins σ (upd H a (.ins C dx (im f y fs))) s'->Q () s'):wpAny (model X.prog X.w) A (setAttr (.ref a) f u) Q E s:=by
 obtain ⟨mA,O,r,wi,_,ho⟩:=vi I.hok e
 have hz:(fs.map (·.1)).length<=sizeLine:=by rw [List.length_map,sizeLine_eq];omega
 refine zi I.kIn O c.sa c.po n.taker c.hd wi hz fun h' O' sb=>h _ ?_
 have hd:∃ o,h'.get? dx=some o:=let ⟨o,_,_,e',_⟩:=O'.ns;⟨o,e'⟩
 refine I.write (x:=a) (e:=dx) (by rw [e];exact True.intro) (.inr ho) (fun b q hb z=>(sb.2 b hb).trans z) hd ?_
 refine ⟨by rw [aO O.ne];exact ho,?_,O.ne,O'.obj,_,O'.ns,fun g=>?_,fun g hg=>?_⟩
 ·have:=lT f y fs;omega
 ·show RelO ((im f y fs).lookup g) (if g=f then some u else mA g)
  rw [lS]
  by_cases q:g=f
  ·rw [if_pos q,if_pos q];exact ry
  ·rw [if_neg q,if_neg q];exact r g
 ·by_cases q:g=f
  ·rw [q];exact (li f y fs).1
  ·refine (li f y fs).2 g (wi g fun z=>hg ?_)
   show (if g=f then some u else mA g)=none
   rw [if_neg q];exact z
theorem Inv.made (I:Inv X pins σ H s):Inv X pins σ (upd (upd H s.heap.objs.size (.own (s.heap.objs.size + 1))) (s.heap.objs.size + 1) (.ins C s.heap.objs.size []))
  {s with heap:=(s.heap.push emptyDict).push (instObj C s.heap.objs.size) }:=by
 have e1:(s.heap.push emptyDict).get? s.heap.objs.size=some emptyDict:=Heap.get?_push_size s.heap rfl
 have e2:((s.heap.push emptyDict).push (instObj C s.heap.objs.size)).get? (s.heap.objs.size + 1)=some (instObj C s.heap.objs.size):=by
  have:=Heap.get?_push_size (s.heap.push emptyDict) (o:=instObj C s.heap.objs.size) rfl
  rwa [Heap.size_push] at this
 have e3:(s.heap.push emptyDict).Ns s.heap.objs.size (fun _=>none):=⟨emptyDict,#[],_,e1,rfl,(fun e he=>absurd he (by simp)),fun _=>rfl⟩
 have I1:=I.laid (a:=s.heap.objs.size) (o:=.own (s.heap.objs.size + 1)) (h':=s.heap.push emptyDict) (t':=s.toks) (fun b u q=>Heap.get?_push_of_some _ q) (Nat.le_refl _) ⟨_,e1⟩
 refine I1.laid (a:=s.heap.objs.size + 1) (o:=.ins C s.heap.objs.size []) (t':=s.toks) (fun b u q=>Heap.get?_push_of_some _ q) (Nat.le_of_eq (Heap.size_push _ _)) ?_
 have ne:s.heap.objs.size ≠ s.heap.objs.size + 1:=Nat.ne_of_lt (Nat.lt_succ_self _)
 refine ⟨by rw [aO ne,bp],Nat.zero_le _,ne,e2,fun _=>none,(Heap.Ns1.of_empty e3).at fun o q=>Heap.get?_push_of_some _ q,fun _=>True.intro,fun y hy=>absurd rfl hy⟩
theorem AO {prog:Program} {w:World} {env:Env} {e:Expr} {f:Str} {pos:Pos} {s:Shared} {Q:Value->Shared->Prop} (hb:attributeBase e f env (eval e env)=eval e env)
  (h:wpAny (model prog w) A (eval e env) (fun o s₁=>wpAny (model prog w) A (getAttr o f true) Q E s₁) E s):wpAny (model prog w) A (eval (.Attribute e f pos) env) Q E s :=
 Attribute_any_ h (by rw [arm_eval_Attribute,hb])
end
def Ep (K:Frag) (ta:TE) (f:Str):TE:=fun σ H Q=>ta σ H fun x H1=>∃ a C dx fs v,x=.ref a/\H1 a=some (.ins C dx fs)/\Cls K C/\NoAttr K C f/\fs.lookup f=some v/\Q v H1
def qb (K:Frag) (ta tv:TE) (f:Str):TS:=fun D σ H=>tv σ H fun y H1=>ta σ H1 fun x H2=>∃ a C dx fs,x=.ref a/\H2 a=some (.ins C dx fs)/\Cls K C/\NoAttr K C f/\fs.length < 1000 /\
 D.nx σ (upd H2 a (.ins C dx (im f y fs)))
section
variable {X:Cx} {o e value:Expr} {f:Str} {pos pos' tpos:Pos} {ta tv:TE}
theorem B0 (he:PE X e ta) (hb:attributeBase e f X.env (eval e X.env)=eval e X.env):PE X (.Attribute e f pos) (Ep X.K ta f):=by
 intro pins s σ H Q I h
 refine AO hb (thn (he pins s σ H _ I h) fun u s1 ⟨x,H1,I1,rx,a,C,dx,fs,v,ex,ea,c,n,l,q⟩=>?_)
 subst ex
 obtain rfl:u=Value.ref a:=rx
 exact ua I1 ea c n l fun u' s2 I2 ru=>⟨v,H1,I2,ru,q⟩
theorem BO (ha:PE X o ta) (hv:PE X value tv) (hs:swapsWith value (some (.Attribute o f pos')) pos.line X.env=pure false):PS X (.Assign [.Attribute o f pos'] value pos) (qb X.K ta tv f):=by
 intro pins s σ H D I h
 refine plainObj_wpAny_Assign_Attribute (thn (hv pins s σ H _ I h) fun u s1 ⟨y,H1,I1,ry,q⟩=>thn (ha pins s1 σ H1 _ I1 q) fun ov s2 ⟨x,H2,I2,rx,a,C,dx,fs,ex,ea,c,n,l,q2⟩=>?_) hs
 subst ex
 obtain rfl:ov=Value.ref a:=rx
 exact tD I2 ea c n l ry fun s3 I3=>⟨σ,_,I3,q2⟩
end
section
variable {X:Cx} {pins:List (Addr × Obj)} {σ:St} {H:Hp} {s:Shared} {A:Around} {E:Value->Shared->Prop} {Q:Value->Shared->Prop} {c:Value} {b:Bool}
end
end L2
namespace L2
open PySem PySem.Spec PyProof.Rows
structure Room (k:Nat) (A:Around):Prop where
 hd:A.handled=none
 dp:A.depth + 3 * k + 5 < recursionLimit
 un:A.units + 16 * k + 200 < cLine
theorem Room.mono {j k:Nat} {A:Around} (r:Room k A) (h:j<=k):Room j A:=⟨r.hd,by have:=r.dp;omega,by have:=r.un;omega⟩
theorem Room.deeper {k:Nat} {A:Around} (r:Room (k + 1) A) (env:Env):Room k (A.deeper env) :=
 ⟨r.hd,by have:=r.dp;show A.depth + 1 + 3 * k + 5 < _;omega,by have:=r.un;show A.units + 3 + 16 * k + 200 < _;omega⟩
theorem tY {A:Around} {C:Addr} {us:List Value} {kw:List (Str × Value)}:(A.under (.builtin "type.__call__" ⟨.ref C :: us,kw⟩)).depth=A.depth + 1:=by
 first | rfl | simp [Around.under,Code.weight,Code.isCreation,Code.isGuard,Code.isCaller,Code.frames,Code.isFrame,guardIds]
theorem tX {A:Around} {C:Addr} {us:List Value} {kw:List (Str × Value)}:(A.under (.builtin "type.__call__" ⟨.ref C :: us,kw⟩)).units=A.units + 1:=by
 first | rfl | simp [Around.under,Code.cUnits,Code.frames,Code.isFrame]
theorem Room.make {k:Nat} {A:Around} (r:Room (k + 1) A) (C:Addr) (us:List Value) (kw:List (Str × Value)):Room k (A.under (.builtin "type.__call__" ⟨.ref C :: us,kw⟩)) :=
 ⟨r.hd,by have:=r.dp;rw [tY];omega,by have:=r.un;rw [tX];omega⟩
theorem Room.depth {k:Nat} {A:Around} (r:Room k A):A.depth < recursionLimit:=by have:=r.dp;omega
def El:TA:=fun _ H Q=>Q [] H
def Do (ta:TE) (tr:TA):TA:=fun σ H Q=>ta σ H fun x H1=>tr σ H1 fun xs H2=>Q (x :: xs) H2
section
variable {X:Cx} {e:Expr} {es:List Expr} {te:TE} {t:TA} {pos:Pos}
theorem er:PA X [] El:=fun _ _ _ _ H Q I h=>Calls.spliced_nil ⟨[],H,I,.nil,h⟩
theorem cS (ha:PE X e te) (hr:PA X es t) (hs:starEach (e :: es) X.env=(false,eval e X.env) :: starEach es X.env:=by rfl):PA X (e :: es) (Do te t):=by
 intro pos pins s σ H Q I h
 rw [hs]
 show wpAny _ _ (spliced ((false,eval e X.env) :: backTo pos (starEach es X.env))) _ _ s
 refine Calls.spliced_cons (thn (ha pins s σ H _ I h) fun u s1 ⟨x,H1,I1,r1,q1⟩=>?_)
 exact thn (hr pos pins s1 σ H1 _ I1 q1) fun us s2 ⟨xs,H2,I2,r2,q2⟩=>⟨x :: xs,H2,I2,.cons r1 r2,q2⟩
def Eh (t:TA):TE:=fun σ H Q=>t σ H fun xs H1=>xs.length<=sizeLine/\∀ p,H1 p=none->Q (.ref p) (upd H1 p (.tup xs))
def Em (t:TA):TE:=fun σ H Q=>t σ H fun xs H1=>xs.length<=sizeLine/\∀ p,H1 p=none->Q (.ref p) (upd H1 p (.lst xs))
theorem BU {x1} (h:PA X es t):PE X (.Tuple es x1 pos) (Eh t):=by
 intro pins s σ H Q I hq
 refine wpAny_Tuple_spliced (thn (h pos pins s σ H _ I hq) fun us s1 ⟨xs,H1,I1,r,z,q⟩=>⟨by rw [<- r.length];exact z,?_⟩)
 have hf:H1 s1.heap.objs.size=none:=I1.hok.fresh (Nat.le_refl _)
 refine ⟨.ref s1.heap.objs.size,upd H1 s1.heap.objs.size (.tup xs),I1.laid (t':=s1.toks) (fun b u e=>Heap.get?_push_of_some _ e) (Nat.le_refl _) ?_,rfl,q _ hf⟩
 exact ⟨z,us,r,⟨_,Heap.get?_push_size _ rfl,rfl,_,rfl⟩⟩
theorem xA (h:PA X es t):PE X (.List es pos) (Em t):=by
 intro pins s σ H Q I hq
 refine wpAny_List_spliced (thn (h pos pins s σ H _ I hq) fun us s1 ⟨xs,H1,I1,r,z,q⟩=>⟨by rw [<- r.length];exact z,?_⟩)
 have hf:H1 s1.heap.objs.size=none:=I1.hok.fresh (Nat.le_refl _)
 refine ⟨.ref s1.heap.objs.size,upd H1 s1.heap.objs.size (.lst xs),I1.laid (t':=s1.toks) (fun b u e=>Heap.get?_push_of_some _ e) (Nat.le_refl _) ?_,rfl,q _ hf⟩
 exact ⟨z,us,0,r,Heap.get?_push_size _ rfl⟩
end
abbrev Sp:=List V->Hp->VK->XK->Prop
abbrev CXT:=List Env->Hp->Shared->XK->Value->Shared->Prop
structure Env0 (P:Program) (w:World) (K:Frag) (mg:Str->Option Value) (base:Heap) (A:Around) (outer:List Env) (s:Shared) (H:Hp):Prop where
 frames:A.frames=some outer
 mod:Mod K mg base
 bs:∀ b o,base.get? b=some o->s.heap.get? b=some o/\H b=none
 bsz:base.objs.size<=s.heap.objs.size
 funs:s.heap.FunFrames base outer
 frf:∀ b ∈ frs outer,H b=none
 hok:HOk P w H s.heap
 bare:AllBare s.gens
def CE (outer:List Env) (P:Program) (w:World) (H:Hp) (s:Shared) (Q:VK) (u:Value) (s':Shared):Prop :=
 ∃ v H',s'.os=s.os/\AllBare s'.gens/\Un (frs outer) [] H H' s.heap s'.heap/\HOk P w H' s'.heap/\RelV v u/\Q v H'
def CR (CX:CXT) (outer:List Env) (P:Program) (w:World) (H:Hp) (s:Shared) (Q:VK) (E:XK) (r:Result) (s':Shared):Prop :=
 match r with
 | .ok (.ret u)=>CE outer P w H s Q u s'
 | .ok _=>False
 | .error e=>CX outer H s E e s'
structure FnOk (P:Program) (w:World) (K:Frag) (mg:Str->Option Value) (base:Heap) (CX:CXT) (k:Nat) (f:Addr) (fd:FuncData) (ps:List Str) (sp:Sp):Prop where
 len:∀ vs H Q E,sp vs H Q E->vs.length=ps.length
 run:∀ (A:Around) (outer:List Env) (s:Shared) (H:Hp) (args:Args) (us:List Value) (vs:List V) (Q:VK) (E:XK),Room k A->Env0 P w K mg base A outer s H->BindsTo s fd args (ps.zip us)->Vals vs us->sp vs H Q E ->
  codeAny (model P w) A (.call (.ref f) args) (CR CX outer P w H s Q E) s
theorem FnOk.imp {P:Program} {w:World} {K:Frag} {mg:Str->Option Value} {base:Heap} {CX:CXT} {k:Nat} {f:Addr} {fd:FuncData} {ps:List Str} {sp sp':Sp} (F:FnOk P w K mg base CX k f fd ps sp)
  (h:∀ vs H Q E,sp' vs H Q E->sp vs H Q E):FnOk P w K mg base CX k f fd ps sp' :=
 ⟨fun vs H Q E q=>F.len vs H Q E (h _ _ _ _ q),fun A outer s H args us vs Q E hr he hb hv hs=>F.run A outer s H args us vs Q E hr he hb hv (h _ _ _ _ hs)⟩
theorem Env0.make {P:Program} {w:World} {K:Frag} {mg:Str->Option Value} {base:Heap} {A:Around} {outer:List Env} {s:Shared} {H:Hp} (e:Env0 P w K mg base A outer s H) (C:Addr) (us:List Value) (kw:List (Str × Value)) :
  Env0 P w K mg base (A.under (.builtin "type.__call__" ⟨.ref C :: us,kw⟩)) outer s H:=⟨by first | exact e.frames | (simpa [Around.under,Code.envs,Code.isFrame,pushEnvs] using e.frames),e.mod,e.bs,e.bsz,e.funs,e.frf,e.hok,e.bare⟩
section
variable {X:Cx} {pins:List (Addr × Obj)} {σ:St} {H:Hp} {s s':Shared}
theorem Inv.env0 (I:Inv X pins σ H s):Env0 X.prog X.w X.K X.mg X.base X.A X.stack s H :=
 ⟨I.ok.frames,I.ok.mod,I.bs,Nat.le_trans I.ok.bsz I.sz,I.stack,I.stkFree,I.hok,I.bare⟩
theorem Inv.after {Q:VK} {u:Value} (I:Inv X pins σ H s) (h:CE X.stack X.prog X.w H s Q u s'):EP X pins σ Q u s':=by
 obtain ⟨v,H',os,bare,un,hok,r,q⟩:=h
 obtain ⟨hh,g,d,t,os'⟩:=s'
 obtain rfl:os'=s.os:=os
 exact ⟨v,H',I.call (h':=hh) (g':=g) (d':=d) (t':=t) (ch:=[]) un hok bare (fun b z=>absurd z (by simp)),r,q⟩
end
def Binds (K:Frag) (fd:FuncData) (ps:List Str) (ds:List Value):Prop :=
 ∀ (s:Shared) (us:List Value),K.In s.heap->(us ++ ds).length=ps.length->BindsTo s fd ⟨us,[]⟩ (ps.zip (us ++ ds))
theorem Binds.all {K:Frag} {fd:FuncData} {ps:List Str} (h:∀ us:List Value,us.length=ps.length->bindArgs fd ⟨us,[]⟩=pure (ps.zip us)):Binds K fd ps []:=fun s us _ hl=>by
 rw [List.append_nil] at hl ⊢
 exact .of_eq (h us hl)
def rd (CX:CXT) (X:Cx) (E:XK):Prop:=∀ (pins:List (Addr × Obj)) (σ:St) (H:Hp) (s:Shared) (e:Value) (s':Shared),Inv X pins σ H s->CX X.stack H s E e s'->X.xe e s'
section
variable {X:Cx} {CX:CXT} {k:Nat} {f C:Addr} {fd:FuncData} {ps:List Str} {sp:Sp} {dvs:List V} {ds:List Value} {E:XK} {x m:Str} {p pos apos:Pos} {e o:Expr} {es:List Expr} {ta:TE} {t:TA}
theorem w5 {pins:List (Addr × Obj)} {σ:St} {H:Hp} {s:Shared} {Q:VK} {us:List Value} {vs:List V} (F:FnOk X.prog X.w X.K X.mg X.base CX k f fd ps sp) (hr:Room k X.A) (hb:Binds X.K fd ps ds) (hd:Vals dvs ds) (hx:rd CX X E)
  (I:Inv X pins σ H s) (r:Vals vs us) (h:sp (vs ++ dvs) H Q E):wpAny (model X.prog X.w) X.A (call (.ref f) us) (EP X pins σ Q) X.xe s:=by
 have r2:Vals (vs ++ dvs) (us ++ ds):=r.append hd
 have hl:(us ++ ds).length=ps.length:=by rw [<- r2.length];exact F.len _ _ _ _ h
 refine wpAny_call (codeAny_mono (F.run X.A X.stack s H ⟨us,[]⟩ (us ++ ds) (vs ++ dvs) Q E hr I.env0 (hb s us I.kIn hl) r2 h) fun r s' hq=>?_)
 cases r with
 | error e=>exact hx pins σ H s e s' I hq
 | ok fl =>
  cases fl with
  | ret u=>exact I.after hq
  | next=>exact False.elim hq
  | brk=>exact False.elim hq
  | cont=>exact False.elim hq
structure Mk (K:Frag) (C f:Addr):Prop where
 makes:PySem.W.makesIn K C=true
 init:findIn K (.ref C) "__init__"=some (some (.ref f))
 fn:PySem.W.isFn K (.ref f)=true
 kp:keepIn K (.ref C)=true
theorem w4 {pins:List (Addr × Obj)} {σ:St} {H:Hp} {s:Shared} {Q:VK} {us:List Value} {vs:List V} (M:Mk X.K C f) (F:FnOk X.prog X.w X.K X.mg X.base CX k f fd ps sp) (hr:Room (k + 1) X.A) (hb:Binds X.K fd ps ds) (hd:Vals dvs ds)
  (hx:rd CX X E) (I:Inv X pins σ H s) (r:Vals vs us)
  (h:∀ x dx,H x=none->H dx=none->dx ≠ x->sp (.ref x :: (vs ++ dvs)) (upd (upd H dx (.own x)) x (.ins C dx [])) (fun v H2=>v=.non/\Q (.ref x) H2) E) :
  wpAny (model X.prog X.w) X.A (call (.ref C) us) (EP X pins σ Q) X.xe s:=by
 have hq:=h (s.heap.objs.size + 1) s.heap.objs.size (I.hok.fresh (Nat.le_succ _)) (I.hok.fresh (Nat.le_refl _)) (Nat.ne_of_lt (Nat.lt_succ_self _))
 have I2:=Inv.made (C:=C) I
 have r2:Vals (V.ref (s.heap.objs.size + 1) :: (vs ++ dvs)) (Value.ref (s.heap.objs.size + 1) :: (us ++ ds)):=.cons rfl (r.append hd)
 have hl:(Value.ref (s.heap.objs.size + 1) :: us ++ ds).length=ps.length:=by
  have e:=r2.length
  rw [F.len _ _ _ _ hq] at e
  exact e.symm
 refine wpAny_call (xR (f:=f) I.kIn M.makes M.init (beq_iff_eq.mp M.fn) (codeAny_mono (F.run _ X.stack _ _ ⟨Value.ref (s.heap.objs.size + 1) :: us,[]⟩ (Value.ref (s.heap.objs.size + 1) :: (us ++ ds)) _ _ E (hr.make C us [])
  (I2.env0.make C us []) (hb _ (Value.ref (s.heap.objs.size + 1) :: us) I2.kIn hl) r2 hq) fun r s' hq'=>?_))
 cases r with
 | error e=>exact hx pins σ _ _ e s' I2 hq'
 | ok fl =>
  cases fl with
  | ret u =>
   obtain ⟨v,H',I3,rv,ev,q3⟩:=I2.after hq'
   subst ev
   exact ⟨rv,⟨V.ref (s.heap.objs.size + 1),H',I3,rfl,q3⟩⟩
  | next=>exact False.elim hq'
  | brk=>exact False.elim hq'
  | cont=>exact False.elim hq'
end
section
variable {X:Cx} {CX:CXT} {k:Nat} {f C:Addr} {fd:FuncData} {ps ks:List Str} {sp:Sp} {E:XK} {x m:Str} {p pos apos kpos:Pos} {e o:Expr} {es:List Expr} {kws:List Keyword} {te ta:TE} {t tk:TA} {nm:Option Str}
variable {g:List Value->List Value->List Value} {gV:List V->List V->List V}
end
structure aH (N P:List Str) (sc:Scope):Prop where
 kind:sc.kind=.function
 co:sc.isCoroutine=false
 gen:sc.isGenerator=false
 nd:N.Nodup
 pre:N.take P.length=P
 par:∀ x ∈ P,sc.names.lookup x=some .local\/sc.names.lookup x=some .cell
 nofree:∀ y ∈ sc.names,y.2 ≠ .free
theorem pW {kindOf:Str->Option NameKind} {x:Str}:∀ {binds:List (Str × Value)} {m:Str->Option Value},(∀ v,(x,v) ∉ binds)->bindL kindOf binds m x=m x
 | [],_,_=>rfl
 | (n,v) :: r,m,h=>by
  unfold bindL
  rw [pW fun w hw=>h w (List.mem_cons_of_mem _ hw)]
  split
  ·have:x ≠ n:=by rintro rfl;exact h v List.mem_cons_self
   simp [this]
  ·rfl
theorem pY {kindOf:Str->Option NameKind} {x:Str}:∀ {binds:List (Str × Value)} {m:Str->Option Value},(∀ v,(x,v) ∉ binds)->bindC kindOf binds m x=m x
 | [],_,_=>rfl
 | (n,v) :: r,m,h=>by
  unfold bindC
  rw [pY fun w hw=>h w (List.mem_cons_of_mem _ hw)]
  split
  ·rfl
  ·have:x ≠ n:=by rintro rfl;exact h v List.mem_cons_self
   simp [this]
theorem pX {kindOf:Str->Option NameKind} {x:Str} {v:Value}:∀ {P:List Str} {vs:List Value} {i:Nat} {m:Str->Option Value},P.Nodup->P[i]?=some x->vs[i]?=some v->kindOf x=some .local ->
  bindL kindOf (P.zip vs) m x=some v
 | [],_,_,_,_,h,_,_=>by simp at h
 | _ :: _,[],_,_,_,_,h,_=>by simp at h
 | p :: P,w :: vs,0,m,nd,h1,h2,hk=>by
  simp at h1 h2;subst h1;subst h2
  show bindL kindOf ((p,w) :: P.zip vs) m p=_
  unfold bindL
  rw [pW fun v hv=>(List.nodup_cons.mp nd).1 (List.of_mem_zip hv).1,if_pos hk]
  simp
 | p :: P,w :: vs,i + 1,m,nd,h1,h2,hk=>by
  show bindL kindOf ((p,w) :: P.zip vs) m x=_
  unfold bindL
  exact pX (i:=i) (List.nodup_cons.mp nd).2 (by simpa using h1) (by simpa using h2) hk
theorem pZ {kindOf:Str->Option NameKind} {x:Str} {v:Value}:∀ {P:List Str} {vs:List Value} {i:Nat} {m:Str->Option Value},P.Nodup->P[i]?=some x->vs[i]?=some v->kindOf x ≠ some .local ->
  bindC kindOf (P.zip vs) m x=some v
 | [],_,_,_,_,h,_,_=>by simp at h
 | _ :: _,[],_,_,_,_,h,_=>by simp at h
 | p :: P,w :: vs,0,m,nd,h1,h2,hk=>by
  simp at h1 h2;subst h1;subst h2
  show bindC kindOf ((p,w) :: P.zip vs) m p=_
  unfold bindC
  rw [pY fun v hv=>(List.nodup_cons.mp nd).1 (List.of_mem_zip hv).1,if_neg hk]
  simp
 | p :: P,w :: vs,i + 1,m,nd,h1,h2,hk=>by
  show bindC kindOf ((p,w) :: P.zip vs) m x=_
  unfold bindC
  exact pZ (i:=i) (List.nodup_cons.mp nd).2 (by simpa using h1) (by simpa using h2) hk
def start (N:List Str) (vs:List V):St:=vs.map some ++ List.replicate (N.length - vs.length) none
def bS (CX:CXT) (P:Program) (w:World) (K:Frag) (mg:Str->Option Value) (base:Heap) (N:List Str) (qual:Str) (scope:Scope) (f:Addr) (cd:Value) (A:Around) (outer:List Env) (s:Shared) (H:Hp) (E:XK):Cx where
 prog:=P
 w:=w
 K:=K
 mg:=mg
 base:=base
 A:=A.deeper (envOfC qual scope s.heap.objs.size f cd)
 N:=N
 s₀:=s
 H₀:=H
 env:=envOfC qual scope s.heap.objs.size f cd
 outer:=outer
 stack:=envOfC qual scope s.heap.objs.size f cd :: outer
 ex:=[]
 calm:=true
 fn:=fun _=>true
 pn:=[]
 xe:=fun e s'=>wpAny (model P w) (A.deeper (envOfC qual scope s.heap.objs.size f cd)) (leaving (envOfC qual scope s.heap.objs.size f cd) e) (fun _ s''=>CX outer H s E e s'') (fun e' s''=>CX outer H s E e' s'') s'
theorem sR {sc:Scope} {n:Nat} {x:Str} (h:sc.names.lookup x=some .cell):∃ c,(cellsFrom n sc.names []).lookup x=some c:=by
 have q:=cellsFrom_some sc.names n [] (.inl h)
 exact Option.isSome_iff_exists.mp q
theorem pH {CX:CXT} {P:Program} {w:World} {K:Frag} {mg:Str->Option Value} {base:Heap} {N ps:List Str} {qual:Str} {scope:Scope} {f:Addr} {cd:Value} {A:Around} {outer:List Env} {s s1:Shared} {H:Hp} {E:XK} {us:List Value} {vs:List V}
  (S:aH N ps scope) (hd:A.handled=none) (e0:Env0 P w K mg base A outer s H) (hl:vs.length=ps.length) (r:Vals vs us)
  (x:InCallC s s.heap.objs.size (bindL (envOfC qual scope s.heap.objs.size f cd).kindOf (ps.zip us) fun _=>none) (cellsFrom (s.heap.objs.size + 1) scope.names []) (bindC (envOfC qual scope s.heap.objs.size f cd).kindOf (ps.zip us) fun _=>none) s1) :
  Inv (bS CX P w K mg base N qual scope f cd A outer s H E) [] (start N vs) H s1:=by
 have hpl:ps.length<=N.length:=by have:=congrArg List.length S.pre;rw [List.length_take] at this;omega
 obtain ⟨h1,tk,rfl,hk⟩:=x.done
 have noA:∀ b:Addr,b ∉ (bS CX P w K mg base N qual scope f cd A outer s H E).ex:=fun b z=>absurd (show b ∈ ([]:List Addr) from z) (by simp)
 refine ⟨⟨e0.mod,S.kind,rfl,rfl,Nat.le_refl _,fun y z c h1 h2=>?_,fun y hy=>?_,fun y c _ h=>?_,fun _=>hd,Around.frames_deeper e0.frames,.inr ⟨rfl,rfl⟩,fun b z=>absurd z (noA b),e0.bs,e0.bsz,fun b _ _=>noA b,fun b z=>absurd z (noA b),e0.funs,e0.frf⟩,
  rfl,e0.bare,Un.kept hk,⟨_,x.toInCall.ns,fun i y v h1 h2 h3=>?_⟩,fun y c h=>⟨_,x.cell y c h⟩,e0.hok.fresh (Nat.le_refl _),fun y c h=>?_,fun p hp=>absurd (show p ∈ ([]:List (Addr × Obj)) from hp) (by simp),e0.hok.kept hk,?_⟩
 ·exact name_of_addr x.apart (PySem.mem_of_lookup h1) (PySem.mem_of_lookup h2)
 ·have hy:scope.names.lookup y=some .cell\/scope.names.lookup y=some .free:=hy
  rcases hy with hy | hy
  ·exact sR hy
  ·exact absurd rfl (S.nofree _ (PySem.mem_of_lookup hy))
 ·exact Nat.le_of_lt (x.above y c (PySem.mem_of_lookup h))
 ·have hi:i < vs.length:=by
   unfold start at h2
   by_cases hi:i < vs.length
   ·exact hi
   ·rw [List.getElem?_append_right (by simpa using hi)] at h2
    rw [List.getElem?_replicate] at h2
    split at h2 <;> cases h2
  have ha:vs[i]?=some v:=by
   unfold start at h2
   rw [List.getElem?_append_left (by simpa using hi),List.getElem?_map] at h2
   cases e:vs[i]? with
   | none=>rw [e] at h2;cases h2
   | some a=>rw [e] at h2;cases h2;rfl
  obtain ⟨u,hu,rv⟩:=r.get ha
  have hp:ps[i]?=some y:=by
   rw [<- S.pre,List.getElem?_take_of_lt (by omega)];exact h1
  have ndP:ps.Nodup:=by rw [<- S.pre];exact S.nd.sublist (List.take_sublist _ _)
  refine ⟨u,rv,?_⟩
  rcases S.par y (List.mem_of_getElem? hp) with k | k
  ·exact .inl ⟨k,pX ndP hp hu k⟩
  ·obtain ⟨c,e⟩:=sR (n:=s.heap.objs.size + 1) k
   refine .inr ⟨.inl k,c,e,?_⟩
   have q:=x.cell y c e
   rw [pZ ndP hp hu (by show scope.names.lookup y ≠ _;rw [k];decide)] at q
   exact q
 ·exact e0.hok.fresh (Nat.le_of_lt (x.above y c (PySem.mem_of_lookup h)))
 ·unfold start
  show _=N.length
  rw [List.length_append,List.length_map,List.length_replicate]
  omega
theorem Ba {CX:CXT} {P:Program} {w:World} {K:Frag} {mg:Str->Option Value} {base:Heap} {k:Nat} {f:Addr} {name qual:Str} {params:Arguments} {body:List Stmt} {scope:Scope} {dV kV doc pm cdv ct oc:Value} {an od:Option Addr}
  {osl:Array (Option Value)} {N ps:List Str} {sp:Sp} (lk:K.lookup f=some ⟨oc,od,.func (fnOf name qual params body scope dV kV doc pm an cdv ct),osl⟩) (hcd:codeIn K cdv qual=true) (S:aH N ps scope)
  (len:∀ vs H Q E,sp vs H Q E->vs.length=ps.length)
  (hbody:∀ (A:Around) (outer:List Env) (s:Shared) (H:Hp) (vs:List V) (Q:VK) (E:XK),Room k (A.deeper (envOfC qual scope s.heap.objs.size f cdv))->sp vs H Q E ->
   ∃ t,PSs (bS CX P w K mg base N qual scope f cdv A outer s H E) body t/\t { nx:=fun _ H'=>Q .non H',rt:=Q } (start N vs) H) :
  FnOk P w K mg base CX (k + 1) f (fnOf name qual params body scope dV kV doc pm an cdv ct) ps sp:=by
 refine ⟨len,fun A outer s H args us vs Q E hr e0 hb r hsp=>?_⟩
 have hl:=len _ _ _ _ hsp
 have KX:K.In s.heap:=e0.mod.kin.keeps fun b o e=>(e0.bs b o e).1
 have lim:s.heap.NoLimit:=e0.mod.nolimit.keeps fun b o e=>(e0.bs b o e).1
 have hkind:∀ y ∈ ps.zip us,scope.names.lookup y.1=some .local\/(scope.names.lookup y.1=some .cell/\((cellsFrom (s.heap.objs.size + 1) scope.names []).lookup y.1).isSome=true):=fun ⟨n,v⟩ hy=>by
  rcases S.par n (List.of_mem_zip hy).1 with q | q
  ·exact .inl q
  ·exact .inr ⟨q,cellsFrom_some _ _ _ (.inl q)⟩
 refine codeAny_call_function hr.depth (KX _ _ lk) rfl S.co S.gen rfl (PySem.W.codeRec_of KX hcd) (hb _ _ _ _ ?_)
 refine wpAny_newFunctionEnv_cells S.kind hkind fun env he s1 x=>?_
 subst he
 refine ⟨lim.keeps x.toInCall.keep,codeAny_func ?_⟩
 obtain ⟨t,ht,hq⟩:=hbody A outer s H vs Q E (hr.deeper _) hsp
 have I:Inv (bS CX P w K mg base N qual scope f cdv A outer s H E) [] (start N vs) H s1:=pH S hr.hd e0 hl r x
 refine wpAny_mono (ht [] s1 (start N vs) H _ I hq) (fun fl s' hs=>?_) fun e s' hs=>hs
 have fin:∀ {σ':St} {H':Hp} {v:V} {u:Value},Inv (bS CX P w K mg base N qual scope f cdv A outer s H E) [] σ' H' s'->RelV v u->Q v H'->CE outer P w H s Q u s' :=
  fun {σ' H' v u} J rv q=>⟨v,H',J.os,J.bare,J.base,J.hok,rv,q⟩
 cases fl with
 | ret u =>
  obtain ⟨v,σ',H',J,rv,q⟩:=hs
  exact fin J rv q
 | next =>
  obtain ⟨σ',H',J,q⟩:=hs
  exact fin (v:=V.non) (u:=Value.none) J rfl q
 | brk =>
  obtain ⟨_,_,_,q⟩:=hs
  exact False.elim q
 | cont =>
  obtain ⟨_,_,_,q⟩:=hs
  exact False.elim q
end L2
namespace L2
open PySem PySem.Spec PyProof.Rows
section
variable {X:Cx} {x:Str} {p pos:Pos} {e:Expr} {es:List Expr} {t:TA} {id T:String} {r:List V->Hp->VK->Prop}
def tCB (r:List V->Hp->VK->Prop) (t:TA):TE:=fun σ H Q=>t σ H fun vs H1=>r vs H1 Q
theorem fx (hc:jO X (.builtin id) r) (hg:Gl X x) (hm:X.mg x=none) (hv:bootBuiltins x=some (.builtin id)) (ha:PA X (e :: es) t) (hn:x ≠ "__name__":=by decide) (hdb:(x == ("__debug__":Str))=false:=by decide)
  (he:starEach (e :: es) X.env=(false,eval e X.env) :: starEach es X.env:=by rfl) (hpl:(backTo pos (starEach es X.env)).any (·.1)=false:=by rfl):PE X (.Call (.Name x p) (e :: es) [] pos) (tCB r t):=by
 intro pins s σ H Q I h
 refine wpAny_Call_Name_kw (jV I hg hm hv ?_ hn hdb)
 exact PyProof.Rows.callWith_builtin1 (thn (ha pos pins s σ H _ I h) fun us s1 ⟨vs,H1,I1,r1,q1⟩=>hc pins s1 σ H1 vs us Q I1 r1 q1) he hpl
theorem dw (hc:jO X (.type T) r) (hg:Gl X x) (hm:X.mg x=none) (hv:bootBuiltins x=some (.type T)) (ha:PA X (e :: es) t) (hn:x ≠ "__name__":=by decide) (hdb:(x == ("__debug__":Str))=false:=by decide)
  (he:starEach (e :: es) X.env=(false,eval e X.env) :: starEach es X.env:=by rfl) (hpl:(backTo pos (starEach es X.env)).any (·.1)=false:=by rfl):PE X (.Call (.Name x p) (e :: es) [] pos) (tCB r t):=by
 intro pins s σ H Q I h
 refine wpAny_Call_Name_kw (jV I hg hm hv ?_ hn hdb)
 exact PyProof.Rows.callWith_type1 (thn (ha pos pins s σ H _ I h) fun us s1 ⟨vs,H1,I1,r1,q1⟩=>hc pins s1 σ H1 vs us Q I1 r1 q1) he hpl
end
end L2
namespace HT
open PySem PyProof.Rows
section
open PySem.SeqAt
open PySem.AutoSeq1 (wpAny_loadPart')
open PySem.MeetsSeq PySem.MeetsSeq2 PySem.MeetsSeq3
end
section
variable {prog:Program} {w:World} {A:Around} {E:Value->Shared->Prop} {s:Shared}
def sIx (n d:Nat):Option Int->Nat
 | none=>d
 | some v=>if v < 0 then (v + (n:Int)).toNat else min v.toNat n
end
end HT
namespace L2
open PySem PySem.Spec PyProof.Rows
abbrev TO:=St->Hp->(Option Int->Hp->Prop)->Prop
def PO (X:Cx) (e:Option Expr) (t:TO):Prop :=
 ∀ (pins:List (Addr × Obj)) (s:Shared) (σ:St) (H:Hp) (Q:Option Int->Hp->Prop),Inv X pins σ H s->t σ H Q ->
  wpAny (model X.prog X.w) X.A (evalPart e X.env) (fun u s'=>∃ o H',Inv X pins σ H' s'/\IsPart u o/\Q o H') X.xe s
def zd:TO:=fun _ H Q=>Q none H
def Dk (t:TE):TO:=fun σ H Q=>t σ H fun x H1=>∃ i,x=.int i/\Q (some i) H1
theorem t9 {ns:List Int}:∀ {us:List Value},Vals (ns.map V.int) us->IntsAre us ns:=by
 induction ns with
 | nil=>intro us r;rw [List.map_nil] at r;cases r;exact .nil
 | cons n ns ih =>
  intro us r
  rw [List.map_cons] at r
  cases r with
  | cons r1 r2 =>
   obtain ⟨t,e⟩:=r1
   subst e
   exact .cons n t (ih r2)
section
variable {X:Cx} {e:Expr} {te:TE} {lo hi:Option Expr} {tl th:TO} {pos p2:Pos}
theorem zA:PO X none zd:=by
 intro pins s σ H Q I h
 rw [evalPart_none]
 exact wpAny_pure ⟨none,H,I,.none,h⟩
theorem zz (h:PE X e te):PO X (some e) (Dk te):=by
 intro pins s σ H Q I hw
 rw [evalPart_some]
 refine thn (h pins s σ H _ I hw) fun u s1 ⟨x,H1,I1,r1,q1⟩=>?_
 obtain ⟨i,rfl,q⟩:=q1
 obtain ⟨t,rfl⟩:=r1
 exact ⟨some i,H1,I1,.int i t,q⟩
def SlR (X:Cx) (r:V->Option Int->Option Int->Hp->VK->Prop):Prop :=
 ∀ (pins:List (Addr × Obj)) (s:Shared) (σ:St) (H:Hp) (x:V) (v vl vu:Value) (lo hi:Option Int) (sl:Addr) (Q:VK),Inv X pins σ H s->RelV x v->s.heap.IsSliceOf sl vl vu .none->IsPart vl lo->IsPart vu hi->r x lo hi H Q ->
  ∃ T id,typeLookup (.type T) "__getitem__"=pure (some (.builtin id))/\s.TypeIs v T/\wpAny (model X.prog X.w) X.A (getItem v (.ref sl)) (EP X pins σ Q) X.xe s
def tSl (r:V->Option Int->Option Int->Hp->VK->Prop) (te:TE) (tl th:TO):TE:=fun σ H Q=>te σ H fun x H1=>tl σ H1 fun l H2=>th σ H2 fun u H3=>r x l u H3 Q
theorem xz {r:V->Option Int->Option Int->Hp->VK->Prop} (hr:SlR X r) (he:PE X e te) (hl:PO X lo tl) (hu:PO X hi th):PE X (.Subscript e (.Slice lo hi none p2) pos) (tSl r te tl th):=by
 intro pins s σ H Q I h
 refine Subscript_ (thn (he pins s σ H _ I h) fun v s1 ⟨x,H1,I1,r1,q1⟩=>?_)
 refine wpAny_Slice (thn (hl pins s1 σ H1 _ I1 q1) fun vl s2 ⟨l,H2,I2,pl,q2⟩=>thn (hu pins s2 σ H2 _ I2 q2) fun vu s3 ⟨u,H3,I3,pu,q3⟩=>?_)
 rw [evalPart_none]
 refine wpAny_pure ?_
 have I4:Inv X pins σ H3 { s3 with heap:=s3.heap.push { cls:=.type "slice",data:=.fields #[vl,vu,.none] } }:=I3.kept (t':=s3.toks) fun b ob q=>Heap.get?_push_of_some _ q
 obtain ⟨T,id,hT,ht,hg⟩:=hr pins { s3 with heap:=s3.heap.push { cls:=.type "slice",data:=.fields #[vl,vu,.none] } } σ H3 x v vl vu l u s3.heap.objs.size Q I4 r1 (Heap.IsSliceOf.new ..) pl pu q3
 show wpAny (model X.prog X.w) X.A (subscriptTail e (.Slice lo hi none p2) v (.ref s3.heap.objs.size)) (EP X pins σ Q) X.xe { s3 with heap:=s3.heap.push { cls:=.type "slice",data:=.fields #[vl,vu,.none] } }
 exact tail_any (ops:=[.ref s3.heap.objs.size,v]) ht hT hg (by with_unfolding_all rfl)
def wC (xs:List V) (lo hi:Option Int):List V:=(xs.drop (HT.sIx xs.length 0 lo)).take (HT.sIx xs.length xs.length hi - HT.sIx xs.length 0 lo)
theorem sO (xs:List V) (lo hi:Option Int):(wC xs lo hi).length<=xs.length:=by
 unfold wC
 rw [List.length_take,List.length_drop]
 omega
end
end L2
namespace L2
open PySem PySem.Spec PyProof.Rows
def ixN (n:Nat) (i:Int):Option Nat:=if 0<=i then (if i < n then some i.toNat else none) else if -(n:Int)<=i then some (i + n).toNat else none
def atI {α:Type} (xs:List α) (i:Int):Option α:=(ixN xs.length i).bind fun j=>xs[j]?
theorem Ac {n:Nat} {i:Int} {j:Nat} (h:ixN n i=some j):seqIndex? i n=some j/\j < n/\-(n:Int)<=i/\i < n:=by
 unfold ixN at h
 by_cases h0:0<=i
 ·rw [if_pos h0] at h
  by_cases h1:i < n
  ·rw [if_pos h1] at h
   have e:i.toNat=j:=Option.some.inj h
   exact ⟨by rw [seqIndex_of h0 h1,e],by omega,by omega,h1⟩
  ·rw [if_neg h1] at h;cases h
 ·rw [if_neg h0] at h
  by_cases h1:-(n:Int)<=i
  ·rw [if_pos h1] at h
   have e:(i + n).toNat=j:=Option.some.inj h
   exact ⟨by rw [seqIndex_neg (by omega) h1,e],by omega,h1,by omega⟩
  ·rw [if_neg h1] at h;cases h
theorem q_ {α:Type} {xs:List α} {i:Int} {v:α} (h:atI xs i=some v):∃ j,seqIndex? i xs.length=some j/\xs[j]?=some v/\j < xs.length/\-(xs.length:Int)<=i/\i < xs.length:=by
 unfold atI at h
 cases e:ixN xs.length i with
 | none=>rw [e] at h;cases h
 | some j =>
  rw [e] at h
  obtain ⟨h1,h2,h3,h4⟩:=Ac e
  exact ⟨j,h1,h,h2,h3,h4⟩
def mR (b:Expr):Prop:=∀ o i,subscripted b false o i=operate [o,i] (getItem o i)
def IxR (X:Cx) (r:R2):Prop :=
 ∀ (value slice:Expr) (pins:List (Addr × Obj)) (s:Shared) (σ:St) (H:Hp) (x y:V) (v u:Value) (Q:VK),Inv X pins σ H s->RelV x v->RelV y u->r x y H Q ->
  subscripted slice false v u=operate [v,u] (getItem v u)->wpAny (model X.prog X.w) X.A (subscriptTail value slice v u) (EP X pins σ Q) X.xe s
def MtR (X:Cx) (id:String) (r:V->List V->Hp->VK->Prop):Prop :=
 ∀ (pins:List (Addr × Obj)) (s:Shared) (σ:St) (H:Hp) (x:V) (xs:List V) (v:Value) (us:List Value) (Q:VK),Inv X pins σ H s->RelV x v->Vals xs us->r x xs H Q ->
  wpAny (model X.prog X.w) X.A (call (.builtin id) (v :: us)) (EP X pins σ Q) X.xe s
section
variable {X:Cx} {a b:Expr} {ta tb:TE} {pos:Pos}
theorem IxR.or {r r':R2} (h:IxR X r) (h':IxR X r'):IxR X (fun x y H Q=>r x y H Q\/r' x y H Q):=by
 intro value slice pins s σ H x y v u Q I rx ry q hs
 rcases q with q | q
 ·exact h value slice pins s σ H x y v u Q I rx ry q hs
 ·exact h' value slice pins s σ H x y v u Q I rx ry q hs
theorem A4 {r:R2} (hr:IxR X r) (ha:PE X a ta) (hb:PE X b tb) (hs:mR b):PE X (.Subscript a b pos) (tOp r ta tb):=by
 intro pins s σ H Q I h
 exact Subscript_ (Db ha hb I h fun v u s2 x y H2 I2 rx ry q=>hr a b pins s2 σ H2 x y v u Q I2 rx ry q (hs _ _))
def Dx (K:Frag):R2:=fun x y H Q=>∃ p xs i v,x=.ref p/\y=.int i/\SqL K H p xs/\atI xs i=some v/\Q v H
def Dv (K:Frag):R2:=fun x y H Q=>∃ p xs i v,x=.ref p/\y=.int i/\SqT K H p xs/\atI xs i=some v/\Q v H
def Dw:R2:=fun x y H Q=>∃ z i c,x=.str z/\y=.int i/\z.length<=sizeLine/\atI z.cps.toList i=some c/\Q (.str ⟨#[c]⟩) H
theorem ix_list:IxR X (Dx X.K):=by
 intro value slice pins s σ H x y v u Q I rx ry h hs
 obtain ⟨p,xs,i,z,rfl,rfl,hq,he,q⟩:=h
 cases rx
 obtain ⟨t,rfl⟩:=ry
 obtain ⟨its,r,pl,hz⟩:=I.list hq
 obtain ⟨j,h1,h2,h3,h4,h5⟩:=q_ he
 obtain ⟨w,ew,rw'⟩:=r.get h2
 have hl:=r.length
 have hn:=qu
 have fin:EP X pins σ Q w s:=⟨z,H,I,rw',q⟩
 by_cases h0:0<=i
 ·have hj:i.toNat=j:=by
   rw [seqIndex_of h0 h5] at h1
   exact Option.some.inj h1
  exact item_listR pl.isList h0 (by omega) (by rw [hj];simpa using ew) fin hs
 ·have hj:(i + (its.toArray.size:Int)).toNat=j:=by
   rw [seqIndex_neg (by omega) h4] at h1
   rw [List.size_toArray,<- hl]
   exact Option.some.inj h1
  exact subscriptTail_builtinR (x:=w) pl.isList.typeIs slot_list_getitem.lookup
   (wpAny_getItem_list_neg (Q:=fun r s'=>r=w/\EP X pins σ Q r s') pl.isList (by omega) (by rw [List.size_toArray] <;> omega) (by omega) (by rw [hj];simpa using ew) ⟨rfl,fin⟩) hs
theorem ix_tup:IxR X (Dv X.K):=by
 intro value slice pins s σ H x y v u Q I rx ry h hs
 obtain ⟨p,xs,i,z,rfl,rfl,hq,he,q⟩:=h
 cases rx
 obtain ⟨t,rfl⟩:=ry
 obtain ⟨its,r,pl,hz⟩:=I.tuple hq
 obtain ⟨j,h1,h2,h3,h4,h5⟩:=q_ he
 obtain ⟨w,ew,rw'⟩:=r.get h2
 have hl:=r.length
 have hn:=qu
 have fin:EP X pins σ Q w s:=⟨z,H,I,rw',q⟩
 exact subscriptTail_builtinR (x:=w) pl.typeIs slot_tuple_getitem.lookup
  (getItem_tuple (j:=j) (Q:=fun r s'=>r=w/\EP X pins σ Q r s') pl (by omega) (by omega) (by rw [List.size_toArray,<- hl];exact h1) (by simpa using ew) ⟨rfl,fin⟩) hs
theorem Cv:IxR X Dw:=by
 intro value slice pins s σ H x y v u Q I rx ry h hs
 obtain ⟨z,i,c,rfl,rfl,hz,he,q⟩:=h
 obtain ⟨t,rfl⟩:=rx
 obtain ⟨t',rfl⟩:=ry
 obtain ⟨j,h1,h2,h3,h4,h5⟩:=q_ he
 have hl:z.cps.toList.length=z.length:=by simp [Str.length]
 rw [hl] at h1 h4 h5
 have hn:=qu
 exact tail_any (typeIs_str s z t) slot_str_getitem.lookup (getItem_str (c:=c) (by
  have e1:decide (i < -(2 ^ 63:Int))=false:=decide_eq_false (by omega)
  have e2:decide (i ≥ 2 ^ 63)=false:=decide_eq_false (by omega)
  rw [e1,e2,Bool.or_false]) (by rw [h1];simpa using h2) ⟨.str ⟨#[c]⟩,H,I.tok _,⟨_,rfl⟩,q⟩) hs
def rIx (K:Frag):R2:=fun x y H Q=>Dx K x y H Q\/Dv K x y H Q\/Dw x y H Q
theorem Cw:IxR X (rIx X.K):=ix_list.or (ix_tup.or Cv)
theorem p7 (lo hi:Option Int) (n:Nat):(sliceBounds lo hi none n).1=((HT.sIx n 0 lo:Nat):Int)/\(sliceBounds lo hi none n).2.1=((HT.sIx n n hi:Nat):Int)/\(sliceBounds lo hi none n).2.2=1:=by
 refine ⟨?_,?_,rfl⟩
 ·cases lo with
  | none=>simp [sliceBounds,HT.sIx]
  | some i =>
   simp only [sliceBounds,HT.sIx,Option.getD_none,show (1:Int) > 0 by decide,if_true]
   by_cases h:i < 0
   ·simp only [h,if_true] <;> omega
   ·simp only [h,if_false] <;> omega
 ·cases hi with
  | none=>simp [sliceBounds,HT.sIx]
  | some i =>
   simp only [sliceBounds,HT.sIx,Option.getD_none,show (1:Int) > 0 by decide,if_true]
   by_cases h:i < 0
   ·simp only [h,if_true] <;> omega
   ·simp only [h,if_false] <;> omega
theorem oM (its:List Value) (lo hi:Option Int):slicePick its.toArray lo hi none=((its.drop (HT.sIx its.length 0 lo)).take (HT.sIx its.length its.length hi - HT.sIx its.length 0 lo)).toArray:=by
 obtain ⟨h1,h2,h3⟩:=p7 lo hi its.toArray.size
 unfold slicePick
 rw [h1,h2,h3]
 simp only [sliceRange_one,pick_run,List.size_toArray] <;> rfl
def Et (K:Frag):V->Option Int->Option Int->Hp->VK->Prop:=fun x lo hi H Q=>∃ a xs,x=.ref a/\SqL K H a xs/\∀ p,H p=none->Q (.ref p) (upd H p (.lst (wC xs lo hi)))
theorem zg:SlR X (Et X.K):=by
 intro pins s σ H x v vl vu lo hi sl Q I rx hs pl pu h
 obtain ⟨a,xs,rfl,hx,q⟩:=h
 cases rx
 obtain ⟨its,r,ht,hz⟩:=I.list hx
 have hlen:=r.length
 refine ⟨"list",_,slot_list_getitem.lookup,ht.isList.typeIs,?_⟩
 refine wpAny_getItem_list_slice ht.isList hs pl pu .none (by simp) ?_ (by rw [List.size_toArray] <;> omega)
 rw [oM,<- hlen]
 refine ⟨.ref s.heap.objs.size,_,I.laid (t':=s.toks) (o:=.lst (wC xs lo hi)) (fun b ob q=>Heap.get?_push_of_some _ q) (Nat.le_refl _) ?_,rfl,q _ (I.hok.fresh (Nat.le_refl _))⟩
 exact ⟨Nat.le_trans (sO xs lo hi) hz,_,0,(r.drop (HT.sIx xs.length 0 lo)).take (HT.sIx xs.length xs.length hi - HT.sIx xs.length 0 lo),Heap.get?_push_size _ rfl⟩
theorem kM:jO X (.builtin "len") (fun xs H Q=>∃ p ys,xs=[.ref p]/\(SqL X.K H p ys\/SqT X.K H p ys)/\Q (.int ys.length) H):=by
 intro pins s σ H xs us Q I r h
 obtain ⟨p,ys,rfl,hq,q⟩:=h
 obtain ⟨u,rfl,rx⟩:=o_ r
 cases rx
 have hn:=qu
 rcases hq with hq | hq
 ·obtain ⟨its,r',pl,hz⟩:=I.list hq
  have hlen:=r'.length
  exact Calls.call_len_list pl.isList (by simp only [List.size_toArray] <;> omega) ⟨.int ys.length,H,I.tok _,⟨s.toks + 1,by rw [List.size_toArray,hlen]⟩,q⟩
 ·obtain ⟨its,r',pl,hz⟩:=I.tuple hq
  have hlen:=r'.length
  exact len_tuple pl (by simp only [List.size_toArray] <;> omega) ⟨.int ys.length,H,I.tok _,⟨s.toks + 1,by rw [List.size_toArray,hlen]⟩,q⟩
theorem kL:jO X (.type "list") (fun xs H Q=>∃ p ys,xs=[.ref p]/\(SqL X.K H p ys\/SqT X.K H p ys)/\∀ l,H l=none->Q (.ref l) (upd H l (.lst ys))):=by
 intro pins s σ H xs us Q I r h
 obtain ⟨p,ys,rfl,hq,q⟩:=h
 obtain ⟨u,rfl,rx⟩:=o_ r
 cases rx
 have fin:∀ (its:List Value),Vals ys its->ys.length<=sizeLine->∀ (h':Heap) (c':Nat),(∀ b o',s.heap.get? b=some o'->h'.get? b=some o') ->
   h'.get? s.heap.objs.size=some { cls:=.type "list",dict:=none,data:=.seq its.toArray c',slots:=#[] }->EP X pins σ Q (.ref s.heap.objs.size) { s with heap:=h' }:=fun its r' hz h' c' kp e =>
  ⟨.ref s.heap.objs.size,_,I.laid (t':=s.toks) kp (Nat.le_refl _) (show ObjOk X.prog X.w _ h' _ (.lst ys) from ⟨hz,its,c',r',e⟩),rfl,q _ (I.hok.fresh (Nat.le_refl _))⟩
 rcases hq with hq | hq
 ·obtain ⟨its,r',pl,hz⟩:=I.list hq
  have hlen:=r'.length
  obtain ⟨o,ho,hc,n,hd⟩:=pl.isList
  exact call_list_seq p (.inl rfl) ho hc hd (fun h' c' kp e=>fin its r' hz h' c' kp e) (by simp only [List.size_toArray] <;> omega)
 ·obtain ⟨its,r',pl,hz⟩:=I.tuple hq
  have hlen:=r'.length
  obtain ⟨o,ho,hc,n,hd⟩:=pl
  exact call_list_seq p (.inr rfl) ho hc hd (fun h' c' kp e=>fin its r' hz h' c' kp e) (by simp only [List.size_toArray] <;> omega)
theorem dY:jO X (.type "tuple") (fun xs H Q=>∃ p ys,xs=[.ref p]/\((SqL X.K H p ys/\∀ l,H l=none->Q (.ref l) (upd H l (.tup ys)))\/(SqT X.K H p ys/\Q (.ref p) H))):=by
 intro pins s σ H xs us Q I r h
 obtain ⟨p,ys,rfl,h⟩:=h
 obtain ⟨u,rfl,rx⟩:=o_ r
 cases rx
 rcases h with ⟨hq,q⟩ | ⟨hq,q⟩
 ·obtain ⟨its,r',pl,hz⟩:=I.list hq
  have hlen:=r'.length
  refine call_tuple_list pl.isList (fun h' kp=>?_) (by simp only [List.size_toArray] <;> omega)
  have I1:Inv X pins σ H { s with heap:=h' }:=I.kept (t':=s.toks) kp
  have I2:Inv X pins σ (upd H h'.objs.size (.tup ys)) { s with heap:=h'.push { cls:=.type "tuple",data:=.seq its.toArray } } :=
   I1.laid (t':=s.toks) (fun b o e=>Heap.get?_push_of_some _ e) (Nat.le_refl _) (show ObjOk X.prog X.w _ _ _ (.tup ys) from ⟨hz,its,r',IsTup.new _ _⟩)
  exact ⟨.ref h'.objs.size,_,I2,rfl,q _ (I1.hok.fresh (Nat.le_refl _))⟩
 ·obtain ⟨its,r',pl,hz⟩:=I.tuple hq
  exact call_tuple_same pl ⟨.ref p,H,I,rfl,q⟩
def tyV (K:Frag) (T:String) (x:V) (H:Hp):Prop:=match x with
 | .str _=>T="str"
 | .int _=>T="int"
 | .ref p=>(T="list"/\∃ xs,SqL K H p xs)\/(T="tuple"/\∃ o,K.lookup p=some o/\o.cls=.type "tuple"/\o.dict=none) \/
   (T="dict"/\((∃ kvs,H p=some (.dK kvs))\/∃ kvs,H p=some (.dT kvs)))\/(T="set"/\∃ S n,H p=some (.set S n))
 | _=>False
theorem Bk {pins:List (Addr × Obj)} {σ:St} {H:Hp} {s:Shared} {T:String} {x:V} {v:Value} (I:Inv X pins σ H s) (r:RelV x v) (ty:tyV X.K T x H) :
  s.TypeIs v T/\∀ a,v=.ref a->∃ ob,s.heap.get? a=some ob/\ob.dict=none:=by
 cases x with
 | str z =>
  obtain ⟨t,rfl⟩:=r
  cases (show T="str" from ty)
  exact ⟨typeIs_str s z t,fun _ e=>nomatch e⟩
 | int i =>
  obtain ⟨t,rfl⟩:=r
  cases (show T="int" from ty)
  exact ⟨typeIs_int s i t,fun _ e=>nomatch e⟩
 | ref p =>
  cases r
  rcases ty with ⟨rfl,xs,hq⟩ | ⟨rfl,o,hk,hc,hd⟩ | ⟨rfl,hk⟩ | ⟨rfl,S,n,hk⟩
  ·obtain ⟨its,_,pl,_⟩:=I.list hq
   refine ⟨pl.isList.typeIs,fun a e=>?_⟩
   cases e
   obtain ⟨o,n,e,c,hd,_⟩:=pl
   exact ⟨o,e,hd⟩
  ·refine ⟨⟨o,I.kIn p o hk,hc⟩,fun a e=>?_⟩
   cases e
   exact ⟨o,I.kIn _ o hk,hd⟩
  ·have z:∃ o,s.heap.get? p=some o/\o.ExactDict:=by
    rcases hk with ⟨kvs,hk⟩ | ⟨kvs,hk⟩
    ·obtain ⟨_,_,_,_,o,_,_,e,ex,_⟩:=I.hok p _ hk
     exact ⟨o,e,ex⟩
    ·obtain ⟨_,_,_,_,o,_,_,e,ex,_⟩:=I.hok p _ hk
     exact ⟨o,e,ex⟩
   obtain ⟨o,e,ex⟩:=z
   refine ⟨⟨o,e,ex.1⟩,fun a e2=>?_⟩
   cases e2
   exact ⟨o,e,ex.2.1⟩
  ·obtain ⟨o,_,_,_,e,ex,_⟩:=I.hok p _ hk
   refine ⟨⟨o,e,ex.1⟩,fun a e2=>?_⟩
   cases e2
   exact ⟨o,e,ex.2.1⟩
 | _=>exact False.elim ty
def tBM (K:Frag) (T:String) (r:V->List V->Hp->VK->Prop) (to:TE) (t:TA):TE:=fun σ H Q=>to σ H fun x H1=>tyV K T x H1/\t σ H1 fun xs H2=>r x xs H2 Q
variable {o e:Expr} {es:List Expr} {to:TE} {t:TA} {name:Str} {apos cpos:Pos} {T id:String} {r:V->List V->Hp->VK->Prop}
theorem pq (pa:PlainAttrs T) (slot:Slot T name id) (hty:typeOf (.builtin id)=pure (.type "method_descriptor")) (hm:MtR X id r) (ho:PE X o to) (ha:PA X (e :: es) t)
  (hbase:attributeBase o name X.env (eval o X.env)=eval o X.env:=by rfl)
  (hfew:((backTo cpos (starEach (e :: es) X.env)).all (fun x=>!x.1) && (backToKw cpos (keywordEach [] X.env)).all (fun x=>x.1.isSome)
   && decide ((e :: es).length + ([]:List Keyword).length + (if ([]:List Keyword).isEmpty then 0 else 1) < 30))=true:=by rfl)
  (hline:(apos.endLine == cpos.line)=true:=by rfl) (hs:starEach (e :: es) X.env=(false,eval e X.env) :: starEach es X.env:=by rfl) (hplain:(backTo cpos (starEach es X.env)).any (·.1)=false:=by rfl) :
  PE X (.Call (.Attribute o name apos) (e :: es) [] cpos) (tBM X.K T r to t):=by
 intro pins s σ H Q I h
 refine wpAny_Call_method_late hbase hfew hline rfl (thn (ho pins s σ H _ I h) fun v s1 ⟨x,H1,I1,r1,ty,q1⟩=>?_)
 obtain ⟨h1,h2⟩:=Bk I1 r1 ty
 refine ⟨T,id,pa,slot,hty,h1,h2,?_⟩
 have hA:=ha cpos pins s1 σ H1 _ I1 q1
 rw [hs] at hA ⊢
 refine Calls.callWith_builtin (by show (false || (backTo cpos (starEach es X.env)).any (·.1))=false;rw [hplain] <;> rfl) (Calls.evalArgs_plain ?_)
 exact thn hA fun us s2 ⟨vs,H2,I2,r2,q2⟩=>hm pins s2 σ H2 x vs v us Q I2 r1 r2 q2
end
end L2
namespace L2
open PySem PySem.Spec PyProof.Rows
def MtM (X:Cx) (id:String) (r:V->List V->Hp->VK->Prop):Prop :=
 ∀ (pins:List (Addr × Obj)) (s:Shared) (σ:St) (H:Hp) (x:V) (xs:List V) (v:Value) (us:List Value) (Q:VK),Inv X pins σ H s->RelV x v->Vals xs us->r x xs H Q ->
  wpAny (model X.prog X.w) X.A (call (.builtin id) (v :: us)) (EP X pins σ Q) X.xe s
theorem Vals.one:∀ {x:V} {us:List Value},Vals [x] us->∃ u,us=[u]/\RelV x u
 | _,_,.cons r .nil=>⟨_,rfl,r⟩
theorem Vals.two:∀ {x y:V} {us:List Value},Vals [x,y] us->∃ u v,us=[u,v]/\RelV x u/\RelV y v
 | _,_,_,.cons r (.cons q .nil)=>⟨_,_,rfl,r,q⟩
section
variable {X:Cx} {pins:List (Addr × Obj)} {σ:St} {H:Hp} {s:Shared} {l b:Addr} {xs ys zs:List V}
theorem Inv.lset {its its':List Value} {n:Nat} {f:Array Value->Array Value} {t':Nat} (I:Inv X pins σ H s) (hH:H l=some (.lst xs))
  (e:s.heap.get? l=some { cls:=.type "list",data:=.seq its.toArray n }) (hf:f its.toArray=its'.toArray) (hv:Vals ys its') (hz:ys.length<=sizeLine) :
  Inv X pins σ (upd H l (.lst ys)) { s with heap:=s.heap.update l (Obj.mapSeq f),toks:=t' }:=by
 have q:=PySem.IsL.update e f
 rw [hf] at q
 refine I.write (x:=l) (e:=l) (by rw [hH];exact trivial) (.inl rfl) (fun b' u hb hu=>(Heap.get?_update_other s.heap (Obj.mapSeq f) (Ne.symm hb)).trans hu) ⟨_,q⟩ ?_
 exact ⟨hz,its',_,hv,q⟩
theorem Inv.lnew {its:List Value} {t':Nat} (I:Inv X pins σ H s) (hv:Vals ys its) (hz:ys.length<=sizeLine) :
  Inv X pins σ (upd H s.heap.objs.size (.lst ys)) { s with heap:=s.heap.push { cls:=.type "list",data:=.seq its.toArray },toks:=t' } :=
 I.laid (fun _ _ q=>Heap.get?_push_of_some _ q) (Nat.le_refl _) ⟨hz,its,0,hv,Heap.get?_push_size _ rfl⟩
theorem Inv.fresh (I:Inv X pins σ H s):H s.heap.objs.size=none:=I.hok.fresh (Nat.le_refl _)
theorem Inv.lstM (I:Inv X pins σ H s) (hH:H l=some (.lst xs)):xs.length<=sizeLine/\∃ (its:List Value) (n:Nat),Vals xs its/\xs.length=its.length/\s.heap.get? l=some { cls:=.type "list",data:=.seq its.toArray n }:=by
 obtain ⟨z,its,n,r,e⟩:=I.hok l _ hH
 exact ⟨z,its,n,r,r.length,e⟩
end
section
variable {X:Cx}
def uQ:V->List V->Hp->VK->Prop:=fun x vs H Q=>∃ l xs y,x=.ref l/\vs=[y]/\H l=some (.lst xs)/\xs.length < sizeLine/\Q .non (upd H l (.lst (xs ++ [y])))
theorem pw:MtM X "list.append" uQ:=by
 intro pins s σ H x vs v us Q I rx rv h
 obtain ⟨l,xs,y,rfl,rfl,hH,hz,q⟩:=h
 cases rx
 obtain ⟨u,rfl,ru⟩:=rv.one
 obtain ⟨z,its,n,r,hl,e⟩:=I.lstM hH
 refine call_meets F.slot_list_append ⟨_,e,rfl⟩ F.entry_list_append (F.args_list_append_2 _ _) (PySem.list_append l its.toArray n u (by rw [List.size_toArray];omega)) ⟨e,?_⟩
 refine ⟨.non,_,I.lset (its':=its ++ [u]) hH e (by simp) (r.append (.cons ru .nil)) ?_,rfl,q⟩
 rw [List.length_append,List.length_singleton]
 omega
def BA:R2:=fun x y H Q=>∃ l b xs zs,x=.ref l/\y=.ref b/\H l=some (.lst xs)/\H b=some (.lst zs)/\xs.length + zs.length<=sizeLine/\∀ p,H p=none->Q (.ref p) (upd H p (.lst (xs ++ zs)))
theorem Cf:OpR X (binaryOp .Add) BA:=by
 intro pins s σ H x y v u Q I rx ry h
 obtain ⟨l,b,xs,zs,rfl,rfl,hH,hB,hz,q⟩:=h
 cases rx
 cases ry
 obtain ⟨z,its,n,r,hl,e⟩:=I.lstM hH
 obtain ⟨z2,its2,n2,r2,hl2,e2⟩:=I.lstM hB
 refine PySem.P.add_list e e2 ?_ (by rw [List.size_toArray,List.size_toArray];omega)
 have ea:its.toArray ++ its2.toArray=(its ++ its2).toArray:=by simp
 rw [ea]
 exact ⟨.ref _,_,I.lnew (t':=s.toks) (r.append r2) (by rw [List.length_append];omega),rfl,q _ I.fresh⟩
end
section
variable {prog:Program} {w:World} {A:Around} {E:Value->Shared->Prop} {s:Shared}
end
section
variable {X:Cx}
end
end L2
namespace Att
open PySem PySem.W PySem.Calls PyProof.Rows
theorem mi {P:Params} {h:Heap}:∀ (ns:List Int) (vs:List Value),WellAll P h vs (ns.map WData.int)->IntsAre vs ns:=by
 intro ns
 induction ns with
 | nil =>
  intro vs w
  rw [List.map_nil] at w
  cases w
  exact .nil
 | cons n ns ih =>
  intro vs w
  rw [List.map_cons] at w
  cases w with
  | cons a b =>
   cases a
   exact .cons _ _ (ih _ b)
theorem v5 {l:OpenLaw} {n:Nat} (hn:l.most=some n) {P:Params} {h:Heap} {args:List WData} {vals:List Value}
  (hpre:l.row.toRowW.claim.pre args=true) (hwl:WellAll P h vals args) :
  ∃ a vs ns,vals=[Value.ref a]/\args=[WData.list (ns.map WData.int)]/\h.get? a=some { cls:=.type "list",data:=.seq vs.toArray }/\IntsAre vs ns/\ns.length<=n:=by
 have hsh:WShape.hasAll [] args [.list .int]=true:=(pre_splitW hpre).1
 have hc:l.pre.holds [] { args:=args }=true:=(pre_splitW hpre).2
 obtain ⟨d,r,rfl,h1,h2⟩:=hasAllW_cons hsh
 obtain rfl:=hasAllW_nil h2
 obtain ⟨xs,rfl,h3⟩:=hasW_list h1
 obtain ⟨ns,rfl⟩:=items_int h3
 have hlen:ns.length<=n:=by
  unfold OpenLaw.pre at hc
  have h4:(WTm.not (.lt (.lit (.int (n:Int))) (.len (.arg 0)))).holds [] { args:=[.list (ns.map .int)] }=true:=by
   have h4:=(holds_andW hc).1
   rw [hn] at h4
   exact h4
  have h5:=condW_of h4 (w_not (w_lt w_lit (w_len_list (w_arg rfl))))
  rw [List.length_map] at h5
  refine Nat.le_of_not_lt fun q=>?_
  have q':(n:Int) < ((ns.length:Nat):Int):=by omega
  first
   | (rw [decide_eq_true q'] at h5;exact absurd h5 (by decide))
   | (simp at h5;omega)
 cases hwl with
 | cons w1 w2 =>
  cases w2
  cases w1 with
  | list ho hall=>exact ⟨_,_,ns,rfl,rfl,ho,mi ns _ hall,hlen⟩
theorem wb (l:OpenLaw) (args:List WData):l.row.toRowW.claim.post args (.bool true) args=true :=
 postW_of (r:=l.row.toRowW) (X:=(true == true))
  (show WShape.has [] (.bool true) .bool=true by first | rfl | decide | simp [WShape.has,WShape.arms,WShape.armsAll])
  (show (WTm.eq .res (.lit (.bool true))).value [] { args:=args,res:=some (.bool true),after:=args }=some (.bool (true == true)) from w_eq_bool (w_res rfl) w_lit) rfl
theorem attach_call {l:OpenLaw} {n:Nat} {q:Program} {loose:List Str} {XP:(Str->Option Value)->Heap->Prop} {YP:World->Heap->Prop} {d:DefRec}
  (hn:l.most=some n) (hdf:d.params.defaults=[])
  (call:∀ (w:World) (s₀ s₁:Shared) (mg mb:Str->Option Value) (fa:Addr) (o:Obj) (pm cd doc:Value) (a:Addr) (vs:List Value) (ns:List Int),
   Ground q loose [] XP w s₀ mg mb s₁.heap->YP w s₁.heap ->
   s₁.heap.get? fa=some o->o.data=.func (docDef d.name d.params d.body d.scope pm cd doc)->s₁.heap.CodeRec cd d.name->mg d.name=some (.ref fa) ->
   s₁.heap.get? a=some { cls:=.type "list",data:=.seq vs.toArray }->IntsAre vs ns->ns.length<=n->s₁.gens=#[] ->
   codeAny (model l.prog w) callerA (.call (.ref fa) ⟨[.ref a],[]⟩) (fun r s'=>r=.ok (.ret (.bool true))/\OldK s₁.heap s'.heap/\s'.os=s₁.os/\AllBare s'.gens) s₁) :
  WalkO q loose XP YP l.row.toRowW d [] (fun f vs=>PySem.call f vs):=by
 intro w s₀ s₁ mg mb G Y fa o pm cd doc dV kV ho hd hcd hD hmg hg args vals as hpre hlay hrd hwl hlo
 obtain rfl:dV=.none:=Dflts.none hD hdf
 obtain rfl:kV=.none:=Dflts.noKw hD
 obtain ⟨a,vs,ns,rfl,rfl,hobj,hints,hlen⟩:=v5 hn hpre hwl
 refine enter_call (codeAny_mono (call w s₀ s₁ mg mb fa o pm cd doc a vs ns G Y ho (fd_plain hd) hcd hmg hobj hints hlen hg) fun r s' hq=>?_)
 obtain ⟨rfl,h2,h3,h4⟩:=hq
 exact ⟨.inl ⟨.bool true,.bool true,[],rfl,fun _=>rfl,.bool true,wb l _,fun _=>⟨List.Pairwise.nil,fun _ hm=>(nomatch hm)⟩⟩,h2,h3,h4⟩
section
variable {prog:Program} {w:World} {A:Around} {E:Value->Shared->Prop} {s:Shared} {K:Frag}
end
end Att
namespace L2
open PySem PySem.Spec PyProof.Rows
theorem o9:∀ {vs:List Value} {ns:List Int},IntsAre vs ns->Vals (ns.map V.int) vs
 | _,_,.nil=>.nil
 | _,_,.cons n t h=>.cons ⟨t,rfl⟩ (o9 h)
def Dc (H:Hp):Prop:=∀ b,H b=none\/∃ o xs,H b=some (.frz o (.lst xs))
theorem xY {P:Program} {w:World} {K:Frag} {mg mb:Str->Option Value} {CX:CXT} {k:Nat} {fa a:Addr} {fd:FuncData} {x:Str} {sp:Sp} {s₁:Shared} {vs:List Value} {ns:List Int}
  (KX:K.In s₁.heap) (hns:s₁.heap.Ns mainGlobals mg) (hb:s₁.heap.Ns builtinsNs mb) (hbb:∀ x:Str,x ≠ "__name__"->mb x=bootBuiltins x) (hlim:s₁.heap.NoLimit) (hg:s₁.gens=#[])
  (ha:s₁.heap.get? a=some { cls:=.type "list",data:=.seq vs.toArray }) (hi:IntsAre vs ns) (hl:ns.length<=sizeLine) (hr:Room k callerA)
  (F:∀ base:Heap,K.In base->base.Ns mainGlobals mg->FnOk P w K mg base CX k fa fd [x] sp) (hbind:∀ (s:Shared) (u:Value),BindsTo s fd ⟨[u],[]⟩ [(x,u)])
  (hsp:∀ H:Hp,Dc H->SqL K H a (ns.map V.int)->sp [.ref a] H (fun v _=>v=.bl true) fun _ _ _=>False)
  (hCX:∀ H e s',CX [] H s₁ (fun _ _ _=>False) e s'->False) :
  codeAny (model P w) callerA (.call (.ref fa) ⟨[.ref a],[]⟩) (fun r s'=>r=.ok (.ret (.bool true))/\OldK s₁.heap s'.heap/\s'.os=s₁.os/\AllBare s'.gens) s₁:=by
 have rv:=o9 hi
 have lenV:=hi.length
 have core:∀ H:Hp,Dc H->SqL K H a (ns.map V.int)->HOk P w H s₁.heap->(∀ b,H b ≠ none->b=a)->(H a ≠ none->K.lookup a=none) ->
   codeAny (model P w) callerA (.call (.ref fa) ⟨[.ref a],[]⟩) (fun r s'=>r=.ok (.ret (.bool true))/\OldK s₁.heap s'.heap/\s'.os=s₁.os/\AllBare s'.gens) s₁:=by
  intro H hO hS hok hA hK
  have base_of:∀ {b:Addr} {o:Obj},s₁.heap.get? b=some o->H b=none->(qB s₁.heap H).get? b=some o:=fun e n=>yd e n
  have noA:∀ {b:Addr} {o:Obj} {es:Array DictEntry} {ep:Nat},s₁.heap.get? b=some o->o.data=.dict es ep->H b=none:=fun {b o es ep} e d=>by
   cases q:H b with
   | none=>rfl
   | some u =>
    have e':b=a:=hA b (by rw [q];simp)
    subst e'
    rw [ha] at e;cases e
    have d':Data.seq vs.toArray _=Data.dict es ep:=d
    cases d'
  have nsK:∀ {b:Addr} {m:Str->Option Value},s₁.heap.Ns b m->(qB s₁.heap H).Ns b m:=fun {b m} ⟨o,es,ep,e,d,r⟩=>⟨o,es,ep,base_of e (noA e d),d,r⟩
  have hKb:K.In (qB s₁.heap H):=fun b o e=>base_of (KX b o e) (by
   cases q:H b with
   | none=>rfl
   | some u =>
    have e':b=a:=hA b (by rw [q];simp)
    subst e'
    rw [hK (by rw [q];simp)] at e;cases e)
  have hM:Mod K mg (qB s₁.heap H):=⟨hKb,nsK hns,⟨mb,nsK hb,hbb⟩,let ⟨mc,h1,h2⟩:=hlim;⟨mc,nsK h1,h2⟩⟩
  have e0:Env0 P w K mg (qB s₁.heap H) callerA [] s₁ H:=⟨rfl,hM,fun b o e=>zU e,Nat.le_of_eq (wq _ _),trivial,fun b hb=>absurd (show b ∈ ([]:List Addr) from hb) (by simp),hok,.of_eq hg⟩
  refine codeAny_mono ((F _ hKb (nsK hns)).run callerA [] s₁ H ⟨[.ref a],[]⟩ [.ref a] [.ref a] _ _ hr e0 (hbind s₁ (.ref a)) (.cons rfl .nil) (hsp H hO hS)) fun r s' h=>?_
  cases r with
  | error e=>exact (hCX H e s' h).elim
  | ok fl =>
   cases fl with
   | next=>exact False.elim h
   | brk=>exact False.elim h
   | cont=>exact False.elim h
   | ret u =>
    obtain ⟨v,H',os,bare,un,hok',r',q⟩:=h
    have q':v=.bl true:=q
    subst q'
    obtain rfl:u=Value.bool true:=r'
    refine ⟨rfl,OldK.of_keep fun b o e=>?_,os,bare⟩
    cases q:H b with
    | none=>exact un.keep b o e q (by intro z;exact absurd (show b ∈ ([]:List Addr) from z) (by simp)) (by simp)
    | some u =>
     rcases hO b with z | ⟨ob,xs,z⟩
     ·rw [q] at z;cases z
     ·have z2:=un.frzs b ob _ z
      obtain ⟨e1,_⟩:=hok b _ z
      obtain ⟨e2,_⟩:=hok' b _ z2
      rw [e] at e1;cases e1
      exact e2
 cases hk:K.lookup a with
 | some o =>
  have e:=KX a o hk
  rw [ha] at e
  cases e
  refine core (fun _=>none) (fun _=>.inl rfl) (.inr ⟨_,vs.toArray,_,hk,rfl,rfl,rfl,by rw [List.size_toArray,lenV];exact hl,by simpa using rv⟩) (fun b u z=>by have z':(none:Option HO)=some u:=z;cases z') (fun b z=>absurd rfl z) fun z=>absurd rfl z
 | none =>
  refine core (fun b=>if b=a then some (.frz { cls:=.type "list",data:=.seq vs.toArray } (.lst (ns.map V.int))) else none) (fun b=>?_) (.inl (.inr ⟨{ cls:=.type "list",data:=.seq vs.toArray },if_pos rfl⟩)) (fun b u z=>?_) (fun b z=>?_) fun _=>hk
  ·by_cases hb:b=a
   ·exact .inr ⟨_,_,if_pos hb⟩
   ·exact .inl (if_neg hb)
  ·by_cases hb:b=a
   ·have z':=(if_pos hb).symm.trans z
    cases z'
    subst hb
    exact ⟨ha,by rw [List.length_map];exact hl,vs,_,rv,ha⟩
   ·have z':=(if_neg hb).symm.trans z
    cases z'
  ·by_cases hb:b=a
   ·exact hb
   ·exact absurd (if_neg hb) z
end L2
namespace L2
open PySem PySem.Spec PyProof.Rows
theorem walk_of {l:PySem.W.OpenLaw} {n k:Nat} {q:Program} {loose:List Str} {XP:(Str->Option Value)->Heap->Prop} {YP:World->Heap->Prop} {d:DefRec} {K:Params->Frag} {CX:World->CXT} {sp:World->Sp} {x:Str}
  (hn:l.most=some n) (hn2:n<=sizeLine) (hdf:d.params.defaults=[]) (hr:Room k callerA)
  (hY:∀ (w:World) (h:Heap),YP w h->(K w.params).In h)
  (F:∀ (w:World) (mg:Str->Option Value) (fa:Addr) (h:Heap),(K w.params).In h->h.Ns mainGlobals mg->mg d.name=some (.ref fa) ->
   ∃ fd:FuncData,(∀ (s:Shared) (u:Value),BindsTo s fd ⟨[u],[]⟩ [(x,u)]) /\
    ∀ base:Heap,(K w.params).In base->base.Ns mainGlobals mg->FnOk l.prog w (K w.params) mg base (CX w) k fa fd [x] (sp w))
  (hsp:∀ (w:World) (H:Hp) (a:Addr) (ns:List Int),ns.length<=n->Dc H->SqL (K w.params) H a (ns.map V.int)->sp w [.ref a] H (fun v _=>v=.bl true) fun _ _ _=>False)
  (hCX:∀ (w:World) (H:Hp) (s:Shared) (e:Value) (s':Shared),CX w [] H s (fun _ _ _=>False) e s'->False) :
  PySem.W.WalkO q loose XP YP l.row.toRowW d [] (fun f vs=>PySem.call f vs):=by
 refine Att.attach_call hn hdf fun w s₀ s₁ mg mb fa o pm cd doc a vs ns G Y ho hd hcd hmg hobj hints hlen hg=>?_
 have KX:=hY w _ Y
 obtain ⟨fd,hb,hF⟩:=F w mg fa _ KX G.T.g hmg
 exact xY KX G.T.g G.T.b G.T.builtins G.T.nolimit hg hobj hints (Nat.le_trans hlen hn2) hr hF hb (fun H hO hS=>hsp w H a ns hlen hO hS) fun H e s'=>hCX w H s₁ e s'
end L2
namespace L2
open PySem PySem.Spec PyProof.Rows
def Ah (s:Stmt) (j:Nat):Stmt:=match s with
 | .ClassDef _ _ _ body _ _ _ _ _ _ _=>body.getD j (.Pass ⟨0,0,0,0⟩)
 | _=>.Pass ⟨0,0,0,0⟩
def jF (s:Stmt):Arguments:=match s with
 | .FunctionDef _ a _ _ _ _ _ _ _ _=>a
 | _=>{ posonlyargs:=[],args:=[],vararg:=none,kwonlyargs:=[],kw_defaults:=[],kwarg:=none,defaults:=[] }
def aF (s:Stmt):List Stmt:=match s with
 | .FunctionDef _ _ b _ _ _ _ _ _ _=>b
 | _=>[]
def ak (s:Stmt):Scope:=match s with
 | .FunctionDef _ _ _ _ _ _ sc _ _ _=>sc
 | _=>{ kind:=.function,names:=[],isGenerator:=false,isCoroutine:=false }
abbrev CX0:CXT:=fun _ _ _ _ _ _=>False
abbrev E0:XK:=fun _ _ _=>False
theorem xD {X:Cx}:rd CX0 X E0:=fun _ _ _ _ _ _ _ h=>h.elim
structure Fun (K:Frag) (x qual:Str) (st:Stmt) (f:Addr) (fd:FuncData):Prop where
 ex:∃ (oc:Value) (od:Option Addr) (kV doc pm:Value) (an:Option Addr) (cdv ct:Value) (osl:Array (Option Value)),
  fd=fnOf x qual (jF st) (aF st) (ak st) .none kV doc pm an cdv ct/\K.lookup f=some ⟨oc,od,.func fd,osl⟩/\codeIn K cdv qual=true
 kp:keepIn K (.ref f)=true
section
variable {P:Program} {w:World} {K:Frag} {mg:Str->Option Value} {base:Heap}
theorem Fun.ok {x qual:Str} {st:Stmt} {f:Addr} {fd:FuncData} {N ps:List Str} {k:Nat} {sp:Sp} (F:Fun K x qual st f fd) (S:aH N ps (ak st)) (len:∀ vs H Q E,sp vs H Q E->vs.length=ps.length)
  (hbody:∀ (cdv:Value) (A:Around) (outer:List Env) (s:Shared) (H:Hp) (vs:List V) (Q:VK) (E:XK),Room k (A.deeper (envOfC qual (ak st) s.heap.objs.size f cdv))->sp vs H Q E ->
   ∃ t,PSs (bS CX0 P w K mg base N qual (ak st) f cdv A outer s H E).nox (aF st) t/\t { nx:=fun _ H'=>Q .non H',rt:=Q } (start N vs) H):FnOk P w K mg base CX0 (k + 1) f fd ps sp:=by
 obtain ⟨oc,od,kV,doc,pm,an,cdv,ct,osl,rfl,lk,hcd⟩:=F.ex
 refine Ba lk hcd S len fun A outer s H vs Q E hr hsp=>?_
 obtain ⟨t,h,q⟩:=hbody cdv A outer s H vs Q E hr hsp
 exact ⟨t,h.nox,q⟩
theorem Fun.binds {x qual:Str} {st:Stmt} {f:Addr} {fd:FuncData} {ps:List Str} (F:Fun K x qual st f fd)
  (h:∀ (kV doc pm:Value) (an:Option Addr) (cdv ct:Value) (us:List Value),us.length=ps.length->bindArgs (fnOf x qual (jF st) (aF st) (ak st) .none kV doc pm an cdv ct) ⟨us,[]⟩=pure (ps.zip us)):Binds K fd ps []:=by
 obtain ⟨oc,od,kV,doc,pm,an,cdv,ct,osl,rfl,lk,hcd⟩:=F.ex
 exact .all (h kV doc pm an cdv ct)
theorem bf {x qual:Str} {st:Stmt} {f:Addr} {oc:Value} {od an:Option Addr} {osl:Array (Option Value)} {kV doc pm cdv ct:Value} (l:K.lookup f=some ⟨oc,od,.func (fnOf x qual (jF st) (aF st) (ak st) .none kV doc pm an cdv ct),osl⟩)
  (c:codeIn K cdv qual=true) (k:keepIn K (.ref f)=true):Fun K x qual st f (fnOf x qual (jF st) (aF st) (ak st) .none kV doc pm an cdv ct):=⟨⟨oc,od,kV,doc,pm,an,cdv,ct,osl,rfl,l,c⟩,k⟩
end
section
variable {X:Cx}
theorem pv (i:Nat) {x:Str} {pos:Pos} (hN:X.N[i]?=some x:=by rfl) (hv:Vis X.env.scope x:=by first | exact Or.inl rfl | exact Or.inr (Or.inl rfl) | exact Or.inr (Or.inr rfl)) (hd:(x == ("__debug__":Str))=false:=by decide)
  (hcd:(x == ("__classdict__":Str))=false:=by decide):PE X (.Name x pos) (fY i):=BT hN hv hd hcd
end
theorem Ae {A B:Prop} (h:B):if false=true then A else B:=by
 rw [if_neg Bool.false_ne_true]
 exact h
theorem Ad {A B:Prop} (h:A):if true=true then A else B:=by
 rw [if_pos rfl]
 exact h
def Same (H H':Hp):Prop:=∀ b o,H b=some o->H' b=some o
theorem Same.refl (H:Hp):Same H H:=fun _ _ h=>h
theorem Same.trans {H H1 H2:Hp} (a:Same H H1) (b:Same H1 H2):Same H H2:=fun c o h=>b c o (a c o h)
theorem Same.seq {K:Frag} {H H':Hp} {a:Addr} {xs:List V} (e:Same H H') (h:SqL K H a xs):SqL K H' a xs:=by
 rcases h with (h | ⟨o,h⟩) | h
 ·exact .inl (.inl (e _ _ h))
 ·exact .inl (.inr ⟨o,e _ _ h⟩)
 ·exact .inr h
end L2
set_option compiler.extract_closed false
set_option genSizeOf true
set_option genInjectivity true
set_option autoImplicit false
namespace DL
open PySem PySem.Spec PyProof.Rows L2
abbrev St:=L2.St
def exN (c:Nat):Str:=match c with
 | 0=>"NoHall"
 | 1=>"NoArrow"
 | 2=>"NoBox"
 | 3=>"NoPicture"
 | 4=>"NoReading"
 | 5=>"NoThing"
 | _=>"NoSending"
structure KeepBut (fs ch:List Addr) (h h':Heap):Prop where
 kp:∀ b o,h.get? b=some o->b ∉ fs->b ∉ ch->h'.get? b=some o
 sl:∀ b o,h.get? b=some o->b ∈ fs->b ∉ ch->∃ sl,h'.get? b=some { o with slots:=sl }
 th:∀ b o,h.get? b=some o->∃ o',h'.get? b=some o'
theorem oq (f:Array Value->Array Value) (o:Obj):(Obj.mapFields f o).dict=o.dict:=by
 obtain ⟨c,d,dt,sl⟩:=o
 cases dt <;> rfl
structure fR (h:Heap) (e:Addr) (cls:Value) (ch:List Addr):Prop where
 mem:e ∈ ch
 at_:∃ oe vs,h.get? e=some oe/\oe.cls=cls/\oe.dict=none/\oe.data=.fields vs/\1 < vs.size/\(vs[1]?=some .none\/∃ T oT ts fl,vs[1]?=some (.ref T)/\T ≠ e/\T ∈ ch/\h.get? T=some oT/\oT.data=.fields ts/\ts[3]?=some fl)
 thr:∀ b ∈ ch,∃ o vs,h.get? b=some o/\o.data=.fields vs
def Be (h:Heap) (e:Addr):Prop:=∃ oe vs T,h.get? e=some oe/\oe.data=.fields vs/\vs[1]?=some (.ref T)
section
variable {M:Model} {A:Around} {E:Value->Shared->Prop} {s:Shared}
theorem KeepBut.trans {fs ch:List Addr} {h1 h2 h3:Heap} (a:KeepBut fs ch h1 h2) (b:KeepBut fs ch h2 h3):KeepBut fs ch h1 h3:=by
 refine ⟨fun c o q nf nc=>b.kp c o (a.kp c o q nf nc) nf nc,fun c o q nf nc=>?_,fun c o q=>?_⟩
 ·obtain ⟨sl,q2⟩:=a.sl c o q nf nc
  obtain ⟨sl',q3⟩:=b.sl c _ q2 nf nc
  exact ⟨sl',q3⟩
 ·obtain ⟨o',q2⟩:=a.th c o q
  exact b.th c o' q2
theorem jY {fs:List Addr} {e:Addr} {cls:Value} {ch:List Addr} {fr:Option Addr} {Q:Unit->Shared->Prop} (x:fR s.heap e cls ch) (k:∀ h',KeepBut fs ch s.heap h'->fR h' e cls ch->Q () { s with heap:=h' }):wpAny M A (setFlight (.ref e) fr) Q E s:=by
 obtain ⟨hm,⟨oe,vs,he,hc,hdc,hd,hsz,h1⟩,thr⟩:=id x
 unfold setFlight
 rcases h1 with h1 | ⟨T,oT,ts,fl,h1,nT,mT,hT,dT,h3⟩
 ·refine wpAny_bind (wpAny_field he hd h1 ?_)
  rw [if_neg (by decide)]
  exact wpAny_pure (k s.heap ⟨fun b o q _ _=>q,fun b o q _ _=>⟨o.slots,q⟩,fun b o q=>⟨o,q⟩⟩ x)
 ·refine wpAny_bind (wpAny_field he hd h1 ?_)
  rw [if_pos (show (Value.ref T != Value.none)=true from by simp)]
  refine wpAny_setField hT dT (Array.getElem?_eq_some_iff.mp h3).1 (k _ ?_ ?_)
  ·have no:∀ b,b ∉ ch->T ≠ b:=fun b nc z=>nc (z ▸ mT)
   refine ⟨fun b o q _ nc=>(Heap.get?_update_other _ _ (no b nc)).trans q,fun b o q _ nc=>⟨o.slots,(Heap.get?_update_other _ _ (no b nc)).trans q⟩,fun b o q=>?_⟩
   by_cases hb:b=T
   ·subst hb
    exact ⟨_,Heap.get?_update_self _ hT (Obj.isFreed_of_fields (Obj.data_mapFields dT _))⟩
   ·exact ⟨o,(Heap.get?_update_other _ _ (Ne.symm hb)).trans q⟩
  ·have hT':=Heap.get?_update_self (Obj.mapFields (·.setIfInBounds 3 (fr.elim Value.none fun f=>rawInt f))) hT (Obj.isFreed_of_fields (Obj.data_mapFields dT _))
   refine ⟨hm,⟨oe,vs,(Heap.get?_update_other _ _ nT).trans he,hc,hdc,hd,hsz,.inr ⟨T,_,_,fr.elim Value.none fun f=>rawInt f,h1,nT,mT,hT',Obj.data_mapFields dT _,?_⟩⟩,fun b hb=>?_⟩
   ·have:=(Array.getElem?_eq_some_iff.mp h3).1
    simp [this]
   ·by_cases hbT:b=T
    ·subst hbT;exact ⟨_,_,hT',Obj.data_mapFields dT _⟩
    ·obtain ⟨o,ws,q1,q2⟩:=thr b hb
     exact ⟨o,ws,(Heap.get?_update_other _ _ (Ne.symm hbT)).trans q1,q2⟩
theorem vA {base:Heap} {env:Env} {outer:List Env} {L e:Addr} {oe:Obj} {vs:Array Value} {head:Value} {hadNext:Bool} {ch:List Addr} {Q:Unit->Shared->Prop}
  (hfr:A.frames=some (env :: outer)) (hl:s.heap.FunFrames base (env :: outer)) (hf:env.frame=some L) (hm:e ∈ ch) (he:s.heap.get? e=some oe) (hdc:oe.dict=none) (hd:oe.data=.fields vs) (hsz:1 < vs.size) (thr:∀ b ∈ ch,∃ o ws,s.heap.get? b=some o/\o.data=.fields ws)
  (k:∀ h' T,KeepBut (frs (env :: outer)) ch s.heap h'->s.heap.get? T=none->fR h' e oe.cls (T :: ch)->Be h' e->Q () { s with heap:=h' }) :
  wpAny M A (do let a <- frameOf env;let pl <- entryPlaceOf L hadNext;let b <- EntryCells.newEntry head a .none (rawInt L) .none pl;setField (.ref e) 1 b) Q E s:=by
 have nofr:∀ b ∈ ch,b ∉ frs (env :: outer):=fun b hb hm=>by
  obtain ⟨o,ws,q1,q2⟩:=thr b hb
  obtain ⟨_,o',q3,q4⟩:=hl.mem hm
  rw [q1] at q3;cases q3
  exact q4 _ q2
 refine wpAny_bind (wpAny_frameOf_fun hfr hl hf fun h1 hs=>?_)
 refine wpAny_bind (wpAny_entryPlaceOf fun pl hpl=>?_)
 unfold EntryCells.newEntry newFields
 refine wpAny_bind (wpAny_newObj_type ?_ (hpl.sizeOk5 _ _ _ _ _))
 have g1:∀ b o,b ∉ frs (env :: outer)->s.heap.get? b=some o->h1.get? b=some o:=fun b o hb q=>(hs.2.1 b hb).trans q
 have e1:=g1 e oe (nofr e hm) he
 generalize hot:({ cls:=.type "traceback",dict:=none,data:=.fields ([head,.ref L,.none,rawInt L,.none] ++ (if pl.isEmpty then List.replicate 6 Value.none else pl)).toArray }:Obj)=ot
 have e2:=Heap.get?_push_of_some ot e1
 refine wpAny_setField e2 hd hsz ?_
 have ne:h1.objs.size ≠ e:=Nat.ne_of_gt (Heap.lt_size e1)
 have d3:=Obj.data_mapFields hd (·.setIfInBounds 1 (Value.ref h1.objs.size))
 have e3:=Heap.get?_update_self (Obj.mapFields (·.setIfInBounds 1 (Value.ref h1.objs.size))) e2 (Obj.isFreed_of_fields d3)
 have dt:ot.data=.fields ([head,.ref L,.none,rawInt L,.none] ++ (if pl.isEmpty then List.replicate 6 Value.none else pl)).toArray:=by rw [<- hot]
 have nft:ot.isFreed=false:=Obj.isFreed_of_fields dt
 have t3:((h1.push ot).update e (Obj.mapFields (·.setIfInBounds 1 (Value.ref h1.objs.size)))).get? h1.objs.size=some ot:=(Heap.get?_update_other _ _ ne.symm).trans (Heap.get?_push_size h1 nft)
 have at1:(vs.setIfInBounds 1 (Value.ref h1.objs.size))[1]?=some (.ref h1.objs.size):=by simp [hsz]
 refine k _ h1.objs.size ?_ ?_ ?_ ⟨_,_,_,e3,d3,at1⟩
 ·have stay:∀ b o,b ≠ e->h1.get? b=some o->((h1.push ot).update e (Obj.mapFields (·.setIfInBounds 1 (Value.ref h1.objs.size)))).get? b=some o:=fun b o nb q=>by
   rw [Heap.get?_update_other _ _ (Ne.symm nb)]
   exact Heap.get?_push_of_some _ q
  refine ⟨fun b o q nf nc=>stay b o (fun z=>nc (z ▸ hm)) (g1 b o nf q),fun b o q _ nc=>?_,fun b o q=>?_⟩
  ·obtain ⟨sl,q2⟩:=hs.2.2 b o q
   exact ⟨sl,stay b _ (fun z=>nc (z ▸ hm)) q2⟩
  ·by_cases hb:b=e
   ·subst hb
    exact ⟨_,e3⟩
   ·obtain ⟨sl,q2⟩:=hs.2.2 b o q
    exact ⟨_,stay b _ hb q2⟩
 ·cases q:s.heap.get? h1.objs.size with
  | none=>rfl
  | some o =>
   obtain ⟨sl,q2⟩:=hs.2.2 _ o q
   exact absurd (Heap.lt_size q2) (Nat.lt_irrefl _)
 ·refine ⟨List.mem_cons_of_mem _ hm,⟨_,_,e3,Obj.cls_mapFields _ _,(oq _ _).trans hdc,d3,by simpa using hsz,.inr ⟨h1.objs.size,_,_,rawInt L,at1,ne,List.mem_cons_self,t3,dt,?_⟩⟩,fun b hb=>?_⟩
  ·simp
  ·rcases List.mem_cons.mp hb with z | hb
   ·subst z;exact ⟨_,_,t3,dt⟩
   ·by_cases hbe:b=e
    ·subst hbe;exact ⟨_,_,e3,d3⟩
    ·obtain ⟨o,ws,q1,q2⟩:=thr b hb
     have q3:=g1 b o (nofr b hb) q1
     refine ⟨o,ws,?_,q2⟩
     rw [Heap.get?_update_other _ _ (Ne.symm hbe)]
     exact Heap.get?_push_of_some _ q3
theorem rS {base:Heap} {env:Env} {outer:List Env} {L e:Addr} {cls:Value} {ch:List Addr} {Q:Unit->Shared->Prop}
  (hfr:A.frames=some (env :: outer)) (hl:s.heap.FunFrames base (env :: outer)) (hf:env.frame=some L) (x:fR s.heap e cls ch)
  (k:∀ h' ch',KeepBut (frs (env :: outer)) ch s.heap h'->(∀ b ∈ ch',b ∈ ch\/s.heap.get? b=none)->fR h' e cls ch'->Be h' e->Q () { s with heap:=h' }) :
  wpAny M A (noteFrame (.ref e) env) Q E s:=by
 obtain ⟨hm,⟨oe,vs,he,hc,hdc,hd,hsz,h1⟩,thr⟩:=id x
 subst hc
 have new:∀ (T:Addr),s.heap.get? T=none->∀ b ∈ T :: ch,b ∈ ch\/s.heap.get? b=none:=fun T nT b hb=>by
  rcases List.mem_cons.mp hb with rfl | hb
  ·exact .inr nT
  ·exact .inl hb
 unfold noteFrame
 simp only [hf]
 rcases h1 with h1 | ⟨T,oT,ts,fl,h1,nT,mT,hT,dT,h3⟩
 ·refine wpAny_bind (wpAny_field he hd h1 ?_)
  rw [if_neg (by decide)]
  exact vA hfr hl hf hm he hdc hd hsz thr fun h' T kb nT x' tb=>k h' (T :: ch) kb (new T nT) x' tb
 ·refine wpAny_bind (wpAny_field he hd h1 ?_)
  rw [if_pos (show (Value.ref T != Value.none)=true from by simp)]
  refine wpAny_bind (wpAny_field hT dT h3 ?_)
  by_cases hfl:(fl == rawInt L)=true
  ·rw [if_pos hfl]
   exact wpAny_pure (k s.heap ch ⟨fun b o q _ _=>q,fun b o q _ _=>⟨o.slots,q⟩,fun b o q=>⟨o,q⟩⟩ (fun b hb=>.inl hb) x ⟨oe,vs,T,he,hd,h1⟩)
  ·rw [if_neg hfl]
   refine wpAny_bind (wpAny_setField hT dT (Array.getElem?_eq_some_iff.mp h3).1 ?_)
   have oth:∀ b,b ≠ T->(s.heap.update T (Obj.mapFields (·.setIfInBounds 3 Value.none))).get? b=s.heap.get? b:=fun b hb=>Heap.get?_update_other _ _ (Ne.symm hb)
   have dT':=Obj.data_mapFields dT (·.setIfInBounds 3 Value.none)
   have hT':=Heap.get?_update_self (Obj.mapFields (·.setIfInBounds 3 Value.none)) hT (Obj.isFreed_of_fields dT')
   have kb:KeepBut (frs (env :: outer)) ch s.heap (s.heap.update T (Obj.mapFields (·.setIfInBounds 3 Value.none))):=by
    refine ⟨fun b o q _ nc=>(oth b fun z=>nc (z ▸ mT)).trans q,fun b o q _ nc=>⟨o.slots,(oth b fun z=>nc (z ▸ mT)).trans q⟩,fun b o q=>?_⟩
    by_cases hb:b=T
    ·subst hb;exact ⟨_,hT'⟩
    ·exact ⟨o,(oth b hb).trans q⟩
   refine vA hfr (hl.of_keeps fun b o hb hnf=>⟨o,(oth b fun z=>?_).trans hb,rfl⟩) hf hm ((oth e (Ne.symm nT)).trans he) hdc hd hsz (fun b hb=>?_) fun h' T' kb' nT' x' tb=>k h' (T' :: ch) (kb.trans kb') (new T' ?_) x' tb
   ·subst z;rw [hT] at hb;cases hb;exact hnf _ dT
   ·by_cases hbT:b=T
    ·subst hbT;exact ⟨_,_,hT',dT'⟩
    ·obtain ⟨o,ws,q1,q2⟩:=thr b hb
     exact ⟨o,ws,(oth b hbT).trans q1,q2⟩
   ·cases q:s.heap.get? T' with
    | none=>rfl
    | some o=>obtain ⟨o',q2⟩:=kb.th _ o q;rw [nT'] at q2;cases q2
theorem KeepBut.wide {fs ch ch':List Addr} {h h' g:Heap} (k:KeepBut fs ch' h' g) (hn:∀ b ∈ ch',b ∈ ch\/h.get? b=none) (k0:KeepBut fs ch h h'):KeepBut fs ch h g:=by
 have nn:∀ b o,h.get? b=some o->b ∉ ch->b ∉ ch':=fun b o q nc hb=>by
  rcases hn b hb with z | z
  ·exact nc z
  ·rw [q] at z;cases z
 refine ⟨fun b o q nf nc=>k.kp b o (k0.kp b o q nf nc) nf (nn b o q nc),fun b o q nf nc=>?_,fun b o q=>?_⟩
 ·obtain ⟨sl,q2⟩:=k0.sl b o q nf nc
  obtain ⟨sl',q3⟩:=k.sl b _ q2 nf (nn b o q nc)
  exact ⟨sl',q3⟩
 ·obtain ⟨o',q2⟩:=k0.th b o q
  exact k.th b o' q2
theorem pC {base:Heap} {env:Env} {outer:List Env} {L e:Addr} {cls:Value} {ch:List Addr} {Q:Unit->Shared->Prop}
  (hfr:A.frames=some (env :: outer)) (hl:s.heap.FunFrames base (env :: outer)) (hf:env.frame=some L) (x:fR s.heap e cls ch)
  (k:∀ h' ch',KeepBut (frs (env :: outer)) ch s.heap h'->(∀ b ∈ ch',b ∈ ch\/s.heap.get? b=none)->fR h' e cls ch'->Q () { s with heap:=h' }) :
  wpAny M A (noteFrame (.ref e) env) (fun _ s'=>wpAny M A (setFlight (.ref e) none) Q E s') E s :=
 rS hfr hl hf x fun h1 ch1 k1 n1 x1 _=>jY (fs:=frs (env :: outer)) x1 fun h2 k2 x2=>k h2 ch1 (k2.wide n1 k1) n1 x2
theorem yU {base:Heap} {env:Env} {outer:List Env} {L e:Addr} {cls:Value} {ch:List Addr}
  (hfr:A.frames=some (env :: outer)) (hl:s.heap.FunFrames base (env :: outer)) (hf:env.frame=some L) (x:fR s.heap e cls ch)
  (k:∀ h' ch',KeepBut (frs (env :: outer)) ch s.heap h'->(∀ b ∈ ch',b ∈ ch\/s.heap.get? b=none)->fR h' e cls ch'->E (.ref e) { s with heap:=h' }) :
  notedBy M A env (cameBackBy M A env E) (.ref e) s:=by
 unfold notedBy
 refine rS hfr hl hf x fun h1 ch1 k1 n1 x1 zz0=>?_
 obtain ⟨oe,vs,T,he,hd,h1'⟩:=zz0
 unfold cameBackBy
 refine wpAny_bind (wpAny_field he hd h1' ?_)
 rw [if_neg (show ¬ ((Value.ref T == Value.none)=true) from by simp)]
 exact jY (fs:=frs (env :: outer)) x1 fun h2 k2 x2=>k h2 ch1 (k2.wide n1 k1) n1 x2
end
theorem _root_.L2.Inv.frn {X:Cx} {pins:List (Addr × Obj)} {σ:St} {H:Hp} {s:Shared} (I:Inv X pins σ H s):∀ b ∈ X.fs,H b=none:=fun b hb=>by
 obtain ⟨_,o,ho,_⟩:=I.ok.funs.mem hb
 exact I.base.free b o ho (I.ok.frf b hb) fun z=>I.ok.exfs b z hb
def sZ (X:Cx) (pins:List (Addr × Obj)) (H:Hp) (b:Addr):Prop :=
 H b=none/\X.s₀.heap.get? b=none/\b ≠ X.env.locals/\b ∉ frs X.stack/\(∀ x c,X.env.cells.lookup x=some c->c ≠ b)/\∀ p ∈ X.pn ++ pins,p.1 ≠ b
section
variable {X:Cx} {pins:List (Addr × Obj)} {σ:St} {H:Hp} {s:Shared} {h':Heap} {ch:List Addr}
theorem wp {P:Program} {w:World} {H:Hp} {h:Heap} (x:HOk P w H h) {a:Addr} {o:HO} (e:H a=some o):∃ u,h.get? a=some u:=by
 have q:=x a o e
 clear e
 induction o with
 | lst xs=>obtain ⟨_,its,n,_,e1⟩:=q;exact ⟨_,e1⟩
 | tup xs=>obtain ⟨_,its,_,o,e1,_⟩:=q;exact ⟨_,e1⟩
 | dK kvs=>obtain ⟨_,_,vs,_,o,es,ep,e1,_⟩:=q;exact ⟨_,e1⟩
 | dT kvs=>obtain ⟨_,_,xs,_,o,es,ep,e1,_⟩:=q;exact ⟨_,e1⟩
 | set S n=>obtain ⟨o,es,ep,et,e1,_⟩:=q;exact ⟨_,e1⟩
 | ins C dx fs=>obtain ⟨_,_,_,e1,_⟩:=q;exact ⟨_,e1⟩
 | own y=>exact q
 | xd fs=>obtain ⟨mA,⟨o,es,ep,e1,_⟩,_⟩:=q;exact ⟨_,e1⟩
 | rng lo hi=>obtain ⟨t,u,v,e1⟩:=q;exact ⟨_,e1⟩
 | frz ob u _=>exact ⟨_,q.1⟩
 | tbl ps=>exact ⟨_,q⟩
 | met f y=>exact ⟨_,q⟩
 | ext φ=>exact q.2.1
theorem Inv.callX (I:Inv X pins σ H s) (k:KeepBut (frs X.stack) ch s.heap h') (hch:∀ b ∈ ch,sZ X pins H b):Inv X pins σ H { s with heap:=h' }:=by
 have neL:∀ b o,X.s₀.heap.get? b=some o->b ≠ X.env.locals:=fun b o e=>Nat.ne_of_lt (Nat.lt_of_lt_of_le (Heap.lt_size e) I.ok.above)
 have nch:∀ b o,X.s₀.heap.get? b=some o->b ∉ ch:=fun b o e hb=>by rw [(hch b hb).2.1] at e;cases e
 have any:∀ b o,s.heap.get? b=some o->b ∉ ch->∃ sl,h'.get? b=some { o with slots:=sl }:=fun b o q n=>by
  by_cases hb:b ∈ frs X.stack
  ·exact k.sl b o q hb n
  ·exact ⟨o.slots,k.kp b o q hb n⟩
 have kept:∀ b o,s.heap.get? b=some o->b ≠ X.env.locals->b ∉ X.fs->b ∉ ch->h'.get? b=some o:=fun b o q n1 n2 n3=>k.kp b o q (fun z=>(List.mem_cons.mp (I.stkSub b z)).elim n1 n2) n3
 have nol:X.env.locals ∉ ch:=fun z=>(hch _ z).2.2.1 rfl
 have cel:∀ x c,X.env.cells.lookup x=some c->∀ v,s.heap.IsCell c v->h'.IsCell c v:=fun x c e v zz1=>by
  obtain ⟨o,ho,hd⟩:=zz1
  obtain ⟨sl,q⟩:=any c o ho fun z=>(hch c z).2.2.2.2.1 x c e rfl
  exact ⟨_,q,hd⟩
 have trk:∀ a o u,H a=some o->s.heap.get? a=some u->h'.get? a=some u:=fun a o u e q=>by
  refine k.kp a u q (fun z=>?_) fun z=>by rw [(hch a z).1] at e;cases e
  rcases List.mem_cons.mp (I.stkSub a z) with z | z
  ·rw [z,I.free] at e;cases e
  ·rw [I.frn a z] at e;cases e
 refine ⟨I.ok,I.os,I.bare,⟨fun b o e n hb hx=>?_,fun b o e n hb hx=>?_,I.base.free,fun b o e hx=>?_,I.base.tups,I.base.frzs,I.base.tbls⟩,?_,fun x c e=>?_,I.free,I.freeC,fun p hp=>?_,fun a o e=>?_,I.len⟩
 ·exact kept b o (I.base.keep b o e n hb hx) (neL b o e) hb (nch b o e)
 ·obtain ⟨sl,q⟩:=I.base.slot b o e n hb hx
  obtain ⟨sl',q'⟩:=any b _ q (nch b o e)
  exact ⟨sl',q'⟩
 ·obtain ⟨o',q⟩:=I.base.there b o e hx
  exact k.th b o' q
 ·obtain ⟨m,⟨o,es,ep,ho,hd,r⟩,hl⟩:=I.loc
  obtain ⟨sl,q⟩:=any _ o ho nol
  refine ⟨m,⟨_,es,ep,q,hd,r⟩,fun i x v h1 h2 h3=>?_⟩
  obtain ⟨u,ru,lk⟩:=hl i x v h1 h2 h3
  refine ⟨u,ru,?_⟩
  rcases lk with lk | ⟨kk,c,hc,ic⟩
  ·exact .inl lk
  ·exact .inr ⟨kk,c,hc,cel x c hc _ ic⟩
 ·obtain ⟨v,q⟩:=I.cell x c e
  exact ⟨v,cel x c e v q⟩
 ·obtain ⟨q1,q2,q3,q4,q5⟩:=I.pin p hp
  exact ⟨kept _ _ q1 q3 q4 fun z=>(hch _ z).2.2.2.2.2 p hp rfl,q2,q3,q4,q5⟩
 ·refine (I.hok a o e).stay (fun b u hb q=>?_) (fun b q=>q) fun b xs q=>q
  rcases hb with rfl | hb
  ·exact trk _ _ _ e q
  ·exact trk _ _ _ hb q
end
inductive D where
 | non | bl (b:Bool) | int (i:Int) | lst (xs:List D) | tup (xs:List D) | ob (e r t:D) | scr (ns:List Int) | exn (c:Nat)
abbrev KA:=Int × Int × List Int
inductive OK where
 | s | l (k:OK) | p (j k:OK)
 deriving DecidableEq
inductive Slt where
 | shr (d:D) | own (xs:List D) | dic (kvs:List (KA × D)) | tre (k:OK) (d:D)
abbrev Rho:=List (Option Slt)
structure RB where
 rho:Rho
 ad:Nat->List Addr
instance:Coe RB Rho:=⟨RB.rho⟩
inductive R (α:Type) where
 | val (a:α) | exc (c:Nat) | bad
def R.bind {α β:Type}:R α->(α->R β)->R β
 | .val a,f=>f a
 | .exc c,_=>.exc c
 | .bad,_=>.bad
inductive Out where
 | nx (ρ:Rho) | rt (d:D) | bk (ρ:Rho) | ct (ρ:Rho)
def exP (K:Frag) (c:Nat) (a:Addr):Heap->Prop:=fun h=>∃ ox Cc,h.get? a=some ox/\ox.cls=.ref Cc/\ox.dict=none/\(∃ vs,ox.data=.fields vs)/\nsIn K mainGlobals (exN c)=some (some (.ref Cc))
def D1 (e r t:V):List (Str × V):=[("ends",e),("rests",r),("table",t)]
mutual
inductive Has (K:Frag) (C:Addr) (H:Hp):V->D->Prop where
 | non:Has K C H .non .non
 | bl (b:Bool):Has K C H (.bl b) (.bl b)
 | int (i:Int):Has K C H (.int i) (.int i)
 | lst {a:Addr} {vs:List V} {xs:List D}:H a=some (.lst vs)->HasL K C H vs xs->Has K C H (.ref a) (.lst xs)
 | tup {a:Addr} {vs:List V} {xs:List D}:H a=some (.tup vs)->HasL K C H vs xs->Has K C H (.ref a) (.tup xs)
 | scr {a:Addr} {ns:List Int}:SqL K H a (ns.map V.int)->Has K C H (.ref a) (.scr ns)
 | exn {a:Addr} {c:Nat}:H a=some (.ext (exP K c a))->Has K C H (.ref a) (.exn c)
 | ob {a dx:Addr} {ve vr vt:V} {e r t:D}:H a=some (.ins C dx (D1 ve vr vt))->Has K C H ve e->Has K C H vr r->Has K C H vt t->Has K C H (.ref a) (.ob e r t)
inductive HasL (K:Frag) (C:Addr) (H:Hp):List V->List D->Prop where
 | nil:HasL K C H [] []
 | cons {v:V} {d:D} {vs:List V} {ds:List D}:Has K C H v d->HasL K C H vs ds->HasL K C H (v :: vs) (d :: ds)
end
section
variable {K:Frag} {C:Addr} {H H':Hp}
mutual
theorem Has.mono (s:Same H H'):∀ {v:V} {d:D},Has K C H v d->Has K C H' v d
 | _,_,.non=>.non
 | _,_,.bl b=>.bl b
 | _,_,.int i=>.int i
 | _,_,.lst q h=>.lst (s _ _ q) (HasL.mono s h)
 | _,_,.tup q h=>.tup (s _ _ q) (HasL.mono s h)
 | _,_,.scr q=>.scr (s.seq q)
 | _,_,.exn q=>.exn (s _ _ q)
 | _,_,.ob q a b c=>.ob (s _ _ q) (Has.mono s a) (Has.mono s b) (Has.mono s c)
theorem HasL.mono (s:Same H H'):∀ {vs:List V} {ds:List D},HasL K C H vs ds->HasL K C H' vs ds
 | _,_,.nil=>.nil
 | _,_,.cons a b=>.cons (Has.mono s a) (HasL.mono s b)
end
theorem HasL.len:∀ {vs:List V} {ds:List D},HasL K C H vs ds->vs.length=ds.length
 | _,_,.nil=>rfl
 | _,_,.cons _ b=>by simp [HasL.len b]
theorem HasL.app:∀ {vs:List V} {ds:List D} {ws:List V} {es:List D},HasL K C H vs ds->HasL K C H ws es->HasL K C H (vs ++ ws) (ds ++ es)
 | _,_,_,_,.nil,h=>h
 | _,_,_,_,.cons a b,h=>.cons a (HasL.app b h)
theorem HasL.get:∀ {vs:List V} {ds:List D} {i:Nat} {d:D},HasL K C H vs ds->ds[i]?=some d->∃ v,vs[i]?=some v/\Has K C H v d
 | _,_,_,_,.nil,e=>by simp at e
 | _,_,0,_,.cons a _,e=>by simp at e;subst e;exact ⟨_,rfl,a⟩
 | _,_,i + 1,d,.cons _ b,e=>by
  obtain ⟨v,h1,h2⟩:=HasL.get (i:=i) (d:=d) b (by simpa using e)
  exact ⟨v,by simpa using h1,h2⟩
theorem HasL.get':∀ {vs:List V} {ds:List D} {i:Nat} {v:V},HasL K C H vs ds->vs[i]?=some v->∃ d,ds[i]?=some d/\Has K C H v d
 | _,_,_,_,.nil,e=>by simp at e
 | _,_,0,_,.cons a _,e=>by simp at e;subst e;exact ⟨_,rfl,a⟩
 | _,_,i + 1,v,.cons _ b,e=>by
  obtain ⟨d,h1,h2⟩:=HasL.get' (i:=i) (v:=v) b (by simpa using e)
  exact ⟨d,by simpa using h1,h2⟩
theorem HasL.drop:∀ {vs:List V} {ds:List D} (n:Nat),HasL K C H vs ds->HasL K C H (vs.drop n) (ds.drop n)
 | _,_,0,h=>h
 | _,_,_ + 1,.nil=>.nil
 | _,_,n + 1,.cons _ b=>HasL.drop n b
theorem HasL.take:∀ {vs:List V} {ds:List D} (n:Nat),HasL K C H vs ds->HasL K C H (vs.take n) (ds.take n)
 | _,_,0,_=>.nil
 | _,_,_ + 1,.nil=>.nil
 | _,_,n + 1,.cons a b=>.cons a (HasL.take n b)
theorem HasL.ints:∀ ns:List Int,HasL K C H (ns.map V.int) (ns.map D.int)
 | []=>.nil
 | n :: ns=>.cons (.int n) (HasL.ints ns)
end
def ya:Slt->Bool
 | .shr _=>false
 | _=>true
def Own (ρ:RB) (σ:St) (b:Addr):Prop:=∃ i:Nat,b ∈ ρ.ad i
open Classical in
def msk (ρ:RB) (σ:St) (H:Hp):Hp:=fun b=>if Own ρ σ b then none else H b
section
variable {ρ:RB} {σ:St} {H H':Hp} {b:Addr} {o:HO}
theorem msk_some:msk ρ σ H b=some o ↔ ¬ Own ρ σ b/\H b=some o:=by
 unfold msk
 by_cases h:Own ρ σ b
 ·rw [if_pos h];exact ⟨fun e=>(by cases e),fun e=>absurd h e.1⟩
 ·rw [if_neg h];exact ⟨fun e=>⟨h,e⟩,fun e=>e.2⟩
theorem msk_sub:Same (msk ρ σ H) H:=fun b o e=>(msk_some.mp e).2
theorem bu (s:Same H H'):Same (msk ρ σ H) (msk ρ σ H'):=fun b o e=>msk_some.mpr ⟨(msk_some.mp e).1,s _ _ (msk_some.mp e).2⟩
end
def mI (k:KA):Int:=reduceHash (Builtin.Tuple.tupleHashOf [hashInt k.1,hashInt k.2.1,reduceHash (Builtin.Tuple.tupleHashOf (k.2.2.map hashInt))])
def EN (x:KA × Addr × Value):DictEntry:=⟨mI x.1,.ref x.2.1,x.2.2⟩
def dOk (a:Addr) (xs:List (KA × Addr × Value)) (h:Heap):Prop:=(a == sysModules)=false/\xs.length<=100001/\∃ o es ep,h.get? a=some o/\o.ExactDict/\o.data=.dict es ep/\es.toList=xs.map EN
def kK (a:Addr) (xs:List (KA × Addr × Value)):HO:=.ext (dOk a xs)
def KeyIn (M:Hp) (k:KA) (a:Addr):Prop:=∃ ta,M a=some (.tup [.int k.1,.int k.2.1,.ref ta])/\M ta=some (.tup (k.2.2.map V.int))
def EntOk (K:Frag) (C:Addr) (M:Hp) (p:KA × D) (q:KA × Addr × Value):Prop:=p.1=q.1/\KeyIn M p.1 q.2.1/\∃ v,RelV v q.2.2/\Has K C M v p.2
structure DicAt (K:Frag) (C:Addr) (M H:Hp) (a:Addr) (kvs:List (KA × D)):Prop where
 ex:∃ xs,H a=some (kK a xs)/\(xs.map (·.1)).Nodup/\Paired (EntOk K C M) kvs xs
theorem KeyIn.mono {M M':Hp} {k:KA} {a:Addr} (m:Same M M') (h:KeyIn M k a):KeyIn M' k a:=by
 obtain ⟨ta,h1,h2⟩:=h
 exact ⟨ta,m _ _ h1,m _ _ h2⟩
theorem EntOk.mono {K:Frag} {C:Addr} {M M':Hp} {p:KA × D} {q:KA × Addr × Value} (m:Same M M') (h:EntOk K C M p q):EntOk K C M' p q:=by
 obtain ⟨h1,h2,v,h3,h4⟩:=h
 exact ⟨h1,h2.mono m,v,h3,h4.mono m⟩
theorem DicAt.mono {K:Frag} {C:Addr} {M M' H H':Hp} {a:Addr} {kvs:List (KA × D)} (e:∀ o,H a=some o->H' a=some o) (m:Same M M') (h:DicAt K C M H a kvs):DicAt K C M' H' a kvs:=by
 obtain ⟨xs,h1,h2,h3⟩:=h.ex
 exact ⟨xs,e _ h1,h2,Paired.mapP h3 fun p q z=>z.mono m⟩
mutual
inductive Tre (K:Frag) (C:Addr) (M H:Hp):OK->V->D->List Addr->Prop where
 | s {v:V} {d:D}:Has K C M v d->Tre K C M H .s v d []
 | l {k:OK} {a:Addr} {vs:List V} {xs:List D} {A:List Addr}:H a=some (.lst vs)->TreP K C M H (vs.map fun _=>k) vs xs A->a ∉ A->Tre K C M H (.l k) (.ref a) (.lst xs) (a :: A)
 | p {j k:OK} {a:Addr} {vs:List V} {xs:List D} {A:List Addr}:H a=some (.tup vs)->TreP K C M H [j,k] vs xs A->Tre K C M H (.p j k) (.ref a) (.tup xs) A
inductive TreP (K:Frag) (C:Addr) (M H:Hp):List OK->List V->List D->List Addr->Prop where
 | nil:TreP K C M H [] [] [] []
 | cons {k:OK} {ks:List OK} {v:V} {vs:List V} {d:D} {ds:List D} {A B:List Addr}:Tre K C M H k v d A->TreP K C M H ks vs ds B->(∀ a ∈ A,a ∉ B)->TreP K C M H (k :: ks) (v :: vs) (d :: ds) (A ++ B)
end
structure Stay (A:List Addr) (H H':Hp):Prop where
 at_:∀ a ∈ A,∀ o,H a=some o->H' a=some o
 tup:∀ a vs,H a=some (.tup vs)->H' a=some (.tup vs)
section
variable {K:Frag} {C:Addr} {H H' M M':Hp}
theorem Stay.of {A:List Addr} (s:Same H H'):Stay A H H':=⟨fun a _ o e=>s a o e,fun a vs e=>s a _ e⟩
theorem Stay.sub {A B:List Addr} (h:Stay A H H') (hs:∀ a ∈ B,a ∈ A):Stay B H H':=⟨fun a ha=>h.at_ a (hs a ha),h.tup⟩
mutual
theorem Tre.stay (m:Same M M'):∀ {k:OK} {v:V} {d:D} {A:List Addr},Stay A H H'->Tre K C M H k v d A->Tre K C M' H' k v d A
 | _,_,_,_,_,.s h=>.s (h.mono m)
 | _,_,_,_,y,.l e h n=>.l (y.at_ _ List.mem_cons_self _ e) (TreP.stay m (y.sub fun _ ha=>List.mem_cons_of_mem _ ha) h) n
 | _,_,_,_,y,.p e h=>.p (y.tup _ _ e) (TreP.stay m y h)
theorem TreP.stay (m:Same M M'):∀ {ks:List OK} {vs:List V} {ds:List D} {A:List Addr},Stay A H H'->TreP K C M H ks vs ds A->TreP K C M' H' ks vs ds A
 | _,_,_,_,_,.nil=>.nil
 | _,_,_,_,y,.cons h t n=>.cons (Tre.stay m (y.sub fun _ ha=>List.mem_append_left _ ha) h) (TreP.stay m (y.sub fun _ ha=>List.mem_append_right _ ha) t) n
end
mutual
theorem Tre.lists:∀ {k:OK} {v:V} {d:D} {A:List Addr},Tre K C M H k v d A->∀ a ∈ A,∃ vs,H a=some (.lst vs)
 | _,_,_,_,.s _,a,ha=>by cases ha
 | _,_,_,_,.l e h _,a,ha=>by
  rcases List.mem_cons.mp ha with rfl | ha
  ·exact ⟨_,e⟩
  ·exact TreP.lists h a ha
 | _,_,_,_,.p _ h,a,ha=>TreP.lists h a ha
theorem TreP.lists:∀ {ks:List OK} {vs:List V} {ds:List D} {A:List Addr},TreP K C M H ks vs ds A->∀ a ∈ A,∃ vs,H a=some (.lst vs)
 | _,_,_,_,.nil,a,ha=>by cases ha
 | _,_,_,_,.cons h t _,a,ha=>by
  rcases List.mem_append.mp ha with ha | ha
  ·exact Tre.lists h a ha
  ·exact TreP.lists t a ha
end
theorem TreP.flat:∀ {vs us:List V} {ds:List D} {A:List Addr},TreP K C M H (us.map fun _=>OK.s) vs ds A->A=[]/\HasL K C M vs ds
 | [],us,_,_,h=>by cases us with
  | nil=>cases h;exact ⟨rfl,.nil⟩
  | cons _ _=>cases h
 | v :: vs,us,_,_,h=>by cases us with
  | nil=>cases h
  | cons _ us=>cases h with
   | cons h t _=>cases h with
    | s h=>obtain ⟨e,t'⟩:=TreP.flat t;subst e;exact ⟨rfl,.cons h t'⟩
end
def SlotOk (K:Frag) (C:Addr) (M H:Hp) (A:List Addr):Slt->Option (Option V)->Prop
 | .shr d,o=>∃ v,o=some (some v)/\Has K C M v d
 | .own xs,o=>∃ a vs,o=some (some (.ref a))/\a ∈ A/\H a=some (.lst vs)/\HasL K C M vs xs
 | .dic kvs,o=>∃ a,o=some (some (.ref a))/\a ∈ A/\DicAt K C M H a kvs
 | .tre k d,o=>∃ v B,o=some (some v)/\(∀ a ∈ B,a ∈ A)/\Tre K C M H k v d B
structure Rel (K:Frag) (C:Addr) (H0:Hp) (ρ:RB) (σ:St) (H:Hp):Prop where
 len:ρ.rho.length=σ.length
 keep:Same H0 (msk ρ σ H)
 at_:∀ (i:Nat) sl,ρ.rho[i]?=some (some sl)->SlotOk K C (msk ρ σ H) H (ρ.ad i) sl σ[i]?
 inj:∀ (i j:Nat) a,a ∈ ρ.ad i->a ∈ ρ.ad j->i=j
 kin:∀ (i:Nat) a,a ∈ ρ.ad i->(∃ vs,H a=some (.lst vs))\/∃ xs,H a=some (kK a xs)
 bnd:∀ (i:Nat) a,a ∈ ρ.ad i->i < ρ.rho.length
def wK (K:Frag) (C:Addr) (H0:Hp) (ρ:Rho) (σ:St) (H:Hp):Prop:=∃ β:RB,β.rho=ρ/\Rel K C H0 β σ H
def RB.put (ρ:RB) (i:Nat) (sl:Slt) (A:List Addr):RB:=⟨ρ.rho.set i (some sl),fun j=>if j=i then (if i < ρ.rho.length then A else []) else ρ.ad j⟩
section
variable {K:Frag} {C:Addr} {H0 H H' M M':Hp} {ρ:RB} {σ:St}
theorem SlotOk.stay {A:List Addr} {sl:Slt} {o:Option (Option V)} (y:Stay A H H') (m:Same M M') (h:SlotOk K C M H A sl o):SlotOk K C M' H' A sl o:=by
 cases sl with
 | shr d=>obtain ⟨v,e,h⟩:=h;exact ⟨v,e,h.mono m⟩
 | own xs=>obtain ⟨a,vs,e,n,q,h⟩:=h;exact ⟨a,vs,e,n,y.at_ _ n _ q,h.mono m⟩
 | dic kvs=>obtain ⟨a,e,n,h⟩:=h;exact ⟨a,e,n,h.mono (fun o q=>y.at_ _ n _ q) m⟩
 | tre k d=>obtain ⟨v,B,e,n,h⟩:=h;exact ⟨v,B,e,n,h.stay m (y.sub n)⟩
theorem SlotOk.mono {A:List Addr} {sl:Slt} {o:Option (Option V)} (s:Same H H') (m:Same M M') (h:SlotOk K C M H A sl o):SlotOk K C M' H' A sl o:=h.stay (.of s) m
theorem Rel.mono (r:Rel K C H0 ρ σ H) (s:Same H H'):Rel K C H0 ρ σ H' :=
 ⟨r.len,r.keep.trans (bu s),fun i sl e=>(r.at_ i sl e).mono s (bu s),r.inj,fun i a h=>(r.kin i a h).imp (fun ⟨vs,e⟩=>⟨vs,s _ _ e⟩) fun ⟨xs,e⟩=>⟨xs,s _ _ e⟩,r.bnd⟩
theorem Rel.rebase (r:Rel K C H0 ρ σ H):Rel K C (msk ρ σ H) ρ σ H:=⟨r.len,Same.refl _,r.at_,r.inj,r.kin,r.bnd⟩
theorem Rel.base {H1:Hp} (r:Rel K C H0 ρ σ H) (s:Same H1 H0):Rel K C H1 ρ σ H:=⟨r.len,s.trans r.keep,r.at_,r.inj,r.kin,r.bnd⟩
theorem Rel.ownAt (r:Rel K C H0 ρ σ H) {b:Addr} (h:Own ρ σ b):H b ≠ none:=by
 obtain ⟨i,h⟩:=h
 rcases r.kin i b h with ⟨vs,e⟩ | ⟨xs,e⟩ <;> (rw [e];exact fun z=>by cases z)
theorem Rel.new (r:Rel K C H0 ρ σ H) {p:Addr} {o:HO} (h:H p=none):msk ρ σ (upd H p o) p=some o :=
 msk_some.mpr ⟨fun z=>r.ownAt z h,bp⟩
theorem bc {p:Addr} {o:HO} (h:H p=none):Same H (upd H p o):=fun b u e=>by
 rw [aO (bE e h)];exact e
theorem ik {i j:Nat} {sl:Slt} {A:List Addr} {a:Addr} (h:a ∈ (ρ.put i sl A).ad j):(j=i/\i < ρ.rho.length/\a ∈ A)\/(j ≠ i/\a ∈ ρ.ad j):=by
 unfold RB.put at h
 dsimp only at h
 split at h
 ·rename_i e
  split at h
  ·exact .inl ⟨e,‹_›,h⟩
  ·cases h
 ·exact .inr ⟨‹_›,h⟩
theorem BE {i j:Nat} {sl sl':Slt} {A:List Addr} (h:(ρ.put i sl A).rho[j]?=some (some sl')):(j=i/\i < ρ.rho.length/\sl'=sl)\/(j ≠ i/\ρ.rho[j]?=some (some sl')):=by
 unfold RB.put at h
 dsimp only at h
 by_cases e:i=j
 ·subst e
  rw [List.getElem?_set] at h
  simp only [if_true] at h
  split at h
  ·cases h;exact .inl ⟨rfl,‹_›,rfl⟩
  ·cases h
 ·rw [List.getElem?_set_ne e] at h
  exact .inr ⟨fun z=>e z.symm,h⟩
theorem BD {i:Nat} {sl:Slt} {A:List Addr} {a:Addr} (hi:i < ρ.rho.length):(ρ.put i sl A).ad i=A:=by
 unfold RB.put
 dsimp only
 rw [if_pos rfl,if_pos hi]
theorem mD {i j:Nat} {sl:Slt} {A:List Addr} (h:j ≠ i):(ρ.put i sl A).ad j=ρ.ad j:=by
 unfold RB.put
 dsimp only
 rw [if_neg h]
theorem Rel.put (r:Rel K C H0 ρ σ H) {i:Nat} {sl:Slt} {A:List Addr} {σ':St} (hl:σ'.length=σ.length) (ho:∀ j:Nat,j ≠ i->σ'[j]?=σ[j]?)
  (fr:∀ a ∈ A,a ∈ ρ.ad i\/H a=none) (st:∀ j:Nat,j ≠ i->Stay (ρ.ad j) H H') (ks:∀ b o,msk ρ σ H b=some o->H' b=some o) (kA:∀ a ∈ A,(∃ vs,H' a=some (.lst vs))\/∃ xs,H' a=some (kK a xs))
  (h:i < ρ.rho.length->Same (msk ρ σ H) (msk (ρ.put i sl A) σ' H')->SlotOk K C (msk (ρ.put i sl A) σ' H') H' A sl σ'[i]?):Rel K C H0 (ρ.put i sl A) σ' H':=by
 have own:∀ b,Own (ρ.put i sl A) σ' b->Own ρ σ b\/H b=none:=fun b z=>by
  obtain ⟨j,z⟩:=z
  rcases ik z with ⟨_,_,z⟩ | ⟨_,z⟩
  ·rcases fr b z with z | z
   ·exact .inl ⟨i,z⟩
   ·exact .inr z
  ·exact .inl ⟨j,z⟩
 have sub:Same (msk ρ σ H) (msk (ρ.put i sl A) σ' H'):=fun b o e=>by
  obtain ⟨h1,h2⟩:=msk_some.mp e
  refine msk_some.mpr ⟨fun z=>?_,ks b o e⟩
  rcases own b z with z | z
  ·exact h1 z
  ·rw [z] at h2;cases h2
 have kin':∀ (j:Nat) a,j ≠ i->a ∈ ρ.ad j->(∃ vs,H' a=some (.lst vs))\/∃ xs,H' a=some (kK a xs):=fun j a hj ha=>(r.kin j a ha).imp (fun ⟨vs,e⟩=>⟨vs,(st j hj).at_ a ha _ e⟩) fun ⟨xs,e⟩=>⟨xs,(st j hj).at_ a ha _ e⟩
 refine ⟨?_,r.keep.trans sub,fun j sl' e=>?_,fun j k a x y=>?_,fun j a x=>?_,fun j a x=>?_⟩
 ·show (ρ.rho.set i (some sl)).length=_
  rw [List.length_set,hl];exact r.len
 ·rcases BE e with ⟨rfl,hi,rfl⟩ | ⟨hj,e⟩
  ·rw [BD (a:=0) hi];exact h hi sub
  ·rw [mD hj,ho j hj]
   exact (r.at_ j sl' e).stay (st j hj) sub
 ·rcases ik x with ⟨rfl,_,x⟩ | ⟨hj,x⟩
  ·rcases ik y with ⟨rfl,_,_⟩ | ⟨hk,y⟩
   ·rfl
   ·rcases fr a x with x | x
    ·exact r.inj _ _ a x y
    ·exact absurd x (r.ownAt ⟨k,y⟩)
  ·have x':=x
   rcases ik y with ⟨rfl,_,y⟩ | ⟨hk,y⟩
   ·rcases fr a y with y | y
    ·exact r.inj _ _ a x' y
    ·exact absurd y (r.ownAt ⟨j,x'⟩)
   ·exact r.inj _ _ a x' y
 ·rcases ik x with ⟨_,_,x⟩ | ⟨hj,x⟩
  ·exact kA a x
  ·exact kin' j a hj x
 ·show j < (ρ.rho.set i (some sl)).length
  rw [List.length_set]
  rcases ik x with ⟨rfl,hi,_⟩ | ⟨_,x⟩
  ·exact hi
  ·exact r.bnd j a x
theorem Rel.e (r:Rel K C H0 ρ σ H):wK K C H0 ρ.rho σ H:=⟨ρ,rfl,r⟩
theorem p8 {α:Type} {l:List α} {i:Nat} {a:α}:(l.set i a).length=l.length:=List.length_set
theorem tE {σ:St} {i:Nat} {v:V} (h:i < σ.length):(σ.set i (some v))[i]?=some (some v):=by
 rw [List.getElem?_set];simp [h]
theorem Rel.setShr (r:Rel K C H0 ρ σ H) {i:Nat} {v:V} {d:D} (h:Has K C (msk ρ σ H) v d):Rel K C H0 (ρ.put i (.shr d) []) (σ.set i (some v)) H :=
 r.put p8 (fun j hj=>List.getElem?_set_ne fun z=>hj z.symm) (fun a ha=>by cases ha) (fun j _=>.of (Same.refl _)) (fun b o e=>(msk_some.mp e).2) (fun a ha=>by cases ha) fun hi s=>⟨v,tE (by rw [<- r.len];exact hi),h.mono s⟩
theorem Rel.setOwn (r:Rel K C H0 ρ σ H) {i:Nat} {a:Addr} {vs:List V} {xs:List D} (hn:H a=none) (h:HasL K C (msk ρ σ H) vs xs):Rel K C H0 (ρ.put i (.own xs) [a]) (σ.set i (some (.ref a))) (upd H a (.lst vs)) :=
 r.put p8 (fun j hj=>List.getElem?_set_ne fun z=>hj z.symm) (fun b hb=>.inr (by cases List.mem_singleton.mp hb;exact hn)) (fun j _=>.of (bc hn)) (fun b o e=>bc hn b o (msk_some.mp e).2)
  (fun b hb=>.inl (by cases List.mem_singleton.mp hb;exact ⟨vs,bp⟩)) fun hi s=>⟨a,vs,tE (by rw [<- r.len];exact hi),List.mem_singleton.mpr rfl,bp,h.mono s⟩
theorem Rel.apart (r:Rel K C H0 ρ σ H) {i j:Nat} {a:Addr} {o:HO} (ha:a ∈ ρ.ad i) (hj:j ≠ i):Stay (ρ.ad j) H (upd H a o):=by
 refine ⟨fun b hb u e=>?_,fun b vs e=>?_⟩
 ·rw [aO fun (z:b=a)=>hj (r.inj j i b hb (z ▸ ha))];exact e
 ·have:b ≠ a:=fun z=>by
   subst z
   rcases r.kin i b ha with ⟨us,e'⟩ | ⟨xs,e'⟩ <;> (rw [e] at e';cases e')
  rw [aO this];exact e
theorem Rel.shown (r:Rel K C H0 ρ σ H) {i:Nat} {a:Addr} {o:HO} (ha:a ∈ ρ.ad i):∀ b u,msk ρ σ H b=some u->upd H a o b=some u:=fun b u e=>by
 obtain ⟨h1,h2⟩:=msk_some.mp e
 rw [aO fun (z:b=a)=>h1 ⟨i,z ▸ ha⟩];exact h2
theorem Rel.write (r:Rel K C H0 ρ σ H) {i:Nat} {a:Addr} {xs ys:List D} {ws:List V} (e:ρ.rho[i]?=some (some (.own xs))) (q:σ[i]?=some (some (.ref a))) (h:HasL K C (msk ρ σ H) ws ys) :
  Rel K C H0 (ρ.put i (.own ys) [a]) σ (upd H a (.lst ws)):=by
 obtain ⟨b,vs,e1,ha,_,_⟩:=r.at_ i _ e
 rw [q] at e1;cases e1
 exact r.put rfl (fun j _=>rfl) (fun b hb=>.inl (by cases List.mem_singleton.mp hb;exact ha)) (fun j hj=>r.apart ha hj) (r.shown ha) (fun b hb=>.inl (by cases List.mem_singleton.mp hb;exact ⟨ws,bp⟩))
  fun hi s=>⟨a,ws,q,List.mem_singleton.mpr rfl,bp,h.mono s⟩
theorem Rel.freeze (r:Rel K C H0 ρ σ H) {i:Nat} {xs:List D} (e:ρ.rho[i]?=some (some (.own xs))):Rel K C H0 (ρ.put i (.shr (.lst xs)) []) σ H:=by
 obtain ⟨a,vs,q,ha,h1,h2⟩:=r.at_ i _ e
 refine r.put rfl (fun j _=>rfl) (fun b hb=>by cases hb) (fun j _=>.of (Same.refl _)) (fun b o z=>(msk_some.mp z).2) (fun b hb=>by cases hb) fun hi s=>⟨_,q,.lst (msk_some.mpr ⟨fun z=>?_,h1⟩) (h2.mono s)⟩
 obtain ⟨j,z⟩:=z
 rcases ik z with ⟨_,_,z⟩ | ⟨hj,z⟩
 ·cases z
 ·exact hj (r.inj j i a z ha)
mutual
theorem Tre.share (s:Same M M'):∀ {k:OK} {v:V} {d:D} {A:List Addr},Tre K C M H k v d A->(∀ a ∈ A,∀ o,H a=some o->M' a=some o)->(∀ a vs,H a=some (.tup vs)->M' a=some (.tup vs))->Has K C M' v d
 | _,_,_,_,.s h,_,_=>h.mono s
 | _,_,_,_,.l e h _,f,t=>.lst (f _ List.mem_cons_self _ e) (TreP.share s h (fun a ha=>f a (List.mem_cons_of_mem _ ha)) t)
 | _,_,_,_,.p e h,f,t=>.tup (t _ _ e) (TreP.share s h f t)
theorem TreP.share (s:Same M M'):∀ {ks:List OK} {vs:List V} {ds:List D} {A:List Addr},TreP K C M H ks vs ds A->(∀ a ∈ A,∀ o,H a=some o->M' a=some o)->(∀ a vs,H a=some (.tup vs)->M' a=some (.tup vs))->HasL K C M' vs ds
 | _,_,_,_,.nil,_,_=>.nil
 | _,_,_,_,.cons h t _,f,u=>.cons (Tre.share s h (fun a ha=>f a (List.mem_append_left _ ha)) u) (TreP.share s t (fun a ha=>f a (List.mem_append_right _ ha)) u)
end
theorem Rel.tups (r:Rel K C H0 ρ σ H) {a:Addr} {vs:List V} (e:H a=some (.tup vs)):¬ Own ρ σ a:=fun ⟨i,h⟩=>by
 rcases r.kin i a h with ⟨us,e'⟩ | ⟨xs,e'⟩ <;> (rw [e] at e';cases e')
theorem Rel.thaw (r:Rel K C H0 ρ σ H) {i:Nat} {k:OK} {d:D} (e:ρ.rho[i]?=some (some (.tre k d))):Rel K C H0 (ρ.put i (.shr d) []) σ H:=by
 obtain ⟨v,A,q,hA,h⟩:=r.at_ i _ e
 have own:∀ b,Own (ρ.put i (.shr d) []) σ b->Own ρ σ b/\b ∉ ρ.ad i:=fun b z=>by
  obtain ⟨j,z⟩:=z
  rcases ik z with ⟨_,_,z⟩ | ⟨hj,z⟩
  ·cases z
  ·exact ⟨⟨j,z⟩,fun y=>hj (r.inj j i b z y)⟩
 refine r.put rfl (fun j _=>rfl) (fun b hb=>by cases hb) (fun j _=>.of (Same.refl _)) (fun b o z=>(msk_some.mp z).2) (fun b hb=>by cases hb) fun hi s=>⟨_,q,h.share s (fun a ha o e=>?_) fun a vs e=>?_⟩
 ·exact msk_some.mpr ⟨fun z=>(own a z).2 (hA a ha),e⟩
 ·exact msk_some.mpr ⟨fun z=>r.tups e (own a z).1,e⟩
end
def Fly (X:Cx) (pins:List (Addr × Obj)) (c:Nat) (H:Hp) (e:Value) (s:Shared):Prop:=∃ ea Cc ch,e=.ref ea/\X.mg (exN c)=some (.ref Cc)/\fR s.heap ea (.ref Cc) ch/\∀ b ∈ ch,sZ X pins H b
def XE (X:Cx) (c:Nat) (σ:St) (H:Hp):Prop:=∀ pins H' e s',Inv X pins σ H' s'->Same H H'->Fly X pins c H' e s'->X.xe e s'
def XS (X:Cx) (c:Nat) (H0:Hp):Prop:=∀ pins σ' H' e s',Inv X pins σ' H' s'->Same H0 H'->Fly X pins c H' e s'->X.xe e s'
theorem XE.mono {X:Cx} {c:Nat} {σ:St} {H H':Hp} (s:Same H H') (h:XE X c σ H):XE X c σ H':=fun pins H2 e s' I s2 f=>h pins H2 e s' I (s.trans s2) f
theorem XS.mono {X:Cx} {c:Nat} {H H':Hp} (s:Same H H') (h:XS X c H):XS X c H':=fun pins σ H2 e s' I s2 f=>h pins σ H2 e s' I (s.trans s2) f
theorem XS.xe {X:Cx} {c:Nat} {σ:St} {H H':Hp} (s:Same H H') (h:XS X c H):XE X c σ H':=fun pins H2 e s' I s2 f=>h pins σ H2 e s' I (s.trans s2) f
inductive Brw (K:Frag) (C:Addr) (M H:Hp):V->D->Prop where
 | cl {v:V} {d:D}:Has K C M v d->Brw K C M H v d
 | own {a:Addr} {vs:List V} {xs:List D}:H a=some (.lst vs)->HasL K C M vs xs->Brw K C M H (.ref a) (.lst xs)
theorem Brw.mono {K:Frag} {C:Addr} {M M' H H':Hp} {v:V} {d:D} (m:Same M M') (s:Same H H') (h:Brw K C M H v d):Brw K C M' H' v d:=by
 cases h with
 | cl h=>exact .cl (h.mono m)
 | own e h=>exact .own (s _ _ e) (h.mono m)
section
variable (C:Addr) (X:Cx)
abbrev fA (H0:Hp) (ρ:RB) (σ:St) (H:Hp):Prop:=Rel X.K C H0 ρ σ H
abbrev wJ (H0:Hp) (ρ:Rho) (σ:St) (H:Hp):Prop:=wK X.K C H0 ρ σ H
abbrev dZ (ρ:RB) (σ:St) (H:Hp) (v:V) (d:D):Prop:=Has X.K C (msk ρ σ H) v d
abbrev iN (ρ:RB) (σ:St) (H:Hp) (v:List V) (d:List D):Prop:=HasL X.K C (msk ρ σ H) v d
abbrev Dd (ρ:RB) (σ:St) (H:Hp) (v:V) (d:D):Prop:=Brw X.K C (msk ρ σ H) H v d
def pV (Rl:Hp->V->D->Prop) (r:R D) (σ:St) (H:Hp) (Q:VK):Prop:=match r with
 | .val d=>∀ v H',Same H H'->Rl H' v d->Q v H'
 | .exc c=>XE X c σ H
 | .bad=>False
def pB (r:R Bool) (σ:St) (H:Hp) (Q:Bool->Hp->Prop):Prop:=match r with
 | .val b=>∀ H',Same H H'->Q b H'
 | .exc c=>XE X c σ H
 | .bad=>False
def pL (Rl:Hp->List V->List D->Prop) (r:R (List D)) (σ:St) (H:Hp) (Q:List V->Hp->Prop):Prop:=match r with
 | .val d=>∀ v H',Same H H'->Rl H' v d->Q v H'
 | .exc c=>XE X c σ H
 | .bad=>False
def teC (F:Rho->R D):TE:=fun σ H Q=>∃ ρ:RB,(∃ H0,fA C X H0 ρ σ H)/\pV X (dZ C X ρ σ) (F ρ) σ H Q
def teB (F:Rho->R D):TE:=fun σ H Q=>∃ ρ:RB,(∃ H0,fA C X H0 ρ σ H)/\pV X (Dd C X ρ σ) (F ρ) σ H Q
def ttD (F:Rho->R Bool):TT:=fun σ H Q=>∃ ρ:RB,(∃ H0,fA C X H0 ρ σ H)/\pB X (F ρ) σ H Q
def taD (F:Rho->R (List D)):TA:=fun σ H Q=>∃ ρ:RB,(∃ H0,fA C X H0 ρ σ H)/\pL X (iN C X ρ σ) (F ρ) σ H Q
def ED (e:Expr) (F:Rho->R D):Prop:=PE X e (teC C X F)
def EB (e:Expr) (F:Rho->R D):Prop:=PE X e (teB C X F)
def TD (e:Expr) (F:Rho->R Bool):Prop:=PT X e (ttD C X F)
def AD (es:List Expr) (F:Rho->R (List D)):Prop:=PA X es (taD C X F)
def pS (o:R Out) (H0:Hp) (Dn:kg):Prop:=match o with
 | .val (.nx ρ')=>∀ σ' H',wJ C X H0 ρ' σ' H'->Dn.nx σ' H'
 | .val (.bk ρ')=>∀ σ' H',wJ C X H0 ρ' σ' H'->Dn.bk σ' H'
 | .val (.ct ρ')=>∀ σ' H',wJ C X H0 ρ' σ' H'->Dn.ct σ' H'
 | .val (.rt d)=>∀ v H',Same H0 H'->Has X.K C H' v d->Dn.rt v H'
 | .exc c=>XS X c H0
 | .bad=>False
def tsD (F:Rho->R Out):TS:=fun Dn σ H=>∃ ρ H0,wJ C X H0 ρ σ H/\pS C X (F ρ) H0 Dn
def SD (st:Stmt) (F:Rho->R Out):Prop:=PS X st (tsD C X F)
def SDs (st:List Stmt) (F:Rho->R Out):Prop:=PSs X st (tsD C X F)
end
section
variable {C:Addr} {X:Cx} {ρ:RB} {σ:St} {H H':Hp}
theorem aX {e:Expr} {t t':TE} (h:PE X e t) (hw:∀ σ H Q,t' σ H Q->t σ H Q):PE X e t':=fun pins s σ H Q I q=>h pins s σ H Q I (hw σ H Q q)
theorem ip {e:Expr} {t t':TT} (h:PT X e t) (hw:∀ σ H Q,t' σ H Q->t σ H Q):PT X e t':=fun pins s σ H Q I q=>h pins s σ H Q I (hw σ H Q q)
theorem u0 {e:List Expr} {t t':TA} (h:PA X e t) (hw:∀ σ H Q,t' σ H Q->t σ H Q):PA X e t':=fun pos pins s σ H Q I q=>h pos pins s σ H Q I (hw σ H Q q)
theorem bN {e:Stmt} {t t':TS} (h:PS X e t) (hw:∀ D σ H,t' D σ H->t D σ H):PS X e t':=fun pins s σ H Q I q=>h pins s σ H Q I (hw Q σ H q)
theorem ng {e:List Stmt} {t t':TS} (h:PSs X e t) (hw:∀ D σ H,t' D σ H->t D σ H):PSs X e t':=fun pins s σ H Q I q=>h pins s σ H Q I (hw Q σ H q)
theorem pV.mono {Rl:Hp->V->D->Prop} {r:R D} {Q:VK} (s:Same H H') (h:pV X Rl r σ H Q):pV X Rl r σ H' Q:=by
 cases r with
 | val d=>exact fun v H2 s2 q=>h v H2 (s.trans s2) q
 | exc c=>exact XE.mono s h
 | bad=>exact h
theorem pB.mono {r:R Bool} {Q:Bool->Hp->Prop} (s:Same H H') (h:pB X r σ H Q):pB X r σ H' Q:=by
 cases r with
 | val d=>exact fun H2 s2=>h H2 (s.trans s2)
 | exc c=>exact XE.mono s h
 | bad=>exact h
theorem pL.mono {Rl:Hp->List V->List D->Prop} {r:R (List D)} {Q:List V->Hp->Prop} (s:Same H H') (h:pL X Rl r σ H Q):pL X Rl r σ H' Q:=by
 cases r with
 | val d=>exact fun v H2 s2 q=>h v H2 (s.trans s2) q
 | exc c=>exact XE.mono s h
 | bad=>exact h
theorem aY {α:Type} {Rl:Hp->V->D->Prop} {r:R D} {k:D->R α} {P:R α->Hp->Prop} {Q:VK} (hexc:∀ c,P (.exc c) H->XE X c σ H) (hbad:P .bad H->False) (h:P (r.bind k) H)
  (hk:∀ d v H1,Same H H1->Rl H1 v d->P (k d) H->Q v H1):pV X Rl r σ H Q:=by
 cases r with
 | val d=>exact fun v H1 s q=>hk d v H1 s q h
 | exc c=>exact hexc c h
 | bad=>exact hbad h
theorem jy {α:Type} {r:R Bool} {k:Bool->R α} {P:R α->Hp->Prop} {Q:Bool->Hp->Prop} (hexc:∀ c,P (.exc c) H->XE X c σ H) (hbad:P .bad H->False) (h:P (r.bind k) H)
  (hk:∀ d H1,Same H H1->P (k d) H->Q d H1):pB X r σ H Q:=by
 cases r with
 | val d=>exact fun H1 s=>hk d H1 s h
 | exc c=>exact hexc c h
 | bad=>exact hbad h
theorem fo {α:Type} {Rl:Hp->List V->List D->Prop} {r:R (List D)} {k:List D->R α} {P:R α->Hp->Prop} {Q:List V->Hp->Prop} (hexc:∀ c,P (.exc c) H->XE X c σ H) (hbad:P .bad H->False) (h:P (r.bind k) H)
  (hk:∀ d v H1,Same H H1->Rl H1 v d->P (k d) H->Q v H1):pL X Rl r σ H Q:=by
 cases r with
 | val d=>exact fun v H1 s q=>hk d v H1 s q h
 | exc c=>exact hexc c h
 | bad=>exact hbad h
theorem EB.of {e : Expr} {F : Rho -> R D} (h : ED C X e F) : EB C X e F := aX h fun σ H Q yy0 => by
 obtain ⟨ρ, r, q⟩ := yy0
 exact ⟨ρ, r, by
  cases z : F ρ with
  | val d => rw [z] at q; exact fun v H' s h => q v H' s (.cl h)
  | exc c => rw [z] at q; exact q
  | bad => rw [z] at q; exact q⟩
def vr (i:Nat):Rho->R D:=fun ρ=>match ρ[i]? with
 | some (some (.shr d))=>.val d
 | _=>.bad
def vb (i:Nat):Rho->R D:=fun ρ=>match ρ[i]? with
 | some (some (.shr d))=>.val d
 | some (some (.own xs))=>.val (.lst xs)
 | some (some (.tre (.l .s) (.lst xs)))=>.val (.lst xs)
 | _=>.bad
theorem ai {i:Nat} {x:Str} {pos:Pos} (h:PE X (.Name x pos) (fY i)):ED C X (.Name x pos) (vr i):=by
 refine aX h fun σ H Q zz0=>?_
 obtain ⟨ρ,⟨H0,r⟩,q⟩:=zz0
 unfold vr at q
 split at q
 ·rename_i d e
  obtain ⟨v,e1,h1⟩:=r.at_ i _ e
  exact ⟨v,e1,q v H (Same.refl _) h1⟩
 ·exact q.elim
theorem ag {i:Nat} {x:Str} {pos:Pos} (h:PE X (.Name x pos) (fY i)):EB C X (.Name x pos) (vb i):=by
 refine aX h fun σ H Q zz1=>?_
 obtain ⟨ρ,⟨H0,r⟩,q⟩:=zz1
 unfold vb at q
 split at q
 ·rename_i d e
  obtain ⟨v,e1,h1⟩:=r.at_ i _ e
  exact ⟨v,e1,q v H (Same.refl _) (.cl h1)⟩
 ·rename_i xs e
  obtain ⟨a,vs,e1,_,h1,h2⟩:=r.at_ i _ e
  exact ⟨_,e1,q _ H (Same.refl _) (.own h1 h2)⟩
 ·rename_i xs e
  obtain ⟨v,B,e1,_,h⟩:=r.at_ i _ e
  cases h with
  | l h1 h2 _=>exact ⟨_,e1,q _ H (Same.refl _) (.own h1 h2.flat.2)⟩
 ·exact q.elim
def kd (d:D):Rho->R D:=fun _=>.val d
theorem ah {i j pos} : ED C X (.Constant (.int i) j pos) (kd (.int i)) := aX BZ fun σ H Q yy1 => by
 obtain ⟨ρ, r, q⟩ := yy1
 exact q _ H (Same.refl _) (.int i)
theorem ol {i j pos} : ED C X (.Constant (.bool i) j pos) (kd (.bl i)) := aX uY fun σ H Q yy2 => by
 obtain ⟨ρ, r, q⟩ := yy2
 exact q _ H (Same.refl _) (.bl i)
theorem qH {j pos} : ED C X (.Constant .none j pos) (kd .non) := aX BX fun σ H Q yy3 => by
 obtain ⟨ρ, r, q⟩ := yy3
 exact q _ H (Same.refl _) .non
theorem hW {x : Str} {i : Int} {t : Tok} {pos : Pos} (hg : Gl X x) (hm : X.mg x = some (.int i t)) (hd : (x == ("__debug__" : Str)) = false := by decide) : ED C X (.Name x pos) (kd (.int i)) :=
  aX (uX (v := .int i) hg hm ⟨t, rfl⟩ hd) fun σ H Q yy4 => by
   obtain ⟨ρ, r, q⟩ := yy4
   exact q _ H (Same.refl _) (.int i)
def bin (f:D->D->R D) (a b:Rho->R D):Rho->R D:=fun ρ=>(a ρ).bind fun x=>(b ρ).bind fun y=>f x y
def OpD (C:Addr) (X:Cx) (r:R2) (f:D->D->R D):Prop:=∀ ρ σ H v w x y z (Q:VK),(∃ H0,fA C X H0 ρ σ H)->Dd C X ρ σ H v x->Dd C X ρ σ H w y->f x y=.val z->(∀ u H',Same H H'->dZ C X ρ σ H' u z->Q u H')->r v w H Q
def eS (f:D->D->R D):Prop:=∀ x y c,f x y ≠ .exc c
theorem p5 {r:R2} {f:D->D->R D} {Fa Fb:Rho->R D} (hf:eS f) (ho:OpD C X r f) {σ:St} {H:Hp} {Q:VK} (h:teC C X (bin f Fa Fb) σ H Q):tOp r (teB C X Fa) (teB C X Fb) σ H Q:=by
 obtain ⟨ρ,⟨H0,r0⟩,q⟩:=h
 refine ⟨ρ,⟨H0,r0⟩,aY (P:=fun z H=>pV X (dZ C X ρ σ) z σ H Q) (fun _ h=>h) (fun h=>h) q fun x v H1 s1 h1 q1=>?_⟩
 refine ⟨ρ,⟨H0,r0.mono s1⟩,aY (P:=fun z H=>pV X (dZ C X ρ σ) z σ H Q) (fun _ h=>h) (fun h=>h) (q1.mono s1) fun y w H2 s2 h2 q2=>?_⟩
 cases e:f x y with
 | val z =>
  rw [e] at q2
  exact ho ρ σ H2 v w x y z Q ⟨H0,(r0.mono s1).mono s2⟩ (h1.mono (bu s2) s2) h2 e fun u H3 s3 h3=>q2 u H3 (s2.trans s3) h3
 | exc c=>exact (hf x y c e).elim
 | bad=>rw [e] at q2;exact q2.elim
theorem pO {a b:Expr} {op:Operator} {pos:Pos} {r:R2} {f:D->D->R D} {Fa Fb:Rho->R D} (h:OpR X (binaryOp op) r) (hf:eS f) (ho:OpD C X r f) (ha:EB C X a Fa) (hb:EB C X b Fb) :
  ED C X (.BinOp a op b pos) (bin f Fa Fb):=aX (DK h ha hb) fun σ H Q q=>p5 hf ho q
theorem CZ {a b:Expr} {op:CmpOp} {pos:Pos} {r:R2} {f:D->D->R D} {Fa Fb:Rho->R D} (h:OpR X (compareOp op) r) (hf:eS f) (ho:OpD C X r f) (ha:EB C X a Fa) (hb:EB C X b Fb) (hm:behindInMarks op b=false) :
  ED C X (.Compare a [op] [b] pos) (bin f Fa Fb):=aX (zI h ha hb hm) fun σ H Q q=>p5 hf ho q
theorem D4 {a b:Expr} {pos:Pos} {r:R2} {f:D->D->R D} {Fa Fb:Rho->R D} (h:IxR X r) (hf:eS f) (ho:OpD C X r f) (ha:EB C X a Fa) (hb:EB C X b Fb) (hs:mR b) :
  ED C X (.Subscript a b pos) (bin f Fa Fb):=aX (A4 h ha hb hs) fun σ H Q q=>p5 hf ho q
def asB:D->R Bool
 | .bl b=>.val b
 | _=>.bad
def tst (F:Rho->R D):Rho->R Bool:=fun ρ=>(F ρ).bind asB
theorem Brw.int {K:Frag} {M H:Hp} {v:V} {i:Int} (h:Brw K C M H v (.int i)):v=.int i:=by
 cases h with
 | cl h=>cases h;rfl
theorem Has.bl' {K:Frag} {M:Hp} {v:V} {i:Bool} (h:Has K C M v (.bl i)):v=.bl i:=by cases h;rfl
theorem Dp {F:Rho->R D} {σ:St} {H:Hp} {Q:Bool->Hp->Prop} (h:ttD C X (tst F) σ H Q):teC C X F σ H fun x H1=>∃ c,x=.bl c/\Q c H1:=by
 obtain ⟨ρ,⟨H0,r0⟩,q⟩:=h
 refine ⟨ρ,⟨H0,r0⟩,aY (P:=fun z H=>pB X z σ H Q) (fun _ h=>h) (fun h=>h) q fun x v H1 s1 h1 q1=>?_⟩
 cases x with
 | bl b=>exact ⟨b,Has.bl' h1,q1 H1 s1⟩
 | _=>exact q1.elim
theorem eU {e:Expr} {F:Rho->R D} (h:ED C X e F) (he:∀ whole,isTrue e X.env whole=(do let v <- whole;standAt e.pos;holding [v] (truthy v)):=by intro _;rfl):TD C X e (tst F) :=
 ip (BL h he) fun σ H Q q=>Dp q
theorem mU {a b:Expr} {op:CmpOp} {pos:Pos} {r:R2} {f:D->D->R D} {Fa Fb:Rho->R D} (h:OpR X (compareOp op) r) (hf:eS f) (ho:OpD C X r f) (ha:EB C X a Fa) (hb:EB C X b Fb) (hm:behindInMarks op b=false) :
  TD C X (.Compare a [op] [b] pos) (tst (bin f Fa Fb)):=ip (uS h ha hb hm) fun σ H Q q=>by
 obtain ⟨ρ,r0,q⟩:=q
 refine p5 hf ho ⟨ρ,r0,?_⟩
 exact aY (P:=fun z H=>pB X z σ H Q) (fun _ h=>h) (fun h=>h) q fun x v H1 s1 h1 q1=>by
  cases x with
  | bl b=>exact ⟨b,Has.bl' h1,q1 H1 s1⟩
  | _=>exact q1.elim
def lI (a b:Rho->R Bool):Rho->R Bool:=fun ρ=>(a ρ).bind fun x=>if x=true then b ρ else .val false
def orB (a b:Rho->R Bool):Rho->R Bool:=fun ρ=>(a ρ).bind fun x=>if x=true then .val true else b ρ
def iO (a:Rho->R Bool):Rho->R Bool:=fun ρ=>(a ρ).bind fun x=>.val (!x)
def WD (C:Addr) (X:Cx) (e:Expr) (F:Rho->R Bool):Prop:=PW X e (ttD C X F)
theorem uR {e:Expr} {t t':TT} (h:PW X e t) (hw:∀ σ H Q,t' σ H Q->t σ H Q):PW X e t':=fun wh pins s σ H Q I q=>h wh pins s σ H Q I (hw σ H Q q)
theorem kh {a:Expr} {pos:Pos} {F:Rho->R Bool} (h:TD C X a F):WD C X (.BoolOp .And [a] pos) F:=zw h
theorem h9 {a:Expr} {pos:Pos} {F:Rho->R Bool} (h:TD C X a F):WD C X (.BoolOp .Or [a] pos) F:=BB h
theorem mS {a b : Expr} {rest : List Expr} {pos : Pos} {Fa Fb : Rho -> R Bool} (ha : TD C X a Fa) (hb : WD C X (.BoolOp .And (b :: rest) pos) Fb) : WD C X (.BoolOp .And (a :: b :: rest) pos) (lI Fa Fb) :=
  uR (BC ha hb) fun σ H Q yy5 => by
   obtain ⟨ρ, ⟨H0, r0⟩, q⟩ := yy5
   exact ⟨ρ, ⟨H0, r0⟩, jy (P := fun z H => pB X z σ H Q) (fun _ h => h) (fun h => h) q fun x H1 s1 q1 => by
    cases x with
    | true => rw [if_pos rfl]; rw [if_pos rfl] at q1; exact ⟨ρ, ⟨H0, r0.mono s1⟩, q1.mono s1⟩
    | false => rw [if_neg Bool.false_ne_true]; rw [if_neg Bool.false_ne_true] at q1; exact q1 H1 s1⟩
theorem iT {a b : Expr} {rest : List Expr} {pos : Pos} {Fa Fb : Rho -> R Bool} (ha : TD C X a Fa) (hb : WD C X (.BoolOp .Or (b :: rest) pos) Fb) : WD C X (.BoolOp .Or (a :: b :: rest) pos) (orB Fa Fb) :=
  uR (DC ha hb) fun σ H Q yy6 => by
   obtain ⟨ρ, ⟨H0, r0⟩, q⟩ := yy6
   exact ⟨ρ, ⟨H0, r0⟩, jy (P := fun z H => pB X z σ H Q) (fun _ h => h) (fun h => h) q fun x H1 s1 q1 => by
    cases x with
    | false => rw [if_neg Bool.false_ne_true]; rw [if_neg Bool.false_ne_true] at q1; exact ⟨ρ, ⟨H0, r0.mono s1⟩, q1.mono s1⟩
    | true => rw [if_pos rfl]; rw [if_pos rfl] at q1; exact q1 H1 s1⟩
theorem ki {e:Expr} {F:Rho->R Bool} (h:WD C X e F):TD C X e F:=h.pt
theorem fC {a : Expr} {pos : Pos} {F : Rho -> R Bool} (h : TD C X a F) : TD C X (.UnaryOp .Not a pos) (iO F) :=
  ip (BM h) fun σ H Q yy7 => by
   obtain ⟨ρ, r0, q⟩ := yy7
   exact ⟨ρ, r0, jy (P := fun z H => pB X z σ H Q) (fun _ h => h) (fun h => h) q fun x H1 s1 q1 => q1 H1 s1⟩
def yV (a b:Rho->R D):Rho->R D:=fun ρ=>(a ρ).bind fun x=>(asB x).bind fun c=>if c=true then b ρ else .val (.bl false)
theorem yC {a:Expr} {op} {pos:Pos} {F:Rho->R D} (h:ED C X a F):ED C X (.BoolOp op [a] pos) F:=BW h
theorem yF {a b : Expr} {rest : List Expr} {pos : Pos} {Fa Fb : Rho -> R D} (ha : ED C X a Fa) (hb : ED C X (.BoolOp .And (b :: rest) pos) Fb) : ED C X (.BoolOp .And (a :: b :: rest) pos) (yV Fa Fb) :=
  aX (B1 ha hb) fun σ H Q yy8 => by
   obtain ⟨ρ, ⟨H0, r0⟩, q⟩ := yy8
   exact ⟨ρ, ⟨H0, r0⟩, aY (P := fun z H => pV X (dZ C X ρ σ) z σ H Q) (fun _ h => h) (fun h => h) q fun x v H1 s1 h1 q1 => by
    cases x with
    | bl c =>
      refine ⟨c, Has.bl' h1, ?_⟩
      cases c with
      | true => exact Ad ⟨ρ, ⟨H0, r0.mono s1⟩, q1.mono s1⟩
      | false => exact Ae (q1 _ H1 s1 (.bl false))
    | _ => exact q1.elim⟩
def aN:Rho->R (List D):=fun _=>.val []
def aC (a:Rho->R D) (r:Rho->R (List D)):Rho->R (List D):=fun ρ=>(a ρ).bind fun x=>(r ρ).bind fun xs=>.val (x :: xs)
theorem al : AD C X [] aN := u0 er fun σ H Q yy12 => by
 obtain ⟨ρ, r0, q⟩ := yy12
 exact q [] H (Same.refl _) .nil
theorem ae {e : Expr} {es : List Expr} {Fa : Rho -> R D} {Fr : Rho -> R (List D)} (ha : ED C X e Fa) (hr : AD C X es Fr) (hs : starEach (e :: es) X.env = (false, eval e X.env) :: starEach es X.env := by rfl) : AD C X (e :: es) (aC Fa Fr) :=
  u0 (cS ha hr hs) fun σ H Q yy13 => by
   obtain ⟨ρ, ⟨H0, r0⟩, q⟩ := yy13
   exact ⟨ρ, ⟨H0, r0⟩, aY (P := fun z H => pL X (iN C X ρ σ) z σ H Q) (fun _ h => h) (fun h => h) q fun x v H1 s1 h1 q1 =>
    ⟨ρ, ⟨H0, r0.mono s1⟩, fo (P := fun z H => pL X (iN C X ρ σ) z σ H Q) (fun _ h => h) (fun h => h) (q1.mono s1) fun xs vs H2 s2 h2 q2 => q2 _ H2 s2 (.cons (h1.mono (bu s2)) h2)⟩⟩
def LIM:Nat:=100000
theorem qw {n:Nat} (h:n<=LIM):n<=sizeLine:=Nat.le_trans h (by decide)
theorem Cp {n:Nat} (h:n<=LIM):n < sizeLine:=Nat.lt_of_le_of_lt h (by decide)
def mkT (xs:List D):R D:=if xs.length<=LIM then .val (.tup xs) else .bad
def mkL (xs:List D):R D:=if xs.length<=LIM then .val (.lst xs) else .bad
def eT (a:Rho->R (List D)):Rho->R D:=fun ρ=>(a ρ).bind mkT
def eL (a:Rho->R (List D)):Rho->R D:=fun ρ=>(a ρ).bind mkL
theorem a_ {es : List Expr} {x1} {pos : Pos} {F : Rho -> R (List D)} (h : AD C X es F) : ED C X (.Tuple es x1 pos) (eT F) :=
  aX (BU h) fun σ H Q yy14 => by
   obtain ⟨ρ, ⟨H0, r0⟩, q⟩ := yy14
   exact ⟨ρ, ⟨H0, r0⟩, fo (P := fun z H => pV X (dZ C X ρ σ) z σ H Q) (fun _ h => h) (fun h => h) q fun xs vs H1 s1 h1 q1 => by
    unfold mkT at q1
    split at q1
    · rename_i hl
      refine ⟨by rw [h1.len]; exact qw hl, fun p hp => q1 _ _ (s1.trans (bc hp)) ?_⟩
      exact .tup ((r0.mono s1).new hp) (h1.mono (bu (bc hp)))
    · exact q1.elim⟩
theorem bb {es : List Expr} {pos : Pos} {F : Rho -> R (List D)} (h : AD C X es F) : ED C X (.List es pos) (eL F) :=
  aX (xA h) fun σ H Q yy15 => by
   obtain ⟨ρ, ⟨H0, r0⟩, q⟩ := yy15
   exact ⟨ρ, ⟨H0, r0⟩, fo (P := fun z H => pV X (dZ C X ρ σ) z σ H Q) (fun _ h => h) (fun h => h) q fun xs vs H1 s1 h1 q1 => by
    unfold mkL at q1
    split at q1
    · rename_i hl
      refine ⟨by rw [h1.len]; exact qw hl, fun p hp => q1 _ _ (s1.trans (bc hp)) ?_⟩
      exact .lst ((r0.mono s1).new hp) (h1.mono (bu (bc hp)))
    · exact q1.elim⟩
end
section
variable {C:Addr} {X:Cx} {ρ:RB} {σ:St} {H H':Hp}
def iI (f:Int->Int->R D):D->D->R D
 | .int i,.int j=>f i j
 | _,_=>.bad
theorem io {f:Int->Int->R D} (h:∀ i j c,f i j ≠ .exc c):eS (iI f):=by
 intro x y c
 cases x <;> cases y <;> simp [iI] <;> exact h _ _ c
theorem tN {g:Int->Int->V} {f:Int->Int->R D} (h:∀ i j z,f i j=.val z->∀ K C H,Has K C H (g i j) z):OpD C X (rI0 g) (iI f):=by
 intro ρ σ H v w x y z Q r hx hy e k
 cases x with
 | int i =>
  cases y with
  | int j=>exact ⟨i,j,hx.int,hy.int,k _ H (Same.refl _) (h i j z e _ _ _)⟩
  | _=>cases e
 | _=>cases e
theorem u4 {P:Int->Int->Prop} {g:Int->Int->V} {f:Int->Int->R D} (h:∀ i j z,f i j=.val z->P i j/\∀ K C H,Has K C H (g i j) z):OpD C X (rI P g) (iI f):=by
 intro ρ σ H v w x y z Q r hx hy e k
 cases x with
 | int i =>
  cases y with
  | int j=>exact ⟨i,j,hx.int,hy.int,(h i j z e).1,k _ H (Same.refl _) ((h i j z e).2 _ _ _)⟩
  | _=>cases e
 | _=>cases e
def wv (i j:Int):R D:=.val (.int (i - j))
def dM (i j:Int):R D:=if (-(2 ^ 64) < i/\i < 2 ^ 64)\/(-(2 ^ 64) < j/\j < 2 ^ 64) then .val (.int (i * j)) else .bad
def aK (i j:Int):R D:=if 0 < j then .val (.int (i % j)) else .bad
def df (i j:Int):R D:=if 0 < j/\j < 1073741824 then .val (.int (i / j)) else .bad
def jX (i j:Int):R D:=if 0<=j/\j<=1000000/\i.natAbs < 2 ^ 64 then .val (.int (i ^ j.toNat)) else .bad
def flt (i j:Int):R D:=.val (.bl (decide (i < j)))
def fgt (i j:Int):R D:=.val (.bl (decide (j < i)))
theorem zM:OpD C X (rI0 fun i j=>.int (i - j)) (iI wv):=tN fun i j z e=>by cases e;exact fun _ _ _=>.int _
theorem zO:OpD C X (rI CMul fun i j=>.int (i * j)) (iI dM):=u4 fun i j z e=>by
 unfold dM at e;split at e
 ·cases e;exact ⟨‹_›,fun _ _ _=>.int _⟩
 ·cases e
theorem zP:OpD C X (rI (fun _ j=>0 < j) fun i j=>.int (i % j)) (iI aK):=u4 fun i j z e=>by
 unfold aK at e;split at e
 ·cases e;exact ⟨‹_›,fun _ _ _=>.int _⟩
 ·cases e
theorem zQ:OpD C X (rI Ec fun i j=>.int (i / j)) (iI df):=u4 fun i j z e=>by
 unfold df at e;split at e
 ·cases e;exact ⟨‹_›,fun _ _ _=>.int _⟩
 ·cases e
theorem zN:OpD C X (rI Eb fun i j=>.int (i ^ j.toNat)) (iI jX):=u4 fun i j z e=>by
 unfold jX at e;split at e
 ·cases e;exact ⟨‹_›,fun _ _ _=>.int _⟩
 ·cases e
theorem B6:OpD C X (rI0 fun i j=>.bl (decide (i < j))) (iI flt):=tN fun i j z e=>by cases e;exact fun _ _ _=>.bl _
theorem B9:OpD C X (rI0 fun i j=>.bl (decide (j < i))) (iI fgt):=tN fun i j z e=>by cases e;exact fun _ _ _=>.bl _
theorem BF:eS (iI wv):=io fun i j c e=>by cases e
theorem BH:eS (iI dM):=io fun i j c e=>by unfold dM at e;split at e <;> cases e
theorem BI:eS (iI aK):=io fun i j c e=>by unfold aK at e;split at e <;> cases e
theorem BJ:eS (iI df):=io fun i j c e=>by unfold df at e;split at e <;> cases e
theorem BG:eS (iI jX):=io fun i j c e=>by unfold jX at e;split at e <;> cases e
theorem DE:eS (iI flt):=io fun i j c e=>by cases e
theorem DH:eS (iI fgt):=io fun i j c e=>by cases e
def aV:D->D->R D
 | .int i,.int j=>.val (.int (i + j))
 | .lst xs,.lst ys=>if xs.length + ys.length<=LIM then .val (.lst (xs ++ ys)) else .bad
 | _,_=>.bad
theorem Brw.lst {K:Frag} {M H:Hp} {v:V} {xs:List D} (s:Same M H) (h:Brw K C M H v (.lst xs)):∃ a vs,v=.ref a/\H a=some (.lst vs)/\HasL K C M vs xs:=by
 cases h with
 | cl h=>cases h with
  | lst q h=>exact ⟨_,_,rfl,s _ _ q,h⟩
 | own e h=>exact ⟨_,_,rfl,e,h⟩
theorem Brw.tup {K:Frag} {M H:Hp} {v:V} {xs:List D} (s:Same M H) (h:Brw K C M H v (.tup xs)):∃ a vs,v=.ref a/\H a=some (.tup vs)/\HasL K C M vs xs:=by
 cases h with
 | cl h=>cases h with
  | tup q h=>exact ⟨_,_,rfl,s _ _ q,h⟩
theorem Brw.scr {K:Frag} {M H:Hp} {v:V} {ns:List Int} (s:Same M H) (h:Brw K C M H v (.scr ns)):∃ a,v=.ref a/\SqL K H a (ns.map V.int):=by
 cases h with
 | cl h=>cases h with
  | scr q=>exact ⟨_,rfl,s.seq q⟩
theorem zR:OpD C X (fun x y H Q=>rI0 (fun i j=>.int (i + j)) x y H Q\/BA x y H Q) aV:=by
 intro ρ σ H v w x y z Q r hx hy e k
 obtain ⟨H0,r⟩:=r
 cases x with
 | int i =>
  cases y with
  | int j=>cases e;exact .inl ⟨i,j,hx.int,hy.int,k _ H (Same.refl _) (.int _)⟩
  | _=>cases e
 | lst xs =>
  cases y with
  | lst ys =>
   simp only [aV] at e
   split at e
   ·rename_i hl
    cases e
    obtain ⟨a,vs,rfl,q1,h1⟩:=hx.lst msk_sub
    obtain ⟨b,ws,rfl,q2,h2⟩:=hy.lst msk_sub
    refine .inr ⟨a,b,vs,ws,rfl,rfl,q1,q2,by rw [h1.len,h2.len];exact qw hl,fun p hp=>k _ _ (bc hp) ?_⟩
    exact .lst (r.new hp) ((h1.app h2).mono (bu (bc hp)))
   ·cases e
  | _=>cases e
 | _=>cases e
theorem BK:eS aV:=by
 intro x y c e
 unfold aV at e
 split at e
 ·cases e
 ·split at e <;> cases e
 ·cases e
theorem zL:OpR X (binaryOp .Add) (fun x y H Q=>rI0 (fun i j=>.int (i + j)) x y H Q\/BA x y H Q):=op_add.or Cf
def fix:D->D->R D
 | .lst xs,.int i=>match atI xs i with
  | some d=>.val d
  | none=>.bad
 | .tup xs,.int i=>match atI xs i with
  | some d=>.val d
  | none=>.bad
 | .scr ns,.int i=>match atI ns i with
  | some d=>.val (.int d)
  | none=>.bad
 | _,_=>.bad
theorem DF:eS fix:=by
 intro x y c e
 unfold fix at e
 split at e
 ·split at e <;> cases e
 ·split at e <;> cases e
 ·split at e <;> cases e
 ·cases e
theorem AQ {α β:Type} (f:α->β) (xs:List α) (i:Int):L2.atI (xs.map f) i=(L2.atI xs i).map f:=by
 unfold L2.atI
 rw [List.length_map]
 cases ixN xs.length i with
 | none=>rfl
 | some j=>simp
theorem HasL.atI {K:Frag} {vs:List V} {xs:List D} {i:Int} {d:D} (h:HasL K C H vs xs) (e:atI xs i=some d):∃ v,L2.atI vs i=some v/\Has K C H v d:=by
 unfold L2.atI at e ⊢
 rw [h.len]
 cases q:ixN xs.length i with
 | none=>rw [q] at e;cases e
 | some j =>
  rw [q] at e
  exact h.get e
theorem B7:OpD C X (rIx X.K) fix:=by
 intro ρ σ H v w x y z Q r hx hy e k
 unfold fix at e
 split at e
 ·rename_i xs i
  split at e
  ·rename_i d q
   cases e
   obtain ⟨a,vs,rfl,q1,h1⟩:=hx.lst msk_sub
   obtain ⟨u,q2,h2⟩:=h1.atI q
   exact .inl ⟨a,vs,i,u,rfl,hy.int,SqL.of q1,q2,k _ H (Same.refl _) h2⟩
  ·cases e
 ·rename_i xs i
  split at e
  ·rename_i d q
   cases e
   obtain ⟨a,vs,rfl,q1,h1⟩:=hx.tup msk_sub
   obtain ⟨u,q2,h2⟩:=h1.atI q
   exact .inr (.inl ⟨a,vs,i,u,rfl,hy.int,SqT.of q1,q2,k _ H (Same.refl _) h2⟩)
  ·cases e
 ·rename_i ns i
  split at e
  ·rename_i d q
   cases e
   obtain ⟨a,rfl,q1⟩:=hx.scr msk_sub
   exact .inl ⟨a,_,i,.int d,rfl,hy.int,q1,by rw [AQ,q];rfl,k _ H (Same.refl _) (.int d)⟩
  ·cases e
 ·cases e
theorem bF {a b:Expr} {pos:Pos} {Fa Fb:Rho->R D} (ha:EB C X a Fa) (hb:EB C X b Fb):ED C X (.BinOp a .Add b pos) (bin aV Fa Fb):=pO zL BK zR ha hb
theorem CU {a b:Expr} {pos:Pos} {Fa Fb:Rho->R D} (ha:EB C X a Fa) (hb:EB C X b Fb):ED C X (.BinOp a .Sub b pos) (bin (iI wv) Fa Fb):=pO B_ BF zM ha hb
theorem j3 {a b:Expr} {pos:Pos} {Fa Fb:Rho->R D} (ha:EB C X a Fa) (hb:EB C X b Fb):ED C X (.BinOp a .Mult b pos) (bin (iI dM) Fa Fb):=pO Cd BH zO ha hb
theorem bw {a b:Expr} {pos:Pos} {Fa Fb:Rho->R D} (ha:EB C X a Fa) (hb:EB C X b Fb):ED C X (.BinOp a .Mod b pos) (bin (iI aK) Fa Fb):=pO Ce BI zP ha hb
theorem eK {a b:Expr} {pos:Pos} {Fa Fb:Rho->R D} (ha:EB C X a Fa) (hb:EB C X b Fb):ED C X (.BinOp a .FloorDiv b pos) (bin (iI df) Fa Fb):=pO zT BJ zQ ha hb
theorem uk {a b:Expr} {pos:Pos} {Fa Fb:Rho->R D} (ha:EB C X a Fa) (hb:EB C X b Fb):ED C X (.BinOp a .Pow b pos) (bin (iI jX) Fa Fb):=pO Ca BG zN ha hb
theorem wS {a b:Expr} {pos:Pos} {Fa Fb:Rho->R D} (ha:EB C X a Fa) (hb:EB C X b Fb):TD C X (.Compare a [.Lt] [b] pos) (tst (bin (iI flt) Fa Fb)):=mU A5 DE B6 ha hb (nl _)
theorem jK {a b:Expr} {pos:Pos} {Fa Fb:Rho->R D} (ha:EB C X a Fa) (hb:EB C X b Fb):TD C X (.Compare a [.Gt] [b] pos) (tst (bin (iI fgt) Fa Fb)):=mU DM DH B9 ha hb (nl _)
theorem ay {a b:Expr} {pos:Pos} {Fa Fb:Rho->R D} (ha:EB C X a Fa) (hb:EB C X b Fb) (hs:mR b:=by exact fun _ _=>rfl):ED C X (.Subscript a b pos) (bin fix Fa Fb):=D4 Cw DF B7 ha hb hs
def dE:D->R D
 | .int i=>.val (.int (-i))
 | _=>.bad
def una (f:D->R D) (a:Rho->R D):Rho->R D:=fun ρ=>(a ρ).bind f
theorem eI {a : Expr} {pos : Pos} {F : Rho -> R D} (h : EB C X a F) : ED C X (.UnaryOp .USub a pos) (una dE F) :=
  aX (DJ Bj h) fun σ H Q yy0 => by
   obtain ⟨ρ, r0, q⟩ := yy0
   exact ⟨ρ, r0, aY (P := fun z H => pV X (dZ C X ρ σ) z σ H Q) (fun _ h => h) (fun h => h) q fun x v H1 s1 h1 q1 => by
    cases x with
    | int i => exact ⟨i, h1.int, q1 _ H1 s1 (.int _)⟩
    | _ => exact q1.elim⟩
def qC:D->D
 | .non=>.bl true
 | _=>.bl false
def gi:D->D
 | .non=>.bl false
 | _=>.bl true
theorem Brw.isN {K:Frag} {M H:Hp} {v:V} {d:D} (h:Brw K C M H v d):qC d=.bl (decide (v=.non))/\gi d=.bl (!decide (v=.non)):=by
 cases h with
 | cl h=>cases h <;> simp [qC,gi]
 | own e h=>simp [qC,gi]
theorem Bn {a:Expr} {j pos pos'} {F:Rho->R D} (h:EB C X a F):TD C X (.Compare a [.Is] [.Constant .none j pos'] pos) (tst (una (fun d=>.val (qC d)) F)) :=
 ip (xk (B2 h)) fun σ H Q zz0=>by
  obtain ⟨ρ,r0,q⟩:=zz0
  refine ⟨ρ,r0,?_⟩
  cases e:F ρ with
  | val d =>
   intro v H1 s1 h1
   refine ⟨_,rfl,?_⟩
   have z:tst (una (fun d=>.val (qC d)) F) ρ=.val (decide (v=.non)):=by
    unfold tst una
    rw [e]
    show asB (qC d)=_
    rw [(h1.isN).1];rfl
   rw [z] at q
   exact q H1 s1
  | exc c =>
   have z:tst (una (fun d=>.val (qC d)) F) ρ=.exc c:=by unfold tst una;rw [e];rfl
   rw [z] at q;exact q
  | bad =>
   have z:tst (una (fun d=>.val (qC d)) F) ρ=.bad:=by unfold tst una;rw [e];rfl
   rw [z] at q;exact q
theorem za {a:Expr} {j pos pos'} {F:Rho->R D} (h:EB C X a F):TD C X (.Compare a [.IsNot] [.Constant .none j pos'] pos) (tst (una (fun d=>.val (gi d)) F)) :=
 ip (xk (zJ h)) fun σ H Q zz1=>by
  obtain ⟨ρ,r0,q⟩:=zz1
  refine ⟨ρ,r0,?_⟩
  cases e:F ρ with
  | val d =>
   intro v H1 s1 h1
   refine ⟨_,rfl,?_⟩
   have z:tst (una (fun d=>.val (gi d)) F) ρ=.val (!decide (v=.non)):=by
    unfold tst una
    rw [e]
    show asB (gi d)=_
    rw [(h1.isN).2];rfl
   rw [z] at q
   exact q H1 s1
  | exc c =>
   have z:tst (una (fun d=>.val (gi d)) F) ρ=.exc c:=by unfold tst una;rw [e];rfl
   rw [z] at q;exact q
  | bad =>
   have z:tst (una (fun d=>.val (gi d)) F) ρ=.bad:=by unfold tst una;rw [e];rfl
   rw [z] at q;exact q
def chn (f g:Int->Int->Bool) (a b c:Rho->R D):Rho->R D:=fun ρ=>(a ρ).bind fun x=>(b ρ).bind fun y=>match x,y with
 | .int i,.int j=>if f i j=true then (c ρ).bind fun z=>match z with
   | .int k=>.val (.bl (g j k))
   | _=>.bad
  else .val (.bl false)
 | _,_=>.bad
end
section
variable {C:Addr} {X:Cx} {ρ:RB} {σ:St} {H H':Hp}
theorem ph {f g:Int->Int->Bool} {Fa Fb Fc:Rho->R D} {σ:St} {H:Hp} {Q:VK} (h:teC C X (chn f g Fa Fb Fc) σ H Q) :
  tu (rI0 fun i j=>.bl (f i j)) (rI0 fun i j=>.bl (g i j)) (teB C X Fa) (teB C X Fb) (teB C X Fc) σ H Q:=by
 obtain ⟨ρ,⟨H0,r0⟩,q⟩:=h
 refine ⟨ρ,⟨H0,r0⟩,aY (P:=fun z H=>pV X (dZ C X ρ σ) z σ H Q) (fun _ h=>h) (fun h=>h) q fun x v H1 s1 h1 q1=>?_⟩
 refine ⟨ρ,⟨H0,r0.mono s1⟩,aY (P:=fun z H=>pV X (dZ C X ρ σ) z σ H Q) (fun _ h=>h) (fun h=>h) (q1.mono s1) fun y w H2 s2 h2 q2=>?_⟩
 cases x with
 | int i =>
  cases y with
  | int j =>
   refine ⟨i,j,h1.int,h2.int,f i j,rfl,?_⟩
   cases e:f i j with
   | false =>
    simp only [e,Bool.false_eq_true,if_false] at q2 ⊢
    exact q2 _ H2 s2 (.bl false)
   | true =>
    simp only [e,if_true] at q2 ⊢
    refine ⟨ρ,⟨H0,(r0.mono s1).mono s2⟩,aY (P:=fun z H=>pV X (dZ C X ρ σ) z σ H Q) (fun _ h=>h) (fun h=>h) (q2.mono s2) fun z w' H3 s3 h3 q3=>?_⟩
    cases z with
    | int k=>exact ⟨j,k,h2.int,h3.int,q3 _ H3 s3 (.bl _)⟩
    | _=>exact q3.elim
  | _=>exact q2.elim
 | _=>exact q2.elim
theorem yE {a b c:Expr} {op op':CmpOp} {pos:Pos} {f g:Int->Int->Bool} {Fa Fb Fc:Rho->R D} (ho:OpR X (compareOp op) (rI0 fun i j=>.bl (f i j))) (ho':OpR X (compareOp op') (rI0 fun i j=>.bl (g i j)))
  (ha:EB C X a Fa) (hb:EB C X b Fb) (hc:EB C X c Fc) (hm:lastMarks [op,op'] [b,c]=false:=by with_unfolding_all rfl):ED C X (.Compare a [op,op'] [b,c] pos) (chn f g Fa Fb Fc) :=
 aX (xC ho ho' ha hb hc hm) fun σ H Q q=>ph q
theorem rm {a b c:Expr} {op op':CmpOp} {pos:Pos} {f g:Int->Int->Bool} {Fa Fb Fc:Rho->R D} (ho:OpR X (compareOp op) (rI0 fun i j=>.bl (f i j))) (ho':OpR X (compareOp op') (rI0 fun i j=>.bl (g i j)))
  (ha:EB C X a Fa) (hb:EB C X b Fb) (hc:EB C X c Fc) (hm:lastMarks [op,op'] [b,c]=false:=by with_unfolding_all rfl):TD C X (.Compare a [op,op'] [b,c] pos) (tst (chn f g Fa Fb Fc)) :=
 ip (xl ho ho' ha hb hc hm) fun σ H Q q=>by
  obtain ⟨ρ,r0,q⟩:=q
  refine ph ⟨ρ,r0,?_⟩
  exact aY (P:=fun z H=>pB X z σ H Q) (fun _ h=>h) (fun h=>h) q fun x v H1 s1 h1 q1=>by
   cases x with
   | bl b=>exact ⟨b,Has.bl' h1,q1 H1 s1⟩
   | _=>exact q1.elim
def gB (f:Nat):D->R D
 | .ob e r t=>match f with
  | 0=>.val e
  | 1=>.val r
  | _=>.val t
 | _=>.bad
theorem jc {e : Expr} {f : Str} {k : Nat} {pos : Pos} {F : Rho -> R D} (h : EB C X e F) (c : Cls X.K C) (n : NoAttr X.K C f) (hb : attributeBase e f X.env (eval e X.env) = eval e X.env)
    (hk : ∀ ve vr vt, (D1 ve vr vt).lookup f = some (match k with | 0 => ve | 1 => vr | _ => vt)) : ED C X (.Attribute e f pos) (una (gB k) F) :=
  aX (B0 h hb) fun σ H Q yy0 => by
   obtain ⟨ρ, r0, q⟩ := yy0
   exact ⟨ρ, r0, aY (P := fun z H => pV X (dZ C X ρ σ) z σ H Q) (fun _ h => h) (fun h => h) q fun x v H1 s1 h1 q1 => by
    cases x with
    | ob de dr dt =>
      cases h1 with
      | cl h1 =>
        cases h1 with
        | @ob a dx ve vr vt _ _ _ e1 g1 g2 g3 =>
          refine ⟨a, C, dx, _, _, rfl, msk_sub _ _ e1, c, n, hk ve vr vt, ?_⟩
          match k with
          | 0 => exact q1 _ H1 s1 g1
          | 1 => exact q1 _ H1 s1 g2
          | _ + 2 => exact q1 _ H1 s1 g3
    | _ => exact q1.elim⟩
def aA:D->R D
 | .lst xs=>.val (.int xs.length)
 | .tup xs=>.val (.int xs.length)
 | .scr ns=>.val (.int ns.length)
 | _=>.bad
theorem CV {e : Expr} {p pos : Pos} {F : Rho -> R D} (h : EB C X e F) (hg : Gl X "len") (hm : X.mg "len" = none) (hst : starEach [e] X.env = (false, eval e X.env) :: starEach [] X.env := by rfl)
    (hs : ∀ t : TA, PA X [e] t -> PE X (.Call (.Name "len" p) [e] [] pos) (tCB (fun xs H Q => ∃ p ys, xs = [.ref p] /\ (SqL X.K H p ys \/ SqT X.K H p ys) /\ Q (.int ys.length) H) t) := by
      exact fun t ha => fx kM (by assumption) (by assumption) PySem.boot_len ha) : ED C X (.Call (.Name "len" p) [e] [] pos) (una aA F) :=
  aX (hs _ (cS h er hst)) fun σ H Q yy1 => by
   obtain ⟨ρ, r0, q⟩ := yy1
   exact ⟨ρ, r0, aY (P := fun z H => pV X (dZ C X ρ σ) z σ H Q) (fun _ h => h) (fun h => h) q fun x v H1 s1 h1 q1 => by
    cases x with
    | lst xs =>
      obtain ⟨a, vs, rfl, e1, h2⟩ := h1.lst msk_sub
      exact ⟨a, vs, rfl, .inl (SqL.of e1), q1 _ H1 s1 (by rw [h2.len]; exact .int _)⟩
    | tup xs =>
      obtain ⟨a, vs, rfl, e1, h2⟩ := h1.tup msk_sub
      exact ⟨a, vs, rfl, .inr (SqT.of e1), q1 _ H1 s1 (by rw [h2.len]; exact .int _)⟩
    | scr ns =>
      obtain ⟨a, rfl, e1⟩ := h1.scr msk_sub
      exact ⟨a, _, rfl, .inl e1, q1 _ H1 s1 (by rw [List.length_map]; exact .int _)⟩
    | _ => exact q1.elim⟩
def An:List D->R D
 | [.int i,.int j]=>.val (.int (if j > i then j else i))
 | _=>.bad
def qI (F:Rho->R (List D)):Rho->R D:=fun ρ=>(F ρ).bind An
theorem yD {a b : Expr} {p pos : Pos} {F : Rho -> R (List D)} (hc : X.calm = true) (h : AD C X [a, b] F) (hg : Gl X "max") (hm : X.mg "max" = none)
    (hs : ∀ t : TA, PA X [a, b] t -> PE X (.Call (.Name "max" p) [a, b] [] pos) (tCB (fun xs H Q => ∃ i j, xs = [.int i, .int j] /\ Q (.int (if j > i then j else i)) H) t) := by
      exact fun t ha => fx (lw (by assumption)) (by assumption) (by assumption) PySem.boot_max ha) : ED C X (.Call (.Name "max" p) [a, b] [] pos) (qI F) :=
  aX (hs _ h) fun σ H Q yy2 => by
   obtain ⟨ρ, r0, q⟩ := yy2
   exact ⟨ρ, r0, fo (P := fun z H => pV X (dZ C X ρ σ) z σ H Q) (fun _ h => h) (fun h => h) q fun xs vs H1 s1 h1 q1 => by
    unfold An at q1
    split at q1
    · rename_i i j
      cases h1 with
      | cons a1 b1 => cases b1 with
        | cons a2 b2 => cases b2; cases a1; cases a2; exact ⟨i, j, rfl, q1 _ H1 s1 (.int _)⟩
    · exact q1.elim⟩
def pF (Rl:Hp->List V->List D->Prop) (r:R (List D)) (σ:St) (H:Hp) (Q:VK):Prop:=match r with
 | .val xs=>∀ a vs H1,Same H H1->H1 a=none->Rl H1 vs xs->Q (.ref a) (upd H1 a (.lst vs))
 | .exc c=>XE X c σ H
 | .bad=>False
variable (C X) in
def teF (F:Rho->R (List D)):TE:=fun σ H Q=>∃ ρ:RB,(∃ H0,fA C X H0 ρ σ H)/\pF (X:=X) (iN C X ρ σ) (F ρ) σ H Q
variable (C X) in
def FD (e:Expr) (F:Rho->R (List D)):Prop:=PE X e (teF C X F)
def Co (r:R (List D)):R D:=r.bind fun xs=>.val (.lst xs)
def eLs (F:Rho->R (List D)):Rho->R D:=fun ρ=>Co (F ρ)
theorem bX {e : Expr} {F : Rho -> R (List D)} (h : FD C X e F) : ED C X e (eLs F) := aX h fun σ H Q yy3 => by
 obtain ⟨ρ, ⟨H0, r0⟩, q⟩ := yy3
 exact ⟨ρ, ⟨H0, r0⟩, by
  unfold eLs at q
  cases e : F ρ with
  | val xs =>
    rw [e] at q
    exact fun a vs H1 s1 hn h1 => q _ _ (s1.trans (bc hn)) (.lst ((r0.mono s1).new hn) (h1.mono (bu (bc hn))))
  | exc c => rw [e] at q; exact q
  | bad => rw [e] at q; exact q⟩
def lim (r:R (List D)):R (List D):=r.bind fun xs=>if xs.length<=LIM then .val xs else .bad
def iQ (F:Rho->R (List D)):Rho->R (List D):=fun ρ=>lim (F ρ)
theorem jZ {es : List Expr} {pos : Pos} {F : Rho -> R (List D)} (h : AD C X es F) : FD C X (.List es pos) (iQ F) :=
  aX (xA h) fun σ H Q yy4 => by
   obtain ⟨ρ, ⟨H0, r0⟩, q⟩ := yy4
   exact ⟨ρ, ⟨H0, r0⟩, fo (P := fun z H => pF (X := X) (iN C X ρ σ) z σ H Q) (fun _ h => h) (fun h => h) q fun xs vs H1 s1 h1 q1 => by
    split at q1
    · rename_i hl
      exact ⟨by rw [h1.len]; exact qw hl, fun p hp => q1 p vs H1 s1 hp h1⟩
    · exact q1.elim⟩
def itD:D->R (List D)
 | .lst xs=>.val xs
 | .tup xs=>.val xs
 | .scr ns=>.val (ns.map .int)
 | _=>.bad
def fIt (F:Rho->R D):Rho->R (List D):=fun ρ=>(F ρ).bind itD
theorem Ap {e : Expr} {p pos : Pos} {F : Rho -> R D} (h : EB C X e F) (hg : Gl X "list") (hm : X.mg "list" = none) (hst : starEach [e] X.env = (false, eval e X.env) :: starEach [] X.env := by rfl)
    (hs : ∀ t : TA, PA X [e] t -> PE X (.Call (.Name "list" p) [e] [] pos) (tCB (fun xs H Q => ∃ p ys, xs = [.ref p] /\ (SqL X.K H p ys \/ SqT X.K H p ys) /\ ∀ l, H l = none -> Q (.ref l) (upd H l (.lst ys))) t) := by
      exact fun t ha => dw kL (by assumption) (by assumption) PySem.boot_list ha) : FD C X (.Call (.Name "list" p) [e] [] pos) (fIt F) :=
  aX (hs _ (cS h er hst)) fun σ H Q yy5 => by
   obtain ⟨ρ, r0, q⟩ := yy5
   exact ⟨ρ, r0, aY (P := fun z H => pF (X := X) (iN C X ρ σ) z σ H Q) (fun _ h => h) (fun h => h) q fun x v H1 s1 h1 q1 => by
    cases x with
    | lst xs =>
      obtain ⟨a, vs, rfl, e1, h2⟩ := h1.lst msk_sub
      exact ⟨a, vs, rfl, .inl (SqL.of e1), fun l hl => q1 l vs H1 s1 hl h2⟩
    | tup xs =>
      obtain ⟨a, vs, rfl, e1, h2⟩ := h1.tup msk_sub
      exact ⟨a, vs, rfl, .inr (SqT.of e1), fun l hl => q1 l vs H1 s1 hl h2⟩
    | scr ns =>
      obtain ⟨a, rfl, e1⟩ := h1.scr msk_sub
      exact ⟨a, _, rfl, .inl e1, fun l hl => q1 l _ H1 s1 hl (HasL.ints ns)⟩
    | _ => exact q1.elim⟩
def jJ:D->R D
 | .lst xs=>.val (.tup xs)
 | .tup xs=>.val (.tup xs)
 | _=>.bad
theorem kG {e : Expr} {p pos : Pos} {F : Rho -> R D} (h : EB C X e F) (hg : Gl X "tuple") (hm : X.mg "tuple" = none) (hst : starEach [e] X.env = (false, eval e X.env) :: starEach [] X.env := by rfl)
    (hs : ∀ t : TA, PA X [e] t -> PE X (.Call (.Name "tuple" p) [e] [] pos) (tCB (fun xs H Q => ∃ p ys, xs = [.ref p] /\ ((SqL X.K H p ys /\ ∀ l, H l = none -> Q (.ref l) (upd H l (.tup ys))) \/ (SqT X.K H p ys /\ Q (.ref p) H))) t) := by
      exact fun t ha => dw dY (by assumption) (by assumption) PySem.boot_tuple ha) : ED C X (.Call (.Name "tuple" p) [e] [] pos) (una jJ F) :=
  aX (hs _ (cS h er hst)) fun σ H Q yy6 => by
   obtain ⟨ρ, ⟨H0, r0⟩, q⟩ := yy6
   exact ⟨ρ, ⟨H0, r0⟩, aY (P := fun z H => pV X (dZ C X ρ σ) z σ H Q) (fun _ h => h) (fun h => h) q fun x v H1 s1 h1 q1 => by
    cases x with
    | lst xs =>
      obtain ⟨a, vs, rfl, e1, h2⟩ := h1.lst msk_sub
      exact ⟨a, vs, rfl, .inl ⟨SqL.of e1, fun l hl => q1 _ _ (s1.trans (bc hl)) (.tup ((r0.mono s1).new hl) (h2.mono (bu (bc hl))))⟩⟩
    | tup xs =>
      cases h1 with
      | cl h1 =>
        cases h1 with
        | tup e1 h2 => exact ⟨_, _, rfl, .inr ⟨SqT.of (msk_sub _ _ e1), q1 _ H1 s1 (.tup e1 h2)⟩⟩
    | _ => exact q1.elim⟩
def sq (a b:Rho->R Out):Rho->R Out:=fun ρ=>(a ρ).bind fun o=>match o with
 | .nx ρ'=>b ρ'
 | o=>.val o
def nxt:Rho->R Out:=fun ρ=>.val (.nx ρ)
def asg (i:Nat) (e:Rho->R D):Rho->R Out:=fun ρ=>(e ρ).bind fun d=>.val (.nx (ρ.set i (some (.shr d))))
def own (i:Nat) (e:Rho->R (List D)):Rho->R Out:=fun ρ=>(e ρ).bind fun xs=>.val (.nx (ρ.set i (some (.own xs))))
def ret (e:Rho->R D):Rho->R Out:=fun ρ=>(e ρ).bind fun d=>.val (.rt d)
def drp (e:Rho->R D):Rho->R Out:=fun ρ=>(e ρ).bind fun _=>.val (.nx ρ)
def iff (t:Rho->R Bool) (a b:Rho->R Out):Rho->R Out:=fun ρ=>(t ρ).bind fun c=>if c=true then a ρ else b ρ
def bad:Rho->R Out:=fun _=>.bad
theorem aG : SDs C X [] nxt := ng zx fun D σ H yy7 => by
 obtain ⟨_, H0, ⟨ρ, rfl, r⟩, q⟩ := yy7
 exact q σ H r.e
theorem aq {st:Stmt} {rest:List Stmt} {F G:Rho->R Out} (h1:SD C X st F) (h2:SDs C X rest G):SDs C X (st :: rest) (sq F G) :=
 ng (kr h1 h2) fun D σ H zz0=>by
  obtain ⟨_,H0,⟨ρ,rfl,r⟩,q⟩:=zz0
  refine ⟨ρ,H0,r.e,?_⟩
  unfold sq at q
  cases e:F ρ with
  | val o =>
   rw [e] at q
   cases o with
   | nx ρ'=>exact fun σ' H' r'=>⟨ρ',H0,r',q⟩
   | rt d=>exact q
   | bk ρ'=>exact q
   | ct ρ'=>exact q
  | exc c=>rw [e] at q;exact q
  | bad=>rw [e] at q;exact q
theorem au {st:Stmt} {F:Rho->R Out} (h:SD C X st F):SDs C X [st] F:=mE h
theorem ez {H0:Hp} {Dn:kg} {c:Nat} {ρ:RB} {σ:St} {H:Hp} (r:fA C X H0 ρ σ H) (h:pS C X (.exc c) H0 Dn):XE X c σ H:=XS.xe (r.keep.trans msk_sub) h
theorem aT {i : Nat} {x : Str} {e : Expr} {pos pos' : Pos} {F : Rho -> R D} (hN : X.N.Nodup) (hi : X.N[i]? = some x) (hx : Loc X.env.scope x) (he : ED C X e F) (hs : swapsWith e (some (.Name x pos')) pos.line X.env = pure false := by rfl)
    (hf : X.fn x = true \/ X.env.scope.names.lookup x = some .local := by first | exact .inl rfl | exact .inr rfl | assumption) : SD C X (.Assign [.Name x pos'] e pos) (asg i F) :=
  bN (qg hN hi hx he hs hf) fun D σ H yy8 => by
   obtain ⟨_, H0, ⟨ρ, rfl, r⟩, q⟩ := yy8
   exact ⟨ρ, ⟨H0, r⟩, aY (P := fun z _ => pS C X z H0 D) (fun c h => ez r h) (fun h => h) q fun d v H1 s1 h1 q1 => q1 _ _ ⟨_, rfl, (r.mono s1).setShr h1⟩⟩
theorem jS {i : Nat} {x : Str} {e : Expr} {pos pos' : Pos} {F : Rho -> R (List D)} (hN : X.N.Nodup) (hi : X.N[i]? = some x) (hx : Loc X.env.scope x) (he : FD C X e F) (hs : swapsWith e (some (.Name x pos')) pos.line X.env = pure false := by rfl)
    (hf : X.fn x = true \/ X.env.scope.names.lookup x = some .local := by first | exact .inl rfl | exact .inr rfl | assumption) : SD C X (.Assign [.Name x pos'] e pos) (own i F) :=
  bN (qg hN hi hx he hs hf) fun D σ H yy9 => by
   obtain ⟨_, H0, ⟨ρ, rfl, r⟩, q⟩ := yy9
   exact ⟨ρ, ⟨H0, r⟩, by
    unfold own at q
    cases e : F ρ with
    | val xs =>
      rw [e] at q
      exact fun a vs H1 s1 hn h1 => q _ _ ⟨_, rfl, (r.mono s1).setOwn hn h1⟩
    | exc c => rw [e] at q; exact ez r q
    | bad => rw [e] at q; exact q⟩
theorem aU {e : Expr} {pos : Pos} {F : Rho -> R D} (he : ED C X e F) : SD C X (.Return (some e) pos) (ret F) :=
  bN (BN he) fun D σ H yy10 => by
   obtain ⟨_, H0, ⟨ρ, rfl, r⟩, q⟩ := yy10
   exact ⟨ρ, ⟨H0, r⟩, aY (P := fun z _ => pS C X z H0 D) (fun c h => ez r h) (fun h => h) q fun d v H1 s1 h1 q1 => q1 v H1 ((r.mono s1).keep.trans msk_sub) (h1.mono msk_sub)⟩
theorem gC {e : Expr} {pos : Pos} {F : Rho -> R D} (he : EB C X e F) (hs : swapsWith e none pos.line X.env = pure false := by rfl) : SD C X (.Expr e pos) (drp F) :=
  bN (kt he hs) fun D σ H yy11 => by
   obtain ⟨_, H0, ⟨ρ, rfl, r⟩, q⟩ := yy11
   exact ⟨ρ, ⟨H0, r⟩, aY (P := fun z _ => pS C X z H0 D) (fun c h => ez r h) (fun h => h) q fun d v H1 s1 h1 q1 => q1 _ _ (r.mono s1).e⟩
theorem bh {c : Expr} {a b : List Stmt} {pos : Pos} {Ft : Rho -> R Bool} {Fa Fb : Rho -> R Out} (hc : TD C X c Ft) (ha : SDs C X a Fa) (hb : SDs C X b Fb) : SD C X (.If c a b pos) (iff Ft Fa Fb) :=
  bN (A3 hc ha hb) fun D σ H yy12 => by
   obtain ⟨_, H0, ⟨ρ, rfl, r⟩, q⟩ := yy12
   exact ⟨ρ, ⟨H0, r⟩, jy (P := fun z _ => pS C X z H0 D) (fun c h => ez r h) (fun h => h) q fun c H1 s1 q1 => by
    cases c with
    | true => exact Ad ⟨ρ, H0, (r.mono s1).e, q1⟩
    | false => exact Ae ⟨ρ, H0, (r.mono s1).e, q1⟩⟩
theorem gK {st : Stmt} : SD C X st bad := bN xp fun D σ H yy13 => by
 obtain ⟨_, H0, ⟨ρ, rfl, r⟩, q⟩ := yy13
 exact q
def frz (i:Nat) (ρ:Rho):Rho:=match ρ[i]? with
 | some (some (.own xs))=>ρ.set i (some (.shr (.lst xs)))
 | some (some (.tre _ d))=>ρ.set i (some (.shr d))
 | _=>ρ
theorem Rel.frz {K:Frag} {H0:Hp} {ρ:Rho} (r:wK K C H0 ρ σ H) (i:Nat):wK K C H0 (DL.frz i ρ) σ H:=by
 obtain ⟨ρ,rfl,r⟩:=r
 unfold DL.frz
 split
 ·exact ⟨_,rfl,r.freeze ‹_›⟩
 ·exact ⟨_,rfl,r.thaw ‹_›⟩
 ·exact r.e
theorem zj {sts : List Stmt} {F : Rho -> R Out} (i : Nat) (h : SDs C X sts F) : SDs C X sts (fun ρ => F (frz i ρ)) := ng h fun D σ H yy16 => by
 obtain ⟨ρ, H0, r, q⟩ := yy16
 exact ⟨frz i ρ, H0, Rel.frz r i, q⟩
def app (i:Nat) (e:Rho->R D):Rho->R Out:=fun ρ=>match ρ[i]? with
 | some (some (.own xs))=>(e ρ).bind fun d=>if xs.length < LIM then .val (.nx (ρ.set i (some (.own (xs ++ [d]))))) else .bad
 | _=>.bad
theorem iX {i:Nat} {x:Str} {e:Expr} {p ap cp pos:Pos} {F:Rho->R D} (hv:PE X (.Name x p) (fY i)) (he:ED C X e F)
  (hs:∀ {to:TE} {t:TA},PE X (.Name x p) to->PA X [e] t->PS X (.Expr (.Call (.Attribute (.Name x p) "append" ap) [e] [] cp) pos) (pf (tBM X.K "list" uQ to t)):=by
   exact fun ho ha=>kt (pq PySem.F.plainAttrs_list PySem.F.slot_list_append PySem.F.type_list_append pw ho ha))
  (hst:starEach [e] X.env=(false,eval e X.env) :: starEach [] X.env:=by rfl) :
  SD C X (.Expr (.Call (.Attribute (.Name x p) "append" ap) [e] [] cp) pos) (app i F) :=
 bN (hs hv (cS he er hst)) fun D σ H zz1=>by
  obtain ⟨_,H0,⟨ρ,rfl,r⟩,q⟩:=zz1
  unfold app at q
  split at q
  ·rename_i xs e0
   obtain ⟨a,vs,e1,_,h1,h2⟩:=r.at_ i _ e0
   refine ⟨_,e1,.inl ⟨rfl,_,SqL.of h1⟩,ρ,⟨H0,r⟩,aY (P:=fun z _=>pS C X z H0 D) (fun c h=>ez r h) (fun h=>h) q fun d v H1 s1 h3 q1=>?_⟩
   split at q1
   ·rename_i hl
    have h2':=h2.mono (bu (ρ:=ρ) (σ:=σ) s1)
    refine ⟨a,vs,v,rfl,rfl,s1 _ _ h1,by rw [h2.len];exact Nat.lt_of_lt_of_le hl (by decide),?_⟩
    exact q1 _ _ ⟨_,rfl,(r.mono s1).write e0 e1 (h2'.app (.cons h3 .nil))⟩
   ·exact q1.elim
  ·exact q.elim
end
def CF:HO->Bool
 | .lst _=>true
 | .ins _ _ _=>true
 | .own _=>true
 | .ext _=>true
 | _=>false
structure Hid (H:Hp) (h:Heap) (zs:List Addr):Prop where
 kind:∀ z ∈ zs,∃ o,H z=some o/\CF o=true
 insd:∀ z ∈ zs,∀ c dx fs,H z=some (.ins c dx fs)->dx ∈ zs
 own:∀ z ∈ zs,∀ a,H z=some (.own a)->a ∈ zs
 obj:∀ z ∈ zs,∃ o,h.get? z=some o/\∀ v,o.data ≠ .cell v
def cut (zs:List Addr) (H:Hp):Hp:=fun b=>if b ∈ zs then none else H b
def jn (zs:List Addr) (H M:Hp):Hp:=fun b=>if b ∈ zs then H b else M b
theorem cut_some {zs:List Addr} {H:Hp} {b:Addr} {o:HO}:cut zs H b=some o ↔ b ∉ zs/\H b=some o:=by
 unfold cut
 by_cases h:b ∈ zs
 ·rw [if_pos h];exact ⟨fun e=>(by cases e),fun e=>absurd h e.1⟩
 ·rw [if_neg h];exact ⟨fun e=>⟨h,e⟩,fun e=>e.2⟩
theorem fM {zs:List Addr} {H:Hp} {b:Addr} (h:b ∈ zs):cut zs H b=none:=by unfold cut;rw [if_pos h]
theorem i3 {zs:List Addr} {H M:Hp} {b:Addr} (h:b ∈ zs):jn zs H M b=H b:=by unfold jn;rw [if_pos h]
theorem b_ {zs:List Addr} {H M:Hp} {b:Addr} (h:b ∉ zs):jn zs H M b=M b:=by unfold jn;rw [if_neg h]
section
variable {X:Cx} {pins:List (Addr × Obj)} {σ:St} {H M:Hp} {s s':Shared} {zs:List Addr}
theorem _root_.L2.Inv.hide (I:Inv X pins σ H s) (Z:Hid H s.heap zs):Inv X (pins ++ dB zs s.heap) σ (cut zs H) s:=by
 have nk:∀ b o,H b=some o->CF o=false->b ∉ zs:=fun b o e k hb=>by
  obtain ⟨o',e',k'⟩:=Z.kind b hb
  rw [e] at e';cases e';rw [k] at k';cases k'
 have nz:∀ b,H b=none->b ∉ zs:=fun b e hb=>by
  obtain ⟨o',e',k'⟩:=Z.kind b hb
  rw [e] at e';cases e'
 have none':∀ b,H b=none->cut zs H b=none:=fun b e=>by unfold cut;split <;> first | rfl | exact e
 have I1:Inv X pins σ (cut zs H) s:=by
  refine ⟨I.ok,I.os,I.bare,⟨I.base.keep,I.base.slot,fun b o q n hx=>none' b (I.base.free b o q n hx),I.base.there,fun b xs e=>?_,fun b o u e=>?_,fun b ps e=>?_⟩,I.loc,I.cell,none' _ I.free,fun x c e=>none' _ (I.freeC x c e),fun p hp=>?_,fun a o e=>?_,I.len⟩
  ·have e1:=I.base.tups b xs e
   exact cut_some.mpr ⟨nk b _ e1 rfl,e1⟩
  ·have e1:=I.base.frzs b o u e
   exact cut_some.mpr ⟨nk b _ e1 rfl,e1⟩
  ·obtain ⟨more,e1⟩:=I.base.tbls b ps e
   exact ⟨more,cut_some.mpr ⟨nk b _ e1 rfl,e1⟩⟩
  ·obtain ⟨h1,h2,h3⟩:=I.pin p hp
   exact ⟨h1,none' _ h2,h3⟩
  ·obtain ⟨h1,h2⟩:=cut_some.mp e
   refine (I.hok a o h2).stay (fun b u _ q=>q) (fun b q=>cut_some.mpr ⟨fun hb=>h1 (Z.own b hb a q),q⟩) fun b xs q=>cut_some.mpr ⟨nk b _ q rfl,q⟩
 refine I1.pins_of fun p hp=>?_
 rcases List.mem_append.mp hp with hp | hp
 ·exact I1.pin p (List.mem_append_right _ hp)
 ·obtain ⟨h1,h2⟩:=jz hp
  obtain ⟨o',e',k'⟩:=Z.kind p.1 h1
  obtain ⟨o,e,d⟩:=Z.obj p.1 h1
  rw [h2] at e;cases e
  refine ⟨h2,fM h1,fun z=>?_,fun z=>?_,d⟩
  ·rw [z,I.free] at e';cases e'
  ·rw [I.frn _ z] at e';cases e'
theorem _root_.L2.Inv.showG {σ':St} {pins' pins'':List (Addr × Obj)} (I:Inv X pins σ H s) (Z:Hid H s.heap zs) (J:Inv X pins' σ' M s') (h1:∀ p ∈ dB zs s.heap,p ∈ pins') (h2:∀ p ∈ pins'',p ∈ pins'/\H p.1=none):Inv X pins'' σ' (jn zs H M) s'/\∀ z ∈ zs,M z=none:=by
 have nk:∀ b o,H b=some o->CF o=false->b ∉ zs:=fun b o e k hb=>by
  obtain ⟨o',e',k'⟩:=Z.kind b hb
  rw [e] at e';cases e';rw [k] at k';cases k'
 have nz:∀ b,H b=none->b ∉ zs:=fun b e hb=>by
  obtain ⟨o',e',k'⟩:=Z.kind b hb
  rw [e] at e';cases e'
 have pin:∀ z ∈ zs,∀ o,s.heap.get? z=some o->s'.heap.get? z=some o/\M z=none:=fun z hz o e=>by
  have q:=J.pin (z,o) (List.mem_append_right _ (h1 _ (e9 hz e)))
  exact ⟨q.1,q.2.1⟩
 have mz:∀ z ∈ zs,M z=none:=fun z hz=>by
  obtain ⟨o,e,_⟩:=Z.obj z hz
  exact (pin z hz o e).2
 have none':∀ b,H b=none->M b=none->jn zs H M b=none:=fun b e e'=>by rw [b_ (nz b e)];exact e'
 refine ⟨⟨J.ok,J.os,J.bare,⟨J.base.keep,J.base.slot,fun b o q n hx=>none' b (I.base.free b o q n hx) (J.base.free b o q n hx),J.base.there,fun b xs e=>?_,fun b o u e=>?_,fun b ps e=>?_⟩,J.loc,J.cell,none' _ I.free J.free,fun x c e=>none' _ (I.freeC x c e) (J.freeC x c e),fun p hp=>?_,fun a o e=>?_,J.len⟩,mz⟩
 ·rw [b_ (nk b _ (I.base.tups b xs e) rfl)];exact J.base.tups b xs e
 ·rw [b_ (nk b _ (I.base.frzs b o u e) rfl)];exact J.base.frzs b o u e
 ·obtain ⟨more,e1⟩:=I.base.tbls b ps e
  rw [b_ (nk b _ e1 rfl)];exact J.base.tbls b ps e
 ·rcases List.mem_append.mp hp with hp | hp
  ·obtain ⟨q1,q2,q3⟩:=J.pin p (List.mem_append_left _ hp)
   exact ⟨q1,none' _ (I.pin p (List.mem_append_left _ hp)).2.1 q2,q3⟩
  ·obtain ⟨q1,q2,q3⟩:=J.pin p (List.mem_append_right _ (h2 p hp).1)
   exact ⟨q1,none' _ (h2 p hp).2 q2,q3⟩
 ·by_cases ha:a ∈ zs
  ·rw [i3 ha] at e
   obtain ⟨o',e',k'⟩:=Z.kind a ha
   rw [e] at e';cases e'
   have ok:=I.hok a o e
   have same:∀ u,s.heap.get? a=some u->s'.heap.get? a=some u:=fun u q=>(pin a ha u q).1
   cases o with
   | lst xs=>obtain ⟨z,its,n,r,e1⟩:=ok;exact ⟨z,its,n,r,same _ e1⟩
   | own y=>obtain ⟨u,e1⟩:=ok;exact ⟨u,same _ e1⟩
   | ext φ=>obtain ⟨p,⟨u,e1⟩,st⟩:=ok;exact ⟨st _ _ p fun o q=>same o q,⟨u,same _ e1⟩,st⟩
   | ins c dx fs =>
    obtain ⟨d,z,ne,e1,mA,⟨od,es,ep,e2,rest⟩,r⟩:=ok
    have hd:dx ∈ zs:=Z.insd a ha c dx fs e
    exact ⟨by rw [i3 hd];exact d,z,ne,same _ e1,mA,⟨od,es,ep,(pin dx hd _ e2).1,rest⟩,r⟩
   | _=>cases k'
  ·rw [b_ ha] at e
   refine (J.hok a o e).stay (fun b u _ q=>q) (fun b q=>?_) fun b xs q=>?_
   ·rw [b_ fun hb=>by rw [mz b hb] at q;cases q];exact q
   ·rw [b_ fun hb=>by rw [mz b hb] at q;cases q];exact q
theorem _root_.L2.Inv.show' (I:Inv X pins σ H s) (Z:Hid H s.heap zs) (J:Inv X (pins ++ dB zs s.heap) σ M s'):Inv X pins σ (jn zs H M) s'/\∀ z ∈ zs,M z=none :=
 I.showG Z J (fun p hp=>List.mem_append_right _ hp) fun p hp=>⟨List.mem_append_left _ hp,(I.pin p (List.mem_append_right _ hp)).2.1⟩
end
def db (ρ:RB) (σ:St):List Addr:=(List.range ρ.rho.length).flatMap ρ.ad
theorem gd {ρ:RB} {σ:St} {b:Addr} (hb:∀ (i:Nat) a,a ∈ ρ.ad i->i < ρ.rho.length):b ∈ db ρ σ ↔ Own ρ σ b:=by
 unfold db
 rw [List.mem_flatMap]
 exact ⟨fun ⟨i,_,h⟩=>⟨i,h⟩,fun ⟨i,h⟩=>⟨i,List.mem_range.mpr (hb i b h),h⟩⟩
theorem ft {ρ:RB} {σ:St} {H:Hp} (hb:∀ (i:Nat) a,a ∈ ρ.ad i->i < ρ.rho.length):msk ρ σ H=cut (db ρ σ) H:=by
 funext b
 unfold msk cut
 by_cases h:Own ρ σ b
 ·rw [if_pos h,if_pos ((gd hb).mpr h)]
 ·rw [if_neg h,if_neg fun z=>h ((gd hb).mp z)]
theorem Rel.hid {X:Cx} {C:Addr} {pins:List (Addr × Obj)} {σ:St} {H H0:Hp} {s:Shared} {ρ:RB} (r:fA C X H0 ρ σ H) (I:Inv X pins σ H s):Hid H s.heap (db ρ σ):=by
 have key:∀ z ∈ db ρ σ,(∃ vs,H z=some (.lst vs))\/∃ xs,H z=some (kK z xs):=fun z hz=>by
  obtain ⟨i,h⟩:=(gd r.bnd).mp hz
  exact r.kin i z h
 refine ⟨fun z hz=>?_,fun z hz c dx fs e=>?_,fun z hz a e=>?_,fun z hz=>?_⟩
 ·rcases key z hz with ⟨vs,e⟩ | ⟨vs,e⟩ <;> exact ⟨_,e,rfl⟩
 ·rcases key z hz with ⟨vs,e'⟩ | ⟨vs,e'⟩ <;> (rw [e] at e';cases e')
 ·rcases key z hz with ⟨vs,e'⟩ | ⟨vs,e'⟩ <;> (rw [e] at e';cases e')
 ·rcases key z hz with ⟨vs,e'⟩ | ⟨vs,e'⟩
  ·obtain ⟨_,its,n,_,e1⟩:=I.hok z _ e'
   exact ⟨_,e1,fun v q=>by cases q⟩
  ·obtain ⟨⟨_,_,o,es,ep,e1,_,e2,_⟩,_⟩:=I.hok z _ e'
   exact ⟨o,e1,fun v q=>by rw [e2] at q;cases q⟩
def spD (K:Frag) (C:Addr) (n:Nat) (den:List D->R D):Sp:=fun vs H Q _=>vs.length=n/\∃ ds,HasL K C H vs ds/\match den ds with
 | .val d=>∀ v H',Same H H'->Has K C H' v d->Q v H'
 | _=>False
section
variable {C:Addr} {X:Cx}
def noex:R D->R D
 | .val d=>.val d
 | _=>.bad
def cal (n:Nat) (den:List D->R D) (a:Rho->R (List D)):Rho->R D:=fun ρ=>(a ρ).bind fun ds=>if ds.length=n then noex (den ds) else .bad
theorem AF {CX:CXT} {k n:Nat} {f:Addr} {fd:FuncData} {ps:List Str} {den:List D->R D} {x:Str} {p pos:Pos} {e:Expr} {es:List Expr} {Fa:Rho->R (List D)}
  (F:FnOk X.prog X.w X.K X.mg X.base CX k f fd ps (spD X.K C n den)) (hr:Room k X.A) (hg:Gl X x) (hm:X.mg x=some (.ref f)) (hk:keepIn X.K (.ref f)=true) (hb:Binds X.K fd ps []) (hx:rd CX X E0)
  (ha:AD C X (e :: es) Fa) (hdb:(x == ("__debug__":Str))=false:=by decide) (he:starEach (e :: es) X.env=(false,eval e X.env) :: starEach es X.env:=by rfl) (hpl:(backTo pos (starEach es X.env)).any (·.1)=false:=by rfl) :
  ED C X (.Call (.Name x p) (e :: es) [] pos) (cal n den Fa):=by
 rintro pins s σ H Q I ⟨ρ,⟨H0,r0⟩,q⟩
 refine wpAny_Call_Name_kw (gE I hg hm ?_ hdb)
 refine callWith_K (h₀:=X.base) I.ok.mod.kin hk (thn (ha pos pins s σ H (fun vs H1=>∃ ds d,ds.length=n/\Same H H1/\iN C X ρ σ H1 vs ds/\den ds=.val d/\∀ v H',Same H H'->dZ C X ρ σ H' v d->Q v H') I
  ⟨ρ,⟨H0,r0⟩,fo (P:=fun z H=>pV X (dZ C X ρ σ) z σ H Q) (fun _ h=>h) (fun h=>h) q fun ds vs H1 s1 h1 q1=>?_⟩) fun us s1 ⟨vs,H1,I1,rv,ds,d,hl,s1',h1,e1,q1⟩=>⟨I1.kIn,?_⟩) he hpl
 ·split at q1
  ·rename_i hl
   cases e1:den ds with
   | val d=>rw [e1] at q1;exact ⟨ds,d,hl,s1,h1,e1,q1⟩
   | exc c=>rw [e1] at q1;exact q1.elim
   | bad=>rw [e1] at q1;exact q1.elim
  ·exact q1.elim
 ·have r1:=r0.mono s1'
  have Z:=Rel.hid r1 I1
  have J:=I1.hide Z
  refine thn (w5 (E:=E0) (Q:=fun v M'=>Same (cut (db ρ σ) H1) M'/\Has X.K C M' v d) F hr hb .nil hx J rv ?_) fun u s2 ⟨v,M',J2,ru,sm,hv⟩=>?_
  ·rw [List.append_nil]
   refine ⟨h1.len.trans hl,ds,by rw [<- ft r0.bnd];exact h1,?_⟩
   rw [e1]
   exact fun v H' s2 h2=>⟨s2,h2⟩
  ·obtain ⟨I2,mz⟩:=I1.show' Z J2
   have sj:Same H1 (jn (db ρ σ) H1 M'):=fun b o eb=>by
    by_cases hb:b ∈ db ρ σ
    ·rw [i3 hb];exact eb
    ·rw [b_ hb];exact sm b o (cut_some.mpr ⟨hb,eb⟩)
   have em:msk ρ σ (jn (db ρ σ) H1 M')=M':=by
    rw [ft r0.bnd]
    funext b
    by_cases hb:b ∈ db ρ σ
    ·rw [fM hb,mz b hb]
    ·unfold cut;rw [if_neg hb,b_ hb]
   exact ⟨v,_,I2,ru,q1 v _ (s1'.trans sj) (by show Has _ _ (msk ρ σ _) v d;rw [em];exact hv)⟩
end
def tgN (i:Nat):D->Rho->Option Rho:=fun x ρ=>some (ρ.set i (some (.shr x)))
def tg2 (i j:Nat):D->Rho->Option Rho:=fun x ρ=>match x with
 | .tup [a,b]=>some ((ρ.set i (some (.shr a))).set j (some (.shr b)))
 | _=>none
section
variable {C:Addr} {X:Cx}
variable (C X) in
def gtD (ix:List Nat) (T:D->Rho->Option Rho):TG:=fun v σ H Q=>∃ (ρ:RB) (H0:Hp) (x:D) (ρ':Rho),fA C X H0 ρ σ H/\dZ C X ρ σ H v x/\T x ρ=some ρ'/\∀ (σ':St) (β:RB),β.rho=ρ'->(∀ j:Nat,β.ad j=if j ∈ ix then [] else ρ.ad j)->fA C X H0 β σ' H->(∀ j:Nat,j ∉ ix->σ'[j]?=σ[j]?)->Q σ' H
variable (C X) in
def GD (tg:Expr) (ix:List Nat) (T:D->Rho->Option Rho):Prop:=PG X tg (gtD C X ix T)
theorem uW {tg:Expr} {t t':TG} (h:PG X tg t) (hw:∀ v σ H Q,t' v σ H Q->t v σ H Q):PG X tg t':=fun pins s σ H v u Q I r q=>h pins s σ H v u Q I r (hw v σ H Q q)
theorem qf {ρ:RB} {i:Nat} {d:D} (j:Nat):(ρ.put i (.shr d) []).ad j=if j=i then [] else ρ.ad j:=by
 unfold RB.put
 dsimp only
 split
 ·split <;> rfl
 ·rfl
theorem u5 {ρ:RB} {σ σ':St} {H:Hp} {i:Nat} {d:D}:Same (msk ρ σ H) (msk (ρ.put i (.shr d) []) σ' H):=fun b o eb=>by
 obtain ⟨h1,h2⟩:=msk_some.mp eb
 refine msk_some.mpr ⟨fun ⟨j,z⟩=>?_,h2⟩
 rcases ik z with ⟨_,_,z⟩ | ⟨_,z⟩
 ·cases z
 ·exact h1 ⟨j,z⟩
theorem ba {i:Nat} {x:Str} {pos:Pos} (hN:X.N.Nodup) (hi:X.N[i]?=some x) (hx:Loc X.env.scope x) (hf:X.fn x=true\/X.env.scope.names.lookup x=some .local:=by first | exact .inl rfl | exact .inr rfl | assumption) :
  GD C X (.Name x pos) [i] (tgN i):=uW (aJ hN hi hx hf) fun v σ H Q zz0=>by
 obtain ⟨ρ,H0,x,ρ',r,h,e,k⟩:=zz0
 cases e
 exact k _ _ rfl (fun j=>by rw [qf];by_cases e1:j=i <;> simp [e1]) (r.setShr h) fun j hj=>List.getElem?_set_ne fun z=>hj (by simp [z])
theorem dD {i j:Nat} {x y:Str} {px py pos:Pos} {n:Nat} (hc:X.calm=true) (h1:PG X (.Name x px) (i5 i)) (h2:PG X (.Name y py) (i5 j))
  (hs1:(assignEach [.Name x px,.Name y py] X.env).map (·.2)=assign (.Name x px) X.env :: (assignEach [.Name y py] X.env).map (·.2):=by rfl)
  (hs2:(assignEach [.Name y py] X.env).map (·.2)=assign (.Name y py) X.env :: (assignEach [] X.env).map (·.2):=by rfl)
  (hn:(assignEach [.Name x px,.Name y py] X.env).length=2:=by rfl) (hst:(assignEach [.Name x px,.Name y py] X.env).findIdx? (·.1)=none:=by rfl) :
  GD C X (.Tuple [.Name x px,.Name y py] n pos) [i,j] (tg2 i j):=uW (BS hc (rO h1 (rO h2 zG hs2) hs1) hn hst) fun v σ H Q zz1=>by
 obtain ⟨ρ,H0,d,ρ',r,h,e,k⟩:=zz1
 unfold tg2 at e
 split at e
 ·rename_i a b
  cases e
  cases h with
  | tup q hl =>
   cases hl with
   | @cons va _ _ _ ha hl =>
    cases hl with
    | @cons vb _ _ _ hb hl =>
     cases hl
     refine ⟨_,_,rfl,SqT.of (msk_sub _ _ q),rfl,va,_,rfl,vb,_,rfl,rfl,?_⟩
     have r1:=r.setShr (i:=i) ha
     refine k _ _ rfl (fun m=>?_) (r1.setShr (i:=j) (hb.mono u5)) fun m hm=>?_
     ·rw [qf,qf]
      by_cases e1:m=i <;> by_cases e2:m=j <;> simp [e1,e2]
     ·rw [List.getElem?_set_ne fun z=>hm (by simp [z]),List.getElem?_set_ne fun z=>hm (by simp [z])]
 ·cases e
def asT (T:D->Rho->Option Rho) (e:Rho->R D):Rho->R Out:=fun ρ=>(e ρ).bind fun d=>match T d ρ with
 | some ρ'=>.val (.nx ρ')
 | none=>.bad
theorem Bv {tg e : Expr} {pos : Pos} {ix : List Nat} {T : D -> Rho -> Option Rho} {F : Rho -> R D} (he : ED C X e F) (hg : GD C X tg ix T) (hs : swapsWithSole [tg] e pos.line X.env = pure false := by rfl) (hw : swappedStores [tg] e X.env = pure none := by rfl)
    (h1 : (assignEach [tg] X.env).map (·.2) = [assign tg X.env] := by rfl) : SD C X (.Assign [tg] e pos) (asT T F) :=
  bN (tL he hg hs hw h1) fun D σ H yy0 => by
   obtain ⟨_, H0, ⟨ρ, rfl, r⟩, q⟩ := yy0
   exact ⟨ρ, ⟨H0, r⟩, aY (P := fun z _ => pS C X z H0 D) (fun c h => ez r h) (fun h => h) q fun d v H1 s1 h1 q1 => by
    split at q1
    · rename_i ρ' e1
      exact ⟨ρ, H0, d, ρ', r.mono s1, h1, e1, fun σ' β eb _ r' _ => q1 σ' H1 ⟨β, eb, r'⟩⟩
    · exact q1.elim⟩
structure sX (K:Frag) (C:Addr) (J:It) (xs:List D) (M:Hp):Prop where
 go:∀ (i:Nat) x H2,Same M H2->xs[i]?=some x->J.go i H2/\∀ v H3,J.yld i H2 v H3->Same H2 H3/\∀ ρ σ,(∀ b,Own ρ σ b->H2 b ≠ none)->Same M (msk ρ σ H2)->Has K C (msk ρ σ H3) v x
 stop:∀ H2,Same M H2->J.stop xs.length H2
variable (C X) in
def itI (F:Rho->R (List D)):TI:=fun σ H Rk=>∃ ρ:RB,(∃ H0,fA C X H0 ρ σ H)/\match F ρ with
 | .val xs=>∀ J H',Same H H'->sX X.K C J xs (msk ρ σ H')->Rk J H'
 | .exc c=>XE X c σ H
 | .bad=>False
variable (C X) in
def ID (tg iter:Expr) (F:Rho->R (List D)):Prop:=PI X tg iter (itI C X F)
theorem qi {tg e:Expr} {t t':TI} (h:PI X tg e t) (hw:∀ σ H Q,t' σ H Q->t σ H Q):PI X tg e t':=fun pins s σ H R I q=>h pins s σ H R I (hw σ H R q)
theorem vR {K:Frag} {a:Addr} {vs:List V} {xs:List D} {M:Hp} (e:M a=some (.lst vs)) (h:HasL K C M vs xs):sX K C (Itl K a) xs M where
 go:=fun i x H2 s hx=>by
  obtain ⟨v,e1,h1⟩:=h.get hx
  refine ⟨⟨vs,v,SqL.of (s _ _ e),e1⟩,fun v' H3 y=>?_⟩
  obtain ⟨rfl,y⟩:=y
  have e2:=y vs (SqL.of (s _ _ e))
  rw [e1] at e2;cases e2
  exact ⟨Same.refl _,fun ρ σ _ m=>h1.mono m⟩
 stop:=fun H2 s=>⟨vs,SqL.of (s _ _ e),by rw [h.len];exact Nat.le_refl _⟩
theorem wL {K:Frag} {a:Addr} {vs:List V} {xs:List D} {M:Hp} (e:M a=some (.tup vs)) (h:HasL K C M vs xs):sX K C (Itt K a) xs M where
 go:=fun i x H2 s hx=>by
  obtain ⟨v,e1,h1⟩:=h.get hx
  refine ⟨⟨vs,v,SqT.of (s _ _ e),e1⟩,fun v' H3 y=>?_⟩
  obtain ⟨rfl,y⟩:=y
  have e2:=y vs (SqT.of (s _ _ e))
  rw [e1] at e2;cases e2
  exact ⟨Same.refl _,fun ρ σ _ m=>h1.mono m⟩
 stop:=fun H2 s=>⟨vs,SqT.of (s _ _ e),by rw [h.len];exact Nat.le_refl _⟩
theorem wM {K:Frag} {a:Addr} {ns:List Int} {M:Hp} (e:SqL K M a (ns.map V.int)):sX K C (Itl K a) (ns.map D.int) M where
 go:=fun i x H2 s hx=>by
  obtain ⟨v,e1,h1⟩:=(HasL.ints (K:=K) (C:=C) (H:=M) ns).get hx
  refine ⟨⟨_,v,s.seq e,e1⟩,fun v' H3 y=>?_⟩
  obtain ⟨rfl,y⟩:=y
  have e2:=y _ (s.seq e)
  rw [e1] at e2;cases e2
  exact ⟨Same.refl _,fun ρ σ _ m=>h1.mono m⟩
 stop:=fun H2 s=>⟨_,s.seq e,by simp⟩
def rng (lo:Int) (n:Nat):List D:=(List.range n).map fun (k:Nat)=>D.int (lo + (k:Int))
theorem wN {K:Frag} {lo:Int} {n:Nat} {M:Hp}:sX K C (Itr lo n) (rng lo n) M where
 go:=fun i x H2 s hx=>by
  have hi:i < n:=by have:=(List.getElem?_eq_some_iff.mp hx).1;simpa [rng] using this
  refine ⟨hi,fun v H3 y=>?_⟩
  obtain ⟨rfl,rfl⟩:=y
  refine ⟨Same.refl _,fun ρ σ _ m=>?_⟩
  have:x=.int (lo + (i:Int)):=by
   unfold rng at hx
   rw [List.getElem?_map,List.getElem?_range hi] at hx
   exact (Option.some.inj hx).symm
  rw [this];exact .int _
 stop:=fun H2 s=>by simp [rng,Itr]
theorem BR {tg l:Expr} {tl:TE} (hl:PE X l tl):PI X tg l (fun σ H R=>tl σ H fun x H1=>∃ a,x=.ref a/\(((∃ xs,SqL X.K H1 a xs)/\R (Itl X.K a) H1)\/((∃ xs,SqT X.K H1 a xs)/\R (Itt X.K a) H1))):=by
 intro pins s σ H R I h
 refine thn (hl pins s σ H _ I h) fun v s1 zz3=>?_
 obtain ⟨x,H1,I1,r1,q1⟩:=zz3
 obtain ⟨a,e,q1⟩:=q1
 subst e
 cases r1
 rcases q1 with ⟨⟨xs,hq⟩,q⟩ | ⟨⟨xs,hq⟩,q⟩
 ·obtain ⟨its,rv,p,hz⟩:=I1.list hq
  refine wpAny_pyIter_list p.isList ?_
  refine ⟨s1.heap.objs.size,[s1.heap.objs.size],_,_,H1,rfl,I1.kept (t':=s1.toks) fun b o e=>Heap.get?_push_of_some _ e,pc a _,⟨_,Heap.get?_push_size _ rfl,rfl,rfl⟩,fun b hb=>?_,q⟩
  have e:b=s1.heap.objs.size:=by simpa using hb
  subst e
  exact I1.fpOk (Nat.le_refl _) (I1.hok.fresh (Nat.le_refl _))
 ·obtain ⟨its,rv,p,hz⟩:=I1.tuple hq
  refine wpAny_pyIter_tuple (show s1.heap.IsTuple a its.toArray from p) ?_
  refine ⟨s1.heap.objs.size,[s1.heap.objs.size],_,_,H1,rfl,I1.kept (t':=s1.toks) fun b o e=>Heap.get?_push_of_some _ e,td a _,⟨_,Heap.get?_push_size _ rfl,rfl,rfl⟩,fun b hb=>?_,q⟩
  have e:b=s1.heap.objs.size:=by simpa using hb
  subst e
  exact I1.fpOk (Nat.le_refl _) (I1.hok.fresh (Nat.le_refl _))
theorem dC {tg e : Expr} {F : Rho -> R D} (h : ED C X e F) : ID C X tg e (fIt F) := qi (BR h) fun σ H R yy2 => by
 obtain ⟨ρ, ⟨H0, r⟩, q⟩ := yy2
 exact ⟨ρ, ⟨H0, r⟩, by
  unfold fIt at q
  cases e : F ρ with
  | val d =>
    rw [e] at q
    intro v H1 s1 h1
    cases h1 with
    | lst e1 h1 => exact ⟨_, rfl, .inl ⟨⟨_, SqL.of (msk_sub _ _ e1)⟩, q _ H1 s1 (vR e1 h1)⟩⟩
    | tup e1 h1 => exact ⟨_, rfl, .inr ⟨⟨_, SqT.of (msk_sub _ _ e1)⟩, q _ H1 s1 (wL e1 h1)⟩⟩
    | scr e1 => exact ⟨_, rfl, .inl ⟨⟨_, msk_sub.seq e1⟩, q _ H1 s1 (wM e1)⟩⟩
    | _ => exact q.elim
  | exc c => rw [e] at q; exact q
  | bad => rw [e] at q; exact q⟩
def oO:List D->R (List D)
 | [.int j]=>if -(2 ^ 62)<=j/\j < 2 ^ 62 then .val (rng 0 j.toNat) else .bad
 | _=>.bad
def cP (F:Rho->R (List D)):Rho->R (List D):=fun ρ=>(F ρ).bind oO
theorem cD {tg a : Expr} {p pos : Pos} {F : Rho -> R (List D)} (hg : Gl X "range") (hm : X.mg "range" = none) (ha : AD C X [a] F) (hs : starEach [a] X.env = [(false, eval a X.env)] := by rfl) :
    ID C X tg (.Call (.Name "range" p) [a] [] pos) (cP F) := qi (wc hg hm ha hs) fun σ H R yy3 => by
     obtain ⟨ρ, ⟨H0, r⟩, q⟩ := yy3
     exact ⟨ρ, ⟨H0, r⟩, by
  unfold cP at q
  cases e : F ρ with
  | val ds =>
    rw [e] at q
    dsimp only [DL.R.bind] at q
    intro vs H1 s1 h1
    unfold oO at q
    split at q
    · rename_i e0
      split at e0
      · rename_i j
        split at e0
        · rename_i hj
          cases e0
          cases h1 with
          | cons a b => cases a; cases b; exact ⟨j, rfl, hj.1, hj.2, q _ H1 s1 wN⟩
        · cases e0
      · cases e0
    · rename_i e0
      split at e0
      · split at e0 <;> cases e0
      · cases e0
    · exact q.elim
  | exc c => rw [e] at q; exact q
  | bad => rw [e] at q; exact q⟩
def bK (T:D->Rho->Option Rho) (F:Rho->R Out):List D->Rho->R Out
 | [],ρ=>.val (.nx ρ)
 | x :: xs,ρ=>match T x ρ with
  | some ρ1=>(F ρ1).bind fun o=>match o with
   | .nx ρ2=>bK T F xs ρ2
   | .ct ρ2=>bK T F xs ρ2
   | .bk ρ2=>.val (.nx ρ2)
   | .rt d=>.val (.rt d)
  | none=>.bad
def bB (src:Rho->R (List D)) (T:D->Rho->Option Rho) (F:Rho->R Out):Rho->R Out:=fun ρ=>(src ρ).bind fun xs=>bK T F xs ρ
theorem sw {ix:List Nat} {src:Rho->R (List D)} {T:D->Rho->Option Rho} {F:Rho->R Out} {D:kg} {σ:St} {H:Hp} (h:tsD C X (bB src T F) D σ H):Bq (itI C X src) (gtD C X ix T) (tsD C X F) D σ H:=by
 obtain ⟨_,H0,⟨ρ,rfl,r⟩,q⟩:=h
 refine ⟨ρ,⟨H0,r⟩,?_⟩
 unfold bB at q
 cases e:src ρ with
 | exc c=>rw [e] at q;exact ez r q
 | bad=>rw [e] at q;exact q
 | val xs =>
  rw [e] at q
  intro J H1 s1 wk
  have r1:=r.mono s1
  have hM:Same H0 (msk ρ σ H1):=r1.keep
  refine ⟨fun i m σ' H'=>m=xs.length - i/\i<=xs.length/\∃ ρ':RB,fA C X (msk ρ σ H1) ρ' σ' H'/\pS C X (bK T F (xs.drop i) ρ') H0 D,⟨xs.length,rfl,Nat.zero_le _,ρ,r1.rebase,q⟩,?_⟩
  rintro i m σ' H' ⟨rfl,hi,ρ',r',q'⟩
  have sm:Same (msk ρ σ H1) H':=r'.keep.trans msk_sub
  by_cases hlt:i < xs.length
  ·have ex:xs[i]?=some xs[i]:=by simp [hlt]
   have ed:xs.drop i=xs[i] :: xs.drop (i + 1):=List.drop_eq_getElem_cons hlt
   rw [ed] at q'
   obtain ⟨go,yld⟩:=wk.go i _ H' sm ex
   refine .inr ⟨go,fun σ2 H2=>∃ ρ2:RB,fA C X (msk ρ σ H1) ρ2 σ2 H2/\pS C X (bK T F (xs.drop (i + 1)) ρ2) H0 D,fun σ2 H2 ⟨ρ2,r2,q2⟩=>⟨xs.length - (i + 1),by omega,rfl,hlt,ρ2,r2,q2⟩,fun v H3 y=>?_⟩
   obtain ⟨s3,hv⟩:=yld v H3 y
   have hv':=hv ρ' σ' (fun b ob=>r'.ownAt ob) r'.keep
   unfold bK at q'
   split at q'
   ·rename_i ρ1 e1
    refine ⟨ρ',_,xs[i],ρ1,r'.mono s3,hv',e1,fun σ2 β eb _ r2 _=>⟨ρ1,_,⟨β,eb,r2⟩,?_⟩⟩
    cases eF:F ρ1 with
    | val o =>
     rw [eF] at q'
     cases o with
     | nx ρ2=>exact fun σ4 H4 ⟨β4,e4,r4⟩=>⟨β4,r4,by rw [e4];exact q'⟩
     | ct ρ2=>exact fun σ4 H4 ⟨β4,e4,r4⟩=>⟨β4,r4,by rw [e4];exact q'⟩
     | bk ρ2=>exact fun σ4 H4 ⟨β4,e4,r4⟩=>q' σ4 H4 ⟨β4,e4,r4.base hM⟩
     | rt d=>exact fun v4 H4 s4 h4=>q' v4 H4 (hM.trans s4) h4
    | exc c=>rw [eF] at q';exact XS.mono hM q'
    | bad=>rw [eF] at q';exact q'
   ·exact q'.elim
  ·have ei:i=xs.length:=by omega
   subst ei
   rw [List.drop_length] at q'
   exact .inl ⟨wk.stop H' sm,q' σ' H' (r'.base hM).e⟩
theorem bZ {tg iter:Expr} {body:List Stmt} {pos:Pos} {ix:List Nat} {src:Rho->R (List D)} {T:D->Rho->Option Rho} {F:Rho->R Out} (hp:PassesOwn (model X.prog X.w) X.A X.env X.xe) (hc:X.calm=true) (hi:ID C X tg iter src) (hg:GD C X tg ix T) (hb:SDs C X body F)
  (hs:∀ x,foldedSetIterable iter X.env x=pure x:=by intro _;rfl):SD C X (.For tg iter body [] pos) (bB src T F) :=
 bN (xq hp hc hi hg hb hs) fun D σ H h=>sw h
end
def st0 (N:List Str) (ds:List D):Rho:=ds.map (fun d=>some (.shr d)) ++ List.replicate (N.length - ds.length) none
def fin:R Out->R D
 | .val (.nx _)=>.val .non
 | .val (.rt d)=>.val d
 | .val _=>.bad
 | .exc c=>.exc c
 | .bad=>.bad
theorem zf {N:List Str} {ds:List D} {i:Nat} {sl:Slt} (h:(st0 N ds)[i]?=some (some sl)):∃ d,sl=.shr d/\ds[i]?=some d:=by
 unfold st0 at h
 by_cases hi:i < ds.length
 ·rw [List.getElem?_append_left (by simpa using hi),List.getElem?_map] at h
  cases e:ds[i]? with
  | none=>rw [e] at h;cases h
  | some d=>rw [e] at h;cases h;exact ⟨d,rfl,rfl⟩
 ·rw [List.getElem?_append_right (by simpa using hi),List.getElem?_replicate] at h
  split at h <;> cases h
theorem kS {K:Frag} {C:Addr} {H:Hp} {N:List Str} {vs:List V} {ds:List D} (h:HasL K C H vs ds):wK K C H (st0 N ds) (L2.start N vs) H:=by
 have sub:Same H (msk ⟨st0 N ds,fun _=>[]⟩ (L2.start N vs) H):=fun b o e=>msk_some.mpr ⟨fun ⟨_,z⟩=>(List.not_mem_nil z).elim,e⟩
 refine ⟨⟨st0 N ds,fun _=>[]⟩,rfl,?_,sub,fun i sl e=>?_,fun i j a z=>(List.not_mem_nil z).elim,fun i a z=>(List.not_mem_nil z).elim,fun i a z=>(List.not_mem_nil z).elim⟩
 ·show (st0 N ds).length=_
  unfold st0 L2.start
  simp [h.len]
 ·obtain ⟨d,rfl,e1⟩:=zf e
  obtain ⟨v,e2,h2⟩:=h.get e1
  refine ⟨v,?_,h2.mono sub⟩
  have hi:i < vs.length:=(List.getElem?_eq_some_iff.mp e2).1
  unfold L2.start
  rw [List.getElem?_append_left (by simpa using hi),List.getElem?_map,e2]
  rfl
section
variable {P:Program} {w:World} {K:Frag} {mg:Str->Option Value} {base:Heap} {C:Addr}
theorem bA {x qual:Str} {st:Stmt} {f:Addr} {fd:FuncData} {N ps:List Str} {k:Nat} {den:Rho->R Out} (F:Fun K x qual st f fd) (sc:aH N ps (ak st))
  (hb:∀ (cdv:Value) (A:Around) (outer:List Env) (s:Shared) (H:Hp) (E:XK),Room k (A.deeper (envOfC qual (ak st) s.heap.objs.size f cdv)) ->
   SDs C (bS CX0 P w K mg base N qual (ak st) f cdv A outer s H E).nox (aF st) den) :
  FnOk P w K mg base CX0 (k + 1) f fd ps (spD K C ps.length fun ds=>fin (den (st0 N ds))):=by
 refine F.ok sc (fun vs H Q E h=>h.1) (fun cdv A outer s H vs Q E hr h=>⟨_,hb cdv A outer s H E hr,?_⟩)
 obtain ⟨_,ds,h,q⟩:=h
 refine ⟨st0 N ds,H,kS h,?_⟩
 dsimp only at q
 cases e:den (st0 N ds) with
 | val o =>
  rw [e] at q
  cases o with
  | nx ρ'=>exact fun σ' H' ⟨_,_,r⟩=>q _ H' (r.keep.trans msk_sub) .non
  | rt d=>exact fun v H' s' h'=>q v H' s' h'
  | bk ρ'=>exact q.elim
  | ct ρ'=>exact q.elim
 | exc c=>rw [e] at q;exact q.elim
 | bad=>rw [e] at q;exact q.elim
end
def D3 (scope:Scope) (env:Env) (L:Addr) (cs:List (Str × Addr)):Env :=
 {scope:=relabel scope env,locals:=L,globals:=env.globals,cells:=cs,qual:=env.qual,func:=none,code:=env.code,frame:=env.frame,builtins:=env.builtins }
def Cz (o:Option NameKind):Bool:=match o with
 | some .cell=>true
 | _=>false
def kc (o:Option NameKind):Bool:=match o with
 | some .cell=>true
 | some .free=>true
 | _=>false
def cxC (X:Cx) (N':List Str) (scope:Scope) (L:Addr) (cs:List (Str × Addr)) (s:Shared) (H:Hp) (fp:List Addr):Cx :=
 {prog:=X.prog,w:=X.w,K:=X.K,mg:=X.mg,base:=X.base,A:=X.A,N:=N',s₀:=s,H₀:=H,env:=D3 scope X.env L cs,outer:=X.stack,stack:=X.stack,ex:=fp,
  fn:=fun x=>Cz (scope.names.lookup x),calm:=X.calm,pn:=[],xe:=fun _ _=>False }
def yN (N:List Str) (env:Env) (sc:Scope):List Str->Nat->Bool
 | [],_=>true
 | x :: r,i=>(match sc.names.lookup x with
   | some .free=>(match N[i]? with | some y=>y == x | none=>false) && kc (env.kindOf x)
   | some .local=>Nat.ble N.length i
   | some .cell=>Nat.ble N.length i
   | _=>true) && yN N env sc r (i + 1)
def fK (env:Env) (x:Str) (k:NameKind):Bool:=match k with
 | .free=>kc (env.kindOf x)
 | _=>true
def AN (env:Env):List (Str × NameKind)->Bool
 | []=>true
 | p :: r=>fK env p.1 p.2 && AN env r
def lK (k:NameKind) (o:Option NameKind):Bool:=match k,o with
 | .local,some .local=>true
 | .local,_=>false
 | .free,some .free=>true
 | .free,_=>false
 | .cell,some .cell=>true
 | .cell,_=>false
 | _,_=>true
def AM (names:List (Str × NameKind)):List (Str × NameKind)->Bool
 | []=>true
 | p :: r=>lK p.2 (names.lookup p.1) && AM names r
theorem DR {k:NameKind} {o:Option NameKind} (h:lK k o=true) (hk:k=.local\/k=.free\/k=.cell):o=some k:=by
 rcases hk with rfl | rfl | rfl
 ·cases o with
  | none=>cases h
  | some j=>cases j <;> first | rfl | cases h
 ·cases o with
  | none=>cases h
  | some j=>cases j <;> first | rfl | cases h
 ·cases o with
  | none=>cases h
  | some j=>cases j <;> first | rfl | cases h
def uq (N N':List Str) (env:Env) (sc:Scope):Bool:=yN N env sc N' 0 && (AN env sc.names && (AM sc.names sc.names && (Nat.ble N.length N'.length && (match sc.kind with | .function=>true | _=>false))))
theorem qy {o:Option NameKind} (h:kc o=true):o=some .cell\/o=some .free:=by
 unfold kc at h
 split at h <;> simp_all
theorem vN {N:List Str} {env:Env} {sc:Scope}:∀ {l:List Str} {k i:Nat} {x:Str},yN N env sc l k=true->l[i]?=some x ->
  (sc.names.lookup x=some .free->N[k + i]?=some x/\kc (env.kindOf x)=true)/\((sc.names.lookup x=some .local\/sc.names.lookup x=some .cell)->N.length<=k + i)
 | [],_,_,_,_,e=>by simp at e
 | y :: r,k,0,x,h,e=>by
  simp at e;subst e
  rw [yN,Bool.and_eq_true] at h
  obtain ⟨h,_⟩:=h
  refine ⟨fun z=>?_,fun z=>?_⟩
  ·rw [z] at h
   simp only [Bool.and_eq_true] at h
   obtain ⟨h1,h2⟩:=h
   refine ⟨?_,h2⟩
   split at h1
   ·rename_i w e1
    rw [Nat.add_zero,e1,beq_iff_eq.mp h1]
   ·cases h1
  ·rcases z with z | z <;> (rw [z] at h;exact Nat.le_of_ble_eq_true h)
 | y :: r,k,i + 1,x,h,e=>by
  rw [yN,Bool.and_eq_true] at h
  have q:=vN (k:=k + 1) (i:=i) (x:=x) h.2 (by simpa using e)
  rw [show k + (i + 1)=k + 1 + i by omega]
  exact q
theorem qO {env:Env}:∀ {l:List (Str × NameKind)} {x:Str},AN env l=true->(x,NameKind.free) ∈ l->kc (env.kindOf x)=true
 | [],_,_,h=>by cases h
 | p :: r,x,h,m=>by
  have h:fK env p.1 p.2=true/\AN env r=true:=Bool.and_eq_true_iff.mp h
  rcases List.mem_cons.mp m with e | m
  ·subst e;exact h.1
  ·exact qO h.2 m
theorem mM {names:List (Str × NameKind)}:∀ {l:List (Str × NameKind)} {x:Str} {k:NameKind},AM names l=true->(x,k) ∈ l->(k=.local\/k=.free\/k=.cell)->names.lookup x=some k
 | [],_,_,_,h,_=>by cases h
 | p :: r,x,k,h,m,hk=>by
  have h:lK p.2 (names.lookup p.1)=true/\AM names r=true:=Bool.and_eq_true_iff.mp h
  rcases List.mem_cons.mp m with e | m
  ·subst e;exact DR h.1 hk
  ·exact mM h.2 m hk
def cSt (x:Str) (k:NameKind) (o:Option Addr) (acc:List (Str × Addr)):List (Str × Addr):=match k,o with
 | .free,some c=>(x,c) :: acc
 | _,_=>acc
def d_ (env:Env):List (Str × NameKind)->List (Str × Addr)->List (Str × Addr)
 | [],acc=>acc
 | p :: r,acc=>d_ env r (cSt p.1 p.2 (env.cells.lookup p.1) acc)
theorem qT {x:Str} {k:NameKind} {o:Option Addr} {acc:List (Str × Addr)} (h:k ≠ .free):cSt x k o acc=acc:=by
 cases k with
 | free=>exact absurd rfl h
 | _=>rfl
theorem oz {x:Str} {k:NameKind} {acc:List (Str × Addr)}:cSt x k none acc=acc:=by cases k <;> rfl
theorem vL {env:Env} {scope:Scope} (h:∀ x,(x,NameKind.free) ∈ scope.names->∃ c,env.cells.lookup x=some c):closureFor scope env=pure (d_ env scope.names []):=by
 unfold closureFor
 have gen:∀ (l:List (Str × NameKind)) (acc:List (Str × Addr)) (f:Str × NameKind->List (Str × Addr)->Sem (ForInStep (List (Str × Addr)))),(∀ x,(x,NameKind.free) ∈ l->∃ c,env.cells.lookup x=some c) ->
   (∀ n k cs,f (n,k) cs=if (k == NameKind.free)=true then (do let a <- cellOf env n;pure (ForInStep.yield ((n,a) :: cs))) else pure (ForInStep.yield cs))->forIn l acc f=pure (d_ env l acc):=by
  intro l
  induction l with
  | nil=>intro acc f _ _;rfl
  | cons y r ih =>
   intro acc f hc hf
   obtain ⟨n,k⟩:=y
   rw [List.forIn_cons,hf]
   have ih':=fun acc=>ih acc f (fun x hx=>hc x (List.mem_cons_of_mem _ hx)) hf
   by_cases hk:k=.free
   ·subst hk
    obtain ⟨c,e⟩:=hc n List.mem_cons_self
    rw [if_pos (by rfl)]
    unfold cellOf
    rw [e]
    simp only [pure_bind]
    rw [ih']
    show pure (d_ env r ((n,c) :: acc))=pure (d_ env r (cSt n .free (env.cells.lookup n) acc))
    rw [e];rfl
   ·have hb:(k == NameKind.free)=false:=by simpa using hk
    rw [hb,if_neg Bool.false_ne_true,pure_bind]
    show forIn r acc f=_
    rw [ih']
    show _=pure (d_ env r (cSt n k (env.cells.lookup n) acc))
    rw [qT hk]
 dsimp only
 rw [gen scope.names [] _ h]
 ·rfl
 ·intro n k cs
  cases hb:k == NameKind.free <;> simp [hb]
theorem oy {env:Env}:∀ {l:List (Str × NameKind)} {acc:List (Str × Addr)} {x:Str} {c:Addr},(d_ env l acc).lookup x=some c->(∀ c',acc.lookup x=some c'->env.cells.lookup x=some c')->env.cells.lookup x=some c
 | [],acc,x,c,e,h=>h c e
 | (y,k) :: r,acc,x,c,e,h=>by
  have e:(d_ env r (cSt y k (env.cells.lookup y) acc)).lookup x=some c:=e
  refine oy e fun c' e'=>?_
  by_cases hk:k=.free
  ·subst hk
   cases e0:env.cells.lookup y with
   | none=>rw [e0,oz] at e';exact h c' e'
   | some c0 =>
    rw [e0] at e'
    have e':((y,c0) :: acc).lookup x=some c':=e'
    rw [List.lookup_cons] at e'
    cases hb:x == y with
    | true=>rw [hb] at e';cases e';rw [beq_iff_eq.mp hb];exact e0
    | false=>rw [hb] at e';exact h c' e'
  ·rw [qT hk] at e';exact h c' e'
theorem lu {env:Env} {x:Str} {c:Addr} (hc:env.cells.lookup x=some c):∀ {l:List (Str × NameKind)} {acc:List (Str × Addr)},((x,NameKind.free) ∈ l\/acc.lookup x=some c)->(d_ env l acc).lookup x=some c
 | [],acc,h=>h.elim (fun z=>by cases z) id
 | (y,k) :: r,acc,h=>by
  show (d_ env r (cSt y k (env.cells.lookup y) acc)).lookup x=some c
  refine lu hc ?_
  rcases h with h | h
  ·rcases List.mem_cons.mp h with e | h
   ·cases e
    right
    rw [hc]
    show ((x,c) :: acc).lookup x=some c
    rw [List.lookup_cons,beq_self_eq_true]
   ·exact .inl h
  ·right
   by_cases hk:k=.free
   ·subst hk
    cases e0:env.cells.lookup y with
    | none=>rw [oz];exact h
    | some c0 =>
     show ((y,c0) :: acc).lookup x=some c
     rw [List.lookup_cons]
     cases hb:x == y with
     | true=>rw [<- beq_iff_eq.mp hb,hc] at e0;exact e0.symm
     | false=>exact h
   ·rw [qT hk];exact h
theorem mO:∀ {names:List (Str × NameKind)} {n:Nat} {acc:List (Str × Addr)} {x:Str} {c:Addr},(cellsFrom n names acc).lookup x=some c->acc.lookup x=some c\/(n<=c/\(x,NameKind.cell) ∈ names)
 | [],_,_,_,_,e=>.inl e
 | (y,k) :: r,n,acc,x,c,e=>by
  unfold cellsFrom at e
  split at e
  ·rename_i hk
   rcases mO e with q | ⟨q,m⟩
   ·rw [List.lookup_cons] at q
    cases hb:x == y with
    | true=>rw [hb] at q;cases q;rw [beq_iff_eq.mp hb,beq_iff_eq.mp hk];exact .inr ⟨Nat.le_refl _,List.mem_cons_self⟩
    | false=>rw [hb] at q;exact .inl q
   ·exact .inr ⟨Nat.le_of_succ_le q,List.mem_cons_of_mem _ m⟩
  ·rcases mO e with q | ⟨q,m⟩
   ·exact .inl q
   ·exact .inr ⟨q,List.mem_cons_of_mem _ m⟩
theorem qP:∀ {names:List (Str × NameKind)} {n:Nat} {acc:List (Str × Addr)} {x:Str},(x,NameKind.cell) ∉ names->(cellsFrom n names acc).lookup x=acc.lookup x
 | [],_,_,_,_=>rfl
 | (y,k) :: r,n,acc,x,h=>by
  unfold cellsFrom
  split
  ·rename_i hk
   rw [qP fun m=>h (List.mem_cons_of_mem _ m),List.lookup_cons]
   cases hb:x == y with
   | true=>exact absurd (by rw [beq_iff_eq.mp hb,beq_iff_eq.mp hk];exact List.mem_cons_self) h
   | false=>rfl
  ·exact qP fun m=>h (List.mem_cons_of_mem _ m)
theorem yY {M:Model} {A:Around} {E:Value->Shared->Prop} {s:Shared} {scope:Scope} {cl:List (Str × Addr)} {env:Env} {Q:Env->Shared->Prop}
  (h:Q { scope:=scope,locals:=s.heap.objs.size,globals:=env.globals,cells:=cellsFrom (s.heap.objs.size + 1) scope.names cl,qual:=env.qual,func:=none,code:=env.code,frame:=env.frame,builtins:=env.builtins }
   {s with heap:=pushCells (s.heap.push { cls:=.type "dict",data:=.dict #[] }) scope.names }):wpAny M A (newFunctionEnv scope env.globals cl [] env.qual none .none (some env)) Q E s:=by
 simp only [newFunctionEnv,Option.isSome_some,if_true]
 refine wpAny_bind (wpAny_alloc ?_)
 refine wpAny_bind (wpAny_layCells _ (fun name kind cells=>by cases hkc:kind == NameKind.cell <;> simp [hkc]) _ _ _ _ ?_)
 rw [show ({ s with heap:=s.heap.push { cls:=.type "dict",data:=.dict #[] } }:Shared).heap.objs.size=s.heap.objs.size + 1 from Heap.size_push ..]
 exact wpAny_pure h
structure AT (ix:List Nat) (T:D->Rho->Option Rho):Prop where
 len:∀ x ρ ρ',T x ρ=some ρ'->ρ'.length=ρ.length
 out:∀ x ρ ρ',T x ρ=some ρ'->∀ j:Nat,j ∉ ix->ρ'[j]?=ρ[j]?
 shr:∀ x ρ ρ',T x ρ=some ρ'->∀ (j:Nat) sl,j ∈ ix->ρ'[j]?=some (some sl)->ya sl=false
theorem dF {i:Nat}:AT [i] (tgN i) where
 len:=fun x ρ ρ' e=>by cases e;simp
 out:=fun x ρ ρ' e j hj=>by cases e;exact List.getElem?_set_ne fun z=>hj (by simp [z])
 shr:=fun x ρ ρ' e j sl hj h=>by
  cases e
  have:j=i:=by simpa using hj
  subst this
  rw [List.getElem?_set] at h
  simp only [if_true] at h
  split at h <;> cases h
  rfl
theorem uH {ρ:Rho} {i j:Nat} {d:D} {sl:Slt} (h:(ρ.set i (some (.shr d)))[j]?=some (some sl)) (hn:i ≠ j->ya sl=false):ya sl=false:=by
 by_cases hj:i=j
 ·subst hj
  rw [List.getElem?_set] at h
  simp only [if_true] at h
  split at h <;> cases h
  rfl
 ·exact hn hj
theorem wR {i j:Nat}:AT [i,j] (tg2 i j) where
 len:=fun x ρ ρ' e=>by
  unfold tg2 at e;split at e
  ·cases e;simp
  ·cases e
 out:=fun x ρ ρ' e k hk=>by
  unfold tg2 at e;split at e
  ·cases e
   rw [List.getElem?_set_ne fun z=>hk (by simp [z]),List.getElem?_set_ne fun z=>hk (by simp [z])]
  ·cases e
 shr:=fun x ρ ρ' e k sl hk h=>by
  unfold tg2 at e;split at e
  ·cases e
   refine uH h fun hj=>?_
   rw [List.getElem?_set_ne hj] at h
   refine uH h fun hi=>?_
   simp at hk
   rcases hk with rfl | rfl
   ·exact absurd rfl hi
   ·exact absurd rfl hj
  ·cases e
def noE {α:Type}:R α->R α
 | .val a=>.val a
 | _=>.bad
def jk (T:D->Rho->Option Rho) (t:Rho->R Bool) (e:Rho->R D):List D->Rho->R (List D)
 | [],_=>.val []
 | x :: xs,ρ=>match T x ρ with
  | some ρ1=>(noE (t ρ1)).bind fun b=>if b=true then (noE (e ρ1)).bind fun d=>(jk T t e xs ρ).bind fun ds=>.val (d :: ds) else jk T t e xs ρ
  | none=>.bad
variable {C:Addr} {X:Cx}
variable (C X) in
def sY (ifs:List Expr) (t:Rho->R Bool):Prop:=∀ (pins:List (Addr × Obj)) (s:Shared) (σ:St) (H:Hp) (Q:Bool->Hp->Prop),Inv X pins σ H s->ttD C X t σ H Q ->
 wpAny (model X.prog X.w) X.A (forIn ifs true fun c r=>if r=true then do let ok <- isTrue c X.env (eval c X.env);pure (ForInStep.yield ok) else pure (ForInStep.yield r)) (TP X pins σ Q) X.xe s
def tT:Rho->R Bool:=fun _=>.val true
theorem cU:sY C X [] tT:=fun pins s σ H Q I zz0=>by
 obtain ⟨ρ,r,q⟩:=zz0
 rw [List.forIn_nil]
 exact wpAny_pure ⟨H,I,q H (Same.refl _)⟩
theorem qA {c:Expr} {t:Rho->R Bool} (h:TD C X c t):sY C X [c] t:=fun pins s σ H Q I q=>by
 rw [List.forIn_cons,if_pos rfl]
 refine wpAny_bind (wpAny_bind (thn (h pins s σ H Q I q) fun b s1 z=>wpAny_pure ?_))
 show wpAny _ _ (forIn [] b _) _ _ s1
 rw [List.forIn_nil]
 exact wpAny_pure z
def RB.ext (ρ:RB) (m:Nat):RB:=⟨ρ.rho ++ List.replicate m none,ρ.ad⟩
theorem tQ {ρ β:RB} {σ σ':St} (h:∀ j,β.ad j=ρ.ad j):msk β σ'=msk ρ σ:=by
 have e:β.ad=ρ.ad:=funext h
 funext G b
 unfold msk Own
 rw [e]
theorem zu {K:Frag} {H0 H:Hp} {ρ:RB} {σ σ':St} {m:Nat} (r:Rel K C H0 ρ σ H) (hl:σ'.length=ρ.rho.length + m) (hp:∀ j:Nat,j < ρ.rho.length->σ'[j]?=σ[j]?) :
  Rel K C H0 (ρ.ext m) σ' H/\msk (ρ.ext m) σ'=msk ρ σ:=by
 have at':∀ (i:Nat) sl,(ρ.rho ++ List.replicate m none)[i]?=some (some sl)->ρ.rho[i]?=some (some sl)/\i < ρ.rho.length:=fun i sl e=>by
  by_cases hi:i < ρ.rho.length
  ·rw [List.getElem?_append_left hi] at e;exact ⟨e,hi⟩
  ·rw [List.getElem?_append_right (by omega),List.getElem?_replicate] at e
   split at e <;> cases e
 have em:msk (ρ.ext m) σ'=msk ρ σ:=tQ fun _=>rfl
 refine ⟨⟨?_,by rw [em];exact r.keep,fun i sl e=>?_,r.inj,r.kin,fun i a z=>?_⟩,em⟩
 ·show (ρ.rho ++ List.replicate m none).length=_
  simp [hl]
 ·obtain ⟨e1,hi⟩:=at' i sl e
  rw [em,hp i hi];exact r.at_ i sl e1
 ·show i < (ρ.rho ++ List.replicate m none).length
  rw [List.length_append];exact Nat.lt_of_lt_of_le (r.bnd i a z) (Nat.le_add_right _ _)
theorem Cm {ρ β:RB} {σ σ1:St} {ix:List Nat} (h:∀ j:Nat,β.ad j=if j ∈ ix then [] else ρ.ad j) (hix:∀ j ∈ ix,ρ.ad j=[]):msk β σ1=msk ρ σ:=tQ fun j=>by
 rw [h j]
 split
 ·exact (hix j ‹_›).symm
 ·rfl
end DL
namespace DL
open PySem PySem.Spec PyProof.Rows L2
theorem qN {prog:Program} {w:World} {A:Around} {R:Result->Shared->Prop} {s:Shared} {elt target iter:Expr} {ifs:List Expr} {scope:Scope} {pos:Pos} {it acc:Value} {env:Env} (I:Nat->Shared->Prop)
  (jQ:∀ n s,I n s->wpAny (model prog w) A (pyNext it) (fun r s₁=>match r with
   | none=>R (.ok .next) s₁
   | some v=>wpAny (model prog w) A (letOwnedTupleGo target it v) (fun _ s₀=>wpAny (model prog w) A (assign target env v) (fun _ s₂ =>
     wpAny (model prog w) A (forIn ifs true fun c r=>if r=true then do let ok <- isTrue c env (eval c env);pure (ForInStep.yield ok) else pure (ForInStep.yield r)) (fun ok s₃ =>
      if ok=true then wpAny (model prog w) A (eval elt env) (fun x s₄ =>
       wpAny (model prog w) A (call (.builtin "list.append") [acc,x]) (fun _ s₅=>∃ m,m < n/\I m s₅) (fun _ _=>False) s₄) (fun _ _=>False) s₃
      else ∃ m,m < n/\I m s₃) (fun _ _=>False) s₂) (fun _ _=>False) s₀) (fun _ _=>False) s₁) (fun _ _=>False) s)
  (n:Nat) (h:I n s):codeAny (model prog w) A (.compLoop (.ListComp elt [⟨target,iter,ifs,0⟩] scope pos) 0 it acc env) R s:=by
 refine codeAny_loop rfl I (fun n s hI=>?_) n h
 show wpAny _ A ((compTurn (.ListComp elt [⟨target,iter,ifs,0⟩] scope pos) 0 it acc env).onRaise (fun x=>do noteFrame x env;theTreesLotGoes x)) _ _ s
 refine wpAny_noted ?_
 rw [compTurn_list]
 refine wpAny_bind (wpAny_standAt (wpAny_bind (wpAny_mono (jQ n s hI) (fun r s₁ h₁=>?_) fun _ _ h'=>h'.elim)))
 cases r with
 | none=>exact wpAny_pure h₁
 | some v =>
  refine wpAny_bind (wpAny_mono h₁ (fun _ s₀ h₀=>?_) fun _ _ h'=>h'.elim)
  refine wpAny_bind (wpAny_mono h₀ (fun _ s₂ h₂=>wpAny_bind (wpAny_mono h₂ (fun ok s₃ h₃=>?_) fun _ _ h'=>h'.elim)) fun _ _ h'=>h'.elim)
  cases ok with
  | false=>exact wpAny_pure ⟨rfl,h₃⟩
  | true =>
   exact wpAny_bind (wpAny_bind (wpAny_mono h₃ (fun x s₄ h₄=>wpAny_bind (wpAny_mono h₄ (fun _ s₅ h₅=>wpAny_pure (wpAny_pure ⟨rfl,h₅⟩)) fun _ _ h'=>h'.elim)) fun _ _ h'=>h'.elim))
theorem ut:∀ {names:List (Str × NameKind)} {n:Nat} {acc:List (Str × Addr)},(∀ x y c,acc.lookup x=some c->acc.lookup y=some c->x=y)->(∀ x c,acc.lookup x=some c->c < n) ->
  ∀ x y c,(cellsFrom n names acc).lookup x=some c->(cellsFrom n names acc).lookup y=some c->x=y
 | [],_,_,h,_=>h
 | (z,k) :: r,n,acc,h,hb=>by
  unfold cellsFrom
  split
  ·refine ut (fun x y c e1 e2=>?_) (fun x c e=>?_)
   ·rw [List.lookup_cons] at e1 e2
    cases b1:x == z with
    | true =>
     rw [b1] at e1;cases e1
     cases b2:y == z with
     | true=>rw [beq_iff_eq.mp b1,beq_iff_eq.mp b2]
     | false=>rw [b2] at e2;exact absurd (hb y _ e2) (Nat.lt_irrefl _)
    | false =>
     rw [b1] at e1
     cases b2:y == z with
     | true=>rw [b2] at e2;cases e2;exact absurd (hb x _ e1) (Nat.lt_irrefl _)
     | false=>rw [b2] at e2;exact h x y c e1 e2
   ·rw [List.lookup_cons] at e
    cases b1:x == z with
    | true=>rw [b1] at e;cases e;exact Nat.lt_succ_self _
    | false=>rw [b1] at e;exact Nat.lt_succ_of_lt (hb x c e)
  ·exact ut h hb
theorem qQ:∀ {names:List (Str × NameKind)} {h:Heap} {acc:List (Str × Addr)} {x:Str} {c:Addr},(cellsFrom h.objs.size names acc).lookup x=some c->acc.lookup x=some c\/(pushCells h names).IsCell c none
 | [],_,_,_,_,e=>.inl e
 | (y,k) :: r,h,acc,x,c,e=>by
  unfold cellsFrom at e
  unfold pushCells
  split at e
  ·rename_i hk
   rw [if_pos hk]
   have e':(cellsFrom (h.push { cls:=.type "cell",data:=.cell none }).objs.size r ((y,h.objs.size) :: acc)).lookup x=some c:=by rw [Heap.size_push];exact e
   rcases qQ e' with q | q
   ·rw [List.lookup_cons] at q
    cases b1:x == y with
    | true =>
     rw [b1] at q;cases q
     exact .inr ⟨_,pushCells_keeps r _ _ _ (Heap.get?_push_size _ rfl),rfl⟩
    | false=>rw [b1] at q;exact .inl q
   ·exact .inr q
  ·rename_i hk
   rw [if_neg hk]
   exact qQ e
theorem pR {env:Env}:∀ {l:List (Str × NameKind)} {acc:List (Str × Addr)} {x:Str} {c:Addr},(d_ env l acc).lookup x=some c->acc.lookup x=some c\/(x,NameKind.free) ∈ l
 | [],acc,x,c,e=>.inl e
 | (y,k) :: r,acc,x,c,e=>by
  have e:(d_ env r (cSt y k (env.cells.lookup y) acc)).lookup x=some c:=e
  rcases pR e with q | q
  ·by_cases hk:k=.free
   ·subst hk
    cases e0:env.cells.lookup y with
    | none=>rw [e0,oz] at q;exact .inl q
    | some c0 =>
     rw [e0] at q
     have q:((y,c0) :: acc).lookup x=some c:=q
     rw [List.lookup_cons] at q
     cases hb:x == y with
     | true=>rw [beq_iff_eq.mp hb];exact .inr List.mem_cons_self
     | false=>rw [hb] at q;exact .inl q
   ·rw [qT hk] at q;exact .inl q
  ·exact .inr (List.mem_cons_of_mem _ q)
def reK (env:Env) (n:Str) (k:NameKind):NameKind:=if (k == .free && env.scope.kind == .function && env.kindOf n == some .cell)=true then .cell else k
theorem uP {env:Env}:∀ {names:List (Str × NameKind)} {x:Str},
  (names.map fun (p:Str × NameKind)=>if (p.2 == .free && env.scope.kind == .function && env.kindOf p.1 == some .cell)=true then (p.1,NameKind.cell) else (p.1,p.2)).lookup x=(names.lookup x).map (reK env x)
 | [],_=>rfl
 | (n,k) :: r,x=>by
  have ih:=uP (env:=env) (names:=r) (x:=x)
  rw [List.map_cons]
  have e:(if (k == .free && env.scope.kind == .function && env.kindOf n == some .cell)=true then (n,NameKind.cell) else (n,k))=(n,reK env n k):=by
   unfold reK;split <;> rfl
  show List.lookup x ((if (k == .free && env.scope.kind == .function && env.kindOf n == some .cell)=true then (n,NameKind.cell) else (n,k)) :: _)=_
  rw [e,List.lookup_cons,List.lookup_cons]
  cases hb:x == n with
  | true=>rw [beq_iff_eq.mp hb];rfl
  | false=>exact ih
theorem ii {scope:Scope} {env:Env} {x:Str}:(relabel scope env).names.lookup x=(scope.names.lookup x).map (reK env x):=uP
theorem kT {env:Env} {x:Str} {k:NameKind}:(k=.free/\(reK env x k=.free\/reK env x k=.cell))\/(k ≠ .free/\reK env x k=k):=by
 unfold reK
 by_cases hk:k=.free
 ·subst hk;left;refine ⟨rfl,?_⟩;split <;> simp
 ·right;refine ⟨hk,?_⟩
  have:(k == NameKind.free)=false:=by simpa using hk
  rw [this];rfl
theorem AK {H:Hp}:cut [] H=H:=by
 funext b
 unfold cut
 rw [if_neg List.not_mem_nil]
theorem kx {ρ:RB} {σ:St} {zs:List Addr} {H:Hp}:msk ρ σ (cut zs H)=cut zs (msk ρ σ H):=by
 funext b
 unfold msk cut
 by_cases h:Own ρ σ b <;> by_cases h':b ∈ zs <;> simp [h,h']
theorem vJ {zs:List Addr} {H:Hp}:Same (cut zs H) H:=fun b o e=>(cut_some.mp e).2
theorem pk {H H':Hp} {b:Addr} (s:Same H H') (h:H' b=none):H b=none:=by
 cases e:H b with
 | none=>rfl
 | some o=>rw [s b o e] at h;cases h
section
variable {C:Addr} {X:Cx}
def pK (C:Addr) (X:Cx) (k:OK) (ρ:RB) (r:R D) (σ:St) (H:Hp) (Q:VK):Prop:=match r with
 | .val d=>∀ v H' A,Same H H'->(∀ a ∈ A,H a=none)->Tre X.K C (cut A (msk ρ σ H')) H' k v d A->Q v H'
 | .exc c=>XE X c σ H
 | .bad=>False
variable (C X) in
def teK (k:OK) (F:Rho->R D):TE:=fun σ H Q=>∃ ρ:RB,(∃ H0,fA C X H0 ρ σ H)/\pK C X k ρ (F ρ) σ H Q
variable (C X) in
def KD (k:OK) (e:Expr) (F:Rho->R D):Prop:=PE X e (teK C X k F)
theorem A8 {e:Expr} {F:Rho->R D} (h:ED C X e F):KD C X .s e F:=aX h fun σ H Q ⟨ρ,r,q⟩=>⟨ρ,r,by
 cases z:F ρ with
 | val d=>rw [z] at q;exact fun v H' s h=>q v H' [] s (fun a ha=>by cases ha) (.s (by rw [AK];exact h))
 | exc c=>rw [z] at q;exact q
 | bad=>rw [z] at q;exact q⟩
end
variable {C:Addr} {X:Cx}
theorem AJ {a:Addr} {H:Hp} {o:HO} (h:H a=none):cut [a] (upd H a o)=H:=by
 funext b
 unfold cut
 by_cases hb:b=a
 ·rw [if_pos (by simp [hb]),hb,h]
 ·rw [if_neg (by simp [hb]),aO hb]
theorem yZ {a:Addr} {H:Hp} {o:HO} (h:H a=some o):upd (cut [a] H) a o=H:=by
 funext b
 by_cases hb:b=a
 ·rw [hb,bp,h]
 ·rw [aO hb];unfold cut;rw [if_neg (by simp [hb])]
theorem um {N':List Str} {scope:Scope} {n:Nat} (hchk:uq X.N N' X.env scope=true) (hN:N'.length=X.N.length + n)
  {pins:List (Addr × Obj)} {σ:St} {H3:Hp} {s3:Shared} {fp:List Addr} (I3:Inv X pins σ H3 s3) (hfp:∀ b ∈ fp,b < s3.heap.objs.size) (f3:∀ b ∈ fp,oJ X pins H3 b) :
  Inv (cxC X N' scope s3.heap.objs.size (cellsFrom (s3.heap.objs.size + 1) scope.names (d_ X.env scope.names [])) s3 H3 fp) [] (σ ++ List.replicate n none) H3
   {s3 with heap:=pushCells (s3.heap.push { cls:=.type "dict",data:=.dict #[] }) scope.names }:=by
 obtain ⟨c1,hchk⟩:=Bool.and_eq_true_iff.mp hchk
 obtain ⟨c2,hchk⟩:=Bool.and_eq_true_iff.mp hchk
 obtain ⟨c3,hchk⟩:=Bool.and_eq_true_iff.mp hchk
 obtain ⟨c4,c5⟩:=Bool.and_eq_true_iff.mp hchk
 have hkind:scope.kind=.function:=by
  revert c5
  cases scope.kind <;> simp
 have keep:∀ b o,s3.heap.get? b=some o->(pushCells (s3.heap.push { cls:=.type "dict",data:=.dict #[] }) scope.names).get? b=some o:=fun b o e=>pushCells_keeps _ _ b o (Heap.get?_push_of_some _ e)
 have I4:Inv X pins σ H3 { s3 with heap:=pushCells (s3.heap.push { cls:=.type "dict",data:=.dict #[] }) scope.names }:=I3.kept (t':=s3.toks) keep
 have sz:(s3.heap.push { cls:=.type "dict",data:=.dict #[] }).objs.size=s3.heap.objs.size + 1:=Heap.size_push ..
 have fr:∀ x,(x,NameKind.free) ∈ scope.names->∃ c,X.env.cells.lookup x=some c:=fun x hx=>I3.ok.has x (qy (qO c2 hx))
 have cl_old:∀ x c,(d_ X.env scope.names []).lookup x=some c->X.env.cells.lookup x=some c:=fun x c e=>oy e fun c' e'=>by cases e'
 have cl_lt:∀ x c,(d_ X.env scope.names []).lookup x=some c->c < s3.heap.objs.size:=fun x c e=>by
  obtain ⟨v,q⟩:=I3.cell x c (cl_old x c e)
  exact q.lt
 have look:∀ x c,(cellsFrom (s3.heap.objs.size + 1) scope.names (d_ X.env scope.names [])).lookup x=some c ->
   X.env.cells.lookup x=some c\/(s3.heap.objs.size + 1<=c/\(x,NameKind.cell) ∈ scope.names/\(pushCells (s3.heap.push { cls:=.type "dict",data:=.dict #[] }) scope.names).IsCell c none):=fun x c e=>by
  rcases mO e with q | ⟨q,m⟩
  ·exact .inl (cl_old x c q)
  ·rcases qQ (h:=s3.heap.push { cls:=.type "dict",data:=.dict #[] }) (by rw [sz];exact e) with z | z
   ·exact absurd (Nat.lt_of_lt_of_le (cl_lt x c z) (Nat.le_of_succ_le q)) (Nat.lt_irrefl _)
   ·exact .inr ⟨q,m,z⟩
 have ok:(cxC X N' scope s3.heap.objs.size (cellsFrom (s3.heap.objs.size + 1) scope.names (d_ X.env scope.names [])) s3 H3 fp).Ok:=by
  refine ⟨I3.ok.mod,hkind,I3.ok.glob,I3.ok.blt,Nat.le_refl _,fun x y c e1 e2=>?_,fun x hx=>?_,fun x c hf e=>?_,I3.ok.hd,I3.ok.frames,.inl rfl,fun b hb=>⟨?_,fun x c e=>?_⟩,I3.bs,Nat.le_trans I3.ok.bsz I3.sz,fun b o e hb=>?_,fun b hb hz=>?_,I3.stack,I3.stkFree⟩
  ·exact ut (fun x y c e1 e2=>I3.ok.inj x y c (cl_old x c e1) (cl_old y c e2)) (fun x c e=>Nat.lt_succ_of_lt (cl_lt x c e)) x y c e1 e2
  ·have hx:(relabel scope X.env).names.lookup x=some .cell\/(relabel scope X.env).names.lookup x=some .free:=hx
   rw [ii] at hx
   cases e:scope.names.lookup x with
   | none=>rw [e] at hx;rcases hx with z | z <;> cases z
   | some k =>
    rw [e] at hx
    have:k=.cell\/k=.free:=by
     rcases kT (env:=X.env) (x:=x) (k:=k) with ⟨z,_⟩ | ⟨_,z⟩
     ·exact .inr z
     ·rcases hx with y | y
      ·left;have:=Option.some.inj y;rw [z] at this;exact this
      ·right;have:=Option.some.inj y;rw [z] at this;exact this
    refine Option.isSome_iff_exists.mp (cellsFrom_some _ _ _ ?_)
    rcases this with rfl | rfl
    ·exact .inl e
    ·obtain ⟨c,ec⟩:=fr x (PySem.mem_of_lookup e)
     right
     rw [lu ec (.inl (PySem.mem_of_lookup e))]
     rfl
  ·have hf:Cz (scope.names.lookup x)=true:=hf
   have e0:scope.names.lookup x=some .cell:=by
    unfold Cz at hf
    split at hf
    ·assumption
    ·cases hf
   rcases mO e with q | ⟨q,m⟩
   ·rcases pR q with z | z
    ·cases z
    ·have:=mM c3 z (.inr (.inl rfl));rw [e0] at this;cases this
   ·exact Nat.le_of_succ_le q
  ·exact Nat.ne_of_lt (hfp b hb)
  ·rcases look x c e with q | ⟨q,_,_⟩
   ·exact (f3 b hb).2.2.2.2.1 x c q
   ·exact fun z=>absurd (Nat.lt_of_lt_of_le (z ▸ hfp b hb) (Nat.le_of_succ_le q)) (Nat.lt_irrefl _)
  ·rcases (f3 b hb).2.2.2.1 with z | z
   ·exact I3.ok.noex b o e z
   ·exact absurd (Nat.lt_of_lt_of_le (Nat.lt_of_lt_of_le (Heap.lt_size e) I3.ok.bsz) z) (Nat.lt_irrefl _)
  ·have:=I3.stkSub b hz
   rcases List.mem_cons.mp this with z | z
   ·exact (f3 b hb).2.1 z
   ·exact (f3 b hb).2.2.1 z
 refine ⟨ok,rfl,I3.bare,Un.kept keep,⟨fun _=>none,(Heap.Ns.new s3.heap (.type "dict")).keeps (pushCells_keeps _ _),fun i x v h1 h2 h3=>?_⟩,fun x c e=>?_,I3.hok.fresh (Nat.le_refl _),fun x c e=>?_,fun p hp=>absurd (show p ∈ ([]:List (Addr × Obj)) from hp) (by simp),I4.hok,?_⟩
 ·have hl:=I3.len
  have hi:i < σ.length:=by
   by_cases hi:i < σ.length
   ·exact hi
   ·rw [List.getElem?_append_right (by omega),List.getElem?_replicate] at h2
    split at h2 <;> cases h2
  rw [List.getElem?_append_left hi] at h2
  have h3:Vis (relabel scope X.env) x:=h3
  obtain ⟨g1,g2⟩:=vN c1 h1
  rw [Nat.zero_add] at g1 g2
  have e0:scope.names.lookup x=some .free:=by
   unfold Vis at h3
   rw [ii] at h3
   cases e:scope.names.lookup x with
   | none=>rw [e] at h3;rcases h3 with z | z | z <;> cases z
   | some k =>
    rw [e] at h3
    rcases kT (env:=X.env) (x:=x) (k:=k) with ⟨z,_⟩ | ⟨z0,z⟩
    ·rw [z]
    ·exfalso
     have h3:some k=some NameKind.local\/some k=some NameKind.cell\/some k=some NameKind.free:=by
      have h4:some (reK X.env x k)=some NameKind.local\/some (reK X.env x k)=some NameKind.cell\/some (reK X.env x k)=some NameKind.free:=h3
      rw [z] at h4;exact h4
     rcases h3 with y | y | y
     ·have:=g2 (.inl (e.trans y));omega
     ·have:=g2 (.inr (e.trans y));omega
     ·exact z0 (Option.some.inj y)
  obtain ⟨e1,hk⟩:=g1 e0
  have hk:=qy hk
  obtain ⟨m0,hn0,hl0⟩:=I4.loc
  obtain ⟨u,ru,lk⟩:=hl0 i x v e1 h2 (.inr hk)
  refine ⟨u,ru,.inr ⟨?_,?_⟩⟩
  ·have:(relabel scope X.env).names.lookup x=some (reK X.env x .free):=by rw [ii,e0];rfl
   rcases kT (env:=X.env) (x:=x) (k:=.free) with ⟨_,z | z⟩ | ⟨z,_⟩
   ·rw [z] at this;exact .inr this
   ·rw [z] at this;exact .inl this
   ·exact absurd rfl z
  ·rcases lk with ⟨z,_⟩ | ⟨_,c,ec,q⟩
   ·rcases hk with y | y <;> (rw [z] at y;cases y)
   ·refine ⟨c,?_,q⟩
    show (cellsFrom _ scope.names _).lookup x=some c
    rw [qP fun m=>by have:=mM c3 m (.inr (.inr rfl));rw [e0] at this;cases this]
    exact lu ec (.inl (PySem.mem_of_lookup e0))
 ·rcases look x c e with q | ⟨_,_,q⟩
  ·exact I4.cell x c q
  ·exact ⟨_,q⟩
 ·rcases look x c e with q | ⟨q,_,_⟩
  ·exact I3.freeC x c q
  ·exact I3.hok.fresh (by omega)
 ·show _=N'.length
  rw [List.length_append,List.length_replicate,hN,I3.len]
abbrev cxA (X:Cx) (N':List Str) (scope:Scope) (a:Addr) (H2:Hp) (s3:Shared) (fp:List Addr):Cx:=cxC X N' scope s3.heap.objs.size (cellsFrom (s3.heap.objs.size + 1) scope.names (d_ X.env scope.names [])) s3 (upd H2 a (.lst [])) fp
def Bd (C:Addr) (X Y:Cx) (k:OK) (T:D->Rho->Option Rho) (t:Rho->R Bool) (e:Rho->R D) (n:Nat) (a:Addr) (H2:Hp) (σ:St) (ρ:RB) (fp:List Addr) (tn:Nat->Heap->Prop) (xs ds:List D) (m:Nat) (s:Shared):Prop :=
 ∃ (i:Nat) (σ':St) (H':Hp) (vs:List V) (ds1 ds2:List D) (A:List Addr),m=xs.length + 1 - i/\i<=xs.length /\
   Inv Y [] σ' H' s/\tn i s.heap/\(∀ b ∈ fp,H' b=none) /\
   (∀ j:Nat,j < ρ.rho.length->σ'[j]?=σ[j]?)/\H' a=some (.lst vs)/\Same H2 (cut (a :: A) H')/\TreP X.K C (msk ρ σ (cut (a :: A) H')) H' (vs.map fun _=>k) vs ds1 A/\a ∉ A /\
   jk T t e (xs.drop i) (ρ.rho ++ List.replicate n none)=.val ds2/\ds1 ++ ds2=ds/\vs.length<=i
theorem TreP.app {K:Frag} {M H:Hp} {k:OK} {v:V} {d:D} {B:List Addr} (h:Tre K C M H k v d B):∀ {ks:List OK} {vs:List V} {ds:List D} {A:List Addr},TreP K C M H ks vs ds A->(∀ a ∈ A,a ∉ B)->∃ A',(∀ a,a ∈ A' ↔ a ∈ A\/a ∈ B)/\TreP K C M H (ks ++ [k]) (vs ++ [v]) (ds ++ [d]) A'
 | _,_,_,_,.nil,_=>⟨B ++ [],fun a=>by simp,.cons h .nil fun _ _=>List.not_mem_nil⟩
 | _,_,_,_,.cons (A:=A1) (B:=A2) g t n,f=>by
  obtain ⟨A',h1,h2⟩:=TreP.app h t fun a ha=>f a (List.mem_append_right _ ha)
  refine ⟨A1 ++ A',fun a=>by rw [List.mem_append,List.mem_append,h1 a,or_assoc],.cons g h2 fun a ha hb=>?_⟩
  rcases (h1 a).mp hb with hb | hb
  ·exact n a ha hb
  ·exact f a (List.mem_append_left _ ha) hb
theorem ow {k:OK} {tg elt iter:Expr} {ifs:List Expr} {scope:Scope} {pos:Pos} {N':List Str} {ix:List Nat} {T:D->Rho->Option Rho} {t:Rho->R Bool} {e:Rho->R D} {n:Nat}
  (hcalm:X.calm=true) (hchk:uq X.N N' X.env scope=true) (hN:N'.length=X.N.length + n) (hix:∀ j ∈ ix,X.N.length<=j)
  (hg:∀ L cs s H fp,GD C (cxC X N' scope L cs s H fp) tg ix T) (ht:∀ L cs s H fp,sY C (cxC X N' scope L cs s H fp) ifs t) (he:∀ L cs s H fp,KD C (cxC X N' scope L cs s H fp) k elt e)
  {pins:List (Addr × Obj)} {σ:St} {H2 H0:Hp} {s2:Shared} {ρ:RB} {J:It} {fp:List Addr} {it:Addr} {tn:Nat->Heap->Prop} {xs ds:List D}
  (I2:Inv X pins σ H2 s2) (r2:fA C X H0 ρ σ H2) (TT:wI X.prog X.w X.K tg J fp it tn) (t0:tn 0 s2.heap) (f2:∀ b ∈ fp,oJ X pins H2 b) (wk:sX X.K C J xs (msk ρ σ H2)) (hlen:xs.length<=LIM)
  (hd:jk T t e xs (ρ.rho ++ List.replicate n none)=.val ds) {R:Value->Addr->Result->Shared->Prop} {E:Value->Shared->Prop}
  (hR:∀ a L vs A H' s1,Same H2 (cut (a :: A) H')->(∀ b ∈ a :: A,H2 b=none)->H' a=some (.lst vs)->a ∉ A->TreP X.K C (msk ρ σ (cut (a :: A) H')) H' (vs.map fun _=>k) vs ds A->Inv X pins σ H' s1->H' L=none->L ≠ X.env.locals->X.s₀.heap.objs.size<=L ->
   (∀ x c,X.env.cells.lookup x=some c->c ≠ L)->(∀ p ∈ X.pn ++ pins,p.1 ≠ L)->(∃ m,s1.heap.Ns L m)->R (.ref a) L (.ok .next) s1) :
  wpAny (model X.prog X.w) X.A (newList []) (fun acc s₃=>wpAny (model X.prog X.w) X.A (newFunctionEnv scope X.env.globals (d_ X.env scope.names []) [] X.env.qual none .none (some X.env)) (fun cenv s₄ =>
   codeAny (model X.prog X.w) X.A (.compStart (.ListComp elt [⟨tg,iter,ifs,0⟩] scope pos) 0 (.ref it) acc { cenv with scope:=relabel scope X.env }) (R acc cenv.locals) s₄) E s₃) E s2:=by
 refine wpAny_newObj_type (yY ?_)
 have hfr2:H2 s2.heap.objs.size=none:=I2.fresh
 have I3:=I2.lnew (its:=[]) (ys:=[]) (t':=s2.toks) .nil (Nat.zero_le _)
 have hfp:∀ b ∈ fp,b < s2.heap.objs.size:=fun b hb=>by
  obtain ⟨o,eo,_⟩:=TT.obj 0 _ t0 b hb
  exact Heap.lt_size eo
 have sz3:(s2.heap.push { cls:=.type "list",data:=.seq ([]:List Value).toArray }).objs.size=s2.heap.objs.size + 1:=Heap.size_push ..
 have f3:∀ b ∈ fp,oJ X pins (upd H2 s2.heap.objs.size (.lst [])) b:=fun b hb=>⟨by rw [aO (Nat.ne_of_lt (hfp b hb))];exact (f2 b hb).1,(f2 b hb).2⟩
 have I4:=um (n:=n) hchk hN I3 (fun b hb=>by rw [sz3];exact Nat.lt_succ_of_lt (hfp b hb)) f3
 have keep:∀ b o,s2.heap.get? b=some o->(pushCells ((s2.heap.push { cls:=.type "list",data:=.seq ([]:List Value).toArray }).push { cls:=.type "dict",data:=.dict #[] }) scope.names).get? b=some o:=fun b o e =>
  pushCells_keeps _ _ b o (Heap.get?_push_of_some _ (Heap.get?_push_of_some _ e))
 have t4:tn 0 (pushCells ((s2.heap.push { cls:=.type "list",data:=.seq ([]:List Value).toArray }).push { cls:=.type "dict",data:=.dict #[] }) scope.names):=TT.keep 0 _ _ t0 fun b hb o e=>keep b o e
 generalize hs3:({ s2 with heap:=s2.heap.push { cls:=.type "list",data:=.seq ([]:List Value).toArray },toks:=s2.toks }:Shared)=s3 at I3 I4
 have hH3:({ s2 with heap:=s2.heap.push { cls:=.type "list",data:=.seq ([]:List Value).toArray },toks:=s2.toks }:Shared).heap=s3.heap:=by rw [hs3]
 have t4':tn 0 (pushCells (s3.heap.push { cls:=.type "dict",data:=.dict #[] }) scope.names):=by rw [<- hH3];exact t4
 have hrl:ρ.rho.length=X.N.length:=r2.len.trans I2.len
 generalize ha0:s2.heap.objs.size=a0 at *
 have loop:∀ s4:Shared,s4={ s3 with heap:=pushCells (s3.heap.push { cls:=.type "dict",data:=.dict #[] }) scope.names } ->
   codeAny (model X.prog X.w) X.A (.compLoop (.ListComp elt [⟨tg,iter,ifs,0⟩] scope pos) 0 (.ref it) (.ref a0) (D3 scope X.env s3.heap.objs.size (cellsFrom (s3.heap.objs.size + 1) scope.names (d_ X.env scope.names []))))
    (R (.ref a0) s3.heap.objs.size) s4:=by
  rintro s4 rfl
  refine qN (Bd C X (cxA X N' scope a0 H2 s3 fp) k T t e n a0 H2 σ ρ fp tn xs ds) ?_ (xs.length + 1)
   ⟨0,_,_,[],[],ds,[],rfl,Nat.zero_le _,I4,t4',fun b hb=>(f3 b hb).1,fun j hj=>by rw [List.getElem?_append_left (by rw [<- r2.len];exact hj)],bp,by rw [AJ hfr2];exact Same.refl _,.nil,List.not_mem_nil,hd,rfl,Nat.le_refl _⟩
  rintro m s ⟨i,σ',H',vs,ds1,ds2,A,rfl,hi,I,tni,hfn,hpre,ha,sm,hv,hnA,hc,hds,hvl⟩
  have lst:∀ z ∈ a0 :: A,∃ us,H' z=some (.lst us):=fun z hz=>by
   rcases List.mem_cons.mp hz with rfl | hz
   ·exact ⟨vs,ha⟩
   ·exact hv.lists z hz
  have Z:Hid H' s.heap (a0 :: A):=by
   refine ⟨fun z hz=>?_,fun z hz c dx fs q=>?_,fun z hz b q=>?_,fun z hz=>?_⟩
   ·obtain ⟨us,q⟩:=lst z hz;exact ⟨_,q,rfl⟩
   ·obtain ⟨us,q'⟩:=lst z hz;rw [q] at q';cases q'
   ·obtain ⟨us,q'⟩:=lst z hz;rw [q] at q';cases q'
   ·obtain ⟨us,q'⟩:=lst z hz
    obtain ⟨_,its,m,_,e1⟩:=I.hok _ _ q'
    exact ⟨_,e1,fun v q=>by cases q⟩
  have J0:=I.hide Z
  have hM:∀ b,H' b=none->cut (a0 :: A) H' b=none:=fun b q=>by unfold cut;split <;> first | rfl | exact q
  have stat:∀ {pn:List (Addr × Obj)} {G:Hp},(∀ b ∈ fp,G b=none)->(∀ p ∈ pn,∀ b ∈ fp,p.1 ≠ b)->∀ b ∈ fp,oJ (cxA X N' scope a0 H2 s3 fp) pn G b:=fun {pn G} h1 h2 b hb =>
   ⟨h1 b hb,(I.ok.exf b hb).1,I.ok.exfs b hb,.inl hb,(I.ok.exf b hb).2,fun p hp=>h2 p hp b hb⟩
  have pna:∀ p ∈ ([]:List (Addr × Obj)) ++ dB (a0 :: A) s.heap,∀ b ∈ fp,p.1 ≠ b:=fun p hp b hb z=>by
   obtain ⟨q1,_⟩:=jz (show p ∈ dB (a0 :: A) s.heap from hp)
   obtain ⟨us,q⟩:=lst _ q1
   rw [z,hfn b hb] at q;cases q
  have sM:Same (msk ρ σ H2) (cut (a0 :: A) H'):=msk_sub.trans sm
  by_cases hlt:i < xs.length
  ·have ex:xs[i]?=some xs[i]:=by simp [hlt]
   have ed:xs.drop i=xs[i] :: xs.drop (i + 1):=List.drop_eq_getElem_cons hlt
   obtain ⟨go,yld⟩:=wk.go i _ _ sM ex
   refine wpAny_mono (TT.item (cxA X N' scope a0 H2 s3 fp) rfl rfl rfl hcalm i _ s σ' _ (fun _ _=>False) J0 (stat (fun b hb=>hM b (hfn b hb)) pna) tni go) (fun r s1 zz0=>?_) fun _ _ z=>z
   obtain ⟨u,hr,h1⟩:=zz0
   subst hr
   refine thn h1 fun _ s5 zz1=>?_
   obtain ⟨x,H5,I5,r5,y5,t5,n5⟩:=zz1
   obtain ⟨s5',hx⟩:=yld x H5 y5
   have hx5:Has X.K C (msk ρ σ H5) x xs[i]:=hx ρ σ (fun b ob q=>by
    have h2:=r2.ownAt ob
    cases q2:H2 b with
    | none=>exact h2 q2
    | some o=>rw [sm b o q2] at q;cases q) (bu sm)
   have r5':=r2.mono (sm.trans s5')
   obtain ⟨re5,em5⟩:=zu (m:=n) r5' (σ':=σ') (by have q:=I5.len;rw [hrl];exact q.trans hN) hpre
   have I5p:=I5.pinned (stat n5 pna) (TT.obj _ _ t5)
   rw [ed] at hc
   unfold jk at hc
   split at hc
   ·rename_i ρ1 eT
    have ix0:∀ j ∈ ix,(ρ.ext n).ad j=[]:=fun j hj=>by
     have h2:=hix j hj
     refine List.eq_nil_iff_forall_not_mem.mpr fun b hb=>?_
     have:=r2.bnd j b hb
     omega
    refine thn (hg _ _ _ _ _ _ s5 σ' H5 x u (fun σ6 H6=>H6=H5/\∃ β:RB,β.rho=ρ1/\(∀ j:Nat,β.ad j=if j ∈ ix then [] else (ρ.ext n).ad j)/\fA C X H0 β σ6 H5/\∀ j:Nat,j ∉ ix->σ6[j]?=σ'[j]?) I5p r5 ⟨_,H0,xs[i],ρ1,re5,by show Has _ _ (msk _ _ _) x _;rw [em5];exact hx5,eT,fun σ6 β q0 q3 q1 q2=>⟨rfl,β,q0,q3,q1,q2⟩⟩) fun _ s6 zz2=>?_
    obtain ⟨σ6,H6,I6,eH,β,eβ,aβ,r6,p6⟩:=zz2
    subst eH
    subst eβ
    have em6:msk β σ6=msk ρ σ:=(Cm aβ ix0).trans em5
    have pre6:∀ j:Nat,j < ρ.rho.length->σ6[j]?=σ[j]?:=fun j hj=>by
     rw [p6 j fun z=>by have:=hix j z;omega];exact hpre j hj
    cases et:t β with
    | exc c=>rw [et] at hc;cases hc
    | bad=>rw [et] at hc;cases hc
    | val b =>
     rw [et] at hc
     refine thn (ht _ _ _ _ _ _ s6 σ6 H6 (fun b' H7=>b'=b/\Same H6 H7) I6 ⟨β,⟨H0,r6⟩,by rw [et];exact fun H7 q=>⟨rfl,q⟩⟩) fun b' s7 zz3=>?_
     obtain ⟨H7,I7,eb,s67⟩:=zz3
     subst eb
     have fin:∀ {s9:Shared} {H9:Hp} {vs':List V} {ds1' ds2':List D} {A':List Addr},Inv (cxA X N' scope a0 H2 s3 fp) (dB fp s5.heap) σ6 H9 s9 ->
       H9 a0=some (.lst vs')->Same H2 (cut (a0 :: A') H9)->TreP X.K C (msk ρ σ (cut (a0 :: A') H9)) H9 (vs'.map fun _=>k) vs' ds1' A'->a0 ∉ A'->jk T t e (xs.drop (i + 1)) (ρ.rho ++ List.replicate n none)=.val ds2'->ds1' ++ ds2'=ds->vs'.length<=i + 1 ->
       ∃ m,m < xs.length + 1 - i/\Bd C X (cxA X N' scope a0 H2 s3 fp) k T t e n a0 H2 σ ρ fp tn xs ds m s9:=fun {s9 H9 vs' ds1' ds2' A'} I9 g1 g3 g4 g4' g5 g6 g7=>by
      refine ⟨xs.length + 1 - (i + 1),by omega,i + 1,σ6,H9,vs',ds1',ds2',A',rfl,hlt,I9.pins_of fun p hp=>absurd hp (by simp),TT.keep _ _ _ t5 fun b hb o eo=>(I9.pin (b,o) (List.mem_append_right _ (e9 hb eo))).1,fun b hb=>?_,pre6,g1,g3,g4,g4',g5,g6,g7⟩
      obtain ⟨o,eo,_⟩:=TT.obj _ _ t5 b hb
      exact (I9.pin (b,o) (List.mem_append_right _ (e9 hb eo))).2.1
     have h1pins:∀ p ∈ dB (a0 :: A) s.heap,p ∈ (([]:List (Addr × Obj)) ++ dB (a0 :: A) s.heap) ++ dB fp s5.heap:=fun p hp=>List.mem_append_left _ hp
     have h2pins:∀ p ∈ dB fp s5.heap,p ∈ (([]:List (Addr × Obj)) ++ dB (a0 :: A) s.heap) ++ dB fp s5.heap/\H' p.1=none:=fun p hp=>⟨List.mem_append_right _ hp,hfn _ (jz hp).1⟩
     have s57:Same (cut (a0 :: A) H') H7:=s5'.trans s67
     have back:∀ {G:Hp},Same (cut (a0 :: A) H') G->(∀ z ∈ a0 :: A,G z=none)->Stay A H' (jn (a0 :: A) H' G):=fun {G} sG mz=>⟨fun b hb o q=>by rw [i3 (List.mem_cons_of_mem _ hb)];exact q,fun b us q=>by
      have nb:b ∉ a0 :: A:=fun hb=>by obtain ⟨ws,q'⟩:=lst b hb;rw [q] at q';cases q'
      rw [b_ nb];exact sG b _ (cut_some.mpr ⟨nb,q⟩)⟩
     cases b' with
     | false =>
      rw [if_neg Bool.false_ne_true]
      obtain ⟨I8,mz⟩:=I.showG Z I7 h1pins h2pins
      have eJ:cut (a0 :: A) (jn (a0 :: A) H' H7)=H7:=by
       funext b
       by_cases hb:b ∈ a0 :: A
       ·rw [fM hb,mz b hb]
       ·unfold cut;rw [if_neg hb,b_ hb]
      exact fin (A':=A) I8 (by rw [i3 List.mem_cons_self];exact ha) (by rw [eJ];exact sm.trans s57) (by rw [eJ];exact hv.stay (bu s57) (back s57 mz)) hnA hc hds (Nat.le_succ_of_le hvl)
     | true =>
      rw [if_pos rfl]
      cases ee:e β with
      | exc c=>rw [ee] at hc;cases hc
      | bad=>rw [ee] at hc;cases hc
      | val d =>
       rw [ee] at hc
       refine thn (he _ _ _ _ _ _ s7 σ6 H7 (fun y H8=>∃ B,Same H7 H8/\(∀ b ∈ B,H7 b=none)/\Tre X.K C (cut B (msk ρ σ H8)) H8 k y d B) I7 ⟨β,⟨H0,r6.mono s67⟩,by rw [ee];exact fun y H8 B q1 q2 q3=>⟨B,q1,q2,by rw [<- em6];exact q3⟩⟩) fun yv s8 zz4=>?_
       obtain ⟨y,H8,I8,ry,B,s78,hB,hy⟩:=zz4
       obtain ⟨I9,mz⟩:=I.showG Z I8 h1pins h2pins
       have s8':Same (cut (a0 :: A) H') H8:=s57.trans s78
       cases ec:jk T t e (xs.drop (i + 1)) (ρ.rho ++ List.replicate n none) with
       | exc c=>simp only [noE,DL.R.bind,ec,if_true] at hc;cases hc
       | bad=>simp only [noE,DL.R.bind,ec,if_true] at hc;cases hc
       | val ds3 =>
        simp only [noE,DL.R.bind,ec,if_true] at hc
        cases hc
        refine thn (pw _ s8 σ6 _ (.ref a0) [y] (.ref a0) [yv] (fun _ H9=>H9=upd (jn (a0 :: A) H' H8) a0 (.lst (vs ++ [y]))) I9 rfl (.cons ry .nil)
         ⟨_,vs,y,rfl,rfl,by rw [i3 List.mem_cons_self];exact ha,Cp (by omega),rfl⟩) fun _ s9 ⟨_,H9,I10,_,eH9⟩=>?_
        have lB:∀ b ∈ B,b ∉ a0 :: A:=fun b hb hz=>by
         obtain ⟨us,q⟩:=hy.lists b hb
         rw [mz b hz] at q;cases q
        have at9:∀ b,b ≠ a0->H9 b=jn (a0 :: A) H' H8 b:=fun b hb=>by rw [eH9,aO hb]
        have eJ:∀ A',(∀ b,b ∈ A' ↔ b ∈ A\/b ∈ B)->cut (a0 :: A') H9=cut B H8:=fun A' hA'=>by
         funext b
         by_cases hb:b ∈ a0 :: A
         ·have:b ∈ a0 :: A':=by
           rcases List.mem_cons.mp hb with z | z
           ·exact z ▸ List.mem_cons_self
           ·exact List.mem_cons_of_mem _ ((hA' b).mpr (.inl z))
          rw [fM this]
          unfold cut
          split
          ·rfl
          ·exact (mz b hb).symm
         ·have nb:b ≠ a0:=fun z=>hb (z ▸ List.mem_cons_self)
          by_cases hb2:b ∈ B
          ·rw [fM hb2,fM (List.mem_cons_of_mem _ ((hA' b).mpr (.inr hb2)))]
          ·have:b ∉ a0 :: A':=fun z=>by
            rcases List.mem_cons.mp z with z | z
            ·exact nb z
            ·rcases (hA' b).mp z with z | z
             ·exact hb (List.mem_cons_of_mem _ z)
             ·exact hb2 z
           unfold cut
           rw [if_neg this,if_neg hb2,at9 b nb,b_ hb]
        have sB:Same (cut (a0 :: A) H') (cut B H8):=fun b o q=>cut_some.mpr ⟨fun hb=>absurd (hB b hb) (by rw [s57 b o q];exact fun z=>by cases z),s8' b o q⟩
        have st1:Stay A H' H9:=by
         refine ⟨fun b hb o q=>?_,fun b us q=>?_⟩
         ·rw [at9 b fun z=>hnA (z ▸ hb)];exact (back s8' mz).at_ b hb o q
         ·rw [at9 b fun z=>by rw [z,ha] at q;cases q];exact (back s8' mz).tup b us q
        have st2:Stay B H8 H9:=by
         refine ⟨fun b hb o q=>?_,fun b us q=>?_⟩
         ·rw [at9 b fun z=>lB b hb (z ▸ List.mem_cons_self),b_ (lB b hb)];exact q
         ·have nb:b ∉ a0 :: A:=fun hz=>by rw [mz b hz] at q;cases q
          rw [at9 b fun z=>nb (z ▸ List.mem_cons_self),b_ nb];exact q
        have g1:TreP X.K C (msk ρ σ (cut B H8)) H9 (vs.map fun _=>k) vs ds1 A:=hv.stay (bu sB) st1
        have g2:Tre X.K C (msk ρ σ (cut B H8)) H9 k y d B:=hy.stay (by rw [kx];exact Same.refl _) st2
        obtain ⟨A',hA',g3⟩:=TreP.app g2 g1 fun b hb hb2=>lB b hb2 (List.mem_cons_of_mem _ hb)
        refine fin (A':=A') (vs':=vs ++ [y]) (ds1':=ds1 ++ [d]) (ds2':=ds3) I10 (by rw [eH9];exact bp) (by rw [eJ A' hA'];exact sm.trans sB) (by rw [eJ A' hA',List.map_append];exact g3) (fun z=>?_) ec (by rw [<- hds];simp) (by rw [List.length_append,List.length_singleton];omega)
        rcases (hA' a0).mp z with z | z
        ·exact hnA z
        ·exact lB a0 z List.mem_cons_self
   ·cases hc
  ·have ei:i=xs.length:=by omega
   subst ei
   rw [List.drop_length] at hc
   cases hc
   rw [List.append_nil] at hds
   subst hds
   refine wpAny_mono (TT.done (cxA X N' scope a0 H2 s3 fp) rfl rfl rfl hcalm xs.length _ s σ' _ (fun _ _=>False) J0 (stat (fun b hb=>hM b (hfn b hb)) pna) tni (wk.stop _ sM)) (fun r s1 zz5=>?_) fun _ _ z=>z
   obtain ⟨hr,I1⟩:=zz5
   subst hr
   obtain ⟨Ie,_⟩:=I.show' Z I1
   have eH:jn (a0 :: A) H' (cut (a0 :: A) H')=H':=by
    funext b
    by_cases hb:b ∈ a0 :: A
    ·rw [i3 hb]
    ·rw [b_ hb];unfold cut;rw [if_neg hb]
   rw [eH] at Ie
   have IX:Inv X pins σ H' s1:=I3.call' Ie.os Ie.base Ie.hok Ie.bare fun b hb=>⟨(f3 b hb).2.2.2.1,(f3 b hb).2.1,(f3 b hb).2.2.2.2.1,(f3 b hb).2.2.2.2.2⟩
   obtain ⟨m,hm,_⟩:=Ie.loc
   refine hR _ _ vs A H' s1 sm (fun b hb=>pk sm (fM hb)) ha hnA hv IX Ie.free (Nat.ne_of_gt I3.lt) I3.sz (fun x c q z=>?_) (fun p hp z=>?_) ⟨m,hm⟩
   ·obtain ⟨v,q⟩:=I3.cell x c q
    exact absurd (z ▸ q.lt) (Nat.lt_irrefl _)
   ·exact absurd (z ▸ Heap.lt_size (I3.pin p hp).1) (Nat.lt_irrefl _)
 exact codeAny_compStart_list (loop _ rfl) (TT.self X.A 0 _ _ _ t4' (loop _ rfl))
end DL
namespace DL
open PySem PySem.Spec PyProof.Rows L2
variable {C:Addr} {X:Cx}
def bI (src:Rho->R (List D)) (n:Nat) (T:D->Rho->Option Rho) (t:Rho->R Bool) (e:Rho->R D):Rho->R (List D):=fun ρ=>(src ρ).bind fun xs=>if xs.length<=LIM then noE (jk T t e xs (ρ ++ List.replicate n none)) else .bad
theorem sP {k:OK} {src:Rho->R (List D)} {n:Nat} {T:D->Rho->Option Rho} {t:Rho->R Bool} {e:Rho->R D} {σ:St} {H:Hp} {Q:VK} {ρ:RB} {H0:Hp} (r:fA C X H0 ρ σ H) (q:pK C X (.l k) ρ (eLs (bI src n T t e) ρ) σ H Q) :
  itI C X src σ H fun J H2=>∃ xs ds,Same H H2/\fA C X H0 ρ σ H2/\sX X.K C J xs (msk ρ σ H2)/\xs.length<=LIM/\jk T t e xs (ρ.rho ++ List.replicate n none)=.val ds/\∀ v H' A,Same H2 H'->(∀ a ∈ A,H2 a=none)->Tre X.K C (cut A (msk ρ σ H')) H' (.l k) v (.lst ds) A->Q v H':=by
 refine ⟨ρ,⟨H0,r⟩,?_⟩
 unfold eLs Co bI at q
 cases es:src ρ with
 | exc c=>rw [es] at q;exact q
 | bad=>rw [es] at q;exact q
 | val xs =>
  rw [es] at q
  intro J H2 s2 wk
  simp only [DL.R.bind] at q
  by_cases hl:xs.length<=LIM
  ·rw [if_pos hl] at q
   cases ec:jk T t e xs (ρ.rho ++ List.replicate n none) with
   | val ds=>rw [ec] at q;exact ⟨xs,ds,s2,r.mono s2,wk,hl,ec,fun v H' A s1 h1 h2=>q v H' A (s2.trans s1) (fun a ha=>pk s2 (h1 a ha)) h2⟩
   | exc c=>rw [ec] at q;exact q.elim
   | bad=>rw [ec] at q;exact q.elim
  ·rw [if_neg hl] at q;exact q.elim
theorem AX {F:Rho->R (List D)} {σ:St} {H:Hp} {Q:VK} (h:teF C X F σ H Q):teK C X (.l .s) (eLs F) σ H Q:=by
 obtain ⟨ρ,⟨H0,r⟩,q⟩:=h
 refine ⟨ρ,⟨H0,r⟩,?_⟩
 unfold eLs
 cases e:F ρ with
 | val xs =>
  rw [e] at q
  intro v H' A s1 hA h1
  cases h1 with
  | @l _ a vs _ _ ha hp _ =>
   obtain ⟨eA,hl⟩:=hp.flat
   subst eA
   have q2:=q a vs (cut [a] H') (fun b o eb=>cut_some.mpr ⟨fun hb=>Option.some_ne_none _ (eb.symm.trans (hA b hb)),s1 b o eb⟩) (fM (List.mem_singleton.mpr rfl)) (by show HasL _ _ (msk ρ σ _) vs xs;rw [kx];exact hl)
   rw [yZ ha] at q2
   exact q2
 | exc c=>rw [e] at q;exact q
 | bad=>rw [e] at q;exact q
section
variable {tg elt iter:Expr} {ifs:List Expr} {scope:Scope} {pos:Pos} {N':List Str} {ix:List Nat} {T:D->Rho->Option Rho} {t:Rho->R Bool} {e:Rho->R D} {n:Nat} {src:Rho->R (List D)}
theorem pT (hchk:uq X.N N' X.env scope=true):(∀ x,(x,NameKind.free) ∈ scope.names->kc (X.env.kindOf x)=true)/\scope.kind=.function/\∀ x ∈ scope.names,x.2=.local->scope.names.lookup x.1=some .local:=by
 obtain ⟨c1,hchk⟩:=Bool.and_eq_true_iff.mp hchk
 obtain ⟨c2,hchk⟩:=Bool.and_eq_true_iff.mp hchk
 obtain ⟨c3,hchk⟩:=Bool.and_eq_true_iff.mp hchk
 obtain ⟨c4,c5⟩:=Bool.and_eq_true_iff.mp hchk
 refine ⟨fun x hx=>qO c2 hx,?_,fun x hx hl=>?_⟩
 ·revert c5
  cases scope.kind <;> simp
 ·obtain ⟨n,k⟩:=x
  have hl:k=.local:=hl
  subst hl
  exact mM c3 hx (.inl rfl)
theorem Ab {k:OK} (hcalm:X.calm=true) (hchk:uq X.N N' X.env scope=true) (hN:N'.length=X.N.length + n) (hix:∀ j ∈ ix,X.N.length<=j) (hi:ID C X tg iter src)
  (hg:∀ L cs s H fp,GD C (cxC X N' scope L cs s H fp) tg ix T) (ht:∀ L cs s H fp,sY C (cxC X N' scope L cs s H fp) ifs t) (he:∀ L cs s H fp,KD C (cxC X N' scope L cs s H fp) k elt e)
  (hs:∀ x,foldedSetIterable iter X.env x=pure x:=by intro _;rfl):KD C X (.l k) (.ListComp elt [⟨tg,iter,ifs,0⟩] scope pos) (eLs (bI src n T t e)):=by
 rintro pins s σ H Q I ⟨ρ,⟨H0,r⟩,q⟩
 obtain ⟨c2,hkind,hnames⟩:=pT hchk
 rw [eval_ListComp]
 refine wpAny_comprehension_free (use:=none) rfl hs (vL fun x hx=>I.ok.has x (qy (c2 x hx))) hkind hnames ?_
 show wpAny _ _ (eval iter X.env) _ _ s
 refine thn (hi pins s σ H _ I (sP r q)) fun v s1 h1=>thn h1 fun itv s2 zz0=>?_
 obtain ⟨it,fp,tn,J,H2,ei,I2,TT,t0,f2,xs,ds,s2',r2,wk,hl,hd,hq⟩:=zz0
 subst ei
 refine ow (R:=fun acc L=>compPost (model X.prog X.w) X.A X.xe none (EP X pins σ Q) acc L) hcalm hchk hN hix hg ht he I2 r2 TT t0 f2 wk hl hd ?_
 rintro a L vs A H' s1 sf hA ha hn hv IX uL lne lsz lc lp ⟨m,hm⟩
 refine ⟨m,hm,fun h' hs'=>⟨.ref a,_,IX.turned (t':=s1.toks) (fun b o hb eo=>(hs'.2 b hb).trans eo) uL lne (.inr lsz) lc lp,rfl,hq _ H' (a :: A) (sf.trans vJ) hA (.l ha (by rw [<- kx];exact hv) hn)⟩⟩
theorem dU (hcalm:X.calm=true) (hchk:uq X.N N' X.env scope=true) (hN:N'.length=X.N.length + n) (hix:∀ j ∈ ix,X.N.length<=j) (tk:AT ix T) (hi:ID C X tg iter src)
  (hg:∀ L cs s H fp,GD C (cxC X N' scope L cs s H fp) tg ix T) (ht:∀ L cs s H fp,sY C (cxC X N' scope L cs s H fp) ifs t) (he:∀ L cs s H fp,ED C (cxC X N' scope L cs s H fp) elt e)
  (hs:∀ x,foldedSetIterable iter X.env x=pure x:=by intro _;rfl):FD C X (.ListComp elt [⟨tg,iter,ifs,0⟩] scope pos) (bI src n T t e) :=
 aX (Ab hcalm hchk hN hix hi hg ht (fun L cs s H fp=>A8 (he L cs s H fp)) hs) fun σ H Q h=>AX h
theorem rM {k:OK} {i:Nat} {y:Str} {py spos:Pos} (hy:PG X (.Name y py) (i5 i)) (hcalm:X.calm=true) (hchk:uq X.N N' X.env scope=true) (hN:N'.length=X.N.length + n) (hix:∀ j ∈ ix,X.N.length<=j) (hi:ID C X tg iter src)
  (hg:∀ L cs s H fp,GD C (cxC X N' scope L cs s H fp) tg ix T) (ht:∀ L cs s H fp,sY C (cxC X N' scope L cs s H fp) ifs t) (he:∀ L cs s H fp,KD C (cxC X N' scope L cs s H fp) k elt e)
  (hsw:swapsWith (.ListComp elt [⟨tg,iter,ifs,0⟩] scope pos) (some (.Name y py)) spos.line X.env=pure true)
  (hs:∀ x,foldedSetIterable iter X.env x=pure x:=by intro _;rfl):PS X (.Assign [.Name y py] (.ListComp elt [⟨tg,iter,ifs,0⟩] scope pos) spos) (vW (teK C X (.l k) (eLs (bI src n T t e))) (i5 i)):=by
 rintro pins s σ H Dn I ⟨ρ,⟨H0,r⟩,q⟩
 obtain ⟨c2,hkind,hnames⟩:=pT hchk
 rw [exec_Assign_Name_used _ _ _ _ hsw]
 refine wpAny_bind (wpAny_standAt (wpAny_bind ?_))
 show wpAny _ _ (do let _ <- comprehension (.ListComp elt [⟨tg,iter,ifs,0⟩] scope pos) scope X.env _ (newList []) false (eval iter X.env) (some (assign (.Name y py) X.env))) _ _ s
 refine wpAny_bind (wpAny_mono (wpAny_comprehension_free (use:=some (assign (.Name y py) X.env)) (Q:=fun _ s'=>SP X pins Dn .next s') rfl hs (vL fun x hx=>I.ok.has x (qy (c2 x hx))) hkind hnames ?_) (fun _ s' hq=>wpAny_pure (wpAny_pure hq)) fun _ _ z=>z)
 refine thn (hi pins s σ H _ I (sP r q)) fun v s1 h1=>thn h1 fun itv s2 zz1=>?_
 obtain ⟨it,fp,tn,J,H2,ei,I2,TT,t0,f2,xs,ds,s2',r2,wk,hl,hd,hq⟩:=zz1
 subst ei
 refine ow (R:=fun acc L=>compPost (model X.prog X.w) X.A X.xe (some (assign (.Name y py) X.env)) (fun _ s'=>SP X pins Dn .next s') acc L) hcalm hchk hN hix hg ht he I2 r2 TT t0 f2 wk hl hd ?_
 rintro a L vs A H' s1 sf hA ha hn hv IX uL lne lsz lc lp ⟨m,hm⟩
 obtain ⟨oL,esL,epL,eoL,edL,restL⟩:=id hm
 have nfs:L ∉ X.fs:=fun z=>by
  obtain ⟨_,o,ho,_⟩:=I.ok.funs.mem z
  exact absurd (Nat.lt_of_lt_of_le (Heap.lt_size ho) lsz) (Nat.lt_irrefl _)
 have IP:Inv X (pins ++ [(L,oL)]) σ H' s1:=IX.pins_of fun p hp=>by
  rcases List.mem_append.mp hp with hp | hp
  ·exact IX.pin p (List.mem_append_right _ hp)
  ·have:p=(L,oL):=by simpa using hp
   subst this
   exact ⟨eoL,uL,lne,nfs,fun v z=>by rw [edL] at z;cases z⟩
 show wpAny _ _ (assign (.Name y py) X.env (.ref a)) _ _ s1
 refine thn (hy _ s1 σ _ (.ref a) (.ref a) Dn.nx IP rfl (hq _ H' (a :: A) (sf.trans vJ) hA (.l ha (by rw [<- kx];exact hv) hn))) fun _ s2 zz2=>?_
 obtain ⟨σ',H',I',qn⟩:=zz2
 have pL:=I'.pin (L,oL) (List.mem_append_right _ (List.mem_append_right _ (by simp)))
 have I'':Inv X pins σ' H' s2:=I'.unpinned
 refine ⟨m,⟨oL,esL,epL,pL.1,edL,restL⟩,fun h' hs'=>⟨σ',H',I''.turned (t':=s2.toks) (fun b o hb eo=>(hs'.2 b hb).trans eo) pL.2.1 lne (.inr lsz) lc lp,qn⟩⟩
theorem e8 {i:Nat} {y:Str} {py spos:Pos} (hy:PG X (.Name y py) (i5 i)) (hcalm:X.calm=true) (hchk:uq X.N N' X.env scope=true) (hN:N'.length=X.N.length + n) (hix:∀ j ∈ ix,X.N.length<=j) (tk:AT ix T) (hi:ID C X tg iter src)
  (hg:∀ L cs s H fp,GD C (cxC X N' scope L cs s H fp) tg ix T) (ht:∀ L cs s H fp,sY C (cxC X N' scope L cs s H fp) ifs t) (he:∀ L cs s H fp,ED C (cxC X N' scope L cs s H fp) elt e)
  (hsw:swapsWith (.ListComp elt [⟨tg,iter,ifs,0⟩] scope pos) (some (.Name y py)) spos.line X.env=pure true)
  (hs:∀ x,foldedSetIterable iter X.env x=pure x:=by intro _;rfl):PS X (.Assign [.Name y py] (.ListComp elt [⟨tg,iter,ifs,0⟩] scope pos) spos) (vW (teF C X (bI src n T t e)) (i5 i)) :=
 bN (rM hy hcalm hchk hN hix hi hg ht (fun L cs s H fp=>A8 (he L cs s H fp)) hsw hs) fun D σ H h=>AX h
theorem kj {i : Nat} {st : Stmt} {F : Rho -> R (List D)} (h : PS X st (vW (teF C X F) (i5 i))) : SD C X st (asg i (eLs F)) :=
  bN h fun D σ H yy0 => by
   obtain ⟨_, H0, ⟨ρ, rfl, r⟩, q⟩ := yy0
   exact ⟨ρ, ⟨H0, r⟩, by
    unfold asg eLs Co at q
    cases e : F ρ with
    | val xs =>
      rw [e] at q
      exact fun a vs H1 s1 hn h1 => q _ _ ⟨_, rfl, (r.mono (s1.trans (bc hn))).setShr (.lst ((r.mono s1).new hn) (h1.mono (bu (bc hn))))⟩
    | exc c => rw [e] at q; exact ez r q
    | bad => rw [e] at q; exact q⟩
theorem zk {i : Nat} {st : Stmt} {F : Rho -> R (List D)} (h : PS X st (vW (teF C X F) (i5 i))) : SD C X st (own i F) :=
  bN h fun D σ H yy1 => by
   obtain ⟨_, H0, ⟨ρ, rfl, r⟩, q⟩ := yy1
   exact ⟨ρ, ⟨H0, r⟩, by
    unfold own at q
    cases e : F ρ with
    | val xs =>
      rw [e] at q
      exact fun a vs H1 s1 hn h1 => q _ _ ⟨_, rfl, (r.mono s1).setOwn hn h1⟩
    | exc c => rw [e] at q; exact ez r q
    | bad => rw [e] at q; exact q⟩
end
end DL
namespace DL
open PySem PySem.Spec PyProof.Rows L2
def eqb:Nat->D->Bool
 | _,.non=>true
 | _,.bl _=>true
 | _,.int _=>true
 | n + 1,.lst xs=>xs.all (eqb n)
 | n + 1,.tup xs=>xs.all (eqb n)
 | _,_=>false
def pyq:Nat->D->D->Bool
 | _,.non,.non=>true
 | _,.bl a,.bl b=>a == b
 | _,.bl a,.int b=>(if a then 1 else 0) == b
 | _,.int a,.bl b=>a == (if b then 1 else 0)
 | _,.int a,.int b=>a == b
 | n + 1,.lst xs,.lst ys=>decide (xs.length=ys.length) && (List.range xs.length).all fun j=>pyq n (xs.getD j .non) (ys.getD j .non)
 | n + 1,.tup xs,.tup ys=>decide (xs.length=ys.length) && (List.range xs.length).all fun j=>pyq n (xs.getD j .non) (ys.getD j .non)
 | _,_,_=>false
theorem qe (n:Nat) (xs ys:List D):pyq (n + 1) (.lst xs) (.lst ys)=(decide (xs.length=ys.length) && (List.range xs.length).all fun j=>pyq n (xs.getD j .non) (ys.getD j .non)):=rfl
theorem qd (n:Nat) (xs ys:List D):pyq (n + 1) (.tup xs) (.tup ys)=(decide (xs.length=ys.length) && (List.range xs.length).all fun j=>pyq n (xs.getD j .non) (ys.getD j .non)):=rfl
section
variable {K:Frag} {C:Addr} {H:Hp}
theorem HasL.inj {n:Nat} (ih:∀ {v:V} {x y:D},eqb n x=true->eqb n y=true->Has K C H v x->Has K C H v y->x=y):∀ {vs:List V} {xs ys:List D},xs.all (eqb n)=true->ys.all (eqb n)=true->HasL K C H vs xs->HasL K C H vs ys->xs=ys
 | _,_,_,_,_,.nil,.nil=>rfl
 | _,_,_,h1,h2,.cons a b,.cons c d=>by
  rw [List.all_cons,Bool.and_eq_true] at h1 h2
  rw [ih h1.1 h2.1 a c,HasL.inj ih h1.2 h2.2 b d]
theorem Has.inj:∀ {n:Nat} {v:V} {x y:D},eqb n x=true->eqb n y=true->Has K C H v x->Has K C H v y->x=y:=by
 intro n
 induction n with
 | zero =>
  intro v x y h1 h2 a b
  cases a <;> cases b <;> first | rfl | cases h1 | cases h2
 | succ n ih =>
  intro v x y h1 h2 a b
  cases a with
  | non=>cases b;rfl
  | bl _=>cases b;rfl
  | int _=>cases b;rfl
  | lst e1 g1 =>
   cases b with
   | lst e2 g2=>rw [e1] at e2;cases e2;rw [HasL.inj ih h1 h2 g1 g2]
   | tup e2 g2=>rw [e1] at e2;cases e2
   | ob _ _ _ _=>cases h2
   | scr _=>cases h2
   | exn _=>cases h2
  | tup e1 g1 =>
   cases b with
   | tup e2 g2=>rw [e1] at e2;cases e2;rw [HasL.inj ih h1 h2 g1 g2]
   | lst e2 g2=>rw [e1] at e2;cases e2
   | ob _ _ _ _=>cases h2
   | scr _=>cases h2
   | exn _=>cases h2
  | ob _ _ _ _=>cases h1
  | scr _=>cases h1
  | exn _=>cases h1
theorem rK:∀ {n:Nat} {x:D},eqb n x=true->pyq n x x=true:=by
 intro n
 induction n with
 | zero =>
  intro x h
  cases x with
  | non=>rfl
  | bl b=>exact beq_self_eq_true _
  | int b=>exact beq_self_eq_true _
  | _=>cases h
 | succ n ih =>
  intro x h
  cases x with
  | non=>rfl
  | bl b=>exact beq_self_eq_true _
  | int b=>exact beq_self_eq_true _
  | lst xs =>
   rw [qe]
   simp only [decide_true,Bool.true_and,List.all_eq_true,List.mem_range]
   intro j hj
   have h:xs.all (eqb n)=true:=h
   rw [List.all_eq_true] at h
   have e:xs.getD j .non=xs[j]:=by simp [List.getD,List.getElem?_eq_getElem hj]
   rw [e]
   exact ih (h _ (List.getElem_mem hj))
  | tup xs =>
   rw [qd]
   simp only [decide_true,Bool.true_and,List.all_eq_true,List.mem_range]
   intro j hj
   have h:xs.all (eqb n)=true:=h
   rw [List.all_eq_true] at h
   have e:xs.getD j .non=xs[j]:=by simp [List.getD,List.getElem?_eq_getElem hj]
   rw [e]
   exact ih (h _ (List.getElem_mem hj))
  | ob _ _ _=>cases h
  | scr _=>cases h
  | exn _=>cases h
end
open SeqAt in
theorem Bc {X:Cx} {C:Addr} {H:Hp} {s:Shared} {n:Nat} {A:Around} {xs ys:List D} {vs ws:List V} {its its2:List Value}
  (ih:∀ {x y:D} {v w:V} {u t:Value},eqb n x=true->eqb n y=true->Has X.K C H v x->Has X.K C H w y->RelV v u->RelV w t->EqAt A s u t (pyq n x y))
  (h1:∀ x ∈ xs,eqb n x=true) (h2:∀ x ∈ ys,eqb n x=true) (g1:HasL X.K C H vs xs) (g2:HasL X.K C H ws ys) (r:Vals vs its) (r2:Vals ws its2) (j:Nat) (h1':j < its.toArray.size) (h2':j < its2.toArray.size) :
  EqAt A s its.toArray[j] its2.toArray[j] (pyq n (xs.getD j .non) (ys.getD j .non)):=by
 have j1:j < xs.length:=by rw [<- g1.len,r.length];exact h1'
 have j2:j < ys.length:=by rw [<- g2.len,r2.length];exact h2'
 obtain ⟨vj,ev,hv⟩:=g1.get (List.getElem?_eq_getElem j1)
 obtain ⟨wj,ew,hw⟩:=g2.get (List.getElem?_eq_getElem j2)
 obtain ⟨uj,eu,ruj⟩:=r.get ev
 obtain ⟨tj,et,rtj⟩:=r2.get ew
 have eu':its.toArray[j]=uj:=(List.getElem?_eq_some_iff.mp eu).2
 have et':its2.toArray[j]=tj:=(List.getElem?_eq_some_iff.mp et).2
 have ex:xs.getD j .non=xs[j]:=by rw [List.getD,List.getElem?_eq_getElem j1];rfl
 have ey:ys.getD j .non=ys[j]:=by rw [List.getD,List.getElem?_eq_getElem j2];rfl
 rw [eu',et',ex,ey]
 exact ih (h1 _ (List.getElem_mem j1)) (h2 _ (List.getElem_mem j2)) hv hw ruj rtj
open SeqAt in
theorem uw {X:Cx} {C:Addr} {pins:List (Addr × Obj)} {σ:St} {H:Hp} {s:Shared} (I:Inv X pins σ H s):∀ (n:Nat) {A:Around} {x y:D} {v w:V} {u t:Value},A.units + n < cLine->eqb n x=true->eqb n y=true->Has X.K C H v x->Has X.K C H w y->RelV v u->RelV w t ->
  RcAt A s u t (pyq n x y)/\EqAt A s u t (pyq n x y)/\RcNeAt A s u t (!pyq n x y):=by
 intro n
 induction n with
 | zero =>
  intro A x y v w u t hu h1 h2 a b ru rt
  cases a with
  | non =>
   cases ru
   cases b with
   | non=>cases rt;exact ⟨RcAt.none_none,EqAt.same _,RcNeAt.none_none⟩
   | bl _=>cases rt;exact ⟨RcAt.none_bool _,EqAt.none_bool _,RcNeAt.none_bool _⟩
   | int _=>obtain ⟨_,rfl⟩:=rt;exact ⟨RcAt.none_int _ _,EqAt.none_int _ _,RcNeAt.none_int _ _⟩
   | _=>cases h2
  | bl _ =>
   cases ru
   cases b with
   | non=>cases rt;exact ⟨RcAt.bool_none _,EqAt.bool_none _,RcNeAt.bool_none _⟩
   | bl _=>cases rt;exact ⟨RcAt.bool_bool _ _,EqAt.bool_bool _ _,RcNeAt.bool_bool _ _⟩
   | int _=>obtain ⟨_,rfl⟩:=rt;exact ⟨RcAt.bool_int _ _ _,EqAt.bool_int _ _ _,RcNeAt.bool_int _ _ _⟩
   | _=>cases h2
  | int _ =>
   obtain ⟨_,rfl⟩:=ru
   cases b with
   | non=>cases rt;exact ⟨RcAt.int_none _ _,EqAt.int_none _ _,RcNeAt.int_none _ _⟩
   | bl _=>cases rt;exact ⟨RcAt.int_bool _ _ _,EqAt.int_bool _ _ _,RcNeAt.int_bool _ _ _⟩
   | int _=>obtain ⟨_,rfl⟩:=rt;exact ⟨RcAt.int_int _ _ _ _,EqAt.int_int _ _ _ _,RcNeAt.int_int _ _ _ _⟩
   | _=>cases h2
  | _=>cases h1
 | succ n ih =>
  intro A x y v w u t hu h1 h2 a b ru rt
  have hA:A.units < cLine:=by omega
  have hin:A.in1.units + n < cLine:=by show A.units + 1 + n < cLine;omega
  cases a with
  | non =>
   cases ru
   cases b with
   | non=>cases rt;exact ⟨RcAt.none_none,EqAt.same _,RcNeAt.none_none⟩
   | bl _=>cases rt;exact ⟨RcAt.none_bool _,EqAt.none_bool _,RcNeAt.none_bool _⟩
   | int _=>obtain ⟨_,rfl⟩:=rt;exact ⟨RcAt.none_int _ _,EqAt.none_int _ _,RcNeAt.none_int _ _⟩
   | lst e2 g2=>cases rt;obtain ⟨its,r,p,_⟩:=I.list (SqL.of e2);exact ⟨RcAt.none_list p.isList hA,EqAt.none_list p.isList hA,RcNeAt.none_list p.isList hA⟩
   | tup e2 g2=>cases rt;obtain ⟨its,r,p,_⟩:=I.tuple (SqT.of e2);exact ⟨RcAt.none_tuple p hA,EqAt.none_tuple p hA,RcNeAt.none_tuple p hA⟩
   | _=>cases h2
  | bl _ =>
   cases ru
   cases b with
   | non=>cases rt;exact ⟨RcAt.bool_none _,EqAt.bool_none _,RcNeAt.bool_none _⟩
   | bl _=>cases rt;exact ⟨RcAt.bool_bool _ _,EqAt.bool_bool _ _,RcNeAt.bool_bool _ _⟩
   | int _=>obtain ⟨_,rfl⟩:=rt;exact ⟨RcAt.bool_int _ _ _,EqAt.bool_int _ _ _,RcNeAt.bool_int _ _ _⟩
   | lst e2 g2=>cases rt;obtain ⟨its,r,p,_⟩:=I.list (SqL.of e2);exact ⟨RcAt.bool_list _ p.isList hA,EqAt.bool_list _ p.isList hA,RcNeAt.bool_list _ p.isList hA⟩
   | tup e2 g2=>cases rt;obtain ⟨its,r,p,_⟩:=I.tuple (SqT.of e2);exact ⟨RcAt.bool_tuple _ p hA,EqAt.bool_tuple _ p hA,RcNeAt.bool_tuple _ p hA⟩
   | _=>cases h2
  | int _ =>
   obtain ⟨_,rfl⟩:=ru
   cases b with
   | non=>cases rt;exact ⟨RcAt.int_none _ _,EqAt.int_none _ _,RcNeAt.int_none _ _⟩
   | bl _=>cases rt;exact ⟨RcAt.int_bool _ _ _,EqAt.int_bool _ _ _,RcNeAt.int_bool _ _ _⟩
   | int _=>obtain ⟨_,rfl⟩:=rt;exact ⟨RcAt.int_int _ _ _ _,EqAt.int_int _ _ _ _,RcNeAt.int_int _ _ _ _⟩
   | lst e2 g2=>cases rt;obtain ⟨its,r,p,_⟩:=I.list (SqL.of e2);exact ⟨RcAt.int_list _ _ p.isList hA,EqAt.int_list _ _ p.isList hA,RcNeAt.int_list _ _ p.isList hA⟩
   | tup e2 g2=>cases rt;obtain ⟨its,r,p,_⟩:=I.tuple (SqT.of e2);exact ⟨RcAt.int_tuple _ _ p hA,EqAt.int_tuple _ _ p hA,RcNeAt.int_tuple _ _ p hA⟩
   | _=>cases h2
  | @lst la vs xs e1 g1 =>
   cases ru
   obtain ⟨its,r,p,_⟩:=I.list (SqL.of e1)
   cases b with
   | non=>cases rt;exact ⟨RcAt.list_none p.isList hA,EqAt.list_none p.isList hA,RcNeAt.list_none p.isList hA⟩
   | bl _=>cases rt;exact ⟨RcAt.list_bool _ p.isList hA,EqAt.list_bool _ p.isList hA,RcNeAt.list_bool _ p.isList hA⟩
   | int _=>obtain ⟨_,rfl⟩:=rt;exact ⟨RcAt.list_int _ _ p.isList hA,EqAt.list_int _ _ p.isList hA,RcNeAt.list_int _ _ p.isList hA⟩
   | tup e2 g2=>cases rt;obtain ⟨its2,r2,p2,_⟩:=I.tuple (SqT.of e2);exact ⟨RcAt.list_tuple p.isList p2 hA,EqAt.list_tuple p.isList p2 hA,RcNeAt.list_tuple p.isList p2 hA⟩
   | @lst lb ws ys e2 g2 =>
    cases rt
    obtain ⟨its2,r2,p2,_⟩:=I.list (SqL.of e2)
    have l1:its.length=xs.length:=by rw [<- r.length,g1.len]
    have l2:its2.length=ys.length:=by rw [<- r2.length,g2.len]
    have el:=Bc (A:=A.in1) (s:=s) (fun a b c d e f=>(ih hin a b c d e f).2.1) (List.all_eq_true.mp h1) (List.all_eq_true.mp h2) g1 g2 r r2
    have rc:RcAt A s (.ref la) (.ref lb) (pyq (n + 1) (.lst xs) (.lst ys)):=by
     rw [qe]
     by_cases hl:xs.length=ys.length
     ·have q:=RcAt.lists (A:=A) (s:=s) (e:=fun j=>pyq n (xs.getD j .non) (ys.getD j .non)) p.isList p2.isList (by simp [l1,l2,hl]) hA el
      have es:its.toArray.size=xs.length:=by simp [l1]
      rw [es] at q
      rw [decide_eq_true hl,Bool.true_and]
      exact q
     ·rw [decide_eq_false hl,Bool.false_and]
      exact RcAt.lists_lengths p.isList p2.isList (by simp [l1,l2,hl]) hA
    have rn:RcNeAt A s (.ref la) (.ref lb) (!pyq (n + 1) (.lst xs) (.lst ys)):=by
     rw [qe]
     by_cases hl:xs.length=ys.length
     ·have q:=RcNeAt.lists (A:=A) (s:=s) (e:=fun j=>pyq n (xs.getD j .non) (ys.getD j .non)) p.isList p2.isList (by simp [l1,l2,hl]) hA el
      have es:its.toArray.size=xs.length:=by simp [l1]
      rw [es] at q
      rw [decide_eq_true hl,Bool.true_and]
      exact q
     ·rw [decide_eq_false hl,Bool.false_and]
      exact RcNeAt.lists_lengths p.isList p2.isList (by simp [l1,l2,hl]) hA
    refine ⟨rc,?_,rn⟩
    by_cases hab:la=lb
    ·subst hab
     have:=Has.inj h1 h2 (.lst e1 g1) (.lst e2 g2)
     rw [this,rK h2]
     exact EqAt.same _
    ·exact EqAt.of_refs hab rc
   | _=>cases h2
  | @tup la vs xs e1 g1 =>
   cases ru
   obtain ⟨its,r,p,_⟩:=I.tuple (SqT.of e1)
   cases b with
   | non=>cases rt;exact ⟨RcAt.tuple_none p hA,EqAt.tuple_none p hA,RcNeAt.tuple_none p hA⟩
   | bl _=>cases rt;exact ⟨RcAt.tuple_bool _ p hA,EqAt.tuple_bool _ p hA,RcNeAt.tuple_bool _ p hA⟩
   | int _=>obtain ⟨_,rfl⟩:=rt;exact ⟨RcAt.tuple_int _ _ p hA,EqAt.tuple_int _ _ p hA,RcNeAt.tuple_int _ _ p hA⟩
   | lst e2 g2=>cases rt;obtain ⟨its2,r2,p2,_⟩:=I.list (SqL.of e2);exact ⟨RcAt.tuple_list p p2.isList hA,EqAt.tuple_list p p2.isList hA,RcNeAt.tuple_list p p2.isList hA⟩
   | @tup lb ws ys e2 g2 =>
    cases rt
    obtain ⟨its2,r2,p2,_⟩:=I.tuple (SqT.of e2)
    have l1:its.length=xs.length:=by rw [<- r.length,g1.len]
    have l2:its2.length=ys.length:=by rw [<- r2.length,g2.len]
    have el:=Bc (A:=A.in1) (s:=s) (fun a b c d e f=>(ih hin a b c d e f).2.1) (List.all_eq_true.mp h1) (List.all_eq_true.mp h2) g1 g2 r r2
    have rc:RcAt A s (.ref la) (.ref lb) (pyq (n + 1) (.tup xs) (.tup ys)):=by
     rw [qd]
     have q:=RcAt.tuples (A:=A) (s:=s) (e:=fun j=>pyq n (xs.getD j .non) (ys.getD j .non)) p p2 hA el
     have es:its.toArray.size=xs.length:=by simp [l1]
     have es2:its2.toArray.size=ys.length:=by simp [l2]
     rw [es,es2] at q
     by_cases hl:xs.length=ys.length
     ·rw [hl,Nat.min_self,beq_self_eq_true,Bool.and_true] at q
      rw [decide_eq_true hl,Bool.true_and,hl]
      exact q
     ·rw [decide_eq_false hl,Bool.false_and]
      rw [show (xs.length == ys.length)=false by simpa using hl,Bool.and_false] at q
      exact q
    have rn:RcNeAt A s (.ref la) (.ref lb) (!pyq (n + 1) (.tup xs) (.tup ys)):=by
     rw [qd]
     have q:=RcNeAt.tuples (A:=A) (s:=s) (e:=fun j=>pyq n (xs.getD j .non) (ys.getD j .non)) p p2 hA el
     have es:its.toArray.size=xs.length:=by simp [l1]
     have es2:its2.toArray.size=ys.length:=by simp [l2]
     rw [es,es2] at q
     by_cases hl:xs.length=ys.length
     ·rw [hl,Nat.min_self,beq_self_eq_true,Bool.and_true] at q
      rw [decide_eq_true hl,Bool.true_and,hl]
      exact q
     ·rw [decide_eq_false hl,Bool.false_and]
      rw [show (xs.length == ys.length)=false by simpa using hl,Bool.and_false] at q
      exact q
    refine ⟨rc,?_,rn⟩
    by_cases hab:la=lb
    ·subst hab
     have:=Has.inj h1 h2 (.tup e1 g1) (.tup e2 g2)
     rw [this,rK h2]
     exact EqAt.same _
    ·exact EqAt.of_refs hab rc
   | _=>cases h2
  | _=>cases h1
open SeqAt in
theorem yz {X:Cx} {C:Addr} {pins:List (Addr × Obj)} {σ:St} {H:Hp} {s:Shared} (I:Inv X pins σ H s):∀ (n:Nat) {A:Around} {x y:D} {v w:V} {u t:Value},A.units + n < cLine->eqb n x=true->eqb n y=true->Has X.K C H v x->Has X.K C H w y->RelV v u->RelV w t ->
  RcAt A s u t (pyq n x y)/\EqAt A s u t (pyq n x y) :=
 fun n _ _ _ _ _ _ _ hu h1 h2 a b c d=>⟨(uw I n hu h1 h2 a b c d).1,(uw I n hu h1 h2 a b c d).2.1⟩
open SeqAt in
theorem DP {X:Cx} {C:Addr} {pins:List (Addr × Obj)} {σ:St} {H:Hp} {s:Shared} (I:Inv X pins σ H s):∀ (n:Nat) {A:Around} {x y:D} {v w:V} {u t:Value},A.units + n < cLine->eqb n x=true->eqb n y=true->Has X.K C H v x->Has X.K C H w y->RelV v u->RelV w t ->
  RcNeAt A s u t (!pyq n x y) :=
 fun n _ _ _ _ _ _ _ hu h1 h2 a b c d=>(uw I n hu h1 h2 a b c d).2.2
theorem Brw.has {K:Frag} {C:Addr} {M H:Hp} {v:V} {d:D} (s:Same M H) (h:Brw K C M H v d):Has K C H v d:=by
 cases h with
 | cl h=>exact h.mono s
 | own e h=>exact .lst e (h.mono s)
section
variable {C:Addr} {X:Cx}
def feq (x y:D):R D:=if eqb 9 x=true/\eqb 9 y=true then .val (.bl (pyq 9 x y)) else .bad
def fne (x y:D):R D:=if eqb 9 x=true/\eqb 9 y=true then .val (.bl (!pyq 9 x y)) else .bad
def zv (K:Frag) (C:Addr) (neg:Bool):R2:=fun v w H Q=>∃ x y,eqb 9 x=true/\eqb 9 y=true/\Has K C H v x/\Has K C H w y/\Q (.bl (if neg then !pyq 9 x y else pyq 9 x y)) H
theorem xG (hu:X.A.units + 9 < cLine):OpR X (compareOp .Eq) (zv X.K C false):=by
 intro pins s σ H x y v u Q I rx ry h
 obtain ⟨dx,dy,e1,e2,h1,h2,q⟩:=h
 exact (yz I 9 hu e1 e2 h1 h2 rx ry).1 _ _ _ _ ⟨.bl _,H,I,rfl,q⟩
theorem Cb (hu:X.A.units + 9 < cLine):OpR X (compareOp .NotEq) (zv X.K C true):=by
 intro pins s σ H x y v u Q I rx ry h
 obtain ⟨dx,dy,e1,e2,h1,h2,q⟩:=h
 exact DP I 9 hu e1 e2 h1 h2 rx ry _ _ _ _ ⟨.bl _,H,I,rfl,q⟩
theorem xF:OpD C X (zv X.K C false) feq:=by
 intro ρ σ H v w x y z Q r hx hy e k
 unfold feq at e
 split at e
 ·rename_i hh
  cases e
  exact ⟨x,y,hh.1,hh.2,hx.has msk_sub,hy.has msk_sub,k _ H (Same.refl _) (.bl _)⟩
 ·cases e
theorem B5:OpD C X (zv X.K C true) fne:=by
 intro ρ σ H v w x y z Q r hx hy e k
 unfold fne at e
 split at e
 ·rename_i hh
  cases e
  exact ⟨x,y,hh.1,hh.2,hx.has msk_sub,hy.has msk_sub,k _ H (Same.refl _) (.bl _)⟩
 ·cases e
theorem A0:eS feq:=fun x y c e=>by unfold feq at e;split at e <;> cases e
theorem DD:eS fne:=fun x y c e=>by unfold fne at e;split at e <;> cases e
theorem kH {a b:Expr} {pos:Pos} {Fa Fb:Rho->R D} (hu:X.A.units + 9 < cLine) (ha:EB C X a Fa) (hb:EB C X b Fb):ED C X (.Compare a [.Eq] [b] pos) (bin feq Fa Fb):=CZ (xG (C:=C) hu) A0 xF ha hb (nl _)
theorem d8 {a b:Expr} {pos:Pos} {Fa Fb:Rho->R D} (hu:X.A.units + 9 < cLine) (ha:EB C X a Fa) (hb:EB C X b Fb):TD C X (.Compare a [.Eq] [b] pos) (tst (bin feq Fa Fb)):=mU (xG (C:=C) hu) A0 xF ha hb (nl _)
theorem ef {a b:Expr} {pos:Pos} {Fa Fb:Rho->R D} (hu:X.A.units + 9 < cLine) (ha:EB C X a Fa) (hb:EB C X b Fb):TD C X (.Compare a [.NotEq] [b] pos) (tst (bin fne Fa Fb)):=mU (Cb (C:=C) hu) DD B5 ha hb (nl _)
end
variable {C:Addr} {X:Cx}
def Ite (K:Frag) (a:Addr):It :=
 ⟨fun i H=>∃ xs x,SqL K H a xs/\xs[i]?=some x,fun i H v H'=>∃ p x,H p=none/\v=.ref p/\H'=upd H p (.tup [.int (i:Int),x])/\∀ xs,SqL K H a xs->xs[i]?=some x,fun i H=>∃ xs,SqL K H a xs/\xs.length<=i⟩
theorem vV {P:Program} {w:World} {K:Frag} {es:List Expr} {k:Nat} {pos:Pos} (a it e:Addr) (hne:e ≠ it) :
  wI P w K (.Tuple es k pos) (Ite K a) [e,it] e (fun i h=>(∃ old,IsEnum h e it i old)/\h.IsListIter it a i) where
 mem:=by simp
 obj:=fun i h st b hb=>by
  obtain ⟨⟨old,he⟩,o,eo,c,d⟩:=st
  have hb:b=e\/b=it:=by simpa using hb
  rcases hb with rfl | rfl
  ·exact ⟨_,he,fun v z=>by have z':Data.fields _=Data.cell v:=z;cases z'⟩
  ·exact ⟨o,eo,fun v z=>by rw [d] at z;cases z⟩
 keep:=fun i h h' st kk=>by
  obtain ⟨⟨old,he⟩,st⟩:=st
  exact ⟨⟨old,kk e (by simp) _ he⟩,st.at fun o q=>kk it (by simp) o q⟩
 item:=by
  intro X hP hw hK hc i pins s σ H E I hf st hg
  subst hP hw hK
  obtain ⟨⟨old,he⟩,hit⟩:=st
  obtain ⟨xs,x,hq,hx⟩:=hg
  obtain ⟨its,rv,p,hz⟩:=I.list hq
  obtain ⟨u,hu,ru⟩:=rv.get hx
  refine wpAny_pyNext_enum_item he hit p.isList (x:=u) (by simpa using hu) hne fun h' out hit' ht hsz hk=>?_
  refine ⟨_,rfl,wpAny_letOwnedTupleGo_enum out fun h'' he'' sb=>?_⟩
  have fr:=I.fresh
  have hk2:∀ b o,b ≠ e->b ≠ it->s.heap.get? b=some o->h''.get? b=some o:=fun b o h1 h2 eo=>(sb.2 b h1).trans (hk b o h1 h2 eo)
  have hse:s.heap.objs.size ≠ e:=Nat.ne_of_gt (Heap.lt_size he)
  have ht2:h''.get? s.heap.objs.size=some { cls:=.type "tuple",data:=.seq #[.int i s.toks,u] }:=(sb.2 _ hse).trans ht
  have ne':∀ b,H b ≠ none->b ≠ e/\b ≠ it:=fun b hb=>⟨fun z=>hb (by rw [z];exact (hf e (by simp)).1),fun z=>hb (by rw [z];exact (hf it (by simp)).1)⟩
  have I1:Inv X pins σ (upd H s.heap.objs.size (.tup [.int (i:Int),x])) { s with heap:=h'',toks:=s.toks + 1 }:=by
   refine I.call' (s':={ s with heap:=h'',toks:=s.toks + 1 }) (ch:=[e,it]) rfl ⟨fun b o q n hfs hx=>hk2 b o (fun z=>hx (by simp [z])) (fun z=>hx (by simp [z])) q,fun b o q n hfs hx=>⟨o.slots,hk2 b o (fun z=>hx (by simp [z])) (fun z=>hx (by simp [z])) q⟩,
    fun b o q n hx=>?_,fun b o q hx=>⟨o,hk2 b o (fun z=>hx (by simp [z])) (fun z=>hx (by simp [z])) q⟩,fun b ys q=>?_,fun b o v q=>?_,fun b ps q=>?_⟩ (fun b o q=>?_) I.bare fun b hb=>?_
   ·rw [aO (Nat.ne_of_lt (Heap.lt_size q))];exact n
   ·rw [aO (bE q fr)];exact q
   ·rw [aO (bE q fr)];exact q
   ·exact ⟨#[],by rw [aO (bE q fr),q];simp⟩
   ·by_cases hb:b=s.heap.objs.size
    ·subst hb
     rw [bp] at q;cases q
     exact ⟨by show 2<=sizeLine;decide,[.int i s.toks,u],.cons ⟨_,rfl⟩ (.cons ru .nil),⟨_,ht2,rfl,_,rfl⟩⟩
    ·rw [aO hb] at q
     refine (I.hok b o q).stay (fun c v hc qv=>?_) (fun c qc=>by rw [aO (bE qc fr)];exact qc) fun c ys qc=>by rw [aO (bE qc fr)];exact qc
     have hcn:H c ≠ none:=by
      rcases hc with z | z
      ·rw [z,q];simp
      ·rw [z];simp
     obtain ⟨n1,n2⟩:=ne' c hcn
     exact hk2 c v n1 n2 qv
   ·obtain ⟨g0,g1,g2,g3,g4,g5⟩:=hf b hb
    exact ⟨g3,g1,g4,g5⟩
  refine ⟨.ref s.heap.objs.size,_,I1,rfl,⟨_,x,fr,rfl,rfl,fun ys hy=>by rw [I.list_inj hy hq];exact hx⟩,⟨⟨u,?_⟩,?_⟩,fun b hb=>?_⟩
  ·have:((i:Int) + 1)=((i + 1:Nat):Int):=by push_cast;rfl
   rw [this] at he'';exact he''
  ·exact hit'.at fun o q=>(sb.2 it (Ne.symm hne)).trans q
  ·have hb':=(hf b hb).1
   have hlt:b < s.heap.objs.size:=by
    have hb:b=e\/b=it:=by simpa using hb
    rcases hb with rfl | rfl
    ·exact Heap.lt_size he
    ·obtain ⟨o,eo,_⟩:=hit;exact Heap.lt_size eo
   rw [aO (Nat.ne_of_lt hlt)];exact hb'
 done:=by
  intro X hP hw hK hc i pins s σ H E I hf st hg
  subst hP hw hK
  obtain ⟨⟨old,he⟩,hit⟩:=st
  obtain ⟨xs,hq,hx⟩:=hg
  obtain ⟨its,rv,p,hz⟩:=I.list hq
  obtain ⟨f0,f1,f2,f3,f4,f5⟩:=hf it (by simp)
  have hl:=rv.length
  exact wpAny_pyNext_enum_end (I.ok.hd hc) he hit p.isList (by simp;omega) fun h' eb=>⟨rfl,I.turned (t':=s.toks) (fun b o hb q=>eb b o hb q) f0 f1 f3 f4 f5⟩
 self:=fun _ _ _ _ _ st h=>by
  obtain ⟨⟨old,he⟩,_⟩:=st
  exact wpAny_pyIter_enum he h
def enu:Nat->List D->List D
 | _,[]=>[]
 | k,x :: r=>.tup [.int (k:Int),x] :: enu (k + 1) r
theorem vz:∀ (k:Nat) (xs:List D),(enu k xs).length=xs.length
 | _,[]=>rfl
 | k,x :: r=>by simp [enu,vz]
theorem ug:∀ {k:Nat} {xs:List D} {i:Nat} {y:D},(enu k xs)[i]?=some y->∃ x,xs[i]?=some x/\y=.tup [.int ((k + i:Nat):Int),x]
 | _,[],_,_,e=>by simp [enu] at e
 | k,x :: r,0,y,e=>by
  simp [enu] at e
  exact ⟨x,rfl,by rw [<- e];rfl⟩
 | k,x :: r,i + 1,y,e=>by
  have e:(enu (k + 1) r)[i]?=some y:=by simpa [enu] using e
  obtain ⟨z,h1,h2⟩:=ug e
  refine ⟨z,by simpa using h1,?_⟩
  rw [h2,show k + 1 + i=k + (i + 1) by omega]
theorem vS {K:Frag} {a:Addr} {vs:List V} {xs:List D} {M:Hp} (e:M a=some (.lst vs)) (h:HasL K C M vs xs):sX K C (Ite K a) (enu 0 xs) M where
 go:=fun i y H2 s hy=>by
  obtain ⟨x,hx,rfl⟩:=ug hy
  obtain ⟨v,e1,h1⟩:=h.get hx
  refine ⟨⟨vs,v,SqL.of (s _ _ e),e1⟩,fun v' H3 y=>?_⟩
  obtain ⟨p,x',hp,rfl,rfl,y⟩:=y
  have e2:=y vs (SqL.of (s _ _ e))
  rw [e1] at e2;cases e2
  refine ⟨bc hp,fun ρ σ hown m=>?_⟩
  have em:msk ρ σ (upd H2 p (.tup [.int (i:Int),v])) p=some (.tup [.int (i:Int),v]):=msk_some.mpr ⟨fun z=>hown p z hp,bp⟩
  refine .tup em (.cons ?_ (.cons (h1.mono (m.trans (bu (bc hp)))) .nil))
  rw [Nat.zero_add];exact .int _
 stop:=fun H2 s=>⟨vs,SqL.of (s _ _ e),by rw [vz,h.len];exact Nat.le_refl _⟩
theorem zF {es:List Expr} {k:Nat} {tp p pos:Pos} {l:Expr} {ta:TA} (hg:Gl X "enumerate") (hm:X.mg "enumerate"=none) (ha:PA X [l] ta) (hs:starEach [l] X.env=[(false,eval l X.env)]:=by rfl) :
  PI X (.Tuple es k tp) (.Call (.Name "enumerate" p) [l] [] pos) (fun σ H R=>ta σ H fun vs H1=>∃ a xs,vs=[.ref a]/\SqL X.K H1 a xs/\R (Ite X.K a) H1):=by
 intro pins s σ H R I h
 refine Call_ (jV I hg hm boot_enumerate (PyProof.Rows.callWith_type1 (thn (ha pos pins s σ H _ I h) fun us s1 zz0=>?_) hs rfl))
 obtain ⟨vs,H1,I1,r1,q1⟩:=zz0
 obtain ⟨a,xs,e,hq,q⟩:=q1
 subst e
 cases r1 with
 | cons r rr =>
  cases rr
  cases r
  obtain ⟨its,rv,pl,hz⟩:=I1.list hq
  refine call_enumerate_list pl.isList fun h' he hit hsz kp=>?_
  have I2:Inv X pins σ H1 { s1 with heap:=h' }:=I1.kept (t':=s1.toks) kp
  refine wpAny_pyIter_enum he ?_
  have ne:s1.heap.objs.size + 1 ≠ s1.heap.objs.size:=Nat.succ_ne_self _
  refine ⟨s1.heap.objs.size + 1,[s1.heap.objs.size + 1,s1.heap.objs.size],_,_,H1,rfl,I2,vV a s1.heap.objs.size (s1.heap.objs.size + 1) ne,⟨⟨_,he⟩,hit⟩,fun b hb=>?_,q⟩
  have hb:b=s1.heap.objs.size + 1\/b=s1.heap.objs.size:=by simpa using hb
  have hle:s1.heap.objs.size<=b:=by
   rcases hb with z | z
   ·rw [z];exact Nat.le_succ _
   ·rw [z];exact Nat.le_refl _
  exact I1.fpOk hle (I1.hok.fresh hle)
def CS:List D->R (List D)
 | [.lst xs]=>.val (enu 0 xs)
 | _=>.bad
def eQ (F:Rho->R (List D)):Rho->R (List D):=fun ρ=>(F ρ).bind CS
theorem cV {es : List Expr} {k : Nat} {tp p pos : Pos} {l : Expr} {F : Rho -> R (List D)} (hg : Gl X "enumerate") (hm : X.mg "enumerate" = none) (ha : AD C X [l] F) (hs : starEach [l] X.env = [(false, eval l X.env)] := by rfl) :
    ID C X (.Tuple es k tp) (.Call (.Name "enumerate" p) [l] [] pos) (eQ F) := qi (zF hg hm ha hs) fun σ H R yy0 => by
     obtain ⟨ρ, ⟨H0, r⟩, q⟩ := yy0
     exact ⟨ρ, ⟨H0, r⟩, by
  unfold eQ at q
  cases e : F ρ with
  | val ds =>
    rw [e] at q
    intro vs H1 s1 h1
    dsimp only [DL.R.bind] at q
    unfold CS at q
    split at q
    · rename_i e0
      split at e0
      · rename_i xs
        cases e0
        cases h1 with
        | cons a b =>
          cases b
          cases a with
          | lst e1 g1 => exact ⟨_, _, rfl, SqL.of (msk_sub _ _ e1), q _ H1 s1 (vS e1 g1)⟩
      · cases e0
    · rename_i e0
      split at e0 <;> cases e0
    · exact q.elim
  | exc c => rw [e] at q; exact q
  | bad => rw [e] at q; exact q⟩
def Dy:V->List V->Hp->VK->Prop:=fun x vs H Q=>∃ l xs i y,x=.ref l/\vs=[.int i,y]/\H l=some (.lst xs)/\0<=i/\i<=xs.length/\xs.length < LIM/\Q .non (upd H l (.lst (xs.take i.toNat ++ y :: xs.drop i.toNat)))
theorem wf:MtM X "list.insert" Dy:=by
 intro pins s σ H x vs v us Q I rx rv h
 obtain ⟨l,xs,i,y,rfl,rfl,hH,h0,h1,hz,q⟩:=h
 cases rx
 obtain ⟨ui,uy,rfl,⟨tk,rfl⟩,ry⟩:=rv.two
 obtain ⟨z,its,n,r,hl,e⟩:=I.lstM hH
 have hfit:¬(!Builtin.List.listFitsIndex i)=true:=by
  have h63:(xs.length:Int) < 2 ^ 63:=by
   have:xs.length < 100000:=hz
   omega
  have:Builtin.List.listFitsIndex i=true:=by
   unfold Builtin.List.listFitsIndex
   rw [Bool.and_eq_true]
   exact ⟨decide_eq_true (by omega),decide_eq_true (by omega)⟩
  rw [this];simp
 refine call_meets F.slot_list_insert ⟨_,e,rfl⟩ F.entry_list_insert (F.args_list_insert_3 _ _ _) (PySem.AutoListH.list_insert_list_int_val_1 l its.toArray n i tk uy hfit (by rw [List.size_toArray,<- hl];exact z)) ⟨e,?_⟩
 have hm:min i.toNat its.length=i.toNat:=by omega
 refine ⟨.non,_,I.lset (its':=its.take i.toNat ++ uy :: its.drop i.toNat) hH e ?_ ((r.take i.toNat).append (.cons ry (r.drop i.toNat))) ?_,rfl,q⟩
 ·have hlt:¬ i < 0:=by omega
  simp only [hlt,if_false,List.size_toArray,hm]
  apply Array.ext'
  simp [hm]
  exact List.take_of_length_le (by rw [List.length_drop];exact Nat.le_refl _)
 ·rw [List.length_append,List.length_cons,List.length_take,List.length_drop]
  have:xs.length < 100000:=hz
  have h2:(100000:Nat)<=sizeLine:=by decide
  omega
def ins (i:Nat) (k e:Rho->R D):Rho->R Out:=fun ρ=>match ρ[i]? with
 | some (some (.own xs))=>(k ρ).bind fun n=>(e ρ).bind fun d=>match n with
  | .int n=>if 0<=n/\n<=xs.length/\xs.length < LIM then .val (.nx (ρ.set i (some (.own (xs.take n.toNat ++ d :: xs.drop n.toNat))))) else .bad
  | _=>.bad
 | _=>.bad
theorem wY {i:Nat} {x:Str} {k e:Expr} {p ap cp pos:Pos} {Fk F:Rho->R D} (hv:PE X (.Name x p) (fY i)) (hk:ED C X k Fk) (he:ED C X e F)
  (hs:∀ {to:TE} {t:TA},PE X (.Name x p) to->PA X [k,e] t->PS X (.Expr (.Call (.Attribute (.Name x p) "insert" ap) [k,e] [] cp) pos) (pf (tBM X.K "list" Dy to t)):=by
   exact fun ho ha=>kt (pq PySem.F.plainAttrs_list PySem.F.slot_list_insert PySem.F.type_list_insert wf ho ha))
  (hst:starEach [k,e] X.env=(false,eval k X.env) :: starEach [e] X.env:=by rfl) (hst2:starEach [e] X.env=(false,eval e X.env) :: starEach [] X.env:=by rfl) :
  SD C X (.Expr (.Call (.Attribute (.Name x p) "insert" ap) [k,e] [] cp) pos) (ins i Fk F) :=
 bN (hs hv (cS hk (cS he er hst2) hst)) fun D σ H zz1=>by
  obtain ⟨_,H0,⟨ρ,rfl,r⟩,q⟩:=zz1
  unfold ins at q
  split at q
  ·rename_i xs e0
   obtain ⟨a,vs,e1,_,h1,h2⟩:=r.at_ i _ e0
   refine ⟨_,e1,.inl ⟨rfl,_,SqL.of h1⟩,ρ,⟨H0,r⟩,aY (P:=fun z _=>pS C X z H0 D) (fun c h=>ez r h) (fun h=>h) q fun n v H1 s1 h3 q1=>?_⟩
   refine ⟨ρ,⟨H0,r.mono s1⟩,aY (P:=fun z _=>pS C X z H0 D) (fun c h=>ez (r.mono s1) h) (fun h=>h) q1 fun d w H2 s2 h4 q2=>?_⟩
   cases n with
   | int n =>
    dsimp only at q2
    split at q2
    ·rename_i hl
     cases h3
     have h2':=h2.mono (bu (ρ:=ρ) (σ:=σ) (s1.trans s2))
     refine ⟨a,vs,n,w,rfl,rfl,s2 _ _ (s1 _ _ h1),hl.1,by rw [h2.len];exact hl.2.1,by rw [h2.len];exact hl.2.2,?_⟩
     exact q2 _ _ ⟨_,rfl,((r.mono s1).mono s2).write e0 e1 ((h2'.take _).app (.cons h4 (h2'.drop _)))⟩
    ·exact q2.elim
   | _=>exact q2.elim
  ·exact q.elim
def Dz (K:Frag) (C:Addr) (neg:Bool):R2:=fun v w H Q=>∃ x a vs ys,eqb 8 x=true/\ys.all (eqb 8)=true/\Has K C H v x/\w=.ref a/\H a=some (.lst vs)/\HasL K C H vs ys/\Q (.bl (if neg then !(ys.any fun y=>pyq 8 y x) else ys.any fun y=>pyq 8 y x)) H
open Classical in
theorem Ag {pins:List (Addr × Obj)} {σ:St} {H:Hp} {s:Shared} (I:Inv X pins σ H s) {A:Around} (hu:A.units + 9 < cLine) {x:D} {v:V} {u:Value} {its:List Value} {vs:List V} {ys:List D} (e1:eqb 8 x=true) (e2:ys.all (eqb 8)=true) (h1:Has X.K C H v x) (rx:RelV v u)
  (h2:HasL X.K C H vs ys) (r:Vals vs its):∃ e:Value->Bool,(∀ y,y ∈ its.toArray->SeqAt.EqAt A.in1 s y u (e y))/\its.toArray.any e=ys.any fun y=>pyq 8 y x:=by
 have key:∀ (j:Nat) (t:Value) (d:D),its[j]?=some t->ys[j]?=some d->∃ w,RelV w t/\Has X.K C H w d:=fun j t d q1 q2=>by
  obtain ⟨w,g1,g2⟩:=h2.get q2
  obtain ⟨t',g3,g4⟩:=r.get g1
  rw [q1] at g3;cases g3
  exact ⟨w,g4,g2⟩
 have mem8:∀ (j:Nat) d,ys[j]?=some d->eqb 8 d=true:=fun j d q=>List.all_eq_true.mp e2 d (List.mem_of_getElem? q)
 refine ⟨fun t=>decide (∃ (j:Nat) (d:D),its[j]?=some t/\ys[j]?=some d/\pyq 8 d x=true),fun t ht=>?_,?_⟩
 ·have ht:t ∈ its:=by simpa using ht
  obtain ⟨j,hj,rfl⟩:=List.mem_iff_getElem.mp ht
  have hl:its.length=ys.length:=by rw [<- r.length,h2.len]
  have q1:its[j]?=some its[j]:=by simp [hj]
  have q2:ys[j]?=some (ys[j]'(by omega)):=by simp [show j < ys.length by omega]
  obtain ⟨w,g1,g2⟩:=key j _ _ q1 q2
  have ok:=(yz I 8 (A:=A.in1) (by show A.units + 1 + 8 < cLine;omega) (mem8 j _ q2) e1 g2 h1 g1 rx).2
  have:decide (∃ (j':Nat) (d:D),its[j']?=some its[j]/\ys[j']?=some d/\pyq 8 d x=true)=pyq 8 (ys[j]'(by omega)) x:=by
   cases hp:pyq 8 (ys[j]'(by omega)) x with
   | true=>exact decide_eq_true ⟨j,_,q1,q2,hp⟩
   | false =>
    refine decide_eq_false fun zz2=>?_
    obtain ⟨j',d,z1,z2,z3⟩:=zz2
    obtain ⟨w',g1',g2'⟩:=key j' _ _ z1 z2
    have ew:w'=w:=RelV.inj g1' g1
    subst ew
    have:=Has.inj (mem8 j' d z2) (mem8 j _ q2) g2' g2
    rw [<- this,z3] at hp;cases hp
  show SeqAt.EqAt A.in1 s its[j] u (decide (∃ (j':Nat) (d:D),its[j']?=some its[j]/\ys[j']?=some d/\pyq 8 d x=true))
  rw [this];exact ok
 ·have hl:its.length=ys.length:=by rw [<- r.length,h2.len]
  rw [Bool.eq_iff_iff]
  simp only [Array.any_eq_true,List.any_eq_true,decide_eq_true_eq]
  constructor
  ·rintro ⟨i,hi,j,d,q1,q2,q3⟩
   exact ⟨d,List.mem_of_getElem? q2,q3⟩
  ·rintro ⟨d,hd,q3⟩
   obtain ⟨j,hj,rfl⟩:=List.mem_iff_getElem.mp hd
   have hj':j < its.length:=by omega
   exact ⟨j,by simpa using hj',j,ys[j],by simp [hj'],by simp [hj],q3⟩
theorem wd (hu:X.A.units + 9 < cLine):OpR X (compareOp .NotIn) (Dz X.K C true):=by
 intro pins s σ H x y v u Q I rx ry h
 obtain ⟨d,a,vs,ys,e1,e2,h1,rfl,hH,h2,q⟩:=h
 cases ry
 obtain ⟨its,r,pl,hz⟩:=I.list (SqL.of hH)
 obtain ⟨e,he,hany⟩:=Ag I hu e1 e2 h1 rx h2 r
 exact SeqAt.notIn_listAt e pl.isList he ⟨.bl _,H,I,by rw [hany];rfl,q⟩
def mj (neg:Bool) (x y:D):R D:=match y with
 | .lst ys=>if eqb 8 x=true/\ys.all (eqb 8)=true then .val (.bl (if neg then !(ys.any fun y=>pyq 8 y x) else ys.any fun y=>pyq 8 y x)) else .bad
 | _=>.bad
theorem B8 (neg:Bool):OpD C X (Dz X.K C neg) (mj neg):=by
 intro ρ σ H v w x y z Q r hx hy e k
 unfold mj at e
 split at e
 ·rename_i ys
  split at e
  ·rename_i hh
   cases e
   obtain ⟨a,vs,rfl,e1,h2⟩:=hy.lst msk_sub
   exact ⟨x,a,vs,ys,hh.1,hh.2,hx.has msk_sub,rfl,e1,h2.mono msk_sub,k _ H (Same.refl _) (.bl _)⟩
  ·cases e
 ·cases e
theorem DG (neg:Bool):eS (mj neg):=fun x y c e=>by
 unfold mj at e
 split at e
 ·split at e <;> cases e
 ·cases e
theorem Bm {a b:Expr} {pos:Pos} {Fa Fb:Rho->R D} (hu:X.A.units + 9 < cLine) (ha:EB C X a Fa) (hb:EB C X b Fb) (hm:behindInMarks .NotIn b=false:=by rfl):TD C X (.Compare a [.NotIn] [b] pos) (tst (bin (mj true) Fa Fb)):=mU (wd (C:=C) hu) (DG _) (B8 _) ha hb hm
end DL
namespace DL
open PySem PySem.Spec PyProof.Rows L2
open AutoSeq1 (wpAny_loadPart')
section
variable {prog:Program} {w:World} {A:Around} {E:Value->Shared->Prop} {s:Shared}
theorem kQ {Q:List Value->Shared->Prop} {r:Addr} {a b c:Int} {t u v:Tok} {n:Nat} (hh:A.handled=none) (hr:IsRange s.heap r a b c t u v) (hsmall:Builtin.Range.small a b c=true)
  (hn:Builtin.Range.rangeSize a b c=n) (hlen:n<=2 ^ 24)
  (hQ:∀ h' tk acc,(∀ b o',s.heap.get? b=some o'->h'.get? b=some o')->ItemsOf (fun i v=>∃ t,v=.int (a + i * c) t) acc n->Q acc.toList { s with heap:=h',toks:=tk }) :
  wpAny (model prog w) A (collect (.ref r)) Q E s:=by
 unfold collect
 refine wpAny_bind (wpAny_runValue (codeAny_builtin F.entry_proto_collect ?_))
 rw [Around.under_plainId F.plain_proto_collect _]
 show wpAny _ A.in1 (newList [] >>= fun l=>again (.builtin "list.__iadd__" ⟨[l,.ref r],[]⟩)) _ _ s
 refine wpAny_bind (wpAny_newObj_type ?_)
 refine wpAny_pure ⟨plainId_quiet F.plain_list_iadd _,codeAny_builtin F.entry_list_iadd ?_⟩
 rw [Around.under_plainId F.plain_list_iadd _]
 show wpAny _ A.in1 (Builtin.List.listExtendWith (.ref s.heap.objs.size) (.ref r) (.ref s.heap.objs.size)) _ _ _
 have hS:(s.heap.push { cls:=.type "list",data:=.seq ([]:List Value).toArray }).get? s.heap.objs.size=some { cls:=.type "list",data:=.seq #[] 0 }:=Heap.get?_push_size _ rfl
 have fin':∀ h' tk acc c',(∀ b o',s.heap.get? b=some o'->h'.get? b=some o')->h'.get? s.heap.objs.size=some { cls:=.type "list",dict:=none,data:=.seq acc c',slots:=#[] }->ItemsOf (fun i v=>∃ t,v=.int (a + i * c) t) acc n ->
   wpAny (model prog w) A (match Value.ref s.heap.objs.size with
   | Value.ref a=>do
    match (<- load a).data with
     | Data.seq xs _=>pure xs.toList
     | _=>unsupported "internal:collect"
   | _=>unsupported "internal:collect") Q E { s with heap:=h',toks:=tk }:=fun h' tk acc c' hk hS' hacc=>by
  show wpAny _ A (load s.heap.objs.size >>= _) _ _ _
  refine wpAny_bind (wpAny_load hS' ?_)
  exact wpAny_pure (hQ h' tk acc hk hacc)
 refine wpAny_mono (wpAny_extend_range (A:=A) (R:=fun res s'=>∃ h' tk acc c',res=.ok (.ret (.ref s.heap.objs.size))/\s'={ s with heap:=h',toks:=tk }/\(∀ b o',s.heap.get? b=some o'->h'.get? b=some o') /\
   h'.get? s.heap.objs.size=some { cls:=.type "list",dict:=none,data:=.seq acc c',slots:=#[] }/\ItemsOf (fun i v=>∃ t,v=.int (a + i * c) t) acc n)
  (s:={ s with heap:=s.heap.push { cls:=.type "list",data:=.seq ([]:List Value).toArray } }) hh (Heap.get?_push_of_some _ hr) hsmall hn hlen s.heap.objs.size _ 0 hS fun h' tk acc' c' hk hS' hacc=>⟨h',tk,acc',c',rfl,rfl,fun b o' hb=>hk b o' (Nat.ne_of_lt (Heap.lt_size hb)) (Heap.get?_push_of_some _ hb),hS',hacc⟩) (fun fin s' h=>?_) (fun e s' h=>?_)
 ·cases fin with
  | done f =>
   obtain ⟨h',tk,acc,c',e,rfl,hk,hS',hacc⟩:=h
   cases e
   exact fin' h' tk acc c' hk hS' hacc
  | again c'=>exact ⟨h.1,codeAny_mono h.2 fun r s'' hr=>by obtain ⟨h',tk,acc,c',rfl,rfl,hk,hS',hacc⟩:=hr;exact fin' h' tk acc c' hk hS' hacc⟩
 ·obtain ⟨_,_,_,_,e,_⟩:=h
  exact absurd e (by simp)
theorem ji {Q₁:Value->Shared->Prop} {r:Addr} {a b c:Int} {t u v:Tok} {n:Nat} (hh:A.handled=none) (hr:IsRange s.heap r a b c t u v) (hsmall:Builtin.Range.small a b c=true)
  (hn:Builtin.Range.rangeSize a b c=n) (hlen:n<=2 ^ 24)
  (h:∀ (h':Heap) (tk:Nat) (acc:Array Value),(∀ b o',s.heap.get? b=some o'->h'.get? b=some o')->ItemsOf (fun i v=>∃ t,v=.int (a + i * c) t) acc n->Q₁ (.ref h'.objs.size) { s with heap:=h'.push { cls:=.type "tuple",data:=.seq acc },toks:=tk }) (hsz:n<=sizeLine) :
  codeAny (model prog w) A (.call (.builtin "tuple.__new__") ⟨[.type "tuple",.ref r],[]⟩) (wants Q₁ E) s:=by
 refine codeAny_of_tree ?_
 show wpAny _ A.in1 (do checkBuiltinCall "tuple.__new__" ⟨[.type "tuple",.ref r],[]⟩;again (.builtin "tuple.__new__" ⟨[.type "tuple",.ref r],[]⟩)) _ _ s
 refine wpAny_bind (wpAny_of_eq (F.newCall_tuple_1 _) (wpAny_pure ⟨plainId_quiet F.plain_tuple_new _,codeAny_builtin F.entry_tuple_new ?_⟩))
 rw [Around.under_plainId F.plain_tuple_new _]
 have hsub:=sub_tuple_self
 have hinit:=init_tuple_lookup
 have hmh:=madeHere_tuple
 have hTI:s.TypeIs (.ref r) "range":=⟨_,hr,rfl⟩
 have hhi:A.in1.handled=none:=hh
 wp_walk using wpAny_typeOf hTI,kQ (A:=A.in1) hhi hr hsmall hn hlen
 intro h' tk acc hk hacc
 show wpAny _ _ (Builtin.Tuple.tupleExact acc.toList.toArray >>= fun v=>PySem.ret v) _ _ _
 unfold Builtin.Tuple.tupleExact
 refine wpAny_bind (wpAny_newObj_type ?_ (by show acc.toList.toArray.size<=sizeLine;simp only [Array.toArray_toList];rw [hacc.1];exact hsz))
 refine wpAny_pure ?_
 have e:acc.toList.toArray=acc:=by simp
 rw [e]
 exact h h' tk acc hk hacc
theorem lv {Q:Value->Shared->Prop} {r:Addr} {a b c:Int} {t u v:Tok} {n:Nat} (hh:A.handled=none) (hr:IsRange s.heap r a b c t u v) (hsmall:Builtin.Range.small a b c=true)
  (hn:Builtin.Range.rangeSize a b c=n) (hlen:n<=2 ^ 24)
  (h:∀ (h':Heap) (tk:Nat) (acc:Array Value),(∀ b o',s.heap.get? b=some o'->h'.get? b=some o')->ItemsOf (fun i v=>∃ t,v=.int (a + i * c) t) acc n->Q (.ref h'.objs.size) { s with heap:=h'.push { cls:=.type "tuple",data:=.seq acc },toks:=tk }) (hsz:n<=sizeLine) :
  wpAny (model prog w) A (call (.type "tuple") [.ref r]) Q E s:=by
 refine callType_codes (Q₁:=fun obj s₁=>s₁.TypeIs obj "tuple"/\Q obj s₁) F.called_tuple (F.typeCall_tuple_1 _) F.entry_object_init
  (ji hh hr hsmall hn hlen (fun h' tk acc hm hacc=>⟨⟨_,Heap.get?_push_size _ rfl,rfl⟩,h h' tk acc hm hacc⟩) hsz) fun obj s₁ h₁=>?_
 exact ⟨h₁.1,F.args_object_init_2 obj _,object_init_meets F.called_tuple.init.lookup F.called_tuple.made (by decide) prog w A.in1 _ s₁ ⟨h₁.1,rfl,h₁.2⟩⟩
end
section
variable {C:Addr} {X:Cx}
def Ei (ta:TA):TE:=fun σ H Q=>ta σ H fun vs H1=>∃ j:Int,vs=[.int j]/\-(2 ^ 62)<=j/\j < 2 ^ 62/\∀ r,H1 r=none->Q (.ref r) (upd H1 r (.rng 0 j))
theorem BV {a:Expr} {ta:TA} {p pos:Pos} (hg:Gl X "range") (hm:X.mg "range"=none) (ha:PA X [a] ta) (hs:starEach [a] X.env=[(false,eval a X.env)]:=by rfl):PE X (.Call (.Name "range" p) [a] [] pos) (Ei ta):=by
 intro pins s σ H Q I h
 refine Call_ (jV I hg hm boot_range (PyProof.Rows.callWith_type1 (thn (ha pos pins s σ H _ I h) fun us s1 zz0=>?_) hs rfl))
 obtain ⟨vs,H1,I1,r1,q1⟩:=zz0
 obtain ⟨j,e,q1,q2,q⟩:=q1
 subst e
 cases r1 with
 | cons r rr =>
  cases rr
  obtain ⟨t,rfl⟩:=r
  refine call_range_1 ?_
  exact ⟨.ref s1.heap.objs.size,_,I1.laid (a:=s1.heap.objs.size) (o:=.rng 0 j) (fun b u e=>Heap.get?_push_of_some _ e) (Nat.le_refl _) ⟨_,_,_,Heap.get?_push_size _ rfl⟩,rfl,q _ I1.fresh⟩
theorem s_ {acc:List Value} {n:Nat} (h:acc.length=n) (hv:∀ (j:Nat) v,acc[j]?=some v->∃ t,v=.int (0 + (j:Int) * 1) t):Vals ((List.range n).map fun (k:Nat)=>V.int (0 + (k:Int))) acc:=by
 induction n generalizing acc with
 | zero=>cases acc with
  | nil=>exact .nil
  | cons x r=>simp at h
 | succ n ih =>
  have hne:acc ≠ []:=by intro z;rw [z] at h;cases h
  have e:acc=acc.dropLast ++ [acc.getLast hne]:=(List.dropLast_concat_getLast hne).symm
  have hl:acc.dropLast.length=n:=by rw [List.length_dropLast,h];rfl
  rw [List.range_succ,List.map_append,e]
  refine Vals.append (ih hl fun j v q=>?_) (.cons ?_ .nil)
  ·refine hv j v ?_
   rw [e,List.getElem?_append_left (List.getElem?_eq_some_iff.mp q).1];exact q
  ·obtain ⟨t,et⟩:=hv n (acc.getLast hne) (by rw [List.getLast_eq_getElem,List.getElem?_eq_getElem (by omega)];congr 1;simp [h])
   exact ⟨t,by rw [et];simp⟩
def xj:List V->Hp->VK->Prop:=fun xs H Q=>∃ r j,xs=[.ref r]/\H r=some (.rng 0 j)/\-(2 ^ 62)<=j/\j<=100000/\∀ p,H p=none->Q (.ref p) (upd H p (.tup ((List.range j.toNat).map fun (k:Nat)=>V.int (0 + (k:Int)))))
theorem jm (hc:X.calm=true):jO X (.type "tuple") xj:=by
 intro pins s σ H xs us Q I r h
 obtain ⟨ra,j,rfl,hq,hj0,hj,q⟩:=h
 obtain ⟨u,rfl,rx⟩:=o_ r
 cases rx
 obtain ⟨t,u',v',e⟩:=I.hok ra _ hq
 have hn:Builtin.Range.rangeSize 0 j 1=(j.toNat:Nat):=by rw [rangeSize_one];split <;> omega
 have hsm:Builtin.Range.small 0 j 1=true:=small_one (by decide) (by decide) hj0 (by omega)
 refine lv (n:=j.toNat) (I.ok.hd hc) e hsm hn (by omega) (fun h' tk acc hk hacc=>?_) (Nat.le_trans (show j.toNat<=100000 by omega) (by decide))
 have I1:Inv X pins σ H { s with heap:=h',toks:=tk }:=I.kept hk
 have hv:Vals ((List.range j.toNat).map fun (k:Nat)=>V.int (0 + (k:Int))) acc.toList:=s_ (by simpa using hacc.1) fun i v q=>hacc.2 i v (by simpa using q)
 have I2:Inv X pins σ (upd H h'.objs.size (.tup ((List.range j.toNat).map fun (k:Nat)=>V.int (0 + (k:Int))))) { s with heap:=h'.push { cls:=.type "tuple",data:=.seq acc },toks:=tk } :=
  I1.laid (t':=tk) (fun b o e=>Heap.get?_push_of_some _ e) (Nat.le_refl _) (show ObjOk X.prog X.w _ _ _ (.tup _) from ⟨by rw [List.length_map,List.length_range];exact Nat.le_trans (show j.toNat<=100000 by omega) (by decide),acc.toList,hv,by simpa using IsTup.new _ _⟩)
 exact ⟨.ref h'.objs.size,_,I2,rfl,q _ I1.fresh⟩
def rgT:List D->R D
 | [.int j]=>if -(2 ^ 62)<=j/\j<=100000 then .val (.tup (rng 0 j.toNat)) else .bad
 | _=>.bad
def jd (F:Rho->R (List D)):Rho->R D:=fun ρ=>(F ρ).bind rgT
theorem ye {K:Frag} {H:Hp} (n:Nat):HasL K C H ((List.range n).map fun (k:Nat)=>V.int (0 + (k:Int))) (rng 0 n):=by
 unfold rng
 induction List.range n with
 | nil=>exact .nil
 | cons x r ih=>exact .cons (.int _) ih
theorem sL {a : Expr} {p p2 pos pos2 : Pos} {F : Rho -> R (List D)} (hc : X.calm = true) (ha : AD C X [a] F) (hgr : Gl X "range") (hmr : X.mg "range" = none) (hgt : Gl X "tuple") (hmt : X.mg "tuple" = none)
    (hs : starEach [a] X.env = [(false, eval a X.env)] := by rfl) (hs2 : starEach [.Call (.Name "range" p2) [a] [] pos2] X.env = (false, eval (.Call (.Name "range" p2) [a] [] pos2) X.env) :: starEach [] X.env := by rfl)
    (hs3 : ∀ t : TA, PA X [.Call (.Name "range" p2) [a] [] pos2] t -> PE X (.Call (.Name "tuple" p) [.Call (.Name "range" p2) [a] [] pos2] [] pos) (tCB xj t) := by
      exact fun t ha => dw (jm (by assumption)) (by assumption) (by assumption) PySem.boot_tuple ha) :
    ED C X (.Call (.Name "tuple" p) [.Call (.Name "range" p2) [a] [] pos2] [] pos) (jd F) :=
  aX (hs3 _ (cS (BV hgr hmr ha hs) er hs2)) fun σ H Q yy0 => by
   obtain ⟨ρ, ⟨H0, r⟩, q⟩ := yy0
   exact ⟨ρ, ⟨H0, r⟩, fo (P := fun z H => pV X (dZ C X ρ σ) z σ H Q) (fun _ h => h) (fun h => h) q fun ds vs H1 s1 h1 q1 => by
    unfold rgT at q1
    split at q1
    · rename_i j
      split at q1
      · rename_i hj
        cases h1 with
        | cons a b =>
          cases a; cases b
          refine ⟨j, rfl, hj.1, by omega, fun ra hra => ⟨ra, j, rfl, bp, hj.1, hj.2, fun pa hpa => q1 _ _ ((s1.trans (bc hra)).trans (bc hpa)) ?_⟩⟩
          exact .tup (((r.mono s1).mono (bc hra)).new hpa) (ye _)
      · exact q1.elim
    · exact q1.elim⟩
end
end DL
namespace DL
open PySem PySem.Spec PyProof.Rows L2
def IsArr (h:Heap) (k:KA) (a:Addr):Prop:=∃ ta t1 t2 its,IsTup h a #[.int k.1 t1,.int k.2.1 t2,.ref ta]/\IsTup h ta its.toArray/\IntsAre its k.2.2
theorem sk {prog:Program} {w:World}:∀ {its:List Value} {ks:List Int},IntsAre its ks->ItemsAre (intKind prog w) ks its
 | _,_,.nil=>.nil
 | _,_,.cons n t h=>.cons (by show Value.isInt n (.int n t)=true;simp [Value.isInt]) (sk h)
theorem p4 {prog:Program} {w:World} {h:Heap} {ta:Addr} {its:List Value} {ks:List Int} (h1:IsTup h ta its.toArray) (h2:IntsAre its ks):IsTupleKey (intKind prog w) h ks ta:=by
 obtain ⟨o,ho,hc,n,hd⟩:=h1
 exact ⟨o,its.toArray,n,ho,hc,hd,by simpa using sk h2⟩
theorem lV:∀ {its:List Value} {ks ls:List Int},IntsAre its ks->IntsAre its ls->ks=ls
 | _,_,_,.nil,.nil=>rfl
 | _,_,_,.cons n t h,.cons _ _ h'=>by rw [lV h h']
theorem pG {h:Heap} {a:Addr} {x y:Array Value} (h1:IsTup h a x) (h2:IsTup h a y):x=y:=by
 obtain ⟨o,ho,hc,n,hd⟩:=h1
 obtain ⟨o',ho',hc',n',hd'⟩:=h2
 rw [ho] at ho';cases ho'
 rw [hd] at hd';injection hd'
theorem IsArr.inj {h:Heap} {k l:KA} {a:Addr} (h1:IsArr h k a) (h2:IsArr h l a):k=l:=by
 obtain ⟨ta,t1,t2,its,q1,q2,q3⟩:=h1
 obtain ⟨tb,u1,u2,jts,p1,p2,p3⟩:=h2
 have e:=pG q1 p1
 have e':=congrArg Array.toList e
 simp only [List.cons.injEq,Value.int.injEq,Value.ref.injEq] at e'
 obtain ⟨⟨e1,_⟩,⟨e2,_⟩,e3,_⟩:=e'
 subst e3
 have e4:=pG q2 p2
 have e5:its=jts:=by simpa using congrArg Array.toList e4
 subst e5
 have e6:=lV q3 p3
 obtain ⟨a1,a2,a3⟩:=k
 obtain ⟨b1,b2,b3⟩:=l
 simp only at e1 e2 e6
 rw [e1,e2,e6]
theorem lU {h h':Heap} {a d:Addr} {o:Obj} {es ep} {x:Array Value} (hx:IsTup h a x) (ho:h.get? d=some o) (hd:o.data=.dict es ep) (hs:Heap.SameBut d h h'):IsTup h' a x:=by
 obtain ⟨o',ho',hc,n,hd'⟩:=hx
 have hne:a ≠ d:=by
  rintro rfl
  rw [ho] at ho';cases ho'
  rw [hd] at hd';cases hd'
 exact ⟨o',(hs.2 a hne).trans ho',hc,n,hd'⟩
section
variable {prog:Program} {w:World} {A:Around} {E:Value->Shared->Prop} {s:Shared}
theorem tK {k:KA} {a:Addr} {Q:Int->Shared->Prop} (hu:A.units + 2 < cLine) (hk:IsArr s.heap k a) (h:Q (mI k) { s with toks:=s.toks + (k.2.2.length + 4) }):wpAny (model prog w) A (pyHash (.ref a)) Q E s:=by
 obtain ⟨ta,t1,t2,its,q1,q2,q3⟩:=hk
 have hT:s.TypeIs (.ref a) "tuple":=let ⟨o,ho,hc,_⟩:=q1;⟨o,ho,hc⟩
 obtain ⟨o,ho,_,n,hd⟩:=id q1
 unfold pyHash
 first | unfold pyHashByItsType | skip
 first | refine wpAny_bind (wpAny_cRoomFor_or (.inr (by omega)) ?_) | skip
 refine wpAny_bind (wpAny_specialOf hT F.slot_tuple_hash.lookup ?_)
 show wpAny _ _ (if (some (Value.builtin "tuple.__hash__") == some Value.none)=true then _ else _) Q E s
 rw [if_neg (by rw [beq_builtin_none];exact Bool.false_ne_true)]
 refine wpAny_bind (wpAny_specialOf hT F.slot_tuple_hash.lookup ?_)
 show wpAny _ _ (callSpecialIfBoundUnlessNone? (.ref a) "__hash__" _ >>= _) Q E s
 refine wpAny_bind (wpAny_callSpecialIfBoundUnlessNone?_slot hT F.slot_tuple_hash (wpAny_call_entry F.slot_tuple_hash hT F.entry_tuple_hash ?_ (F.args_tuple_hash_1 _)))
 show wpAny _ _ (Builtin.Tuple.tupleItemsOf (.ref a) >>= _) _ _ s
 refine wpAny_bind (wpAny_tupleItemsOf ho hd ?_)
 refine wpAny_bind ?_
 rw [<- Array.forIn_toList]
 simp only [List.forIn_cons,List.forIn_nil]
 refine wpAny_bind (wpAny_bind (wpAny_pyHash_int ?_))
 refine wpAny_pure ?_
 refine wpAny_bind (wpAny_bind (wpAny_pyHash_int ?_))
 refine wpAny_pure ?_
 refine wpAny_bind (wpAny_bind (wpAny_pyHash_tuple (knd:=intKind prog w) (ks:=k.2.2) (by show A.units + 1 < cLine;omega) (p4 q2 q3) ?_))
 refine wpAny_pure (wpAny_pure ?_)
 show wpAny _ _ (retInt (Builtin.Tuple.tupleHashOf _)) _ _ _
 refine wpAny_ret_mkInt ?_
 have e:((((#[]:Array Int).push (hashInt k.1)).push (hashInt k.2.1)).push (tupleKeyHash (intKind prog w) k.2.2)).toList=[hashInt k.1,hashInt k.2.1,reduceHash (Builtin.Tuple.tupleHashOf (k.2.2.map hashInt))]:=rfl
 rw [e]
 unfold mI at h
 generalize hg:Builtin.Tuple.tupleHashOf [hashInt k.1,hashInt k.2.1,reduceHash (Builtin.Tuple.tupleHashOf (k.2.2.map hashInt))]=G at h ⊢
 show wpAny _ _ (if (decide (-(2:Int) ^ 63<=G) && decide (G < 2 ^ 63))=true then _ else _) Q E _
 unfold reduceHash at h
 by_cases hr:(decide (-(2:Int) ^ 63<=G) && decide (G < 2 ^ 63))=true
 ·rw [if_pos hr]
  rw [if_pos hr] at h
  refine wpAny_pure ?_
  simpa [Nat.add_assoc,Nat.add_comm,Nat.add_left_comm] using h
 ·rw [if_neg hr]
  rw [if_neg hr] at h
  refine wpAny_bind (wpAny_rule (wpAny_pure ?_))
  simpa [Nat.add_assoc,Nat.add_comm,Nat.add_left_comm] using h
theorem yA {k l:KA} {a b:Addr} (hu:A.units + 2 < cLine) (hk:IsArr s.heap k a) (hl:IsArr s.heap l b):SeqAt.EqAt A s (.ref a) (.ref b) (decide (k=l)):=by
 by_cases hab:a=b
 ·subst hab
  rw [hk.inj hl,decide_eq_true rfl]
  exact SeqAt.EqAt.same _
 ·refine SeqAt.EqAt.of_refs hab ?_
  obtain ⟨ta,t1,t2,its,q1,q2,q3⟩:=hk
  obtain ⟨tb,u1,u2,jts,p1,p2,p3⟩:=hl
  have z:=SeqAt.RcAt.tuples (A:=A) (s:=s) (e:=fun j=>if j=0 then k.1 == l.1 else if j=1 then k.2.1 == l.2.1 else decide (k.2.2=l.2.2)) q1 p1 (by omega) fun j h1 h2=>by
   have hj:j=0\/j=1\/j=2:=by
    have:j < 3:=h1
    omega
   rcases hj with rfl | rfl | rfl
   ·exact SeqAt.EqAt.int_int _ _ _ _
   ·exact SeqAt.EqAt.int_int _ _ _ _
   ·exact fun prog w E Q hq=>wpAny_eqBool_tuple (knd:=intKind prog w) (by show A.units + 1 < cLine;omega) (p4 q2 q3) (p4 p2 p3) hq
  have e:((List.range (min (#[Value.int k.1 t1,.int k.2.1 t2,.ref ta]:Array Value).size (#[Value.int l.1 u1,.int l.2.1 u2,.ref tb]:Array Value).size)).all (fun j=>if j=0 then k.1 == l.1 else if j=1 then k.2.1 == l.2.1 else decide (k.2.2=l.2.2)) &&
    (#[Value.int k.1 t1,.int k.2.1 t2,.ref ta]:Array Value).size == (#[Value.int l.1 u1,.int l.2.1 u2,.ref tb]:Array Value).size)=decide (k=l):=by
   obtain ⟨a1,a2,a3⟩:=k
   obtain ⟨b1,b2,b3⟩:=l
   show ((List.range 3).all _ && true)=_
   rw [Bool.eq_iff_iff]
   simp [List.range_succ]
  rw [e] at z
  exact z
theorem v_ (n:Nat) {ks:List Int} {a:Addr} {Q:Bool->Shared->Prop} (hk:IsTupleKey (intKind prog w) s.heap ks a) (h:Q true s):wpAny (model prog w) A (eqIsQuiet (n + 1) (.ref a)) Q E s:=by
 have hT:=hk.typeIs
 obtain ⟨o,items,m,ho,_,hd,hi⟩:=hk
 unfold eqIsQuiet
 refine wpAny_bind (wpAny_specialOf hT F.slot_tuple_eq.lookup ?_)
 show wpAny _ _ (isInstance (.ref a) (.type "tuple") >>= _) _ _ s
 refine wpAny_bind (wpAny_isInstance hT isSubtype_tuple_tuple ?_)
 simp only [Bool.not_true,Bool.false_eq_true,if_false]
 refine wpAny_bind (wpAny_seqItems ho hd ?_)
 refine wpAny_bind ?_
 show wpAny _ _ (forIn items _ _) _ _ s
 rw [<- Array.forIn_toList]
 refine wpAny_forIn_list _ (fun rest r s'=>r.1=none/\s'=s/\∀ v ∈ rest,carriedByValue v=true) _ ?_ ?_ _ _ ⟨rfl,rfl,hi.byValue⟩
 ·rintro v rest r s' ⟨hr,rfl,hall⟩
  rw [eqIsQuiet_byValue _ (hall v List.mem_cons_self)]
  refine wpAny_bind (wpAny_pure ?_)
  simp only [Bool.not_true,Bool.false_eq_true,if_false]
  exact wpAny_pure ⟨rfl,rfl,fun u hu'=>hall u (List.mem_cons_of_mem _ hu')⟩
 ·rintro ⟨r1,r2⟩ s' ⟨hr,rfl,_⟩
  simp only at hr
  subst hr
  exact wpAny_pure h
theorem wa {k:KA} {a:Addr} {Q:Bool->Shared->Prop} (hk:IsArr s.heap k a) (h:Q true s):wpAny (model prog w) A (eqIsQuiet 8 (.ref a)) Q E s:=by
 obtain ⟨ta,t1,t2,its,q1,q2,q3⟩:=hk
 have hT:s.TypeIs (.ref a) "tuple":=let ⟨o,ho,hc,_⟩:=q1;⟨o,ho,hc⟩
 obtain ⟨o,ho,_,n,hd⟩:=id q1
 unfold eqIsQuiet
 refine wpAny_bind (wpAny_specialOf hT F.slot_tuple_eq.lookup ?_)
 show wpAny _ _ (isInstance (.ref a) (.type "tuple") >>= _) _ _ s
 refine wpAny_bind (wpAny_isInstance hT isSubtype_tuple_tuple ?_)
 simp only [Bool.not_true,Bool.false_eq_true,if_false]
 refine wpAny_bind (wpAny_seqItems ho hd ?_)
 refine wpAny_bind ?_
 show wpAny _ _ (forIn (#[Value.int k.1 t1,.int k.2.1 t2,.ref ta]:Array Value) _ _) _ _ s
 rw [<- Array.forIn_toList]
 refine wpAny_forIn_list _ (fun rest r s'=>r.1=none/\s'=s/\∀ v ∈ rest,carriedByValue v=true\/v=.ref ta) _ ?_ ?_ _ _ ⟨rfl,rfl,fun v hv=>?_⟩
 ·rintro v rest r s' ⟨hr,rfl,hall⟩
  rcases hall v List.mem_cons_self with hv | rfl
  ·rw [eqIsQuiet_byValue _ hv]
   refine wpAny_bind (wpAny_pure ?_)
   simp only [Bool.not_true,Bool.false_eq_true,if_false]
   exact wpAny_pure ⟨rfl,rfl,fun u hu'=>hall u (List.mem_cons_of_mem _ hu')⟩
  ·refine wpAny_bind (v_ (prog:=prog) (w:=w) 6 (p4 q2 q3) ?_)
   simp only [Bool.not_true,Bool.false_eq_true,if_false]
   exact wpAny_pure ⟨rfl,rfl,fun u hu'=>hall u (List.mem_cons_of_mem _ hu')⟩
 ·rintro ⟨r1,r2⟩ s' ⟨hr,rfl,_⟩
  simp only at hr
  subst hr
  exact wpAny_pure h
 ·have hv:v ∈ [Value.int k.1 t1,.int k.2.1 t2,.ref ta]:=hv
  simp only [List.mem_cons,List.not_mem_nil,or_false] at hv
  rcases hv with rfl | rfl | rfl
  ·exact .inl rfl
  ·exact .inl rfl
  ·exact .inr rfl
end
def mQ (prog:Program) (w:World):HeapKind prog w KA where
 is:=IsArr
 hash:=mI
 draws:=fun k=>k.2.2.length + 4
 room:=fun A=>A.units + 2 < cLine
 inj:=fun hx hy=>hx.inj hy
 keeps:=fun hx ho hd hs=>by
  obtain ⟨ta,t1,t2,its,q1,q2,q3⟩:=hx
  exact ⟨ta,t1,t2,its,lU q1 ho hd hs,lU q2 ho hd hs,q3⟩
 pyHash:=fun hu hk h=>tK hu hk h
 eqBool:=fun hu hx hy h=>yA hu hx hy _ _ _ _ h
 quiet:=fun hk h=>wa hk h
variable {C:Addr} {X:Cx}
theorem kB {pins:List (Addr × Obj)} {σ:St} {H:Hp} {s:Shared} (I:Inv X pins σ H s) {k:KA} {kb:Addr} (h:KeyIn H k kb):IsArr s.heap k kb:=by
 obtain ⟨ta,h1,h2⟩:=h
 obtain ⟨its,r,p,_⟩:=I.tuple (SqT.of h1)
 obtain ⟨jts,r2,p2,_⟩:=I.tuple (SqT.of h2)
 cases r with
 | cons a b =>
  cases b with
  | cons c d =>
   cases d with
   | cons e f =>
    cases f
    obtain ⟨t1,rfl⟩:=a
    obtain ⟨t2,rfl⟩:=c
    cases e
    exact ⟨ta,t1,t2,jts,p,p2,t9 r2⟩
theorem qK {pins:List (Addr × Obj)} {σ:St} {H:Hp} {s:Shared} (I:Inv X pins σ H s) {a:Addr} {xs:List (KA × Addr × Value)} (e:H a=some (kK a xs)) (hk:∀ x ∈ xs,KeyIn H x.1 x.2.1) (nd:(xs.map (·.1)).Nodup) :
  s.heap.DictOfH (mQ X.prog X.w) a xs/\(a == sysModules)=false/\xs.length<=100001:=by
 obtain ⟨⟨h1,hl,o,es,ep,h2,h3,h4,h5⟩,_⟩:=I.hok a _ e
 exact ⟨⟨o,es,ep,h2,h3,h4,h5,fun x hx=>kB I (hk x hx),nd⟩,h1,hl⟩
def Eu:R2:=fun x y H Q=>∃ a xs kb k p v,x=.ref a/\y=.ref kb/\H a=some (kK a xs)/\(∀ x ∈ xs,KeyIn H x.1 x.2.1)/\(xs.map (·.1)).Nodup/\KeyIn H k kb/\atKey xs k=some p/\RelV v p.2/\Q v H
theorem Cy (hu:X.A.units + 3 < cLine):IxR X Eu:=by
 intro value slice pins s σ H x y v u Q I rx ry h hs
 obtain ⟨a,xs,kb,k,p,v',rfl,rfl,e,hk,nd,hkey,hp,rp,q⟩:=h
 cases rx
 cases ry
 obtain ⟨hD,_,_⟩:=qK I e hk nd
 exact subscriptTail_builtinR (x:=p.2) hD.typeIs slot_dict_getitem.lookup
  (wpAny_getItem_heap (knd:=mQ X.prog X.w) (Q:=fun r s'=>r=p.2/\EP X pins σ Q r s') (by show X.A.units + 1 + 2 < cLine;omega) (kB I hkey) hD hp ⟨rfl,v',H,I.tok _,rp,q⟩) hs
def Ew (neg:Bool):R2:=fun x y H Q=>∃ a xs kb k,x=.ref kb/\y=.ref a/\H a=some (kK a xs)/\(∀ x ∈ xs,KeyIn H x.1 x.2.1)/\(xs.map (·.1)).Nodup/\KeyIn H k kb/\Q (.bl (if neg then !(atKey xs k).isSome else (atKey xs k).isSome)) H
theorem zS (hu:X.A.units + 3 < cLine):OpR X (compareOp .NotIn) (Ew true):=by
 intro pins s σ H x y v u Q I rx ry h
 obtain ⟨a,xs,kb,k,rfl,rfl,e,hk,nd,hkey,q⟩:=h
 cases rx
 cases ry
 obtain ⟨hD,hs,_⟩:=qK I e hk nd
 exact wpAny_notIn_heap (knd:=mQ X.prog X.w) (by show X.A.units + 1 + 2 < cLine;omega) (kB I hkey) hs hD ⟨.bl _,H,I.tok _,rfl,q⟩
def Du:AU:=fun o i v H Q=>∃ a xs kb k,o=.ref a/\i=.ref kb/\H a=some (kK a xs)/\(∀ x ∈ xs,KeyIn H x.1 x.2.1)/\(xs.map (·.1)).Nodup/\KeyIn H k kb/\xs.length<=100000/\∀ u,RelV v u->((storedH xs k kb u).map (·.1)).Nodup->Q (upd H a (kK a (storedH xs k kb u)))
theorem ou {a:Addr} {xs:List (KA × Addr × Value)}:∀ h1 h2:Heap,dOk a xs h1->(∀ o,h1.get? a=some o->h2.get? a=some o)->dOk a xs h2:=fun h1 h2 ⟨p1,p2,o,es,ep,e1,e2,e3,e4⟩ k=>⟨p1,p2,o,es,ep,k o e1,e2,e3,e4⟩
theorem uI (hu:X.A.units + 3 < cLine):D9 X Du:=by
 intro pins s σ H o i v ov iv u Q I ro ri rv h
 obtain ⟨a,xs,kb,k,rfl,rfl,e,hk,nd,hkey,hl,q⟩:=h
 cases ro
 cases ri
 obtain ⟨hD,hs,_⟩:=qK I e hk nd
 refine wpAny_setItem_heap (knd:=mQ X.prog X.w) (by show X.A.units + 1 + 2 < cLine;omega) (kB I hkey) hD (fun h' hD' sb=>?_) (Nat.le_trans hl (by decide))
 obtain ⟨o',es,ep,e1,e2,e3,e4,_,nd'⟩:=hD'
 have len:(storedH xs k kb u).length<=100001:=by
  cases z:atKey xs k with
  | none=>rw [storedH_new z];simp;omega
  | some p=>rw [storedH_old z];simp;omega
 refine ⟨_,I.write (x:=a) (e:=a) (by rw [e];exact True.intro) (.inl rfl) (fun b w hb z=>(sb.2 b hb).trans z) ⟨o',e1⟩ ?_,q u rv nd'⟩
 exact ⟨⟨hs,len,o',es,ep,e1,e2,e3,e4⟩,⟨o',e1⟩,ou⟩
def nP (kvs:List (KA × D)) (k:KA) (d:D):List (KA × D):=if (kvs.any fun p=>decide (p.1=k))=true then kvs.map (fun p=>if p.1=k then (p.1,d) else p) else kvs ++ [(k,d)]
def t6 (kvs:List (KA × D)) (k:KA):Option D:=(kvs.find? fun p=>decide (p.1=k)).map (·.2)
def hU:List D->Option (List Int)
 | []=>some []
 | .int i :: r=>(hU r).map (i :: ·)
 | _=>none
def oX:D->Option KA
 | .tup [.int a,.int b,.tup xs]=>(hU xs).map fun l=>(a,b,l)
 | _=>none
theorem ll {K:Frag} {M:Hp}:∀ {xs:List D} {l:List Int} {vs:List V},hU xs=some l->HasL K C M vs xs->vs=l.map V.int
 | [],l,vs,e,h=>by cases e;cases h;rfl
 | x :: r,l,vs,e,h=>by
  cases x with
  | int i =>
   rw [hU] at e
   cases z:hU r with
   | none=>rw [z] at e;cases e
   | some l' =>
    rw [z] at e;cases e
    cases h with
    | cons a b=>cases a;rw [ll z b];rfl
  | _=>cases e
theorem qx {K:Frag} {M:Hp} {d:D} {k:KA} {v:V} (e:oX d=some k) (h:Has K C M v d):∃ kb,v=.ref kb/\KeyIn M k kb:=by
 unfold oX at e
 split at e
 ·rename_i a b xs
  cases z:hU xs with
  | none=>rw [z] at e;cases e
  | some l =>
   rw [z] at e;cases e
   cases h with
   | tup q hl =>
    cases hl with
    | cons h1 hl =>
     cases h1
     cases hl with
     | cons h2 hl =>
      cases h2
      cases hl with
      | cons h3 hl =>
       cases hl
       cases h3 with
       | tup q2 g=>rw [ll z g] at q2;exact ⟨_,rfl,_,q,q2⟩
 ·cases e
section
variable {K:Frag} {M:Hp}
theorem qG:∀ {kvs:List (KA × D)} {xs:List (KA × Addr × Value)} {k:KA},Paired (EntOk K C M) kvs xs->(atKey xs k).isSome=kvs.any fun p=>decide (p.1=k)
 | _,_,k,.nil=>rfl
 | _,_,k,.cons (a:=p) (b:=q) h t=>by
  have ih:=qG (k:=k) t
  have e:=h.1
  unfold atKey at ih ⊢
  rw [List.find?_cons,List.any_cons,<- e]
  by_cases z:p.1=k
  ·rw [decide_eq_true z];rfl
  ·rw [decide_eq_false z];exact ih
theorem vD:∀ {kvs:List (KA × D)} {xs:List (KA × Addr × Value)} {k:KA} {d:D},Paired (EntOk K C M) kvs xs->t6 kvs k=some d->∃ p v,atKey xs k=some p/\RelV v p.2/\Has K C M v d
 | _,_,k,d,.nil,e=>by cases e
 | _,_,k,d,.cons (a:=p) (b:=q) h t,e=>by
  obtain ⟨e1,_,v,h1,h2⟩:=h
  unfold t6 at e
  unfold atKey
  rw [List.find?_cons] at e ⊢
  rw [<- e1]
  by_cases z:p.1=k
  ·rw [decide_eq_true z] at e ⊢
   cases e
   exact ⟨_,v,rfl,h1,h2⟩
  ·rw [decide_eq_false z] at e ⊢
   exact vD t e
theorem i9:∀ {kvs:List (KA × D)} {xs:List (KA × Addr × Value)},Paired (EntOk K C M) kvs xs->∀ x ∈ xs,KeyIn M x.1 x.2.1
 | _,_,.nil,x,hx=>by cases hx
 | _,_,.cons h t,x,hx=>by
  rcases List.mem_cons.mp hx with rfl | hx
  ·rw [<- h.1];exact h.2.1
  ·exact i9 t x hx
theorem vC {k:KA} {d:D} {u:Value} {v:V} (rv:RelV v u) (hv:Has K C M v d):∀ {kvs:List (KA × D)} {xs:List (KA × Addr × Value)},Paired (EntOk K C M) kvs xs->Paired (EntOk K C M) (kvs.map fun p=>if p.1=k then (p.1,d) else p) (xs.map (putAt k u))
 | _,_,.nil=>.nil
 | _,_,.cons (a:=p) (b:=q) h t=>by
  refine .cons ?_ (vC rv hv t)
  obtain ⟨e1,h2,v',h3,h4⟩:=h
  show EntOk K C M (if p.1=k then (p.1,d) else p) (if q.1=k then (q.1,q.2.1,u) else q)
  rw [<- e1]
  by_cases z:p.1=k
  ·rw [if_pos z,if_pos z];exact ⟨rfl,h2,v,rv,hv⟩
  ·rw [if_neg z,if_neg z];exact ⟨e1,h2,v',h3,h4⟩
theorem vB {k:KA} {d:D} {u:Value} {v:V} {kb:Addr} (rv:RelV v u) (hv:Has K C M v d) (hk:KeyIn M k kb) {kvs:List (KA × D)} {xs:List (KA × Addr × Value)} (h:Paired (EntOk K C M) kvs xs):Paired (EntOk K C M) (nP kvs k d) (storedH xs k kb u):=by
 unfold nP
 have e:=qG (k:=k) h
 by_cases z:(kvs.any fun p=>decide (p.1=k))=true
 ·rw [if_pos z]
  rw [z] at e
  obtain ⟨p,hp⟩:=Option.isSome_iff_exists.mp e
  rw [storedH_old hp]
  exact vC rv hv h
 ·rw [if_neg z]
  have:atKey xs k=none:=by
   cases q:atKey xs k with
   | none=>rfl
   | some p=>rw [q] at e;exact absurd e.symm z
  rw [storedH_new this]
  exact Paired.snoc h ⟨rfl,hk,v,rv,hv⟩
end
theorem Rel.setDic {K:Frag} {H0 H:Hp} {ρ:RB} {σ:St} (r:Rel K C H0 ρ σ H) {i:Nat} {a:Addr} (hn:H a=none):Rel K C H0 (ρ.put i (.dic []) [a]) (σ.set i (some (.ref a))) (upd H a (kK a [])) :=
 r.put p8 (fun j hj=>List.getElem?_set_ne fun z=>hj z.symm) (fun b hb=>.inr (by cases List.mem_singleton.mp hb;exact hn)) (fun j _=>.of (bc hn)) (fun b o e=>bc hn b o (msk_some.mp e).2)
  (fun b hb=>.inr (by cases List.mem_singleton.mp hb;exact ⟨[],bp⟩)) fun hi s=>⟨a,tE (by rw [<- r.len];exact hi),List.mem_singleton.mpr rfl,[],bp,List.nodup_nil,.nil⟩
theorem Rel.putDic {K:Frag} {H0 H:Hp} {ρ:RB} {σ:St} (r:Rel K C H0 ρ σ H) {i:Nat} {a:Addr} {kvs kvs':List (KA × D)} {xs':List (KA × Addr × Value)} (e:ρ.rho[i]?=some (some (.dic kvs))) (q:σ[i]?=some (some (.ref a)))
  (nd:(xs'.map (·.1)).Nodup) (h:Paired (EntOk K C (msk ρ σ H)) kvs' xs'):Rel K C H0 (ρ.put i (.dic kvs') [a]) σ (upd H a (kK a xs')):=by
 obtain ⟨b,e1,ha,_⟩:=r.at_ i _ e
 rw [q] at e1;cases e1
 exact r.put rfl (fun j _=>rfl) (fun b hb=>.inl (by cases List.mem_singleton.mp hb;exact ha)) (fun j hj=>r.apart ha hj) (r.shown ha) (fun b hb=>.inr (by cases List.mem_singleton.mp hb;exact ⟨xs',bp⟩))
  fun hi s=>⟨a,q,List.mem_singleton.mpr rfl,xs',bp,nd,Paired.mapP h fun p q z=>z.mono s⟩
def yI (i:Nat):Rho->R Out:=fun ρ=>.val (.nx (ρ.set i (some (.dic []))))
theorem xB {pos:Pos}:PE X (.Dict [] [] pos) (fun _ H Q=>∀ p,H p=none->Q (.ref p) (upd H p (kK p []))):=fun pins s σ H Q I h=>by
 have big:sysModules < s.heap.objs.size:=Nat.lt_trans (by decide) (show mainGlobals < s.heap.objs.size from (I.mod.glob.keeps I.bk).lt)
 have e1:(s.heap.push { cls:=.type "dict",data:=.dict #[] }).get? s.heap.objs.size=some { cls:=.type "dict",data:=.dict #[] }:=Heap.get?_push_size _ rfl
 have ok:dOk s.heap.objs.size [] (s.heap.push { cls:=.type "dict",data:=.dict #[] }):=⟨by simpa using (Nat.ne_of_gt big),Nat.zero_le _,_,#[],_,e1,⟨rfl,rfl,rfl⟩,rfl,rfl⟩
 exact wpAny_Dict_empty ⟨.ref s.heap.objs.size,_,I.laid (a:=s.heap.objs.size) (o:=kK s.heap.objs.size []) (t':=s.toks) (fun _ _ q=>Heap.get?_push_of_some _ q) (Nat.le_refl _) ⟨ok,⟨_,e1⟩,ou⟩,rfl,h _ I.fresh⟩
theorem uK {i : Nat} {x : Str} {pos pos' dp : Pos} (hN : X.N.Nodup) (hi : X.N[i]? = some x) (hx : Loc X.env.scope x) (hs : swapsWith (.Dict [] [] dp) (some (.Name x pos')) pos.line X.env = pure false := by rfl)
    (hf : X.fn x = true \/ X.env.scope.names.lookup x = some .local := by first | exact .inl rfl | exact .inr rfl | assumption) : SD C X (.Assign [.Name x pos'] (.Dict [] [] dp) pos) (yI i) :=
  bN (qg hN hi hx xB hs hf) fun D σ H yy0 => by
   obtain ⟨_, H0, ⟨ρ, rfl, r⟩, q⟩ := yy0
   exact fun p hp => q _ _ ⟨_, rfl, r.setDic hp⟩
def qJ (i:Nat) (k e:Rho->R D):Rho->R Out:=fun ρ=>(e ρ).bind fun d=>(noE (k ρ)).bind fun kd=>match oX kd with
 | some k=>match ρ[i]? with
  | some (some (.dic kvs))=>if kvs.length<=100000 then .val (.nx (ρ.set i (some (.dic (nP kvs k d))))) else .bad
  | _=>.bad
 | none=>.bad
theorem nj {K:Frag} {M:Hp} {kvs:List (KA × D)} {xs:List (KA × Addr × Value)} (h:Paired (EntOk K C M) kvs xs):kvs.length=xs.length:=Paired.length h
theorem uh {K:Frag} {M M':Hp} {kvs:List (KA × D)} {xs:List (KA × Addr × Value)} (m:Same M M') (h:Paired (EntOk K C M) kvs xs):Paired (EntOk K C M') kvs xs:=Paired.mapP h fun p q z=>z.mono m
theorem uJ {i : Nat} {x : Str} {k e : Expr} {p sp pos : Pos} {Fk F : Rho -> R D} (hu : X.A.units + 3 < cLine) (hv : PE X (.Name x p) (fY i)) (hk : ED C X k Fk) (he : ED C X e F)
    (ha : ∀ v, assign (.Subscript (.Name x p) k sp) X.env v = (do
      let ov <- holding [v] (eval (.Name x p) X.env)
      let iv <- holding [v, ov] (eval k X.env)
      standAt sp
      holding [v, ov, iv] (setItem ov iv v)
      release [v, ov, iv] []) := by intro _; rfl)
    (hs : swapsWithSole [.Subscript (.Name x p) k sp] e pos.line X.env = pure false := by rfl) (hw : swappedStores [.Subscript (.Name x p) k sp] e X.env = pure none := by rfl)
    (h1 : (assignEach [.Subscript (.Name x p) k sp] X.env).map (·.2) = [assign (.Subscript (.Name x p) k sp) X.env] := by rfl) :
    SD C X (.Assign [.Subscript (.Name x p) k sp] e pos) (qJ i Fk F) :=
  bN (tL he (xx hv hk (uI hu) ha) hs hw h1) fun D σ H yy1 => by
   obtain ⟨_, H0, ⟨ρ, rfl, r⟩, q⟩ := yy1
   exact ⟨ρ, ⟨H0, r⟩, aY (P := fun z _ => pS C X z H0 D) (fun c h => ez r h) (fun h => h) q fun d v H1 s1 h1 q1 => by
    cases ek : Fk ρ with
    | exc c => rw [ek] at q1; exact q1.elim
    | bad => rw [ek] at q1; exact q1.elim
    | val kd =>
      rw [ek] at q1
      dsimp only [DL.R.bind, noE] at q1
      split at q1
      · rename_i kk ekk
        split at q1
        · rename_i kvs ei
          split at q1
          · rename_i hl
            obtain ⟨a, ea, _, xs, eH, nd, hp⟩ := r.at_ i _ ei
            refine ⟨_, ea, ρ, ⟨H0, r.mono s1⟩, ?_⟩
            rw [ek]
            intro kv H2 s2 h2
            obtain ⟨kb, rfl, hkey⟩ := qx ekk h2
            have hp2 := uh (bu (s1.trans s2)) hp
            refine ⟨a, xs, kb, kk, rfl, rfl, s2 _ _ (s1 _ _ eH), fun x hx => (i9 hp2 x hx).mono msk_sub, nd, hkey.mono msk_sub, by rw [<- nj hp]; exact hl, fun u ru nd' => ?_⟩
            exact q1 _ _ ⟨_, rfl, ((r.mono s1).mono s2).putDic ei ea nd' (vB ru (h1.mono (bu s2)) hkey hp2)⟩
          · exact q1.elim
        · exact q1.elim
      · exact q1.elim⟩
def qL (i:Nat) (k:Rho->R D):Rho->R D:=fun ρ=>match ρ[i]? with
 | some (some (.dic kvs))=>(k ρ).bind fun kd=>match oX kd with
  | some k=>match t6 kvs k with
   | some d=>.val d
   | none=>.bad
  | none=>.bad
 | _=>.bad
theorem vE {i:Nat} {x:Str} {k:Expr} {p pos:Pos} {Fk:Rho->R D} (hu:X.A.units + 3 < cLine) (hv:PE X (.Name x p) (fY i)) (hk:ED C X k Fk) (hs:mR k:=by exact fun _ _=>rfl) :
  ED C X (.Subscript (.Name x p) k pos) (qL i Fk) :=
 aX (A4 (Cy hu) hv hk hs) fun σ H Q zz1=>by
  obtain ⟨ρ,⟨H0,r⟩,q⟩:=zz1
  unfold qL at q
  split at q
  ·rename_i kvs ei
   obtain ⟨a,ea,_,xs,eH,nd,hp⟩:=r.at_ i _ ei
   refine ⟨_,ea,ρ,⟨H0,r⟩,aY (P:=fun z H=>pV X (dZ C X ρ σ) z σ H Q) (fun _ h=>h) (fun h=>h) q fun kd kv H1 s1 h1 q1=>?_⟩
   split at q1
   ·rename_i kk ekk
    split at q1
    ·rename_i d eg
     obtain ⟨kb,rfl,hkey⟩:=qx ekk h1
     have hp2:=uh (bu s1) hp
     obtain ⟨pr,v,e1,e2,e3⟩:=vD hp2 eg
     exact ⟨a,xs,kb,kk,pr,v,rfl,rfl,s1 _ _ eH,fun x hx=>(i9 hp2 x hx).mono msk_sub,nd,hkey.mono msk_sub,e1,e2,q1 v H1 s1 e3⟩
    ·exact q1.elim
   ·exact q1.elim
  ·exact q.elim
def yH (i:Nat) (k:Rho->R D):Rho->R Bool:=fun ρ=>(k ρ).bind fun kd=>match ρ[i]? with
 | some (some (.dic kvs))=>match oX kd with
  | some k=>.val (!(kvs.any fun p=>decide (p.1=k)))
  | none=>.bad
 | _=>.bad
theorem zb {i : Nat} {x : Str} {k : Expr} {p pos : Pos} {Fk : Rho -> R D} (hu : X.A.units + 3 < cLine) (hv : PE X (.Name x p) (fY i)) (hk : ED C X k Fk) (hm : behindInMarks .NotIn (.Name x p) = false := by rfl) :
    TD C X (.Compare k [.NotIn] [.Name x p] pos) (yH i Fk) :=
  ip (uS (zS hu) hk hv hm) fun σ H Q yy2 => by
   obtain ⟨ρ, ⟨H0, r⟩, q⟩ := yy2
   exact ⟨ρ, ⟨H0, r⟩, aY (P := fun z H => pB X z σ H Q) (fun _ h => h) (fun h => h) q fun kd kv H1 s1 h1 q1 => by
    split at q1
    · rename_i kvs ei
      obtain ⟨a, ea, _, xs, eH, nd, hp⟩ := r.at_ i _ ei
      split at q1
      · rename_i kk ekk
        obtain ⟨kb, rfl, hkey⟩ := qx ekk h1
        have hp2 := uh (bu s1) hp
        refine ⟨_, ea, a, xs, kb, kk, rfl, rfl, s1 _ _ eH, fun x hx => (i9 hp2 x hx).mono msk_sub, nd, hkey.mono msk_sub, _, rfl, ?_⟩
        have := qG (k := kk) hp2
        rw [this]
        exact q1 H1 s1
      · exact q1.elim
    · exact q1.elim⟩
end DL
namespace DL
open PySem PySem.Spec PyProof.Rows L2
variable {C:Addr} {X:Cx}
def fz (i:Nat) (F:Rho->R Out):Rho->R Out:=fun ρ=>F (frz i ρ)
theorem jR {sts:List Stmt} {F:Rho->R Out} (i:Nat) (h:SDs C X sts F):SDs C X sts (fz i F):=zj i h
def Fn (P:Program) (w:World) (K:Frag) (mg:Str->Option Value) (base:Heap) (C:Addr) (k:Nat) (x:Str) (n:Nat) (den:List D->R D):Prop :=
 ∃ f fd ps,FnOk P w K mg base CX0 k f fd ps (spD K C n den)/\mg x=some (.ref f)/\keepIn K (.ref f)=true/\Binds K fd ps []
theorem bj {k:Nat} {A:Around} (r:Room k A):A.units + 9 < cLine:=by have:=r.un;omega
theorem pp {k:Nat} {A:Around} (r:Room k A):A.units + 3 < cLine:=by have:=r.un;omega
theorem i4 (m:Nat):∀ j ∈ [m],m<=j:=fun j hj=>by rw [List.mem_singleton.mp hj];exact Nat.le_refl _
theorem DX (m:Nat):∀ j ∈ [m,m + 1],m<=j:=fun j hj=>by
 rcases List.mem_cons.mp hj with h | h
 ·rw [h];exact Nat.le_refl _
 ·rw [List.mem_singleton.mp h];exact Nat.le_succ _
def whD (c:Rho->R Bool) (F:Rho->R Out):Nat->Rho->R Out
 | 0,_=>.bad
 | n + 1,ρ=>(c ρ).bind fun b=>if b=true then (F ρ).bind fun o=>match o with
   | .nx ρ'=>whD c F n ρ'
   | .ct ρ'=>whD c F n ρ'
   | .bk ρ'=>.val (.nx ρ')
   | .rt d=>.val (.rt d)
  else .val (.nx ρ)
theorem wX {c : Expr} {body : List Stmt} {pos : Pos} {Fc : Rho -> R Bool} {F : Rho -> R Out} (n : Nat) (hp : PassesOwn (model X.prog X.w) X.A X.env X.xe) (hc : TD C X c Fc) (hb : SDs C X body F) : SD C X (.While c body [] pos) (whD Fc F n) :=
  bN (xm hp hc hb) fun D σ H yy0 => by
   obtain ⟨_, H0, ⟨ρ, rfl, r⟩, q⟩ := yy0
   exact ⟨fun m σ' H' => ∃ ρ' : RB, fA C X H0 ρ' σ' H' /\ pS C X (whD Fc F m ρ') H0 D, ⟨n, ρ, r, q⟩, fun m σ' H' zz0 => by
    obtain ⟨ρ', r', q'⟩ := zz0
    cases m with
    | zero => exact q'.elim
    | succ m =>
      unfold whD at q'
      refine ⟨ρ', ⟨H0, r'⟩, jy (P := fun z _ => pS C X z H0 D) (fun c h => ez r' h) (fun h => h) q' fun b H1 s1 q1 => ?_⟩
      cases b with
      | false => exact Ae (q1 σ' H1 (r'.mono s1).e)
      | true =>
        refine Ad ⟨fun σ2 H2 => ∃ ρ2 : RB, fA C X H0 ρ2 σ2 H2 /\ pS C X (whD Fc F m ρ2) H0 D, fun σ2 H2 z => ⟨m, Nat.lt_succ_self _, z⟩, ρ', H0, (r'.mono s1).e, ?_⟩
        rw [if_pos rfl] at q1
        cases eF : F ρ' with
        | val o =>
          rw [eF] at q1
          cases o with
          | nx ρ2 => exact fun σ4 H4 ⟨β4, e4, r4⟩ => ⟨β4, r4, by rw [e4]; exact q1⟩
          | ct ρ2 => exact fun σ4 H4 ⟨β4, e4, r4⟩ => ⟨β4, r4, by rw [e4]; exact q1⟩
          | bk ρ2 => exact fun σ4 H4 r4 => q1 σ4 H4 r4
          | rt d => exact fun v4 H4 s4 h4 => q1 v4 H4 s4 h4
        | exc c => rw [eF] at q1; exact q1
        | bad => rw [eF] at q1; exact q1⟩
end DL
namespace DL
open PySem PySem.Spec PyProof.Rows L2
section
variable {env:Env} {r:List Expr} {p:Pos}
theorem ac {x:Str}:starEach (.Name x p :: r) env=(false,eval (.Name x p) env) :: starEach r env:=rfl
theorem aj {a k}:starEach (.Constant a k p :: r) env=(false,eval (.Constant a k p) env) :: starEach r env:=rfl
theorem bL {a}:starEach (.List a p :: r) env=(false,eval (.List a p) env) :: starEach r env:=rfl
theorem bO {a k}:starEach (.Tuple a k p :: r) env=(false,eval (.Tuple a k p) env) :: starEach r env:=rfl
theorem aM {a b c}:starEach (.BinOp a b c p :: r) env=(false,eval (.BinOp a b c p) env) :: starEach r env:=rfl
theorem fZ {a b}:starEach (.UnaryOp a b p :: r) env=(false,eval (.UnaryOp a b p) env) :: starEach r env:=rfl
theorem ia {a b c}:starEach (.Compare a b c p :: r) env=(false,eval (.Compare a b c p) env) :: starEach r env:=rfl
theorem ao {a b}:starEach (.Subscript a b p :: r) env=(false,eval (.Subscript a b p) env) :: starEach r env:=rfl
theorem dR {a b}:starEach (.Attribute a b p :: r) env=(false,eval (.Attribute a b p) env) :: starEach r env:=rfl
theorem az {a b c}:starEach (.Call a b c p :: r) env=(false,eval (.Call a b c p) env) :: starEach r env:=rfl
theorem bP {a b c}:starEach (.ListComp a b c p :: r) env=(false,eval (.ListComp a b c p) env) :: starEach r env:=rfl
theorem ax:(backTo p (starEach [] env)).any (·.1)=false:=rfl
theorem ar {e:Expr} (h:starEach (e :: r) env=(false,eval e env) :: starEach r env) (h2:(backTo p (starEach r env)).any (·.1)=false):(backTo p (starEach (e :: r) env)).any (·.1)=false:=by
 rw [h];exact h2
theorem br {e:Expr} (h:starEach [e] env=(false,eval e env) :: starEach [] env):starEach [e] env=[(false,eval e env)]:=h.trans rfl
end
section
variable {K:Frag} {C:Addr} {H0 H:Hp} {ρ:RB} {σ:St}
def RB.del (ρ:RB) (i:Nat):RB:=⟨ρ.rho.set i none,fun j=>if j=i then [] else ρ.ad j⟩
theorem lm {l:Rho} {i j:Nat} {sl:Slt} (h:(l.set i none)[j]?=some (some sl)):i ≠ j/\l[j]?=some (some sl):=by
 rw [List.getElem?_set] at h
 split at h
 ·split at h <;> cases h
 ·exact ⟨by assumption,h⟩
theorem j6 {i j:Nat} {a:Addr} (h:a ∈ (ρ.del i).ad j):j ≠ i/\a ∈ ρ.ad j:=by
 unfold RB.del at h
 dsimp only at h
 split at h
 ·cases h
 ·exact ⟨‹_›,h⟩
theorem mL {i j:Nat} (h:j ≠ i):(ρ.del i).ad j=ρ.ad j:=by
 unfold RB.del
 dsimp only
 rw [if_neg h]
theorem Own.forget {i:Nat} {b:Addr} (h:Own (ρ.del i) σ b):Own ρ σ b:=by
 obtain ⟨j,h⟩:=h
 exact ⟨j,(j6 h).2⟩
theorem Rel.forget (r:Rel K C H0 ρ σ H) (i:Nat):Rel K C H0 (ρ.del i) σ H:=by
 have sub:Same (msk ρ σ H) (msk (ρ.del i) σ H):=fun b o e=>msk_some.mpr ⟨fun z=>(msk_some.mp e).1 z.forget,(msk_some.mp e).2⟩
 refine ⟨?_,r.keep.trans sub,fun j sl e=>?_,fun j k a x y=>r.inj j k a (j6 x).2 (j6 y).2,fun j a x=>r.kin j a (j6 x).2,fun j a x=>?_⟩
 ·show (ρ.rho.set i none).length=_
  rw [List.length_set];exact r.len
 ·obtain ⟨hj,e⟩:=lm e
  rw [mL fun z=>hj z.symm]
  exact (r.at_ j sl e).mono (Same.refl _) sub
 ·show j < (ρ.rho.set i none).length
  rw [List.length_set];exact r.bnd j a (j6 x).2
end
def spM (K:Frag) (C:Addr) (den:List D->R D):Sp:=fun vs H Q _=>∃ a us xs,vs=[.ref a]/\H a=some (.lst us)/\HasL K C (cut [a] H) us xs/\match den xs with
 | .val d=>∀ v H',Same (cut [a] H) H'->Has K C H' v d->Q v H'
 | _=>False
def Mv (P:Program) (w:World) (K:Frag) (mg:Str->Option Value) (base:Heap) (C:Addr) (k:Nat) (x:Str) (den:List D->R D):Prop :=
 ∃ f fd p,FnOk P w K mg base CX0 k f fd [p] (spM K C den)/\mg x=some (.ref f)/\keepIn K (.ref f)=true/\Binds K fd [p] []
def st1 (N:List Str) (xs:List D):Rho:=some (.own xs) :: List.replicate (N.length - 1) none
theorem Bs {N:List Str} {xs:List D} {i:Nat} {sl:Slt} (h:(st1 N xs)[i]?=some (some sl)):i=0/\sl=.own xs:=by
 cases i with
 | zero=>unfold st1 at h;simp at h;exact ⟨rfl,h.symm⟩
 | succ n =>
  unfold st1 at h
  rw [List.getElem?_cons_succ,List.getElem?_replicate] at h
  split at h <;> cases h
section
variable {P:Program} {w:World} {K:Frag} {mg:Str->Option Value} {base:Heap} {C:Addr}
theorem tH {H:Hp} {N:List Str} {a:Addr} {us:List V} {xs:List D} (e:H a=some (.lst us)) (h:HasL K C (cut [a] H) us xs):wK K C (cut [a] H) (st1 N xs) (L2.start N [.ref a]) H:=by
 have s0:(L2.start N [V.ref a])[0]?=some (some (.ref a)):=by unfold L2.start;simp
 have own:∀ {i:Nat} {b:Addr},b ∈ (⟨st1 N xs,fun j=>if j=0 then [a] else []⟩:RB).ad i->i=0/\b=a:=fun {i b} z=>by
  dsimp only at z
  split at z
  ·exact ⟨‹_›,List.mem_singleton.mp z⟩
  ·cases z
 have sub:Same (cut [a] H) (msk ⟨st1 N xs,fun j=>if j=0 then [a] else []⟩ (L2.start N [.ref a]) H):=fun b o e1=>by
  obtain ⟨h1,h2⟩:=cut_some.mp e1
  exact msk_some.mpr ⟨fun ⟨i,z⟩=>h1 (List.mem_singleton.mpr (own z).2),h2⟩
 refine ⟨⟨st1 N xs,fun j=>if j=0 then [a] else []⟩,rfl,?_,sub,fun i sl e1=>?_,fun i j b x y=>(own x).1.trans (own y).1.symm,fun i b x=>.inl ?_,fun i b x=>?_⟩
 ·show (st1 N xs).length=_
  unfold st1 L2.start;simp
 ·obtain ⟨rfl,rfl⟩:=Bs e1
  exact ⟨a,us,s0,List.mem_singleton.mpr rfl,e,h.mono sub⟩
 ·rw [(own x).2];exact ⟨us,e⟩
 ·rw [(own x).1];exact Nat.succ_pos _
theorem DQ {x qual p:Str} {st:Stmt} {f:Addr} {fd:FuncData} {N:List Str} {k:Nat} {den:Rho->R Out} (F:Fun K x qual st f fd) (sc:aH N [p] (ak st))
  (hb:∀ (cdv:Value) (A:Around) (outer:List Env) (s:Shared) (H:Hp) (E:XK),Room k (A.deeper (envOfC qual (ak st) s.heap.objs.size f cdv)) ->
   SDs C (bS CX0 P w K mg base N qual (ak st) f cdv A outer s H E).nox (aF st) den) :
  FnOk P w K mg base CX0 (k + 1) f fd [p] (spM K C fun xs=>fin (den (st1 N xs))):=by
 refine F.ok sc (fun vs H Q E h=>?_) (fun cdv A outer s H vs Q E hr h=>⟨_,hb cdv A outer s H E hr,?_⟩)
 ·obtain ⟨a,us,xs,rfl,_⟩:=h
  rfl
 obtain ⟨a,us,xs,rfl,e0,h,q⟩:=h
 refine ⟨st1 N xs,cut [a] H,tH e0 h,?_⟩
 dsimp only at q
 cases e:den (st1 N xs) with
 | val o =>
  rw [e] at q
  cases o with
  | nx ρ'=>exact fun σ' H' ⟨_,_,r⟩=>q _ H' (r.keep.trans msk_sub) .non
  | rt d=>exact fun v H' s' h'=>q v H' s' h'
  | bk ρ'=>exact q.elim
  | ct ρ'=>exact q.elim
 | exc c=>rw [e] at q;exact q.elim
 | bad=>rw [e] at q;exact q.elim
end
section
variable {C:Addr} {X:Cx}
def zV (i:Nat) (den:List D->R D):Rho->R Out:=fun ρ=>match ρ[i]? with
 | some (some (.own xs))=>(noex (den xs)).bind fun d=>.val (.nx (ρ.set i (some (.shr d))))
 | _=>.bad
theorem zH {k i:Nat} {x y:Str} {p p' pos:Pos} {den:List D->R D} (F:Mv X.prog X.w X.K X.mg X.base C k x den) (hr:Room k X.A) (hg:Gl X x) (hv:PE X (.Name y p') (fY i)) (hdb:(x == ("__debug__":Str))=false:=by decide) :
  PE X (.Call (.Name x p) [.Name y p'] [] pos) (fun σ H Q=>∃ (ρ:RB) (H0:Hp) (xs:List D) (d:D),fA C X H0 ρ σ H/\ρ.rho[i]?=some (some (.own xs))/\den xs=.val d/\∀ v H',fA C X H0 (ρ.del i) σ H'->dZ C X (ρ.del i) σ H' v d->Q v H'):=by
 obtain ⟨f,fd,pn,hF,hm,hk,hb⟩:=F
 rintro pins s σ H Q I ⟨ρ,H0,xs,d,r0,e0,ed,q⟩
 obtain ⟨a,vs,e1,ha,h1,h2⟩:=r0.at_ i _ e0
 refine wpAny_Call_Name_kw (gE I hg hm ?_ hdb)
 refine callWith_K (h₀:=X.base) I.ok.mod.kin hk (thn ((cS hv er ac) pos pins s σ H (fun us H1=>us=[.ref a]/\H1=H) I ⟨_,e1,rfl,rfl⟩) fun us s1 ⟨ws,H1,I1,rv,ew,eh⟩=>⟨I1.kIn,?_⟩) ac ax
 subst ew;subst eh
 have rf:=r0.forget i
 have Z:=Rel.hid rf I1
 have J:=I1.hide Z
 have nz:a ∉ db (ρ.del i) σ:=fun z=>by
  obtain ⟨j,z⟩:=(gd rf.bnd).mp z
  exact (j6 z).1 (r0.inj j i a (j6 z).2 ha)
 have sub:Same (msk ρ σ H1) (cut [a] (cut (db (ρ.del i) σ) H1)):=fun b o eb=>by
  obtain ⟨g1,g2⟩:=msk_some.mp eb
  refine cut_some.mpr ⟨fun z=>g1 ?_,cut_some.mpr ⟨fun z=>g1 ((gd rf.bnd).mp z).forget,g2⟩⟩
  rw [List.mem_singleton.mp z]
  exact ⟨i,ha⟩
 refine thn (w5 (E:=E0) (Q:=fun v M'=>Same (cut [a] (cut (db (ρ.del i) σ) H1)) M'/\Has X.K C M' v d) hF hr hb .nil xD J rv ?_) fun u s2 ⟨v,M',J2,ru,sm,hv'⟩=>?_
 ·rw [List.append_nil]
  refine ⟨a,vs,xs,rfl,cut_some.mpr ⟨nz,h1⟩,h2.mono sub,?_⟩
  rw [ed]
  exact fun v H' s2 h2=>⟨s2,h2⟩
 ·obtain ⟨I2,mz⟩:=I1.show' Z J2
  have em:msk (ρ.del i) σ (jn (db (ρ.del i) σ) H1 M')=M':=by
   rw [ft rf.bnd]
   funext b
   by_cases hb:b ∈ db (ρ.del i) σ
   ·rw [fM hb,mz b hb]
   ·unfold cut;rw [if_neg hb,b_ hb]
  have sM:Same (msk ρ σ H1) M':=sub.trans sm
  have keep:∀ j b,b ∈ (ρ.del i).ad j->jn (db (ρ.del i) σ) H1 M' b=H1 b:=fun j b hb=>i3 ((gd rf.bnd).mpr ⟨j,hb⟩)
  have tup:∀ b us,H1 b=some (.tup us)->jn (db (ρ.del i) σ) H1 M' b=some (.tup us):=fun b us eb=>by
   have nb:b ∉ db (ρ.del i) σ:=fun z=>rf.tups eb ((gd rf.bnd).mp z)
   rw [b_ nb]
   exact sM b _ (msk_some.mpr ⟨r0.tups eb,eb⟩)
  refine ⟨v,_,I2,ru,q v _ ⟨rf.len,by rw [em];exact r0.keep.trans sM,fun j sl ej=>?_,rf.inj,fun j b hb=>by rw [keep j b hb];exact rf.kin j b hb,rf.bnd⟩ (by show Has _ _ (msk _ σ _) v d;rw [em];exact hv')⟩
  rw [em]
  obtain ⟨hj,ej'⟩:=lm ej
  have qq:=r0.at_ j sl ej'
  rw [<- mL (ρ:=ρ) (i:=i) fun z=>hj z.symm] at qq
  exact qq.stay ⟨fun b hb o eo=>by rw [keep j b hb];exact eo,tup⟩ sM
theorem zm {k i:Nat} {x y:Str} {p p' cp pos pos':Pos} {den:List D->R D} (F:Mv X.prog X.w X.K X.mg X.base C k x den) (hr:Room k X.A) (hg:Gl X x) (hv:PE X (.Name y p') (fY i)) (hN:X.N.Nodup) (hi:X.N[i]?=some y) (hx:Loc X.env.scope y)
  (hs:swapsWith (.Call (.Name x p) [.Name y p'] [] cp) (some (.Name y pos')) pos.line X.env=pure false) (hdb:(x == ("__debug__":Str))=false:=by decide)
  (hf:X.fn y=true\/X.env.scope.names.lookup y=some .local:=by first | exact .inl rfl | exact .inr rfl | assumption):SD C X (.Assign [.Name y pos'] (.Call (.Name x p) [.Name y p'] [] cp) pos) (zV i den) :=
 bN (qg hN hi hx (zH F hr hg hv hdb) hs hf) fun D σ H zz1=>by
  obtain ⟨_,H0,⟨ρ,rfl,r⟩,q⟩:=zz1
  unfold zV at q
  split at q
  ·rename_i xs e0
   cases ed:den xs with
   | val d =>
    rw [ed] at q
    refine ⟨ρ,H0,xs,d,r,e0,ed,fun v H' r' h'=>?_⟩
    refine q _ _ ⟨_,?_,r'.setShr (i:=i) h'⟩
    show (ρ.rho.set i none).set i _=_
    rw [List.set_set]
   | exc c=>rw [ed] at q;exact q.elim
   | bad=>rw [ed] at q;exact q.elim
  ·exact q.elim
def r_:List D->List (KA × D)->Option (List (KA × D))
 | [],kvs=>some kvs
 | x :: r,kvs=>match oX x with
  | some k=>if kvs.length<=100000 then r_ r (nP kvs k (.bl true)) else none
  | none=>none
def nY (il ix idd:Nat):Rho->R Out:=fun ρ=>match ρ[il]?,ρ[idd]? with
 | some (some (.own xs)),some (some (.dic kvs))=>match r_ xs kvs with
  | some kvs'=>if ix < ρ.length then .val (.nx ((ρ.set ix none).set idd (some (.dic kvs')))) else .bad
  | none=>.bad
 | _,_=>.bad
theorem vZ {il ix idd:Nat} {x l d:Str} {px pl pd px2 sp pos2 pos cp:Pos} {j:Nat} (hu:X.A.units + 3 < cLine) (hp:PassesOwn (model X.prog X.w) X.A X.env X.xe) (hc:X.calm=true) (hl:PE X (.Name l pl) (fY il)) (hg:PG X (.Name x px) (i5 ix)) (hd:PE X (.Name d pd) (fY idd)) (hx:PE X (.Name x px2) (fY ix))
  (n1:ix ≠ il:=by decide) (n2:ix ≠ idd:=by decide) (n3:il ≠ idd:=by decide)
  (ha:∀ v,assign (.Subscript (.Name d pd) (.Name x px2) sp) X.env v=(do
   let ov <- holding [v] (eval (.Name d pd) X.env)
   let iv <- holding [v,ov] (eval (.Name x px2) X.env)
   standAt sp
   holding [v,ov,iv] (setItem ov iv v)
   release [v,ov,iv] []):=by intro _;rfl)
  (hs:swapsWithSole [.Subscript (.Name d pd) (.Name x px2) sp] (.Constant (.bool true) j cp) pos2.line X.env=pure false:=by rfl) (hw:swappedStores [.Subscript (.Name d pd) (.Name x px2) sp] (.Constant (.bool true) j cp) X.env=pure none:=by rfl)
  (h1:(assignEach [.Subscript (.Name d pd) (.Name x px2) sp] X.env).map (·.2)=[assign (.Subscript (.Name d pd) (.Name x px2) sp) X.env]:=by rfl)
  (hfs:∀ x,foldedSetIterable (.Name l pl) X.env x=pure x:=by intro _;rfl) :
  SD C X (.For (.Name x px) (.Name l pl) [.Assign [.Subscript (.Name d pd) (.Name x px2) sp] (.Constant (.bool true) j cp) pos2] [] pos) (nY il ix idd) :=
 bN (xq hp hc (zE hl) hg (mE (tL uY (xx hd hx (uI hu) ha) hs hw h1)) hfs) fun Dn σ H zz2=>by
  obtain ⟨_,H0,⟨ρ,rfl,r⟩,q⟩:=zz2
  unfold nY at q
  split at q
  ·rename_i xs kvs el ed
   split at q
   ·rename_i kvsf em
    have hix:ix < ρ.rho.length:=by
     by_cases hix:ix < ρ.rho.length
     ·exact hix
     ·rw [if_neg hix] at q;exact q.elim
    rw [if_pos hix] at q
    obtain ⟨a,vs,ea,haA,eH,hL⟩:=r.at_ il _ el
    have hdl:idd < ρ.rho.length:=(List.getElem?_eq_some_iff.mp ed).1
    refine ⟨_,ea,a,rfl,⟨_,SqL.of eH⟩,yi (K:=X.K) (a:=a) (xs:=vs) (fun i σ' H'=>∃ kvs' β,β.rho=(ρ.rho.set ix none).set idd (some (.dic kvs'))/\fA C X H0 β σ' H'/\a ∈ β.ad il/\σ'[il]?=some (some (.ref a))/\H' a=some (.lst vs)/\r_ (xs.drop i) kvs'=some kvsf) ⟨kvs,ρ.del ix,?_,r.forget ix,by rw [mL (Ne.symm n1)];exact haA,ea,eH,em⟩ (fun i σ' H' _ ⟨kvs',β,eb,r',hb,e1,e2,e3⟩=>SqL.of e2) ?_ ?_⟩
    ·have e1:(ρ.rho.set ix none)[idd]?=some (some (.dic kvs)):=by rw [List.getElem?_set_ne n2];exact ed
     show ρ.rho.set ix none=_
     apply List.ext_getElem?
     intro m
     by_cases hm:idd=m
     ·subst hm
      rw [List.getElem?_set_self (List.getElem?_eq_some_iff.mp e1).1,e1]
     ·rw [List.getElem?_set_ne hm]
    ·rintro i v σ' H' hi ⟨kvs',β,eβ,r',hbA,e1,e2,e3⟩
     have l1:β.rho[il]?=some (some (.own xs)):=by
      rw [eβ,List.getElem?_set_ne (Ne.symm n3),List.getElem?_set_ne n1];exact el
     obtain ⟨a',vs',g1,ga,g2,g3⟩:=r'.at_ il _ l1
     rw [e1] at g1;cases g1
     rw [e2] at g2;cases g2
     obtain ⟨x0,hx0,hv0⟩:=g3.get' hi
     have hlt:i < xs.length:=(List.getElem?_eq_some_iff.mp hx0).1
     have edr:xs.drop i=x0 :: xs.drop (i + 1):=by
      rw [List.drop_eq_getElem_cons hlt]
      have:=(List.getElem?_eq_some_iff.mp hx0).2
      rw [this]
     rw [edr] at e3
     unfold r_ at e3
     split at e3
     ·rename_i kk ekk
      split at e3
      ·rename_i hlen
       have rs:=r'.setShr (i:=ix) hv0
       have ed':(β.put ix (.shr x0) []).rho[idd]?=some (some (.dic kvs')):=by
        show (β.rho.set ix _)[idd]?=_
        rw [List.getElem?_set_ne n2,eβ,List.getElem?_set_self (by simpa using hdl)]
       obtain ⟨b,eb,hbb,ys,eY,nd,hpd⟩:=rs.at_ idd _ ed'
       rw [mD (Ne.symm n2)] at hbb
       obtain ⟨kb,rfl,hkey⟩:=qx ekk hv0
       have hxl:ix < σ'.length:=by have:=r'.len;rw [eβ] at this;simp at this;omega
       have ex2:(σ'.set ix (some (V.ref kb)))[ix]?=some (some (.ref kb)):=List.getElem?_set_self hxl
       have hkey2:KeyIn (msk (β.put ix (.shr x0) []) (σ'.set ix (some (V.ref kb))) H') kk kb:=hkey.mono u5
       refine ⟨_,eb,_,ex2,b,ys,kb,kk,rfl,rfl,eY,fun z hz=>(i9 hpd z hz).mono msk_sub,nd,hkey.mono msk_sub,by rw [<- nj hpd];exact hlen,fun u ru nd'=>?_⟩
       have r2:=(rs.putDic ed' eb nd' (vB ru (.bl true) hkey2 hpd)).forget ix
       refine ⟨nP kvs' kk (.bl true),_,?_,r2,?_,?_,?_,e3⟩
       ·show (((β.rho.set ix (some (.shr x0))).set idd (some (.dic (nP kvs' kk (.bl true))))).set ix none)=_
        rw [eβ]
        apply List.ext_getElem?
        intro m
        simp only [List.getElem?_set,List.length_set]
        by_cases h1:ix=m
        ·subst h1
         simp [Ne.symm n2]
        ·by_cases h2:idd=m
         ·subst h2;simp [h1]
         ·simp [h1,h2]
       ·rw [mL (Ne.symm n1),mD n3,mD (Ne.symm n1)];exact hbA
       ·rw [List.getElem?_set_ne n1];exact e1
       ·have:a ≠ b:=fun z=>n3 (r'.inj il idd a hbA (z ▸ hbb))
        rw [aO this];exact e2
      ·cases e3
     ·cases e3
    ·rintro σ' H' ⟨kvs',β,eβ,r',_,e1,e2,e3⟩
     have:vs.length=xs.length:=hL.len
     rw [this,List.drop_length] at e3
     cases e3
     exact q _ _ ⟨β,eβ,r'⟩
   ·exact q.elim
  ·exact q.elim
end
section
variable {K:Frag} {C:Addr} {H:Hp} {x C' dx:Addr} {fs:List (Str × V)} {o':HO}
theorem kU {a:Addr} {o:HO} (hx:H x=some (.ins C' dx fs)) (h:H a=some o) (ho:∀ c d f,o=.ins c d f->f.length=3) (hl:fs.length < 3):a ≠ x:=fun z=>by
 subst z;rw [hx] at h;cases h
 have:=ho _ _ _ rfl
 omega
mutual
theorem Has.upd_ins (hx:H x=some (.ins C' dx fs)) (hl:fs.length < 3):∀ {v:V} {d:D},Has K C H v d->Has K C (upd H x o') v d
 | _,_,.non=>.non
 | _,_,.bl b=>.bl b
 | _,_,.int i=>.int i
 | _,_,.lst q h=>.lst (by rw [aO (kU hx q (fun _ _ _ z=>by cases z) hl)];exact q) (HasL.upd_ins hx hl h)
 | _,_,.tup q h=>.tup (by rw [aO (kU hx q (fun _ _ _ z=>by cases z) hl)];exact q) (HasL.upd_ins hx hl h)
 | _,_,.scr q=>.scr (by
   rcases q with (h | ⟨o,h⟩) | h
   ·exact .inl (.inl (by rw [aO (kU hx h (fun _ _ _ z=>by cases z) hl)];exact h))
   ·exact .inl (.inr ⟨o,by rw [aO (kU hx h (fun _ _ _ z=>by cases z) hl)];exact h⟩)
   ·exact .inr h)
 | _,_,.exn q=>.exn (by rw [aO (kU hx q (fun _ _ _ z=>by cases z) hl)];exact q)
 | _,_,.ob q a b c=>.ob (by rw [aO (kU hx q (fun _ _ _ z=>by cases z;rfl) hl)];exact q) (Has.upd_ins hx hl a) (Has.upd_ins hx hl b) (Has.upd_ins hx hl c)
theorem HasL.upd_ins (hx:H x=some (.ins C' dx fs)) (hl:fs.length < 3):∀ {vs:List V} {ds:List D},HasL K C H vs ds->HasL K C (upd H x o') vs ds
 | _,_,.nil=>.nil
 | _,_,.cons a b=>.cons (Has.upd_ins hx hl a) (HasL.upd_ins hx hl b)
end
end
theorem sg (f:Str) (v:V):∀ fs:List (Str × V),(im f v fs).length<=fs.length + 1
 | []=>Nat.le_refl _
 | (g,x) :: r=>by
  unfold im
  split
  ·simp
  ·simpa using sg f v r
def wH:List (Rho->R D)->Rho->R Unit
 | [],_=>.val ()
 | c :: cs,ρ=>(c ρ).bind fun _=>wH cs ρ
def AH (cs:List (Rho->R D)) (f1 f2 f3:Rho->R (List D)):Rho->R D:=fun ρ=>(wH cs ρ).bind fun _=>(f1 ρ).bind fun es=>(f2 ρ).bind fun rs=>(f3 ρ).bind fun ts=>.val (.ob (.lst es) (.lst rs) (.lst ts))
def jI (e r t:D):Rho:=[none,some (.shr e),some (.shr r),some (.shr t)]
def spI (K:Frag) (C:Addr) (den:Rho->R D):Sp:=fun vs H Q _=>∃ x dx ve vr vt e r t,vs=[.ref x,ve,vr,vt]/\H x=some (.ins C dx [])/\Has K C H ve e/\Has K C H vr r/\Has K C H vt t/\match den (jI e r t) with
 | .val d=>∀ H',(∀ b o,H b=some o->b ≠ x->H' b=some o)->Has K C H' (.ref x) d->Q .non H'
 | _=>False
section
variable {C:Addr} {X:Cx}
variable (C X) in
def tCk:List (Rho->R D)->TS->TS
 | [],t=>t
 | c :: cs,t=>zc (pf (teB C X c)) (tCk cs t)
theorem jU {st:Stmt} {rest:List Stmt} {c:Rho->R D} {cs:List (Rho->R D)} {t:TS} (h1:PS X st (pf (teB C X c))) (h2:PSs X rest (tCk C X cs t)):PSs X (st :: rest) (tCk C X (c :: cs) t):=kr h1 h2
theorem nh {e:Expr} {pos:Pos} {F:Rho->R D} (he:EB C X e F) (hs:swapsWith e none pos.line X.env=pure false:=by rfl):PS X (.Expr e pos) (pf (teB C X F)):=kt he hs
theorem vM {ρ:RB} {t:TS} {Dn:kg} {σ:St}:∀ {cs:List (Rho->R D)} {H H0:Hp},fA C X H0 ρ σ H->wH cs ρ=.val ()->(∀ H1,Same H H1->t Dn σ H1)->tCk C X cs t Dn σ H
 | [],H,H0,r,_,k=>k H (Same.refl _)
 | c :: cs,H,H0,r,e,k=>by
  unfold wH at e
  cases ec:c ρ with
  | val d =>
   rw [ec] at e
   show teB C X c σ H _
   refine ⟨ρ,⟨H0,r⟩,?_⟩
   rw [ec]
   exact fun v H1 s1 _=>vM (r.mono s1) e fun H2 s2=>k H2 (s1.trans s2)
  | exc c=>rw [ec] at e;cases e
  | bad=>rw [ec] at e;cases e
variable (C X) in
def tI (f1 f2 f3:Rho->R (List D)):TS:=zc (qb X.K (fY 0) (teF C X f1) "ends") (zc (qb X.K (fY 0) (teF C X f2) "rests") (qb X.K (fY 0) (teF C X f3) "table"))
theorem DI {s1 s2 s3:Stmt} {f1 f2 f3:Rho->R (List D)} (h1:PS X s1 (qb X.K (fY 0) (teF C X f1) "ends")) (h2:PS X s2 (qb X.K (fY 0) (teF C X f2) "rests")) (h3:PS X s3 (qb X.K (fY 0) (teF C X f3) "table")):PSs X [s1,s2,s3] (tCk C X [] (tI C X f1 f2 f3)):=by
 have h:=kr h1 (kr h2 (mE h3))
 exact h
theorem xo {o value:Expr} {f:Str} {pos pos':Pos} {i:Nat} {F:Rho->R (List D)} (ho:PE X o (fY i)) (hv:FD C X value F) (hs:swapsWith value (some (.Attribute o f pos')) pos.line X.env=pure false:=by rfl):PS X (.Assign [.Attribute o f pos'] value pos) (qb X.K (fY i) (teF C X F) f):=BO ho hv hs
def rb3 (e r t:D):RB:=⟨jI e r t,fun _=>[]⟩
theorem Dt {K:Frag} {H:Hp} {x:Addr} {ve vr vt:V} {e r t:D} (h1:Has K C H ve e) (h2:Has K C H vr r) (h3:Has K C H vt t):Rel K C H (rb3 e r t) [some (.ref x),some ve,some vr,some vt] H:=by
 have sub:Same H (msk (rb3 e r t) [some (.ref x),some ve,some vr,some vt] H):=fun b o eb=>msk_some.mpr ⟨fun ⟨_,z⟩=>(List.not_mem_nil z).elim,eb⟩
 refine ⟨rfl,sub,fun i sl h=>?_,fun i j a z=>(List.not_mem_nil z).elim,fun i a z=>(List.not_mem_nil z).elim,fun i a z=>(List.not_mem_nil z).elim⟩
 match i,h with
 | 0,h=>cases h
 | 1,h=>cases h;exact ⟨ve,rfl,h1.mono sub⟩
 | 2,h=>cases h;exact ⟨vr,rfl,h2.mono sub⟩
 | 3,h=>cases h;exact ⟨vt,rfl,h3.mono sub⟩
 | n + 4,h=>unfold rb3 jI at h;simp at h
theorem n4 {F:Rho->R (List D)} {f:Str} {Dn:kg} {H:Hp} {x dx:Addr} {fs:List (Str × V)} {ve vr vt:V} {e r t:D} {xs:List D} (hx:H x=some (.ins C dx fs)) (hl:fs.length < 3) (c:Cls X.K C) (n:NoAttr X.K C f) (h1:Has X.K C H ve e) (h2:Has X.K C H vr r) (h3:Has X.K C H vt t)
  (eF:F (jI e r t)=.val xs)
  (k:∀ l H',H' x=some (.ins C dx (im f (.ref l) fs))->(∀ b o,H b=some o->b ≠ x->H' b=some o)->(∀ v d,Has X.K C H v d->Has X.K C H' v d)->Has X.K C H' (.ref l) (.lst xs)->Dn.nx [some (.ref x),some ve,some vr,some vt] H') :
  qb X.K (fY 0) (teF C X F) f Dn [some (.ref x),some ve,some vr,some vt] H:=by
 refine ⟨rb3 e r t,⟨H,Dt h1 h2 h3⟩,?_⟩
 show pF _ (F (jI e r t)) _ _ _
 rw [eF]
 intro l vs H1 s1 hn hv
 have hv':HasL X.K C H1 vs xs:=hv.mono msk_sub
 have nx:l ≠ x:=fun z=>by subst z;rw [s1 _ _ hx] at hn;cases hn
 have hx2:(upd H1 l (.lst vs)) x=some (.ins C dx fs):=by rw [aO (Ne.symm nx)];exact s1 _ _ hx
 refine ⟨_,rfl,x,C,dx,fs,rfl,hx2,c,n,by omega,k l _ bp (fun b o eb nb=>?_) (fun v d hd=>?_) ?_⟩
 ·rw [aO nb];exact bc hn _ _ (s1 _ _ eb)
 ·exact ((hd.mono s1).mono (bc hn)).upd_ins hx2 hl
 ·exact Has.upd_ins hx2 hl (.lst bp (hv'.mono (bc hn)))
end
section
variable {P:Program} {w:World} {K:Frag} {mg:Str->Option Value} {base:Heap} {C:Addr}
theorem Af {st:Stmt} {f:Addr} {fd:FuncData} {k:Nat} {cs:List (Rho->R D)} {f1 f2 f3:Rho->R (List D)} (F:Fun K "__init__" "Hall.__init__" st f fd) (sc:aH ["self","ends","rests","table"] ["self","ends","rests","table"] (ak st))
  (cl:Cls K C) (nE:NoAttr K C "ends") (nR:NoAttr K C "rests") (nT:NoAttr K C "table")
  (hb:∀ (cdv:Value) (A:Around) (outer:List Env) (s:Shared) (H:Hp) (E:XK),Room k (A.deeper (envOfC "Hall.__init__" (ak st) s.heap.objs.size f cdv)) ->
   PSs (bS CX0 P w K mg base ["self","ends","rests","table"] "Hall.__init__" (ak st) f cdv A outer s H E).nox (aF st) (tCk C (bS CX0 P w K mg base ["self","ends","rests","table"] "Hall.__init__" (ak st) f cdv A outer s H E).nox cs (tI C (bS CX0 P w K mg base ["self","ends","rests","table"] "Hall.__init__" (ak st) f cdv A outer s H E).nox f1 f2 f3))) :
  FnOk P w K mg base CX0 (k + 1) f fd ["self","ends","rests","table"] (spI K C (AH cs f1 f2 f3)):=by
 refine F.ok sc (fun vs H Q E h=>?_) (fun cdv A outer s H vs Q E hr h=>⟨_,hb cdv A outer s H E hr,?_⟩)
 ·obtain ⟨x,dx,ve,vr,vt,e,r,t,rfl,_⟩:=h
  rfl
 obtain ⟨x,dx,ve,vr,vt,e,r,t,rfl,hx,h1,h2,h3,q⟩:=h
 unfold AH at q
 cases ec:wH cs (jI e r t) with
 | exc c=>rw [ec] at q;exact q.elim
 | bad=>rw [ec] at q;exact q.elim
 | val u =>
  rw [ec] at q
  cases e1:f1 (jI e r t) with
  | exc c=>dsimp only [DL.R.bind] at q;rw [e1] at q;exact q.elim
  | bad=>dsimp only [DL.R.bind] at q;rw [e1] at q;exact q.elim
  | val es =>
   cases e2:f2 (jI e r t) with
   | exc c=>dsimp only [DL.R.bind] at q;rw [e1,e2] at q;exact q.elim
   | bad=>dsimp only [DL.R.bind] at q;rw [e1,e2] at q;exact q.elim
   | val rs =>
    cases e3:f3 (jI e r t) with
    | exc c=>dsimp only [DL.R.bind] at q;rw [e1,e2,e3] at q;exact q.elim
    | bad=>dsimp only [DL.R.bind] at q;rw [e1,e2,e3] at q;exact q.elim
    | val ts =>
     dsimp only [DL.R.bind] at q
     rw [e1,e2,e3] at q
     dsimp only [DL.R.bind] at q
     refine vM (H0:=H) (ρ:=rb3 e r t) (Dt h1 h2 h3) ec fun H1 s1=>?_
     refine n4 (s1 _ _ hx) (by decide) cl nE (h1.mono s1) (h2.mono s1) (h3.mono s1) e1 fun l1 Ha xa fa ka ha=>?_
     refine n4 xa (by show 1 < 3;decide) cl nR (ka _ _ (h1.mono s1)) (ka _ _ (h2.mono s1)) (ka _ _ (h3.mono s1)) e2 fun l2 Hb xb fb kb hb2=>?_
     refine n4 xb (Nat.lt_of_le_of_lt (sg _ _ _) (by show 2 < 3;decide)) cl nT (kb _ _ (ka _ _ (h1.mono s1))) (kb _ _ (ka _ _ (h2.mono s1))) (kb _ _ (ka _ _ (h3.mono s1))) e3 fun l3 Hc xc fc kc hc=>?_
     refine q Hc (fun b o eb nb=>fc _ _ (fb _ _ (fa _ _ (s1 _ _ eb) nb) nb) nb) ?_
     exact .ob (dx:=dx) (ve:=.ref l1) (vr:=.ref l2) (vt:=.ref l3) xc (kc _ _ (kb _ _ ha)) (kc _ _ hb2) hc
end
def FnH (P:Program) (w:World) (K:Frag) (mg:Str->Option Value) (base:Heap) (C:Addr) (k:Nat) (den:Rho->R D):Prop :=
 ∃ f fd,Mk K C f/\FnOk P w K mg base CX0 k f fd ["self","ends","rests","table"] (spI K C den)/\mg "Hall"=some (.ref C)/\Binds K fd ["self","ends","rests","table"] []
section
variable {C:Addr} {X:Cx}
def mkH (den:Rho->R D) (Fa:Rho->R (List D)):Rho->R D:=fun ρ=>(Fa ρ).bind fun ds=>match ds with
 | [e,r,t]=>noex (den (jI e r t))
 | _=>.bad
theorem AC {k:Nat} {den:Rho->R D} {p pos:Pos} {e:Expr} {es:List Expr} {Fa:Rho->R (List D)} (F:FnH X.prog X.w X.K X.mg X.base C k den) (hr:Room (k + 1) X.A) (hg:Gl X "Hall") (ha:AD C X (e :: es) Fa) (hx:X.xe=fun _ _=>False)
  (he:starEach (e :: es) X.env=(false,eval e X.env) :: starEach es X.env:=by rfl) (hpl:(backTo pos (starEach es X.env)).any (·.1)=false:=by rfl):ED C X (.Call (.Name "Hall" p) (e :: es) [] pos) (mkH den Fa):=by
 obtain ⟨f,fd,hM,hF,hm,hb⟩:=F
 rintro pins s σ H Q I ⟨ρ,⟨H0,r0⟩,q⟩
 refine wpAny_Call_Name_kw (gE I hg hm ?_ (by decide))
 refine callWith_K (h₀:=X.base) I.ok.mod.kin hM.kp (thn (ha pos pins s σ H (fun vs H1=>∃ a b c d,Same H H1/\iN C X ρ σ H1 vs [a,b,c]/\den (jI a b c)=.val d/\∀ v H',Same H H'->dZ C X ρ σ H' v d->Q v H') I
  ⟨ρ,⟨H0,r0⟩,fo (P:=fun z H=>pV X (dZ C X ρ σ) z σ H Q) (fun _ h=>h) (fun h=>h) q fun ds vs H1 s1 h1 q1=>?_⟩) fun us s1 ⟨vs,H1,I1,rv,a,b,c,d,s1',h1,e1,q1⟩=>⟨I1.kIn,?_⟩) he hpl
 ·split at q1
  ·rename_i a b c
   cases e1:den (jI a b c) with
   | val d=>rw [e1] at q1;exact ⟨a,b,c,d,s1,h1,e1,q1⟩
   | exc c=>rw [e1] at q1;exact q1.elim
   | bad=>rw [e1] at q1;exact q1.elim
  ·exact q1.elim
 ·have r1:=r0.mono s1'
  have Z:=Rel.hid r1 I1
  have J:=I1.hide Z
  refine thn (w4 (E:=E0) (Q:=fun v M'=>Same (cut (db ρ σ) H1) M'/\Has X.K C M' v d) hM hF hr hb .nil xD J rv fun x dx nx ndx nex=>?_) fun u s2 ⟨v,M',J2,ru,sm,hv⟩=>?_
  ·rw [List.append_nil]
   have h1:HasL X.K C (msk ρ σ H1) vs [a,b,c]:=h1
   rw [ft r0.bnd] at h1
   have s0:Same (cut (db ρ σ) H1) (upd (upd (cut (db ρ σ) H1) dx (.own x)) x (.ins C dx [])):=fun b o eb=>by
    rw [aO (bE eb nx),aO (bE eb ndx)];exact eb
   cases h1 with
   | @cons va _ _ _ ga h1=>cases h1 with
    | @cons vb _ _ _ gb h1=>cases h1 with
     | @cons vc _ _ _ gc h1 =>
      cases h1
      refine ⟨x,dx,va,vb,vc,a,b,c,rfl,bp,ga.mono s0,gb.mono s0,gc.mono s0,?_⟩
      rw [e1]
      exact fun H' fr hH=>⟨rfl,fun b o eb=>fr b o (s0 _ _ eb) (bE eb nx),hH⟩
  ·obtain ⟨I2,mz⟩:=I1.show' Z J2
   have sj:Same H1 (jn (db ρ σ) H1 M'):=fun b o eb=>by
    by_cases hb:b ∈ db ρ σ
    ·rw [i3 hb];exact eb
    ·rw [b_ hb];exact sm b o (cut_some.mpr ⟨hb,eb⟩)
   have em:msk ρ σ (jn (db ρ σ) H1 M')=M':=by
    rw [ft r0.bnd]
    funext b
    by_cases hb:b ∈ db ρ σ
    ·rw [fM hb,mz b hb]
    ·unfold cut;rw [if_neg hb,b_ hb]
   exact ⟨v,_,I2,ru,q1 v _ (s1'.trans sj) (by show Has _ _ (msk ρ σ _) v d;rw [em];exact hv)⟩
structure IsH (K:Frag) (C:Addr):Prop where
 cl:Cls K C
 ha:findIn K (.ref C) "__class__"=some (some (.builtin "object.__class__"))
 hn:PySem.W.specialIn K (.builtin "object.__class__") "__get__"=some (some (.builtin "getset_descriptor.__get__"))
 htk:PySem.W.takesIn K (.builtin "object.__class__")=some true
 hm:mroIn K C (.type "object")=some true
end
def CXd (P:Program) (w:World):CXT:=fun outer H s E e s'=>∃ ea cl H' ch,e=.ref ea/\fR s'.heap ea cl ch/\(∀ b ∈ ch,s.heap.get? b=none/\H' b=none)/\s'.os=s.os/\AllBare s'.gens/\Un (frs outer) [] H H' s.heap s'.heap/\HOk P w H' s'.heap/\E cl none H'
def spX (K:Frag) (C:Addr) (mg:Str->Option Value) (n:Nat) (den:List D->R D):Sp:=fun vs H Q E=>vs.length=n/\∃ ds,HasL K C H vs ds/\match den ds with
 | .val d=>∀ v H',Same H H'->Has K C H' v d->Q v H'
 | .exc c=>∀ Cc H',mg (exN c)=some (.ref Cc)->Same H H'->E (.ref Cc) none H'
 | .bad=>False
theorem nX {X:Cx} {pins:List (Addr × Obj)} {σ:St} {H:Hp} {s:Shared} {b:Addr} (I:Inv X pins σ H s) (hx:X.ex=[]) (hb:s.heap.get? b=none):sZ X pins H b:=by
 refine ⟨?_,?_,fun z=>?_,fun z=>?_,fun x c e z=>?_,fun p hp z=>?_⟩
 ·cases q:H b with
  | none=>rfl
  | some o=>obtain ⟨u,e⟩:=wp I.hok q;rw [hb] at e;cases e
 ·cases q:X.s₀.heap.get? b with
  | none=>rfl
  | some o =>
   obtain ⟨u,e⟩:=I.base.there b o q (by rw [hx];simp)
   rw [hb] at e;cases e
 ·obtain ⟨m,⟨o,_,_,ho,_⟩,_⟩:=I.loc
  rw [<- z,hb] at ho;cases ho
 ·obtain ⟨_,o,ho,_⟩:=I.stack.mem z
  rw [hb] at ho;cases ho
 ·obtain ⟨v,o,ho,_⟩:=I.cell x c e
  rw [z,hb] at ho;cases ho
 ·have:=(I.pin p hp).1
  rw [z,hb] at this;cases this
section
variable {P:Program} {w:World} {K:Frag} {mg:Str->Option Value} {base:Heap} {C:Addr}
theorem kJ {x qual:Str} {st:Stmt} {f:Addr} {fd:FuncData} {N ps:List Str} {k:Nat} {den:Rho->R Out} (F:Fun K x qual st f fd) (sc:aH N ps (ak st))
  (hb:∀ (cdv:Value) (A:Around) (outer:List Env) (s:Shared) (H:Hp) (E:XK),Room k (A.deeper (envOfC qual (ak st) s.heap.objs.size f cdv)) ->
   SDs C (bS (CXd P w) P w K mg base N qual (ak st) f cdv A outer s H E) (aF st) den) :
  FnOk P w K mg base (CXd P w) (k + 1) f fd ps (spX K C mg ps.length fun ds=>fin (den (st0 N ds))):=by
 obtain ⟨oc,od,kV,doc,pm,an,cdv,ct,osl,rfl,lk,hcd⟩:=F.ex
 refine Ba lk hcd sc (fun vs H Q E h=>h.1) fun A outer s H vs Q E hr h=>⟨_,hb cdv A outer s H E hr,?_⟩
 obtain ⟨_,ds,h,q⟩:=h
 refine ⟨st0 N ds,H,kS h,?_⟩
 dsimp only at q
 cases e:den (st0 N ds) with
 | val o =>
  rw [e] at q
  cases o with
  | nx ρ'=>exact fun σ' H' ⟨_,_,r⟩=>q _ H' (r.keep.trans msk_sub) .non
  | rt d=>exact fun v H' s' h'=>q v H' s' h'
  | bk ρ'=>exact q.elim
  | ct ρ'=>exact q.elim
 | bad=>rw [e] at q;exact q.elim
 | exc c =>
  rw [e] at q
  rintro pins σ' H' ev s' I sm ⟨ea,Cc,ch,he,hm,xr,hfx⟩
  subst he
  show wpAny _ _ (leaving _ (.ref ea)) _ _ s'
  unfold leaving
  refine wpAny_bind (pC I.ok.frames I.stack rfl xr fun h' ch' kb nw xr'=>?_)
  have I':=Inv.callX I kb hfx
  refine ⟨ea,.ref Cc,H',ch',rfl,xr',fun b hb=>?_,I.os,I.bare,I'.base,I'.hok,q _ H' hm sm⟩
  rcases nw b hb with hb | hb
  ·exact ⟨(hfx b hb).2.1,(hfx b hb).1⟩
  ·have fT:=nX I rfl hb
   exact ⟨fT.2.1,fT.1⟩
end
def FnX (P:Program) (w:World) (K:Frag) (mg:Str->Option Value) (base:Heap) (C:Addr) (k:Nat) (x:Str) (n:Nat) (den:List D->R D):Prop :=
 ∃ f fd ps,FnOk P w K mg base (CXd P w) k f fd ps (spX K C mg n den)/\mg x=some (.ref f)/\keepIn K (.ref f)=true/\Binds K fd ps []
theorem FnX.fn {P:Program} {w:World} {K:Frag} {mg:Str->Option Value} {base:Heap} {C:Addr} {k:Nat} {x:Str} {n:Nat} {den:List D->R D} (F:FnX P w K mg base C k x n den):Fn P w K mg base C k x n den:=by
 obtain ⟨f,fd,ps,h1,h2,h3,h4⟩:=F
 have up:∀ vs H Q E,spD K C n den vs H Q E->spX K C mg n den vs H Q E0:=fun vs H Q E zz0=>by
  obtain ⟨hl,ds,h,q⟩:=zz0
  refine ⟨hl,ds,h,?_⟩
  cases e:den ds with
  | val d=>rw [e] at q;exact q
  | exc c=>rw [e] at q;exact q.elim
  | bad=>rw [e] at q;exact q.elim
 refine ⟨f,fd,ps,⟨fun vs H Q E h=>h1.len vs H Q E0 (up vs H Q E h),fun A outer s H args us vs Q E hr he hb hv hs=>?_⟩,h2,h3,h4⟩
 refine codeAny_mono (h1.run A outer s H args us vs Q E0 hr he hb hv (up vs H Q E hs)) fun r s' hq=>?_
 cases r with
 | error e=>obtain ⟨_,_,_,_,_,_,_,_,_,_,_,z⟩:=hq;exact z.elim
 | ok fl =>
  cases fl with
  | ret u=>exact hq
  | next=>exact hq
  | brk=>exact hq
  | cont=>exact hq
section
variable {C:Addr} {X:Cx}
theorem uN {CX:CXT} {k:Nat} {f:Addr} {fd:FuncData} {ps:List Str} {sp:Sp} {E:XK} {pins:List (Addr × Obj)} {σ:St} {H:Hp} {s:Shared} {Q:VK} {us:List Value} {vs:List V} (F:FnOk X.prog X.w X.K X.mg X.base CX k f fd ps sp) (hr:Room k X.A) (hb:Binds X.K fd ps [])
  (I:Inv X pins σ H s) (r:Vals vs us) (h:sp vs H Q E):wpAny (model X.prog X.w) X.A (call (.ref f) us) (EP X pins σ Q) (fun e s'=>CX X.stack H s E e s') s:=by
 have hl:(us ++ []).length=ps.length:=by rw [List.append_nil,<- r.length];exact F.len _ _ _ _ h
 have hbi:=hb s us I.kIn hl
 rw [List.append_nil] at hbi
 refine wpAny_call (codeAny_mono (F.run X.A X.stack s H ⟨us,[]⟩ us vs Q E hr I.env0 hbi r h) fun r s' hq=>?_)
 cases r with
 | error e=>exact hq
 | ok fl =>
  cases fl with
  | ret u=>exact I.after hq
  | next=>exact False.elim hq
  | brk=>exact False.elim hq
  | cont=>exact False.elim hq
def iH (n:Nat) (den:List D->R D) (a:Rho->R (List D)):Rho->R D:=fun ρ=>(a ρ).bind fun ds=>if ds.length=n then den ds else .bad
theorem jb {k n:Nat} {den:List D->R D} {x:Str} {p pos:Pos} {e:Expr} {es:List Expr} {Fa:Rho->R (List D)} (F:FnX X.prog X.w X.K X.mg X.base C k x n den) (hr:Room k X.A) (hg:Gl X x) (ha:AD C X (e :: es) Fa) (hex:X.ex=[])
  (hdb:(x == ("__debug__":Str))=false:=by decide) (he:starEach (e :: es) X.env=(false,eval e X.env) :: starEach es X.env:=by rfl) (hpl:(backTo pos (starEach es X.env)).any (·.1)=false:=by rfl) :
  ED C X (.Call (.Name x p) (e :: es) [] pos) (iH n den Fa):=by
 obtain ⟨f,fd,ps,hF,hm,hk,hb⟩:=F
 rintro pins s σ H Q I ⟨ρ,⟨H0,r0⟩,q⟩
 refine wpAny_Call_Name_kw (gE I hg hm ?_ hdb)
 refine callWith_K (h₀:=X.base) I.ok.mod.kin hk (thn (ha pos pins s σ H (fun vs H1=>∃ ds,ds.length=n/\Same H H1/\iN C X ρ σ H1 vs ds/\pV X (dZ C X ρ σ) (den ds) σ H Q) I
  ⟨ρ,⟨H0,r0⟩,fo (P:=fun z H=>pV X (dZ C X ρ σ) z σ H Q) (fun _ h=>h) (fun h=>h) q fun ds vs H1 s1 h1 q1=>?_⟩) fun us s1 ⟨vs,H1,I1,rv,ds,hl,s1',h1,q1⟩=>⟨I1.kIn,?_⟩) he hpl
 ·split at q1
  ·exact ⟨ds,‹_›,s1,h1,q1⟩
  ·exact q1.elim
 ·have r1:=r0.mono s1'
  have Z:=Rel.hid r1 I1
  have J:=I1.hide Z
  have em:∀ M',(∀ z ∈ db ρ σ,M' z=none)->msk ρ σ (jn (db ρ σ) H1 M')=M':=fun M' mz=>by
   rw [ft r0.bnd]
   funext b
   by_cases hb:b ∈ db ρ σ
   ·rw [fM hb,mz b hb]
   ·unfold cut;rw [if_neg hb,b_ hb]
  have sj:∀ M',Same (cut (db ρ σ) H1) M'->Same H1 (jn (db ρ σ) H1 M'):=fun M' sm b o eb=>by
   by_cases hb:b ∈ db ρ σ
   ·rw [i3 hb];exact eb
   ·rw [b_ hb];exact sm b o (cut_some.mpr ⟨hb,eb⟩)
  cases e1:den ds with
  | bad=>rw [e1] at q1;exact q1.elim
  | val d =>
   rw [e1] at q1
   refine wpAny_mono (uN (E:=E0) (Q:=fun v M'=>Same (cut (db ρ σ) H1) M'/\Has X.K C M' v d) hF hr hb J rv ?_) (fun u s2 ⟨v,M',J2,ru,sm,hv⟩=>?_) fun e s2 ⟨_,_,_,_,_,_,_,_,_,_,_,z⟩=>z.elim
   ·refine ⟨h1.len.trans hl,ds,by rw [<- ft r0.bnd];exact h1,?_⟩
    rw [e1]
    exact fun v H' s2 h2=>⟨s2,h2⟩
   ·obtain ⟨I2,mz⟩:=I1.show' Z J2
    exact ⟨v,_,I2,ru,q1 v _ (s1'.trans (sj M' sm)) (by show Has _ _ (msk ρ σ _) v d;rw [em M' mz];exact hv)⟩
  | exc c =>
   rw [e1] at q1
   refine wpAny_mono (uN (E:=fun cl _ M'=>(∃ Cc,cl=.ref Cc/\X.mg (exN c)=some (.ref Cc))/\Same (cut (db ρ σ) H1) M') (Q:=fun _ _=>False) hF hr hb J rv ?_) (fun u s2 ⟨v,M',J2,ru,z⟩=>z.elim) fun e s2 hq=>?_
   ·refine ⟨h1.len.trans hl,ds,by rw [<- ft r0.bnd];exact h1,?_⟩
    rw [e1]
    exact fun Cc H' hm' s2=>⟨⟨Cc,rfl,hm'⟩,s2⟩
   ·obtain ⟨ea,cl,M',ch,he',xr,hch,hos,hbare,un,hok,⟨Cc,hcc,hmc⟩,sm⟩:=hq
    subst he'
    subst hcc
    have J2:Inv X (pins ++ dB (db ρ σ) s1.heap) σ M' s2:=J.call' hos un hok hbare (ch:=[]) (fun b z=>nomatch z)
    obtain ⟨I2,mz⟩:=I1.show' Z J2
    refine q1 pins _ _ s2 I2 (s1'.trans (sj M' sm)) ⟨ea,Cc,ch,rfl,hmc,xr,fun b hb=>?_⟩
    have f1:=nX I1 hex (hch b hb).1
    refine ⟨?_,f1.2⟩
    rw [b_ fun z=>?_]
    ·exact (hch b hb).2
    ·obtain ⟨o,ho,_⟩:=Z.obj b z
     rw [(hch b hb).1] at ho;cases ho
end
section
variable {C:Addr} {X:Cx}
variable (C X) in
def teS (F:Rho->R Unit):TE:=fun σ H Q=>∃ ρ:RB,(∃ H0,fA C X H0 ρ σ H)/\match F ρ with
 | .val _=>∀ (x:Str) H',Same H H'->Q (.str x) H'
 | _=>False
variable (C X) in
def SE (e:Expr) (F:Rho->R Unit):Prop:=PE X e (teS C X F)
def sK:Rho->R Unit:=fun _=>.val ()
def fS (a:Rho->R D):Rho->R Unit:=fun ρ=>match a ρ with
 | .val (.int i)=>if i.natAbs < 10 ^ 40 then .val () else .bad
 | _=>.bad
theorem AW {i:Int} (h:i.natAbs < 10 ^ 40):i.natAbs.log2 < 1920:=by
 by_cases h0:i.natAbs=0
 ·rw [h0];decide
 ·exact (Nat.log2_lt h0).mpr (Nat.lt_of_lt_of_le h (Nat.le_trans (show 10 ^ 40<=2 ^ 160 by decide) (Nat.pow_le_pow_right (by decide) (by decide))))
theorem Dr {a:Expr} {y:Str} {j:Nat} {pos p1 p2:Pos} {Fa:Rho->R D} (ha:EB C X a Fa) (hy:y.length<=1000)
  (hd:evalEach [.Constant (.str y) j p2] X.env=[eval (.Constant (.str y) j p2) X.env]:=by rfl):SE C X (.JoinedStr [.FormattedValue a (-1) none p1,.Constant (.str y) j p2] pos) (fS Fa):=by
 rintro pins s σ H Q I ⟨ρ,⟨H0,r⟩,q⟩
 refine JoinedStr_many (joinParts_cons (FormattedValue_plain ?_))
 unfold fS at q
 cases e:Fa ρ with
 | exc c=>rw [e] at q;exact q.elim
 | bad=>rw [e] at q;exact q.elim
 | val d =>
  rw [e] at q
  cases d with
  | int i =>
   dsimp only at q
   by_cases hi:i.natAbs < 10 ^ 40
   ·rw [if_pos hi] at q
    refine thn (ha pins s σ H (fun v H1=>Same H H1/\v=.int i) I ⟨ρ,⟨H0,r⟩,?_⟩) fun u s1 ⟨v,H1,I1,rv,s1',ev⟩=>?_
    ·rw [e]
     exact fun v H1 s1 h1=>⟨s1,h1.int⟩
    ·subst ev
     obtain ⟨t,rfl⟩:=(show ∃ t,u=Value.int i t from rv)
     have hlen:=int_text_length_le10 (k:=40) (by decide) hi
     refine formatField_int_small (AW hi) ⟨?_,?_⟩
     ·have e0:(Str.empty ++ (toString i:Str)).length=(Str.ofString (toString i)).length:=by
       rw [strLen_append];exact Nat.zero_add _
      rw [e0,PySem.ofString_length,sizeLine_eq];omega
     ·refine joinParts_cons ?_
      show wpAny _ _ (eval (.Constant (.str y) j p2) X.env) _ _ _
      refine Calls.Constant_str ⟨?_,?_⟩
      ·rw [strLen_append,strLen_append]
       have e0:(Str.empty:Str).length=0:=rfl
       have e1:(toString i:Str).length=(toString i).length:=PySem.ofString_length _
       rw [e0,e1,sizeLine_eq];omega
      ·show wpAny _ _ (joinParts _ []) _ _ _
       refine joinParts_nil ⟨.str _,H1,(I1.tok _),⟨_,rfl⟩,q _ H1 s1'⟩ ?_
       rw [strLen_append,strLen_append]
       have e0:(Str.empty:Str).length=0:=rfl
       have e1:(toString i:Str).length=(toString i).length:=PySem.ofString_length _
       rw [e0,e1,sizeLine_eq];omega
   ·rw [if_neg hi] at q;exact q.elim
  | _=>exact q.elim
abbrev veM:List Value:=[.type "ValueError",.type "Exception",.type "BaseException",.type "object"]
def XC (K:Frag) (mg:Str->Option Value) (c:Nat):Prop:=∃ Cc,mg (exN c)=some (.ref Cc)/\excIn K Cc veM "ValueError.__new__"=true
theorem vq {K:Frag} {h:Heap} {Cc:Addr} {bmB:List Value} {newId:String} (X:K.In h) (q:excIn K Cc bmB newId=true) :
  ∃ bm N nm qn bs hd sn sub ab col dd k0 k1 k2 k3 k5 mN,h.get? Cc=some (excClassObj nm qn Cc N bs bm hd sn sub ab col dd k0 k1 k2 k3 k5 newId)/\h.Ns N mN/\mN "__init__"=none/\OwnTail h bmB bm:=by
 unfold excIn at q
 cases ho:K.lookup Cc with
 | none=>rw [ho] at q;cases q
 | some o =>
  rw [ho] at q
  split at q
  ·rename_i dd cd sl eo
   cases eo
   split at q
   ·rename_i C1 bm k0 k1 k2 k3 n1 k5 em es
    rw [Bool.and_eq_true,Bool.and_eq_true,Bool.and_eq_true,Bool.and_eq_true,Bool.and_eq_true] at q
    obtain ⟨⟨⟨⟨⟨q1,q2⟩,q3⟩,q4⟩,q5⟩,q6⟩:=q
    obtain rfl:=beq_iff_eq.mp q1
    obtain rfl:=beq_iff_eq.mp q2
    have hdel:cd.hasDel=false:=by simpa using q3
    clear q3
    cases cd with
    | mk nm bs mro ns qn hd sn sub ab col del =>
     dsimp only at em hdel q5 q6
     subst em
     subst hdel
     obtain ⟨sl⟩:=sl
     dsimp only at es
     subst es
     exact ⟨bm,ns,nm,qn,bs,hd,sn,sub,ab,col,dd,k0,k1,k2,k3,k5,_,X _ _ ho,.of_isNs (PySem.W.isNs_of_in X q5),PySem.W.nsMap_none_of_in X q5 (beq_iff_eq.mp q6),PySem.W.tail_of_in X q4⟩
   ·cases q
  ·cases q
def rse (c:Nat) (F:Rho->R Unit):Rho->R Out:=fun ρ=>match F ρ with
 | .val _=>.exc c
 | _=>.bad
theorem kl {c:Nat} {x:Str} {np cpos pos:Pos} {e:Expr} {F:Rho->R Unit} (hX:XC X.K X.mg c) (hx:x=exN c) (hc:X.calm=true) (hex:X.ex=[]) (hg:Gl X x) (he:SE C X e F) (hst:starEach [e] X.env=(false,eval e X.env) :: starEach [] X.env) (hdb:(x == ("__debug__":Str))=false:=by decide) :
  SD C X (.Raise (some (.Call (.Name x np) [e] [] cpos)) none pos) (rse c F):=by
 subst hx
 obtain ⟨Cc,hm,hq⟩:=hX
 rintro pins s σ H Dn I ⟨_,H0,⟨ρ,rfl,r⟩,q⟩
 obtain ⟨bm,N,nm,qn,bs,hd,sn,sub,ab,col,dd,k0,k1,k2,k3,k5,mN,hC,hN,hni,T⟩:=vq I.mod.kin hq
 have kb:∀ {s2:Shared} {H2:Hp},Inv X pins σ H2 s2->∀ b o,X.base.get? b=some o->s2.heap.get? b=some o:=fun I2=>I2.bk
 unfold rse at q
 cases eF:F ρ with
 | exc c'=>rw [eF] at q;exact q.elim
 | bad=>rw [eF] at q;exact q.elim
 | val u =>
  rw [eF] at q
  refine wpAny_Raise_call_subT (C:=Cc) (nm:=nm) (q:=qn) (N:=N) (bs:=bs) (bm:=bm) (hdct:=hd) (sn:=sn) (sub:=sub) (ab:=ab) (col:=col) (dd:=dd) (k0:=k0) (k1:=k1) (k2:=k2) (k3:=k3) (k5:=k5)
   PySem.F.excBase_ValueError (mN:=mN) (T.hasType PySem.F.excBase_ValueError.hasBase) (I.ok.hd hc) (by rw [hst];rfl) hni (gE I hg hm ⟨rfl,?_⟩ hdb)
  have hp:=(cS he er hst) cpos pins s σ H (fun vs H1=>Same H H1/\vs.length=1) I ⟨ρ,⟨H0,r⟩,by rw [eF];exact fun y H' s'=>⟨s',rfl⟩⟩
  rw [hst] at hp ⊢
  refine Calls.evalArgs_plain (thn hp fun us s2 zz0=>?_)
  obtain ⟨vs,H1,I2,rv,s1',hl⟩:=zz0
  refine ⟨rfl,by show us.length<=sizeLine;rw [<- rv.length,hl];decide,I2.bk _ _ hC,hN.keeps I2.bk,T.keeps I2.bk,fun h' ea made=>?_⟩
  obtain ⟨t,g1,g2,g3⟩:=made.there
  have I3:Inv X pins σ H1 { s2 with heap:=h' }:=I2.kept (t':=s2.toks) made.keeps
  refine q pins σ H1 (.ref ea) _ I3 ((r.keep.trans msk_sub).trans s1') ⟨ea,Cc,[ea],rfl,hm,⟨List.mem_singleton.mpr rfl,⟨_,_,g1,rfl,rfl,rfl,by show 1 < 6;decide,.inl rfl⟩,fun b hb=>?_⟩,fun b hb=>?_⟩
  ·rw [List.mem_singleton.mp hb];exact ⟨_,_,g1,rfl⟩
  ·rw [List.mem_singleton.mp hb];exact nX I2 hex made.new
end
structure XF (K:Frag) (Cc:Addr):Prop where
 ex:excIn K Cc veM "ValueError.__new__"=true
 ga:findIn K (.ref Cc) "__getattribute__"=some (some (.builtin "BaseException.__getattribute__"))
 gn:findIn K (.ref Cc) "__getattr__"=some none
 ca:findIn K (.ref Cc) "__class__"=some (some (.builtin "object.__class__"))
 cn:PySem.W.specialIn K (.builtin "object.__class__") "__get__"=some (some (.builtin "getset_descriptor.__get__"))
 ct:PySem.W.takesIn K (.builtin "object.__class__")=some true
 mo:mroIn K Cc (.type "object")=some true
theorem XF.cls {K:Frag} {Cc:Addr} (F:XF K Cc):(PySem.W.clsIn K Cc).isSome=true:=by
 have q:=F.ex
 unfold excIn at q
 unfold PySem.W.clsIn
 split at q
 ·rename_i ho;rw [ho];rfl
 ·cases q
theorem XF.find {K:Frag} {Cc:Addr} (F:XF K Cc):PySem.W.findObj K Cc none "__class__"=some (.bind (.builtin "getset_descriptor.__get__") (.builtin "object.__class__")):=by
 obtain ⟨cd,hc⟩:=Option.isSome_iff_exists.mp F.cls
 unfold PySem.W.findObj
 rw [hc,Option.bind_some,F.ca,Option.bind_some]
 simp [F.cn,F.ct]
section
variable {prog:Program} {w:World} {A:Around} {E:Value->Shared->Prop} {K:Frag} {h:Heap} {g:Array GenState} {d:Drawn} {t:Nat} {os:OsState} {x Cc:Addr} {ox:Obj}
open PySem.W in
theorem CO {tk:Tok} {R:Result->Shared->Prop} (F:XF K Cc) (X:K.In h) (I:InstAt h x ox Cc none) (hq:R (.ok (.ret (.ref Cc))) ⟨h,g,d,t,os⟩) :
  codeAny (model prog w) A (.call (.builtin "BaseException.__getattribute__") ⟨[.ref x,.str "__class__" tk],[]⟩) R ⟨h,g,d,t,os⟩:=by
 obtain ⟨bm,N,nm,qn,bs,hd,sn,sub,ab,col,dd,k0,k1,k2,k3,k5,mN,hC,hN,hni,T⟩:=vq X F.ex
 have hcB:(Value.ref Cc :: bm).contains (.type "BaseException")=true:=by rw [List.contains_cons,T.hasType PySem.F.excBase_ValueError.hasBase];rfl
 have hx:=I.at_
 have hc:=I.cls
 have L0:=I.type (M:=model prog w)
 have L1:=looks_find (M:=model prog w) X I F.find
 refine codeAny_call_builtin PySem.F.attr_ValueError.ga.plain PySem.F.entry_bexc_ga ?_
 have hk:builtinKind "BaseException.__getattribute__"=some .slot:=by decide +kernel
 have hsplit:splitId "BaseException.__getattribute__"=some ("BaseException","__getattribute__"):=by decide +kernel
 have ha:=PySem.F.args_bexc_ga (.ref x) (.str "__class__" tk)
 have step:∀ (A':Around) (E':Value->Shared->Prop) (Q:Unit->Shared->Prop),Q () ⟨h,g,d,t,os⟩->wpAny (model prog w) A' (checkBuiltinCall "BaseException.__getattribute__" ⟨[.ref x,.str "__class__" tk],[]⟩) Q E' ⟨h,g,d,t,os⟩:=fun A' E' Q q=>by
  simp only [checkBuiltinCall,hk,hsplit]
  refine wpAny_bind ?_
  unfold isInstance
  repeat (first | (with_reducible refine wpAny_loadPart_at hx ?_;rw [hc]) | (with_reducible refine wpAny_isSubtype_exc hC ?_;rw [hcB]) | wp_step)
  exact q
 refine step _ _ _ ?_
 unfold Builtin.«object.__getattribute__»
 repeat (any_goals (first | assumption | with_reducible refine L0.at ?_ | with_reducible refine L1.at ?_ | wp_step))
 refine class_get X I F.mo ?_
 repeat (any_goals (first | assumption | wp_step))
open PySem.W in
theorem wy {s:Shared} {Q:Option Value->Shared->Prop} (F:XF K Cc) (X:K.In s.heap) (I:InstAt s.heap x ox Cc none) (hq:Q (some (.ref Cc)) { s with toks:=s.toks + 1 }):wpAny (model prog w) A (getAttr? (.ref x) "__class__") Q E s:=by
 obtain ⟨h,g,d,t,os⟩:=s
 have L0:=I.type (M:=model prog w)
 have L1:=looks_findIn (M:=model prog w) X F.ga
 have L2:=looks_findIn (M:=model prog w) X F.gn
 have f3:=PySem.F.attr_ValueError.ga.bind (.ref x)
 have hx2:(Value.builtin "BaseException.__getattribute__" == Value.builtin "object.__getattribute__")=false:=by decide +kernel
 have hx1:(onTheHeap (Value.ref Cc) && Value.builtin "BaseException.__getattribute__" == Value.builtin "object.__getattribute__")=false:=by rw [hx2];rfl
 unfold getAttr? getAttrBy?
 repeat (any_goals (first | assumption | with_reducible refine L0.at ?_ | with_reducible refine L1.at ?_ | with_reducible refine L2.at ?_ | wp_step))
 refine CO F X I ?_
 show wpAny _ _ (handedOut (.ref Cc)) _ _ _
 exact handed_on rfl (wpAny_pure hq)
open PySem.W in
theorem sh (F : XF K Cc) : KitX K (.ref x) (.ref Cc) (fun h => ∃ ox, InstAt h x ox Cc none) where
  ty := fun _ _ _ yy0 => by
   obtain ⟨ox, I⟩ := yy0
   exact I.type
  it := fun M h X _ => by
    obtain ⟨cd, hc⟩ := Option.isSome_iff_exists.mp F.cls
    unfold clsIn at hc
    split at hc
    · rename_i ho
      intro A' Q' E' s' k q
      unfold isType loadHead
      exact wpAny_bind (wpAny_loadPart (k _ _ (X _ _ ho)) (wpAny_pure q))
    · cases hc
  ne := fun h tp dd its n sl X htp => by
    obtain ⟨cd, hc⟩ := Option.isSome_iff_exists.mp F.cls
    refine Bool.eq_false_iff.mpr fun q => ?_
    have e : Cc = tp := Value.ref.inj (beq_iff_eq.mp q)
    subst e
    unfold clsIn at hc
    split at hc
    · rename_i ho
      have z := (X _ _ ho).symm.trans htp
      cases z
    · cases hc
  ca := fun X ⟨ox, I⟩ k => wy F X I k
end
structure ux (K:Frag) (mg:Str->Option Value) (S:List Nat):Prop where
 cls:∀ k,k < 7->∃ Ck,nsIn K mainGlobals (exN k)=some (some (.ref Ck))/\mg (exN k)=some (.ref Ck)
 xf:∀ c ∈ S,∀ Cc,nsIn K mainGlobals (exN c)=some (some (.ref Cc))->XF K Cc
 kit:∀ c ∈ S,∀ k,k < 7->∀ Cc Ck,nsIn K mainGlobals (exN c)=some (some (.ref Cc))->nsIn K mainGlobals (exN k)=some (some (.ref Ck))->kitOne K (.ref Cc) (.ref Ck)=some (decide (c=k))
 kve:∀ c ∈ S,∀ Cc,nsIn K mainGlobals (exN c)=some (some (.ref Cc))->kitOne K (.ref Cc) (.type "ValueError")=some true
section
variable {C:Addr} {X:Cx}
theorem ss {pins:List (Addr × Obj)} {σ:St} {H:Hp} {s:Shared} (I:Inv X pins σ H s) {S:List Nat} (XA:ux X.K X.mg S) {a:Addr} {c:Nat} (hc:c ∈ S) (e:H a=some (.ext (exP X.K c a))) :
  ∃ Cc,nsIn X.K mainGlobals (exN c)=some (some (.ref Cc))/\XF X.K Cc/\∃ ox,InstAt s.heap a ox Cc none:=by
 obtain ⟨⟨ox,Cc,h1,h2,h3,⟨vs,h4⟩,h5⟩,_⟩:=I.hok a _ e
 refine ⟨Cc,h5,XA.xf c hc Cc h5,ox,h1,h2,?_,by rw [h3];trivial⟩
 unfold PySem.W.notCls
 rw [h4]
def Ev (K:Frag) (S:List Nat) (k:Nat):List V->Hp->VK->Prop:=fun vs H Q=>∃ a c Ck,vs=[.ref a,.ref Ck]/\nsIn K mainGlobals (exN k)=some (some (.ref Ck))/\H a=some (.ext (exP K c a))/\c ∈ S/\Q (.bl (decide (c=k))) H
theorem yO {S:List Nat} {k:Nat} (XA:ux X.K X.mg S) (hk:k < 7):jO X (.builtin "isinstance") (Ev X.K S k):=by
 rintro pins s σ H xs us Q I r ⟨a,c,Ck,rfl,hCk,e,hc,q⟩
 cases r with
 | cons r1 r=>cases r with
  | cons r2 r =>
   cases r
   obtain rfl:=(show _=Value.ref Ck from r2)
   obtain rfl:=(show _=Value.ref a from r1)
   obtain ⟨Cc,hCc,F,ox,J⟩:=ss I XA hc e
   exact PySem.W.kia_one (sh F) I.kIn ⟨ox,J⟩ (XA.kit c hc k hk Cc Ck hCc hCk) (fun z=>nomatch z) fun tk=>⟨.bl _,H,I.tok _,rfl,q⟩
def oY (S:List Nat) (k:Nat):D->R D
 | .exn c=>if c ∈ S then .val (.bl (decide (c=k))) else .bad
 | _=>.bad
theorem j4 {S:List Nat} {k:Nat} {e:Expr} {x:Str} {p p2 pos:Pos} {F:Rho->R D} (XA:ux X.K X.mg S) (hk:k < 7) (hxk:x=exN k) (hg:Gl X "isinstance") (hm:X.mg "isinstance"=none) (hgx:Gl X x) (he:EB C X e F) (hst:starEach [e,.Name x p2] X.env=(false,eval e X.env) :: starEach [.Name x p2] X.env)
  (hdb:(x == ("__debug__":Str))=false:=by decide):ED C X (.Call (.Name "isinstance" p) [e,.Name x p2] [] pos) (una (oY S k) F):=by
 subst hxk
 obtain ⟨Ck,hCk,hmk⟩:=XA.cls k hk
 refine aX (fx (yO XA hk) hg hm boot_isinstance (cS he (cS (uX (v:=.ref Ck) hgx hmk rfl hdb) er ac) hst) (he:=hst) (hpl:=ar ac ax)) fun σ H Q ⟨ρ,r0,q⟩=>⟨ρ,r0,aY (P:=fun z H=>pV X (dZ C X ρ σ) z σ H Q) (fun _ h=>h) (fun h=>h) q fun y v H1 s1 h1 q1=>?_⟩
 cases y with
 | exn c =>
  cases h1 with
  | cl h1 =>
   cases h1 with
   | exn e1 =>
    by_cases hc:c ∈ S
    ·unfold oY at q1
     dsimp only at q1
     rw [if_pos hc] at q1
     exact ⟨_,c,Ck,rfl,hCk,msk_sub _ _ e1,hc,q1 _ H1 s1 (.bl _)⟩
    ·unfold oY at q1
     dsimp only at q1
     rw [if_neg hc] at q1
     exact q1.elim
 | _=>exact q1.elim
theorem BY {e:Expr} {T:Str} {T':String} {p p2 pos:Pos} {te:TE} (hg:Gl X "isinstance") (hm:X.mg "isinstance"=none) (hgT:Gl X T) (hmT:X.mg T=none) (hbT:bootBuiltins T=some (.type T')) (he:PE X e te) (hst:starEach [e,.Name T p2] X.env=(false,eval e X.env) :: starEach [.Name T p2] X.env)
  (hn:T ≠ "__name__":=by decide) (hdb:(T == ("__debug__":Str))=false:=by decide) :
  PE X (.Call (.Name "isinstance" p) [e,.Name T p2] [] pos) (fun σ H Q=>te σ H fun v H1=>∃ b,(∀ (pins:List (Addr × Obj)) (s:Shared) (u:Value) (Q':Value->Shared->Prop) (E':Value->Shared->Prop),Inv X pins σ H1 s->RelV v u->(∀ tk,Q' (.bool b) { s with toks:=tk })->wpAny (model X.prog X.w) X.A (call (.builtin "isinstance") [u,.type T']) Q' E' s)/\Q (.bl b) H1):=by
 intro pins s σ H Q I h
 refine wpAny_Call_Name_kw (jV I hg hm boot_isinstance ?_)
 refine PyProof.Rows.callWith_builtin1 ?_ hst (ar ac ax)
 rw [hst]
 refine Calls.spliced_cons (thn (he pins s σ H _ I h) fun u s1 zz0=>?_)
 obtain ⟨v,H1,I1,rv,b,hb,q⟩:=zz0
 rw [ac]
 refine Calls.spliced_cons (jV I1 hgT hmT hbT ?_ hn hdb)
 refine Calls.spliced_nil ?_
 exact hb pins s1 u _ _ I1 rv fun tk=>⟨.bl b,H1,I1.tok _,rfl,q⟩
def Ao (S:List Nat):D->R D
 | .exn c=>if c ∈ S then .val (.bl true) else .bad
 | _=>.bad
theorem CW {S : List Nat} {e : Expr} {p p2 pos : Pos} {F : Rho -> R D} (XA : ux X.K X.mg S) (hg : Gl X "isinstance") (hm : X.mg "isinstance" = none) (hgT : Gl X "ValueError") (hmT : X.mg "ValueError" = none) (hbT : bootBuiltins "ValueError" = some (.type "ValueError")) (he : EB C X e F) (hst : starEach [e, .Name "ValueError" p2] X.env = (false, eval e X.env) :: starEach [.Name "ValueError" p2] X.env) :
    ED C X (.Call (.Name "isinstance" p) [e, .Name "ValueError" p2] [] pos) (una (Ao S) F) :=
  aX (BY hg hm hgT hmT hbT he hst) fun σ H Q yy1 => by
   obtain ⟨ρ, r0, q⟩ := yy1
   exact ⟨ρ, r0, aY (P := fun z H => pV X (dZ C X ρ σ) z σ H Q) (fun _ h => h) (fun h => h) q fun y v H1 s1 h1 q1 => by
    cases y with
    | exn c =>
      cases h1 with
      | cl h1 =>
        cases h1 with
        | @exn a _ e1 =>
          by_cases hc : c ∈ S
          · unfold Ao at q1
            dsimp only at q1
            rw [if_pos hc] at q1
            refine ⟨true, fun pins s u Q' E' I rv hQ => ?_, q1 _ H1 s1 (.bl true)⟩
            obtain rfl := (show u = Value.ref a from rv)
            obtain ⟨Cc, hCc, F, ox, J⟩ := ss I XA hc (msk_sub _ _ e1)
            exact PySem.W.kia_one (sh F) I.kIn ⟨ox, J⟩ (XA.kve c hc Cc hCc) (fun z => nomatch z) hQ
          · unfold Ao at q1
            dsimp only at q1
            rw [if_neg hc] at q1
            exact q1.elim
    | _ => exact q1.elim⟩
def gR:List D->Option (List Bool)
 | []=>some []
 | .bl b :: r=>(gR r).map (b :: ·)
 | _=>none
theorem iu {K:Frag} {M:Hp}:∀ {xs:List D} {l:List Bool} {vs:List V},gR xs=some l->HasL K C M vs xs->vs=l.map V.bl
 | [],l,vs,e,h=>by cases e;cases h;rfl
 | x :: r,l,vs,e,h=>by
  cases x with
  | bl i =>
   rw [gR] at e
   cases z:gR r with
   | none=>rw [z] at e;cases e
   | some l' =>
    rw [z] at e;cases e
    cases h with
    | cons a b=>cases a;rw [iu z b];rfl
  | _=>cases e
theorem h_:∀ {bs:List Bool} {us:List Value},Vals (bs.map V.bl) us->us=bs.map Value.bool
 | [],_,.nil=>rfl
 | b :: bs,_,.cons r t=>by rw [h_ t];cases (show _=Value.bool b from r);rfl
def isT:Value->Bool
 | .bool b=>b
 | _=>false
theorem vx {pins:List (Addr × Obj)} {σ:St} {H:Hp} {s:Shared} (I:Inv X pins σ H s) {A:Around} (hu:A.units < cLine) {bs:List Bool}:∀ y,y ∈ (bs.map Value.bool).toArray->SeqAt.EqAt A s y (.bool true) (isT y):=fun y hy=>by
 have hy:y ∈ bs.map Value.bool:=by simpa using hy
 obtain ⟨b,_,rfl⟩:=List.mem_map.mp hy
 have:=(yz (C:=(0:Addr)) I 0 (A:=A) (x:=.bl b) (y:=.bl true) (v:=.bl b) (w:=.bl true) (u:=.bool b) (t:=.bool true) (by omega) rfl rfl (.bl b) (.bl true) rfl rfl).2
 have e:pyq 0 (.bl b) (.bl true)=isT (.bool b):=by cases b <;> rfl
 rw [e] at this
 exact this
def DB:V->List V->Hp->VK->Prop:=fun x vs H Q=>∃ (l:Addr) (bs:List Bool),x=.ref l/\vs=[.bl true]/\H l=some (.lst (bs.map V.bl))/\Q (.int ((bs.countP id:Nat):Int)) H
theorem rV (hu:X.A.units + 9 < cLine):MtM X "list.count" DB:=by
 intro pins s σ H x vs v us Q I rx rv h
 obtain ⟨l,bs,rfl,rfl,hH,q⟩:=h
 cases rx
 obtain ⟨u1,rfl,r1⟩:=rv.one
 cases (show u1=Value.bool true from r1)
 obtain ⟨z,its,n,r,hl,e⟩:=I.lstM hH
 have ei:=h_ r
 subst ei
 refine call_meets PySem.F.slot_list_count ⟨_,e,rfl⟩ PySem.F.entry_list_count (PySem.F.args_list_count_2 _ _) (SeqAt.list_countAt l _ n none #[] (.bool true) isT) ⟨e,vx I ?_,?_⟩
 ·have:X.A.in1.in1.units=X.A.units + 2:=rfl
  first | omega | (show X.A.units + 1 + 1 < cLine;omega) | (show X.A.units + 1 < cLine;omega)
 ·refine ⟨.int _,H,I.tok _,⟨_,rfl⟩,?_⟩
  have:List.countP isT (bs.map Value.bool)=bs.countP id:=by rw [List.countP_map];rfl
  simp only [this]
  exact q
def DA:V->List V->Hp->VK->Prop:=fun x vs H Q=>∃ (l:Addr) (bs:List Bool) (j:Nat),x=.ref l/\vs=[.bl true]/\H l=some (.lst (bs.map V.bl))/\bs.length<=1000/\bs.findIdx? id=some j/\Q (.int (j:Int)) H
theorem rT (hu:X.A.units + 9 < cLine):MtM X "list.index" DA:=by
 intro pins s σ H x vs v us Q I rx rv h
 obtain ⟨l,bs,j,rfl,rfl,hH,hlen,hj,q⟩:=h
 cases rx
 obtain ⟨u1,rfl,r1⟩:=rv.one
 cases (show u1=Value.bool true from r1)
 obtain ⟨z,its,n,r,hl,e⟩:=I.lstM hH
 have ei:=h_ r
 subst ei
 obtain ⟨hjl,hjt,hjn⟩:=List.findIdx?_eq_some_iff_getElem.mp hj
 refine call_meets PySem.F.slot_list_index ⟨_,e,rfl⟩ PySem.F.entry_list_index (PySem.F.args_list_index_2 _ _) (SeqAt.list_indexAt l _ n none #[] (.bool true) isT j (by simpa using hjl) (by omega) (by simpa [isT] using hjt) (fun m hm hlt=>by
  have:=hjn m hlt
  simpa [isT] using this)) ⟨e,vx I ?_,?_⟩
 ·first | omega | (show X.A.units + 1 + 1 < cLine;omega) | (show X.A.units + 1 < cLine;omega)
 ·exact ⟨.int _,H,I.tok _,⟨_,rfl⟩,q⟩
def C7:D->R D
 | .lst xs=>match gR xs with
  | some bs=>.val (.int ((bs.countP id:Nat):Int))
  | none=>.bad
 | _=>.bad
def CB:D->R D
 | .lst xs=>match gR xs with
  | some bs=>if bs.length<=1000 then match bs.findIdx? id with
   | some j=>.val (.int (j:Int))
   | none=>.bad
   else .bad
  | none=>.bad
 | _=>.bad
theorem AE {o : Expr} {ap cp p : Pos} {j : Nat} {F : Rho -> R D} (hu : X.A.units + 9 < cLine) (ho : EB C X o F)
    (hs : ∀ {to : TE} {t : TA}, PE X o to -> PA X [.Constant (.bool true) j p] t -> PE X (.Call (.Attribute o "count" ap) [.Constant (.bool true) j p] [] cp) (tBM X.K "list" DB to t) := by
      exact fun ho ha => pq PySem.F.plainAttrs_list PySem.F.slot_list_count PySem.F.type_list_count (rV (by assumption)) ho ha) :
    ED C X (.Call (.Attribute o "count" ap) [.Constant (.bool true) j p] [] cp) (una C7 F) :=
  aX (hs ho (cS uY er aj)) fun σ H Q yy2 => by
   obtain ⟨ρ, r0, q⟩ := yy2
   exact ⟨ρ, r0, aY (P := fun z H => pV X (dZ C X ρ σ) z σ H Q) (fun _ h => h) (fun h => h) q fun y v H1 s1 h1 q1 => by
    cases y with
    | lst xs =>
      unfold C7 at q1
      dsimp only at q1
      split at q1
      · rename_i bs eb
        obtain ⟨a, vs, rfl, e1, h2⟩ := h1.lst msk_sub
        obtain rfl := iu eb h2
        exact ⟨.inl ⟨rfl, _, SqL.of e1⟩, a, bs, rfl, rfl, e1, q1 _ H1 s1 (.int _)⟩
      · exact q1.elim
    | _ => exact q1.elim⟩
theorem AB {o : Expr} {ap cp p : Pos} {j : Nat} {F : Rho -> R D} (hu : X.A.units + 9 < cLine) (ho : EB C X o F)
    (hs : ∀ {to : TE} {t : TA}, PE X o to -> PA X [.Constant (.bool true) j p] t -> PE X (.Call (.Attribute o "index" ap) [.Constant (.bool true) j p] [] cp) (tBM X.K "list" DA to t) := by
      exact fun ho ha => pq PySem.F.plainAttrs_list PySem.F.slot_list_index PySem.F.type_list_index (rT (by assumption)) ho ha) :
    ED C X (.Call (.Attribute o "index" ap) [.Constant (.bool true) j p] [] cp) (una CB F) :=
  aX (hs ho (cS uY er aj)) fun σ H Q yy3 => by
   obtain ⟨ρ, r0, q⟩ := yy3
   exact ⟨ρ, r0, aY (P := fun z H => pV X (dZ C X ρ σ) z σ H Q) (fun _ h => h) (fun h => h) q fun y v H1 s1 h1 q1 => by
    cases y with
    | lst xs =>
      unfold CB at q1
      dsimp only at q1
      split at q1
      · rename_i bs eb
        by_cases hl : bs.length <= 1000
        · rw [if_pos hl] at q1
          split at q1
          · rename_i jj ej
            obtain ⟨a, vs, rfl, e1, h2⟩ := h1.lst msk_sub
            obtain rfl := iu eb h2
            exact ⟨.inl ⟨rfl, _, SqL.of e1⟩, a, bs, jj, rfl, rfl, e1, hl, ej, q1 _ H1 s1 (.int _)⟩
          · exact q1.elim
        · rw [if_neg hl] at q1; exact q1.elim
      · exact q1.elim
    | _ => exact q1.elim⟩
end
def reX (X:Cx) (A:Around) (cm:Bool) (pn:List (Addr × Obj)) (xe:Value->Shared->Prop):Cx:={ X with A:=A,calm:=cm,pn:=pn,xe:=xe }
section
variable {X:Cx} {pins pins':List (Addr × Obj)} {σ:St} {H:Hp} {s:Shared} {A:Around} {cm:Bool} {xe:Value->Shared->Prop}
theorem _root_.L2.Inv.re (I:Inv X pins σ H s) (hf:A.frames=X.A.frames) (hh:cm=true->A.handled=none):Inv (reX X A cm (X.pn ++ pins) xe) [] σ H s :=
 ⟨⟨I.ok.mod,I.ok.kind,I.ok.glob,I.ok.blt,I.ok.above,I.ok.inj,I.ok.has,I.ok.cab,hh,hf.trans I.ok.frames,I.ok.stk,I.ok.exf,I.ok.bs,I.ok.bsz,I.ok.noex,I.ok.exfs,I.ok.funs,I.ok.frf⟩,I.os,I.bare,I.base,I.loc,I.cell,I.free,I.freeC,fun p hp=>I.pin p (by have hp:p ∈ (X.pn ++ pins) ++ []:=hp;rw [List.append_nil] at hp;exact hp),I.hok,I.len⟩
theorem _root_.L2.Inv.unre (ok:X.Ok) (J:Inv (reX X A cm (X.pn ++ pins) xe) pins' σ H s):Inv X pins σ H s :=
 ⟨ok,J.os,J.bare,J.base,J.loc,J.cell,J.free,J.freeC,fun p hp=>J.pin p (List.mem_append_left _ hp),J.hok,J.len⟩
theorem _root_.L2.Inv.goes {i:Nat} {x:Str} {h':Heap} {v:Option Value} {m:Str->Option Value} {t':Nat} (I:Inv X pins σ H s) (hN:X.N.Nodup) (hi:X.N[i]?=some x) (hn:s.heap.Ns X.env.locals m) (hn':h'.Ns X.env.locals (fun y=>if y=x then v else m y)) (hs:Heap.SameBut X.env.locals s.heap h') :
  Inv X pins (σ.set i none) H { s with heap:=h',toks:=t' }:=by
 have oth:∀ b,b ≠ X.env.locals->h'.get? b=s.heap.get? b:=fun b hb=>hs.2 b hb
 have neL:∀ b o,X.s₀.heap.get? b=some o->b ≠ X.env.locals:=fun b o e=>Nat.ne_of_lt (Nat.lt_of_lt_of_le (Heap.lt_size e) I.ok.above)
 obtain ⟨m0,hn0,hl⟩:=I.loc
 have em:m0=m:=by
  obtain ⟨o,es,ep,ho,hd,_,hf⟩:=hn0
  obtain ⟨o',es',ep',ho',hd',_,hf'⟩:=hn
  rw [ho] at ho';cases ho'
  rw [hd] at hd';cases hd'
  funext y
  rw [<- hf y,<- hf' y]
 subst em
 refine ⟨I.ok,I.os,I.bare,⟨fun b o e n hb hx=>?_,fun b o e n hb hx=>?_,I.base.free,fun b o e hx=>?_,I.base.tups,I.base.frzs,I.base.tbls⟩,⟨_,hn',fun j y v' e1 e2 e3=>?_⟩,fun y c e=>?_,I.free,I.freeC,fun p hp=>?_,fun b ob e=>?_,by simpa using I.len⟩
 ·exact (oth b (neL b o e)).trans (I.base.keep b o e n hb hx)
 ·obtain ⟨sl,q⟩:=I.base.slot b o e n hb hx
  exact ⟨sl,(oth b (neL b o e)).trans q⟩
 ·obtain ⟨o',q⟩:=I.base.there b o e hx
  exact ⟨o',(oth b (neL b o e)).trans q⟩
 ·have hj:i ≠ j:=fun z=>by
   subst z
   rw [List.getElem?_set] at e2
   simp only [if_true] at e2
   split at e2 <;> cases e2
  rw [List.getElem?_set_ne hj] at e2
  obtain ⟨u',r',q⟩:=hl j y v' e1 e2 e3
  refine ⟨u',r',?_⟩
  rcases q with ⟨k,e⟩ | ⟨k,c,e,z⟩
  ·refine .inl ⟨k,?_⟩
   have:y ≠ x:=fun e=>hj (nq hN hi (e ▸ e1))
   simp [this,e]
  ·exact .inr ⟨k,c,e,z.sameBut hs (I.cne y c e)⟩
 ·obtain ⟨w',z⟩:=I.cell y c e
  exact ⟨w',z.sameBut hs (I.cne y c e)⟩
 ·obtain ⟨e,n,ne,nf,d⟩:=I.pin p hp
  exact ⟨(oth p.1 ne).trans e,n,ne,nf,d⟩
 ·refine (I.hok b ob e).stay (fun c w' hc q=>(oth c fun z=>?_).trans q) (fun _ q=>q) fun _ _ q=>q
  rcases hc with hc | hc
  ·rw [<- hc,z,I.free] at e;cases e
  ·rw [z,I.free] at hc;cases hc
theorem _root_.L2.Inv.adopt {a:Addr} {o:HO} (I:Inv X pins σ H s) (f:sZ X pins H a) (ok:ObjOk X.prog X.w (upd H a o) s.heap a o):Inv X pins σ (upd H a o) s:=by
 obtain ⟨f1,f2,f3,f4,f5,f6⟩:=f
 have up:∀ b u,H b=some u->upd H a o b=some u:=fun b u e=>by rw [aO (fun z=>by rw [z,f1] at e;cases e)];exact e
 refine ⟨I.ok,I.os,I.bare,⟨I.base.keep,I.base.slot,fun b u e n hx=>?_,I.base.there,fun b xs e=>up _ _ (I.base.tups b xs e),fun b u w e=>up _ _ (I.base.frzs b u w e),fun b ps e=>?_⟩,I.loc,I.cell,?_,fun x c e=>?_,fun p hp=>?_,fun b u e=>?_,I.len⟩
 ·rw [aO (fun z=>by rw [z,f2] at e;cases e)];exact I.base.free b u e n hx
 ·obtain ⟨more,q⟩:=I.base.tbls b ps e
  exact ⟨more,up _ _ q⟩
 ·rw [aO f3.symm];exact I.free
 ·rw [aO (f5 x c e)];exact I.freeC x c e
 ·obtain ⟨q1,q2,q3⟩:=I.pin p hp
  exact ⟨q1,by rw [aO (f6 p hp)];exact q2,q3⟩
 ·by_cases hb:b=a
  ·subst hb
   rw [bp] at e;cases e
   exact ok
  ·rw [aO hb] at e
   exact (I.hok b u e).stay (fun c w' _ q=>q) (fun c q=>up _ _ q) fun c xs q=>up _ _ q
end
structure XB (K:Frag) (mg:Str->Option Value) (S:List Nat) (CA:Addr):Prop where
 nm:mg "ArrowError"=some (.ref CA)
 be:kitOne K (.ref CA) (.type "BaseException")=some true
 up:∀ c ∈ S,∀ Cc,nsIn K mainGlobals (exN c)=some (some (.ref Cc))->kitOne K (.ref Cc) (.ref CA)=some true/\Cc ≠ CA
open PySem.W in
theorem pD {K:Frag} {M:Model} {h:Heap} {t c:Value} {v:Bool} (X:K.In h) (e:kitOne K t c=some v) (ne:t ≠ c):Looks M h (typeOf c) (.type "type")/\Looks M h (isType c) true/\Looks M h (isSubtype t c) v:=by
 unfold kitOne at e
 rw [if_neg (fun z=>ne (beq_iff_eq.mp z))] at e
 exact kit_cls X e
theorem xQ {prog:Program} {w:World} {A:Around} {E:Value->Shared->Prop} {s:Shared} {K:Frag} {mg:Str->Option Value} {S:List Nat} {CA Cc e:Addr} {c:Nat} {Q:Bool->Shared->Prop} {ox:Obj} (X:K.In s.heap) (B:XB K mg S CA) (hc:c ∈ S) (hCc:nsIn K mainGlobals (exN c)=some (some (.ref Cc)))
  (I:InstAt s.heap e ox Cc none) (hq:Q true s):wpAny (model prog w) A (excMatches (.ref e) (.ref CA)) Q E s:=by
 obtain ⟨L1,L2,L3⟩:=pD (M:=model prog w) X (B.up c hc Cc hCc).1 (fun z=>(B.up c hc Cc hCc).2 (Value.ref.inj z))
 obtain ⟨L4,L5,L6⟩:=pD (M:=model prog w) X B.be (fun z=>by cases z)
 have L0:=I.type (M:=model prog w)
 have f:=tc_notTuple
 obtain ⟨h,g,d,t,os⟩:=s
 unfold excMatches isInstance isExcClass
 repeat (any_goals (first | assumption | with_reducible refine L0.at ?_ | with_reducible refine L1.at ?_ | with_reducible refine L2.at ?_ | with_reducible refine L3.at ?_ | with_reducible refine L6.at ?_ | wp_step))
structure RoomN (k:Nat) (A:Around):Prop where
 dp:A.depth + 3 * k + 5 < recursionLimit
 un:A.units + 16 * k + 200 < cLine
theorem RoomN.of {k:Nat} {A:Around} (r:Room k A):RoomN k A:=⟨r.dp,r.un⟩
theorem RoomN.mark {k:Nat} {A:Around} {h:Option Value} (r:RoomN k A):RoomN k (A.mark h):=⟨r.dp,r.un⟩
theorem RoomN.mono {j k:Nat} {A:Around} (r:RoomN k A) (h:j<=k):RoomN j A:=⟨by have:=r.dp;omega,by have:=r.un;omega⟩
theorem RoomN.deeper {k:Nat} {A:Around} (r:RoomN (k + 1) A) (env:Env):RoomN k (A.deeper env) :=
 ⟨by have:=r.dp;show A.depth + 1 + 3 * k + 5 < _;omega,by have:=r.un;show A.units + 3 + 16 * k + 200 < _;omega⟩
theorem m_ {k:Nat} {A:Around} (r:RoomN k A):A.units + 9 < cLine:=by have:=r.un;omega
def cxN (P:Program) (w:World) (K:Frag) (mg:Str->Option Value) (base:Heap) (N:List Str) (qual:Str) (scope:Scope) (f:Addr) (cd:Value) (A:Around) (outer:List Env) (s:Shared) (H:Hp):Cx :=
 {bS CX0 P w K mg base N qual scope f cd A outer s H E0 with calm:=false,xe:=fun _ _=>False }
structure Ea (P:Program) (w:World) (K:Frag) (mg:Str->Option Value) (base:Heap) (k:Nat) (f:Addr) (fd:FuncData) (ps:List Str) (sp:Sp):Prop where
 len:∀ vs H Q E,sp vs H Q E->vs.length=ps.length
 run:∀ (A:Around) (outer:List Env) (s:Shared) (H:Hp) (args:Args) (us:List Value) (vs:List V) (Q:VK) (E:XK),RoomN k A->Env0 P w K mg base A outer s H->BindsTo s fd args (ps.zip us)->Vals vs us->sp vs H Q E ->
  codeAny (model P w) A (.call (.ref f) args) (CR CX0 outer P w H s Q E) s
section
variable {P:Program} {w:World} {K:Frag} {mg:Str->Option Value} {base:Heap} {C:Addr}
theorem t8 {N ps:List Str} {qual:Str} {scope:Scope} {f:Addr} {cd:Value} {A:Around} {outer:List Env} {s s1:Shared} {H:Hp} {us:List Value} {vs:List V}
  (S:aH N ps scope) (e0:Env0 P w K mg base A outer s H) (hl:vs.length=ps.length) (r:Vals vs us)
  (x:InCallC s s.heap.objs.size (bindL (envOfC qual scope s.heap.objs.size f cd).kindOf (ps.zip us) fun _=>none) (cellsFrom (s.heap.objs.size + 1) scope.names []) (bindC (envOfC qual scope s.heap.objs.size f cd).kindOf (ps.zip us) fun _=>none) s1) :
  Inv (cxN P w K mg base N qual scope f cd A outer s H) [] (L2.start N vs) H s1:=by
 have e1:Env0 P w K mg base { A with handled:=none } outer s H:=⟨e0.frames,e0.mod,e0.bs,e0.bsz,e0.funs,e0.frf,e0.hok,e0.bare⟩
 have I:=pH (CX:=CX0) (E:=E0) S (show ({ A with handled:=none }:Around).handled=none from rfl) e1 hl r x
 exact ⟨⟨I.ok.mod,I.ok.kind,I.ok.glob,I.ok.blt,I.ok.above,I.ok.inj,I.ok.has,I.ok.cab,fun z=>(by cases z),Around.frames_deeper e0.frames,I.ok.stk,I.ok.exf,I.ok.bs,I.ok.bsz,I.ok.noex,I.ok.exfs,I.ok.funs,I.ok.frf⟩,I.os,I.bare,I.base,I.loc,I.cell,I.free,I.freeC,I.pin,I.hok,I.len⟩
theorem AI {x qual:Str} {st:Stmt} {f:Addr} {fd:FuncData} {N ps:List Str} {k:Nat} {den:Rho->R Out} (F:Fun K x qual st f fd) (S:aH N ps (ak st))
  (hb:∀ (cdv:Value) (A:Around) (outer:List Env) (s:Shared) (H:Hp),RoomN k (A.deeper (envOfC qual (ak st) s.heap.objs.size f cdv)) ->
   SDs C (cxN P w K mg base N qual (ak st) f cdv A outer s H) (aF st) den) :
  Ea P w K mg base (k + 1) f fd ps (spD K C ps.length fun ds=>fin (den (st0 N ds))):=by
 obtain ⟨oc,od,kV,doc,pm,an,cdv,ct,osl,rfl,lk,hcd⟩:=F.ex
 refine ⟨fun vs H Q E h=>h.1,fun A outer s H args us vs Q E hr e0 hbi r hsp=>?_⟩
 have hl:vs.length=ps.length:=hsp.1
 have KX:K.In s.heap:=e0.mod.kin.keeps fun b o e=>(e0.bs b o e).1
 have lim:s.heap.NoLimit:=e0.mod.nolimit.keeps fun b o e=>(e0.bs b o e).1
 have hkind:∀ y ∈ ps.zip us,(ak st).names.lookup y.1=some .local\/((ak st).names.lookup y.1=some .cell/\((cellsFrom (s.heap.objs.size + 1) (ak st).names []).lookup y.1).isSome=true):=fun ⟨n,v⟩ hy=>by
  rcases S.par n (List.of_mem_zip hy).1 with q | q
  ·exact .inl q
  ·exact .inr ⟨q,cellsFrom_some _ _ _ (.inl q)⟩
 refine codeAny_call_function (by have:=hr.dp;omega) (KX _ _ lk) rfl S.co S.gen rfl (PySem.W.codeRec_of KX hcd) (hbi _ _ _ _ ?_)
 refine wpAny_newFunctionEnv_cells S.kind hkind fun env he s1 x=>?_
 subst he
 refine ⟨lim.keeps x.toInCall.keep,codeAny_func ?_⟩
 have I:=t8 (cd:=cdv) S e0 hl r x
 have hq:tsD C (cxN P w K mg base N qual (ak st) f cdv A outer s H) den { nx:=fun _ H'=>Q .non H',rt:=Q } (L2.start N vs) H:=by
  obtain ⟨_,ds,h,q⟩:=hsp
  refine ⟨st0 N ds,H,kS h,?_⟩
  dsimp only at q
  cases e:den (st0 N ds) with
  | val o =>
   rw [e] at q
   cases o with
   | nx ρ'=>exact fun σ' H' ⟨_,_,r⟩=>q _ H' (r.keep.trans msk_sub) .non
   | rt d=>exact fun v H' s' h'=>q v H' s' h'
   | bk ρ'=>exact q.elim
   | ct ρ'=>exact q.elim
  | exc c=>rw [e] at q;exact q.elim
  | bad=>rw [e] at q;exact q.elim
 refine wpAny_mono (hb cdv A outer s H (hr.deeper _) [] s1 (L2.start N vs) H _ I hq) (fun fl s' hs=>?_) fun e s' hs=>hs.elim
 have fin:∀ {σ':St} {H':Hp} {v:V} {u:Value},Inv (cxN P w K mg base N qual (ak st) f cdv A outer s H) [] σ' H' s'->RelV v u->Q v H'->CE outer P w H s Q u s' :=
  fun {σ' H' v u} J rv q=>⟨v,H',J.os,J.bare,J.base,J.hok,rv,q⟩
 cases fl with
 | ret u =>
  obtain ⟨v,σ',H',J,rv,q⟩:=hs
  exact fin J rv q
 | next =>
  obtain ⟨σ',H',J,q⟩:=hs
  exact fin (v:=V.non) (u:=Value.none) J rfl q
 | brk =>
  obtain ⟨_,_,_,q⟩:=hs
  exact False.elim q
 | cont =>
  obtain ⟨_,_,_,q⟩:=hs
  exact False.elim q
end
def FnN (P:Program) (w:World) (K:Frag) (mg:Str->Option Value) (base:Heap) (C:Addr) (k:Nat) (x:Str) (n:Nat) (den:List D->R D):Prop :=
 ∃ f fd ps,Ea P w K mg base k f fd ps (spD K C n den)/\mg x=some (.ref f)/\keepIn K (.ref f)=true/\Binds K fd ps []
section
variable {C:Addr} {X:Cx}
theorem CY {k n:Nat} {den:List D->R D} {x:Str} {p pos:Pos} {e:Expr} {es:List Expr} {Fa:Rho->R (List D)} (F:FnN X.prog X.w X.K X.mg X.base C k x n den) (hr:RoomN k X.A) (hg:Gl X x) (ha:AD C X (e :: es) Fa)
  (hdb:(x == ("__debug__":Str))=false:=by decide) (he:starEach (e :: es) X.env=(false,eval e X.env) :: starEach es X.env:=by rfl) (hpl:(backTo pos (starEach es X.env)).any (·.1)=false:=by rfl) :
  ED C X (.Call (.Name x p) (e :: es) [] pos) (cal n den Fa):=by
 obtain ⟨f,fd,ps,hF,hm,hk,hb⟩:=F
 rintro pins s σ H Q I ⟨ρ,⟨H0,r0⟩,q⟩
 refine wpAny_Call_Name_kw (gE I hg hm ?_ hdb)
 refine callWith_K (h₀:=X.base) I.ok.mod.kin hk (thn (ha pos pins s σ H (fun vs H1=>∃ ds d,ds.length=n/\Same H H1/\iN C X ρ σ H1 vs ds/\den ds=.val d/\∀ v H',Same H H'->dZ C X ρ σ H' v d->Q v H') I
  ⟨ρ,⟨H0,r0⟩,fo (P:=fun z H=>pV X (dZ C X ρ σ) z σ H Q) (fun _ h=>h) (fun h=>h) q fun ds vs H1 s1 h1 q1=>?_⟩) fun us s1 ⟨vs,H1,I1,rv,ds,d,hl,s1',h1,e1,q1⟩=>⟨I1.kIn,?_⟩) he hpl
 ·split at q1
  ·rename_i hl
   cases e1:den ds with
   | val d=>rw [e1] at q1;exact ⟨ds,d,hl,s1,h1,e1,q1⟩
   | exc c=>rw [e1] at q1;exact q1.elim
   | bad=>rw [e1] at q1;exact q1.elim
  ·exact q1.elim
 ·have r1:=r0.mono s1'
  have Z:=Rel.hid r1 I1
  have J:=I1.hide Z
  have hsp:spD X.K C n den vs (cut (db ρ σ) H1) (fun v M'=>Same (cut (db ρ σ) H1) M'/\Has X.K C M' v d) E0:=by
   refine ⟨h1.len.trans hl,ds,by rw [<- ft r0.bnd];exact h1,?_⟩
   rw [e1]
   exact fun v H' s2 h2=>⟨s2,h2⟩
  have hlen:(us ++ []).length=ps.length:=by rw [List.append_nil,<- rv.length];exact hF.len _ _ _ _ hsp
  have hbi:=hb s1 us J.kIn hlen
  rw [List.append_nil] at hbi
  refine wpAny_call (codeAny_mono (hF.run X.A X.stack s1 _ ⟨us,[]⟩ us vs _ E0 hr J.env0 hbi rv hsp) fun r s2 hq=>?_)
  cases r with
  | error e=>exact hq.elim
  | ok fl =>
   cases fl with
   | ret u =>
    obtain ⟨v,M',J2,ru,sm,hv⟩:=J.after hq
    obtain ⟨I2,mz⟩:=I1.show' Z J2
    have sj:Same H1 (jn (db ρ σ) H1 M'):=fun b o eb=>by
     by_cases hb:b ∈ db ρ σ
     ·rw [i3 hb];exact eb
     ·rw [b_ hb];exact sm b o (cut_some.mpr ⟨hb,eb⟩)
    have em:msk ρ σ (jn (db ρ σ) H1 M')=M':=by
     rw [ft r0.bnd]
     funext b
     by_cases hb:b ∈ db ρ σ
     ·rw [fM hb,mz b hb]
     ·unfold cut;rw [if_neg hb,b_ hb]
    exact ⟨v,_,I2,ru,q1 v _ (s1'.trans sj) (by show Has _ _ (msk ρ σ _) v d;rw [em];exact hv)⟩
   | next=>exact False.elim hq
   | brk=>exact False.elim hq
   | cont=>exact False.elim hq
end
structure KTy (K:Frag) (T:String):Prop where
 i:kitOne K (.type "int") (.type T)=some (decide (T="int"))
 b:kitOne K (.type "bool") (.type T)=some (decide (T="int") || decide (T="bool"))
 n:kitOne K (.type "NoneType") (.type T)=some false
 l:kitOne K (.type "list") (.type T)=some (decide (T="list"))
 t:kitOne K (.type "tuple") (.type T)=some (decide (T="tuple"))
section
variable {C:Addr} {X:Cx}
end
def qD:D->R D
 | .lst xs=>match gR xs with
  | some bs=>.val (.bl (bs.all id))
  | none=>.bad
 | _=>.bad
section
variable {C:Addr} {X:Cx}
def Ex:List V->Hp->VK->Prop:=fun vs H Q=>∃ (l:Addr) (bs:List Bool),vs=[.ref l]/\H l=some (.lst (bs.map V.bl))/\Q (.bl (bs.all id)) H
theorem wG (bs:List Bool):(List.range bs.length).all (fun i=>bs.getD i false)=bs.all id:=by
 rw [Bool.eq_iff_iff,List.all_eq_true,List.all_eq_true]
 constructor
 ·intro h b hb
  obtain ⟨i,hi,rfl⟩:=List.mem_iff_getElem.mp hb
  have:=h i (List.mem_range.mpr hi)
  rw [List.getD_eq_getElem?_getD,List.getElem?_eq_getElem hi] at this
  exact this
 ·intro h i hi
  have hi:=List.mem_range.mp hi
  rw [List.getD_eq_getElem?_getD,List.getElem?_eq_getElem hi]
  exact h _ (List.getElem_mem hi)
theorem yP (hc:X.calm=true):jO X (.builtin "all") Ex:=by
 intro pins s σ H xs us Q I rv h
 obtain ⟨l,bs,rfl,e,q⟩:=h
 obtain ⟨u,rfl,ru⟩:=o_ rv
 obtain rfl:=(show u=Value.ref l from ru)
 obtain ⟨z,its,m,r,hl,eo⟩:=I.lstM e
 obtain rfl:=h_ r
 have hL:s.heap.IsList l (bs.map Value.bool).toArray:=⟨_,eo,rfl,m,rfl⟩
 have hne:l ≠ s.heap.objs.size:=Nat.ne_of_lt (Heap.lt_size eo)
 have W:=Walks.list (prog:=X.prog) (w:=X.w) (A:=X.A.in1) (I.ok.hd hc) s.heap.objs.size l hne (bs.map Value.bool).toArray
 refine call_all_walk (wpAny_pyIter_list hL ⟨_,_,_,_,_,_,fun i=>bs.getD i false,rfl,W,⟨⟨_,Heap.get?_push_size _ rfl,rfl,rfl⟩,hL.push _⟩,fun i v s2 Q2 E2 hP hQ=>?_,fun h' tk hk=>?_⟩)
 ·have hP':(bs.map Value.bool)[i]?=some v:=by simpa using hP
  rw [List.getElem?_map] at hP'
  cases z2:bs[i]? with
  | none=>rw [z2] at hP';cases hP'
  | some b =>
   rw [z2] at hP'
   cases hP'
   have hb:bs.getD i false=b:=by rw [List.getD_eq_getElem?_getD,z2];rfl
   dsimp only at hQ
   rw [hb] at hQ
   exact wpAny_truthy_bool hQ
 ·have hz:(bs.map Value.bool).toArray.size=bs.length:=by simp
  rw [hz,wG]
  refine ⟨.bl (bs.all id),H,I.kept fun b o eo2=>hk b o (fun hm=>?_) (Heap.get?_push_of_some _ eo2),rfl,q⟩
  have:=Heap.lt_size eo2
  rw [List.mem_singleton.mp hm] at this
  exact Nat.lt_irrefl _ this
theorem yG {e : Expr} {p pos : Pos} {F : Rho -> R D} (hc : X.calm = true) (hg : Gl X "all") (hm : X.mg "all" = none) (hst : starEach [e] X.env = (false, eval e X.env) :: starEach [] X.env) (he : EB C X e F) :
    ED C X (.Call (.Name "all" p) [e] [] pos) (una qD F) :=
  aX (fx (yP hc) hg hm boot_all (cS he er hst) (he := hst) (hpl := ax)) fun σ H Q yy0 => by
   obtain ⟨ρ, r0, q⟩ := yy0
   exact ⟨ρ, r0, aY (P := fun z H => pV X (dZ C X ρ σ) z σ H Q) (fun _ h => h) (fun h => h) q fun y v H1 s1 h1 q1 => by
    cases y with
    | lst xs =>
      unfold qD at q1
      dsimp only at q1
      cases eb : gR xs with
      | none => rw [eb] at q1; exact q1.elim
      | some bs =>
        rw [eb] at q1
        obtain ⟨a, vs, rfl, e1, h2⟩ := h1.lst msk_sub
        obtain rfl := iu eb h2
        exact ⟨a, bs, rfl, e1, q1 _ H1 s1 (.bl _)⟩
    | _ => exact q1.elim⟩
end
section
variable (C:Addr) (X:Cx)
end
section
variable {C:Addr} {X:Cx} {ρ:RB} {σ:St} {H H':Hp}
end
section
variable (C:Addr) (X:Cx)
end
section
variable {C:Addr} {X:Cx}
end
section
variable {P:Program} {w:World} {K:Frag} {mg:Str->Option Value} {base:Heap} {C:Addr}
end
section
variable {K:Frag} {C:Addr} {M M' H H':Hp}
end
section
variable {K:Frag} {C:Addr} {H0 H:Hp} {ρ:RB} {σ:St}
end
section
variable {C:Addr} {X:Cx}
end
section
variable (C:Addr) (X:Cx)
end
section
variable {K:Frag} {C:Addr} {M H:Hp}
end
section
variable {C:Addr} {X:Cx}
end
section
variable {K:Frag} {C:Addr} {M M' H:Hp}
end
section
variable (C:Addr) (X:Cx)
end
section
variable {C:Addr} {X:Cx} {m:Nat}
end
section
variable {P:Program} {w:World} {K:Frag} {mg:Str->Option Value} {base:Heap} {C:Addr}
end
section
variable {C:Addr} {X:Cx}
end
section
variable {C:Addr} {X:Cx}
theorem lP:∀ {is:List Int} {us:List Value} {m:Nat} {y:Value},Vals (is.map V.int) us->us[m]?=some y->∃ i t,is[m]?=some i/\y=.int i t
 | [],_,_,_,.nil,e=>by simp at e
 | i :: is,_,0,y,.cons r t,e=>by
  rw [List.getElem?_cons_zero] at e;cases e
  obtain ⟨tk,rfl⟩:=(show ∃ t,_=Value.int i t from r)
  exact ⟨i,tk,rfl,rfl⟩
 | i :: is,_,m + 1,y,.cons r t,e=>by
  rw [List.getElem?_cons_succ] at e
  obtain ⟨i',t',e1,e2⟩:=lP t e
  exact ⟨i',t',by rw [List.getElem?_cons_succ];exact e1,e2⟩
end
section
variable {C:Addr} {X:Cx}
def o3 (xs:List D) (lo hi:Option Int):List D:=(xs.drop (HT.sIx xs.length 0 lo)).take (HT.sIx xs.length xs.length hi - HT.sIx xs.length 0 lo)
theorem HasL.cut {K:Frag} {H:Hp} {vs:List V} {xs:List D} {lo hi:Option Int} (h:HasL K C H vs xs):HasL K C H (wC vs lo hi) (o3 xs lo hi):=by
 unfold wC o3
 rw [h.len]
 exact (h.drop _).take _
variable (C X) in
def toP (F:Rho->R (Option Int)):TO:=fun σ H Q=>∃ ρ:RB,(∃ H0,fA C X H0 ρ σ H)/\match F ρ with
 | .val o=>∀ H',Same H H'->Q o H'
 | .exc c=>XE X c σ H
 | .bad=>False
variable (C X) in
def PD (e:Option Expr) (F:Rho->R (Option Int)):Prop:=PO X e (toP C X F)
def oN:Rho->R (Option Int):=fun _=>.val none
def oS (F:Rho->R D):Rho->R (Option Int):=fun ρ=>(F ρ).bind fun d=>match d with
 | .int i=>.val (some i)
 | _=>.bad
theorem fV:PD C X none oN:=fun pins s σ H Q I ⟨ρ,r,q⟩=>zA pins s σ H Q I (q H (Same.refl _))
theorem fU {e:Expr} {F:Rho->R D} (h:ED C X e F):PD C X (some e) (oS F):=fun pins s σ H Q I ⟨ρ,r,q⟩=>zz h pins s σ H Q I ⟨ρ,r,by
 unfold oS at q
 cases z:F ρ with
 | val d =>
  rw [z] at q
  intro v H' s' hv
  cases d with
  | int i=>cases hv;exact ⟨i,rfl,q H' s'⟩
  | _=>exact q.elim
 | exc c=>rw [z] at q;exact q
 | bad=>rw [z] at q;exact q⟩
def fSl (F:Rho->R D) (Fl Fh:Rho->R (Option Int)):Rho->R (List D):=fun ρ=>(F ρ).bind fun x=>(Fl ρ).bind fun l=>(Fh ρ).bind fun h=>match x with
 | .lst xs=>.val (o3 xs l h)
 | _=>.bad
theorem eC {e:Expr} {lo hi:Option Expr} {p2 pos:Pos} {F:Rho->R D} {Fl Fh:Rho->R (Option Int)} (he:EB C X e F) (hl:PD C X lo Fl) (hh:PD C X hi Fh):FD C X (.Subscript e (.Slice lo hi none p2) pos) (fSl F Fl Fh) :=
 aX (xz zg he hl hh) fun σ H Q ⟨ρ,⟨H0,r0⟩,q⟩=>⟨ρ,⟨H0,r0⟩,aY (P:=fun z H=>pF (X:=X) (iN C X ρ σ) z σ H Q) (fun _ h=>h) (fun h=>h) q fun x v H1 s1 h1 q1=>by
  refine ⟨ρ,⟨H0,r0.mono s1⟩,?_⟩
  cases zl:Fl ρ with
  | exc c=>rw [zl] at q1;exact XE.mono s1 q1
  | bad=>rw [zl] at q1;exact q1
  | val l =>
   rw [zl] at q1
   dsimp only [DL.R.bind] at q1
   intro H2 s2
   refine ⟨ρ,⟨H0,(r0.mono s1).mono s2⟩,?_⟩
   cases zh:Fh ρ with
   | exc c=>rw [zh] at q1;exact XE.mono (s1.trans s2) q1
   | bad=>rw [zh] at q1;exact q1
   | val h =>
    rw [zh] at q1
    dsimp only at q1
    intro H3 s3
    cases x with
    | lst xs =>
     obtain ⟨a,vs,rfl,e1,h2⟩:=h1.lst msk_sub
     exact ⟨a,vs,rfl,SqL.of (s3 _ _ (s2 _ _ e1)),fun p hp=>q1 p _ H3 ((s1.trans s2).trans s3) hp (HasL.cut (h2.mono (bu (s2.trans s3))))⟩
    | _=>exact q1.elim⟩
end
section
variable {C:Addr} {X:Cx}
end
section
variable {K:Frag} {C:Addr} {H0 H M:Hp} {ρ:RB} {σ:St}
end
section
variable {K:Frag} {C:Addr} {H0 H M:Hp} {ρ:RB} {σ:St}
end
section
variable {C:Addr} {X:Cx}
end
section
variable {C:Addr} {X:Cx}
end
section
variable (C:Addr) (X:Cx)
def pE (σ:St) (H:Hp) (o:R Out) (H0:Hp) (Dn:kg):Prop:=match o with
 | .exc c=>XE X c σ H
 | o=>pS C X o H0 Dn
def tsE (F:Rho->R Out):TS:=fun Dn σ H=>∃ ρ H0,wJ C X H0 ρ σ H/\pE C X σ H (F ρ) H0 Dn
def SDe (st:Stmt) (F:Rho->R Out):Prop:=PS X st (tsE C X F)
def AV (st:List Stmt) (F:Rho->R Out):Prop:=PSs X st (tsE C X F)
end
section
variable {C:Addr} {X:Cx}
theorem pE.mono {σ:St} {H H':Hp} {o:R Out} {H0:Hp} {Dn:kg} (s:Same H H') (h:pE C X σ H o H0 Dn):pE C X σ H' o H0 Dn:=by
 cases o with
 | val o=>exact h
 | exc c=>exact XE.mono s h
 | bad=>exact h
theorem iW {st:Stmt} {F:Rho->R Out} (h:SDe C X st F):AV C X [st] F:=mE h
theorem mX {e : Expr} {pos : Pos} {F : Rho -> R D} (he : EB C X e F) (hs : swapsWith e none pos.line X.env = pure false := by rfl) : SDe C X (.Expr e pos) (drp F) :=
  bN (kt he hs) fun D σ H yy1 => by
   obtain ⟨_, H0, ⟨ρ, rfl, r⟩, q⟩ := yy1
   exact ⟨ρ, ⟨H0, r⟩, aY (P := fun z _ => pE C X σ H z H0 D) (fun c h => h) (fun h => h) q fun d v H1 s1 h1 q1 => q1 _ _ ⟨_, rfl, r.mono s1⟩⟩
theorem wW {c : Expr} {a b : List Stmt} {pos : Pos} {Ft : Rho -> R Bool} {Fa Fb : Rho -> R Out} (hc : TD C X c Ft) (ha : AV C X a Fa) (hb : AV C X b Fb) : SDe C X (.If c a b pos) (iff Ft Fa Fb) :=
  bN (A3 hc ha hb) fun D σ H yy2 => by
   obtain ⟨_, H0, ⟨ρ, rfl, r⟩, q⟩ := yy2
   exact ⟨ρ, ⟨H0, r⟩, jy (P := fun z _ => pE C X σ H z H0 D) (fun c h => h) (fun h => h) q fun c H1 s1 q1 => by
    cases c with
    | true => exact Ad ⟨_, H0, ⟨ρ, rfl, r.mono s1⟩, pE.mono s1 q1⟩
    | false => exact Ae ⟨_, H0, ⟨ρ, rfl, r.mono s1⟩, pE.mono s1 q1⟩⟩
end
section
variable {K:Frag} {C:Addr} {H0 H:Hp} {ρ:RB} {σ:St}
theorem Rel.goes (r0:Rel K C H0 ρ σ H) (i:Nat) (o:Option V):Rel K C H0 (ρ.del i) (σ.set i o) H:=by
 have r:=r0.forget i
 have em:msk (ρ.del i) (σ.set i o)=msk (ρ.del i) σ:=tQ fun _=>rfl
 refine ⟨by rw [List.length_set];exact r.len,by rw [em];exact r.keep,fun j sl e=>?_,r.inj,r.kin,r.bnd⟩
 rw [em,List.getElem?_set_ne (lm e).1]
 exact r.at_ j sl e
end
def tm (S:List Nat) (ie:Nat) (F G:Rho->R Out):Rho->R Out:=fun ρ=>match F ρ with
 | .val o=>.val o
 | .bad=>.bad
 | .exc c=>if c ∈ S then match G (ρ.set ie (some (.shr (.exn c)))) with
  | .val (.nx ρ')=>.val (.nx (ρ'.set ie none))
  | _=>.bad
  else .bad
section
variable {C:Addr} {X:Cx}
theorem SP.unre {pins pins':List (Addr × Obj)} {Dn:kg} {f:Flow} {s:Shared} {A:Around} {cm:Bool} {xe:Value->Shared->Prop} (ok:X.Ok) (h:SP (reX X A cm (X.pn ++ pins) xe) pins' Dn f s):SP X pins Dn f s:=by
 cases f with
 | next=>obtain ⟨σ',H',I,q⟩:=h;exact ⟨σ',H',I.unre ok,q⟩
 | brk=>obtain ⟨σ',H',I,q⟩:=h;exact ⟨σ',H',I.unre ok,q⟩
 | cont=>obtain ⟨σ',H',I,q⟩:=h;exact ⟨σ',H',I.unre ok,q⟩
 | ret u=>obtain ⟨v,σ',H',I,r,q⟩:=h;exact ⟨v,σ',H',I.unre ok,r,q⟩
theorem sE {h:Heap} {ea Cc:Addr} {ch:List Addr} (xr:fR h ea (.ref Cc) ch):∃ ox,InstAt h ea ox Cc none/\h.get? ea=some ox/\ox.cls=.ref Cc/\ox.dict=none/\∃ vs,ox.data=.fields vs:=by
 obtain ⟨_,⟨oe,vs,he,hc,hdc,hd,_,_⟩,_⟩:=xr
 refine ⟨oe,⟨he,hc,?_,by rw [hdc];trivial⟩,he,hc,hdc,vs,hd⟩
 unfold PySem.W.notCls
 rw [hd]
theorem Bu {S:List Nat} {CA:Addr} {ie:Nat} {en:Str} {body:List Stmt} {b0:Stmt} {bs:List Stmt} {np hp pos:Pos} {F G:Rho->R Out} (B:XB X.K X.mg S CA) (XA:ux X.K X.mg S) (hS:∀ c ∈ S,c < 7) (hgA:Gl X "ArrowError")
  (hN:X.N.Nodup) (hie:X.N[ie]?=some en) (hloc:X.env.kindOf en=some .local) (hlo:X.env.scope.names.lookup en=some .local) (hpm:(X.env.scope.kind == .class || (X.env.scope.kind == .module && X.env.locals != X.env.globals))=false)
  (hex:X.ex=[]) (hstk:X.stack=X.env :: X.outer) (hfrm:X.env.frame=some X.env.locals)
  (hb:∀ pn xe,AV C (reX X X.A X.calm pn xe) body F)
  (hh:∀ ev pn,SDs C (reX X (X.A.mark (some ev)) false pn (fun _ _=>False)) (b0 :: bs) G) :
  SD C X (.Try body [.ExceptHandler (some (.Name "ArrowError" np)) (some en) (b0 :: bs) hp] [] [] pos) (tm S ie F G):=by
 rintro pins s σ H Dn I ⟨_,H0,⟨ρ,rfl,r⟩,q⟩
 refine wpAny_Try_except ?_
 have I0:Inv (reX X X.A X.calm (X.pn ++ pins) (fun e s1=>wpAny (model X.prog X.w) X.A (noteFrame e X.env) (fun _ s2=>wpAny (model X.prog X.w) X.A (setFlight e none) (fun _ s3=>wpAny (model X.prog X.w) X.A (handleBy e X.env [.ExceptHandler (some (.Name "ArrowError" np)) (some en) (b0 :: bs) hp]) (SP X pins Dn) X.xe s3) X.xe s2) X.xe s1)) [] σ H s:=I.re rfl I.ok.hd
 refine thn (hb _ _ [] s σ H Dn I0 ⟨_,H0,⟨ρ,rfl,r⟩,?_⟩) fun f s1 hq=>?_
 ·unfold tm at q
  cases e:F ρ with
  | val o=>rw [e] at q;cases o <;> exact q
  | bad=>rw [e] at q;exact q
  | exc c =>
   rw [e] at q
   dsimp only at q
   by_cases hc:c ∈ S
   ·rw [if_pos hc] at q
    rintro pins' H' ev s' I' sm ⟨ea,Cc,ch,he,hm,xr,hfx⟩
    subst he
    have fr:X.A.frames=some (X.env :: X.outer):=by rw [<- hstk];exact I.ok.frames
    have fs:s'.heap.FunFrames X.base (X.env :: X.outer):=by have:=I'.stack;rw [show (reX X X.A X.calm (X.pn ++ pins) (fun e s1=>wpAny (model X.prog X.w) X.A (noteFrame e X.env) (fun _ s2=>wpAny (model X.prog X.w) X.A (setFlight e none) (fun _ s3=>wpAny (model X.prog X.w) X.A (handleBy e X.env [.ExceptHandler (some (.Name "ArrowError" np)) (some en) (b0 :: bs) hp]) (SP X pins Dn) X.xe s3) X.xe s2) X.xe s1)).stack=X.env :: X.outer from hstk] at this;exact this
    refine pC fr fs hfrm xr fun h' ch' kb nw xr'=>?_
    rw [<- hstk] at kb
    have U':=I'.unre I.ok
    have fx0:∀ b ∈ ch,sZ X pins H' b:=fun b hb=>by
     obtain ⟨a1,a2,a3,a4,a5,a6⟩:=hfx b hb
     exact ⟨a1,a2,a3,a4,a5,fun p hp=>a6 p (List.mem_append_left _ hp)⟩
    have I1:=Inv.callX U' kb fx0
    have fx1:∀ b ∈ ch',sZ X pins H' b:=fun b hb=>by
     rcases nw b hb with hb | hb
     ·exact fx0 b hb
     ·exact nX U' hex hb
    have I3:Inv (reX X (X.A.mark (some (.ref ea))) false (X.pn ++ pins) (fun _ _=>False)) [] σ H' { s' with heap:=h' }:=I1.re rfl (by intro z;cases z)
    obtain ⟨Ck,hCk,hmk⟩:=XA.cls c (hS c hc)
    have hmk':some (Value.ref Cc)=some (.ref Ck):=hm.symm.trans hmk
    cases hmk'
    obtain ⟨ox,inst,_⟩:=sE xr'
    refine wpAny_handleBy_cons (codeAny_handlers_test (gE (pos:=np) I3 hgA B.nm (xQ (prog:=X.prog) (w:=X.w) I1.kIn B hc hCk inst (codeAny_handlers_suite_as ?_)))) (by intro z;cases z)
    refine jY (fs:=frs X.stack) xr' fun h2 kb2 xr2=>?_
    have fx3:∀ b ∈ ch',sZ (reX X (X.A.mark (some (.ref ea))) false (X.pn ++ pins) (fun _ _=>False)) [] H' b:=fun b hb=>by
     obtain ⟨a1,a2,a3,a4,a5,a6⟩:=fx1 b hb
     exact ⟨a1,a2,a3,a4,a5,fun p hp=>a6 p (by have hp:p ∈ (X.pn ++ pins) ++ []:=hp;rw [List.append_nil] at hp;exact hp)⟩
    have I4:=Inv.callX I3 kb2 fx3
    obtain ⟨ox2,inst2,g1,g2,g3,g4⟩:=sE xr2
    have I5:=I4.adopt (a:=ea) (o:=.ext (exP X.K c ea)) (fx3 ea xr2.mem) ⟨⟨ox2,Cc,g1,g2,g3,g4,hCk⟩,⟨ox2,g1⟩,fun k1 k2 ⟨ox,D,p1,p2⟩ hk=>⟨ox,D,hk _ p1,p2⟩⟩
    have hn:H' ea=none:=(fx3 ea xr2.mem).1
    have r1:=(r.mono sm).mono (bc (o:=.ext (exP X.K c ea)) hn)
    have r2:=r1.setShr (i:=ie) (v:=.ref ea) (d:=.exn c) (.exn ((r.mono sm).new hn))
    refine mV (X:=reX X (X.A.mark (some (.ref ea))) false (X.pn ++ pins) (fun _ _=>False)) I5 hN hie (.inl hlo) (show RelV (.ref ea) (.ref ea) from rfl) (fun s4 I6=>?_) (.inr hlo)
    cases eG:G (ρ.rho.set ie (some (.shr (.exn c)))) with
    | exc c=>rw [eG] at q;exact q.elim
    | bad=>rw [eG] at q;exact q.elim
    | val o =>
     rw [eG] at q
     cases o with
     | rt d=>exact q.elim
     | bk ρ'=>exact q.elim
     | ct ρ'=>exact q.elim
     | nx ρ' =>
      refine wpAny_mono (hh (.ref ea) _ [] s4 _ _ { nx:=fun σ' H''=>wJ C X H0 ρ' σ' H'',rt:=fun _ _=>False } I6 ⟨_,H0,⟨_,rfl,r2⟩,by rw [show (ρ.put ie (.shr (.exn c)) []).rho=ρ.rho.set ie (some (.shr (.exn c))) from rfl,eG];exact fun σ' H'' z=>z⟩) (fun f s5 hq=>?_) fun _ _ z=>z.elim
      cases f with
      | brk=>obtain ⟨_,_,_,z⟩:=hq;exact z.elim
      | cont=>obtain ⟨_,_,_,z⟩:=hq;exact z.elim
      | ret u=>obtain ⟨_,_,_,_,_,z⟩:=hq;exact z.elim
      | next =>
       obtain ⟨σ5,H5,I7,β,e5,r5⟩:=hq
       obtain ⟨m,hn5,_⟩:=I7.loc
       refine wpAny_nameGoes_keeps hloc hn5 hpm fun h6 v hn6 hs6=>?_
       exact ⟨_,H5,(I7.goes (t':=s5.toks + 1) hN hie hn5 hn6 hs6).unre I.ok,q _ _ ⟨_,by rw [<- e5];rfl,r5.goes ie none⟩⟩
   ·rw [if_neg hc] at q;exact q.elim
 ·cases f with
  | next =>
   obtain ⟨σ',H',I',q'⟩:=hq
   exact wpAny_execs_nil ⟨σ',H',I'.unre I.ok,q'⟩
  | brk=>exact SP.unre (f:=.brk) I.ok hq
  | cont=>exact SP.unre (f:=.cont) I.ok hq
  | ret u=>exact SP.unre (f:=.ret u) I.ok hq
end
section
variable {C:Addr} {X:Cx}
theorem aE {k n:Nat} {den:List D->R D} {x:Str} {p pos:Pos} {e:Expr} {es:List Expr} {Fa:Rho->R (List D)} (F:Fn X.prog X.w X.K X.mg X.base C k x n den) (hr:Room k X.A) (hg:Gl X x) (ha:AD C X (e :: es) Fa)
  (hdb:(x == ("__debug__":Str))=false:=by decide) (he:starEach (e :: es) X.env=(false,eval e X.env) :: starEach es X.env:=by rfl) (hpl:(backTo pos (starEach es X.env)).any (·.1)=false:=by rfl) :
  ED C X (.Call (.Name x p) (e :: es) [] pos) (cal n den Fa):=by
 obtain ⟨f,fd,ps,h1,h2,h3,h4⟩:=F
 exact AF h1 hr hg h2 h3 h4 xD ha hdb he hpl
end
section
variable {C:Addr} {X:Cx}
def D_ (X:Cx) (st:List Stmt) (t:TS):Prop :=
 ∀ (pins:List (Addr × Obj)) (s:Shared) (σ:St) (H:Hp) (D:kg),Inv X pins σ H s->t D σ H->wpAny (model X.prog X.w) X.A (execs st X.env) (SP X pins D) (notedBy (model X.prog X.w) X.A X.env (cameBackBy (model X.prog X.w) X.A X.env X.xe)) s
theorem Df {c:Nat} {H0:Hp} {pins:List (Addr × Obj)} (ok:X.Ok) (hex:X.ex=[]) (hstk:X.stack=X.env :: X.outer) (hfrm:X.env.frame=some X.env.locals) (h:XS X c H0) :
  XS (reX X X.A X.calm (X.pn ++ pins) (notedBy (model X.prog X.w) X.A X.env (cameBackBy (model X.prog X.w) X.A X.env X.xe))) c H0:=by
 rintro pins' σ' H' ev s' I' sm ⟨ea,Cc,ch,he,hm,xr,hfx⟩
 subst he
 have U:=I'.unre ok
 have fr:X.A.frames=some (X.env :: X.outer):=by rw [<- hstk];exact ok.frames
 have fs:s'.heap.FunFrames X.base (X.env :: X.outer):=by have:=U.stack;rw [hstk] at this;exact this
 refine yU fr fs hfrm xr fun h' ch' kb nw xr'=>?_
 rw [<- hstk] at kb
 have fx0:∀ b ∈ ch,sZ X pins H' b:=fun b hb=>by
  obtain ⟨a1,a2,a3,a4,a5,a6⟩:=hfx b hb
  exact ⟨a1,a2,a3,a4,a5,fun p hp=>a6 p (List.mem_append_left _ hp)⟩
 refine h pins σ' H' _ _ (Inv.callX U kb fx0) sm ⟨ea,Cc,ch',rfl,hm,xr',fun b hb=>?_⟩
 rcases nw b hb with hb | hb
 ·exact fx0 b hb
 ·exact nX U hex hb
theorem B3 {body:List Stmt} {F:Rho->R Out} (hex:X.ex=[]) (hstk:X.stack=X.env :: X.outer) (hfrm:X.env.frame=some X.env.locals) (hb:∀ pn xe,SDs C (reX X X.A X.calm pn xe) body F):D_ X body (tsD C X F):=by
 rintro pins s σ H Dn I ⟨_,H0,⟨ρ,rfl,r⟩,q⟩
 have I0:Inv (reX X X.A X.calm (X.pn ++ pins) (notedBy (model X.prog X.w) X.A X.env (cameBackBy (model X.prog X.w) X.A X.env X.xe))) [] σ H s:=I.re rfl I.ok.hd
 refine thn (hb _ _ [] s σ H Dn I0 ⟨_,H0,⟨ρ,rfl,r⟩,?_⟩) fun f s1 hq=>SP.unre I.ok hq
 cases e:F ρ with
 | val o=>rw [e] at q;cases o <;> exact q
 | bad=>rw [e] at q;exact q
 | exc c=>rw [e] at q;exact Df I.ok hex hstk hfrm q
theorem zy {tg iter:Expr} {body:List Stmt} {wi:TI} {g:TG} {tb:TS} {pos:Pos} (hc:X.calm=true) (hi:PI X tg iter wi) (hg:PG X.nox tg g) (hb:D_ X body tb)
  (hs:∀ x,foldedSetIterable iter X.env x=pure x:=by intro _;rfl):PS X (.For tg iter body [] pos) (Bq wi g tb):=by
 intro pins s σ H Dn I h
 refine wpAny_For (thn (hi pins s σ H _ I h) fun v s1 h1=>thn h1 fun itv s2 zz0=>?_) hs
 obtain ⟨it,fp,tn,J,H2,e,I2,T,st2,f2,W,⟨m0,w0⟩,jQ⟩:=zz0
 subst e
 have stat:∀ {M:Hp},(∀ b ∈ fp,M b=none)->∀ b ∈ fp,oJ X pins M b:=fun hn b hb=>⟨hn b hb,(f2 b hb).2⟩
 refine codeAny_forLoop_any (fun n u=>∃ i τ M,Inv X pins τ M u/\tn i u.heap/\(∀ b ∈ fp,M b=none)/\W i n τ M) (fun n u zz1=>?_) m0 ⟨0,σ,H2,I2,st2,fun b hb=>(f2 b hb).1,w0⟩
 obtain ⟨i,τ,M,I3,t3,n3,w3⟩:=zz1
 rcases jQ i n τ M w3 with ⟨stop,qn⟩ | ⟨go,N,hN,step⟩
 ·refine thn (T.done X rfl rfl rfl hc i pins u τ M _ I3 (stat n3) t3 stop) fun r s4 zz2=>?_
  obtain ⟨hr,I4⟩:=zz2
  subst hr
  exact wpAny_execs_nil ⟨τ,M,I4,qn⟩
 ·refine thn (T.item X rfl rfl rfl hc i pins u τ M _ I3 (stat n3) t3 go) fun r s4 zz3=>?_
  obtain ⟨v,hr,h4⟩:=zz3
  subst hr
  refine thn h4 fun _ s5 zz4=>?_
  obtain ⟨x,H5,I5,r5,y5,t5,n5⟩:=zz4
  have I6:=I5.pinned (stat n5) (T.obj _ _ t5)
  refine wpAny_mono (hg _ s5 τ H5 x v _ (I6.wish _) r5 (step x H5 y5)) (fun _ s6 zz5=>?_) fun _ _ z=>z.elim
  obtain ⟨τ6,H6,I7,q6⟩:=zz5
  refine thn (hb _ s6 τ6 H6 _ I7.unwish q6) fun f s7 q8=>?_
  have again:∀ {τ7:St} {H7:Hp},Inv X (pins ++ dB fp s5.heap) τ7 H7 s7->N τ7 H7->∃ m,m < n/\∃ i σ' H',Inv X pins σ' H' s7/\tn i s7.heap/\(∀ b ∈ fp,H' b=none)/\W i m σ' H':=fun {τ7 H7} J n7=>by
   obtain ⟨m',hm,w7⟩:=hN τ7 H7 n7
   have pn:∀ b ∈ fp,∀ o,s5.heap.get? b=some o->s7.heap.get? b=some o/\H7 b=none:=fun b hb o e=>by
    have:=J.pin (b,o) (List.mem_append_right _ (List.mem_append_right _ (e9 hb e)))
    exact ⟨this.1,this.2.1⟩
   refine ⟨m',hm,i + 1,τ7,H7,J.unpinned,T.keep _ _ _ t5 fun b hb o e=>(pn b hb o e).1,fun b hb=>?_,w7⟩
   obtain ⟨o,e,_⟩:=T.obj _ _ t5 b hb
   exact (pn b hb o e).2
  cases f with
  | next=>obtain ⟨τ7,H7,J,n7⟩:=q8;exact again J n7
  | cont=>obtain ⟨τ7,H7,J,n7⟩:=q8;exact again J n7
  | brk=>obtain ⟨τ7,H7,J,n7⟩:=q8;exact ⟨τ7,H7,J.unpinned,n7⟩
  | ret v=>obtain ⟨x7,τ7,H7,J,r7,n7⟩:=q8;exact ⟨x7,τ7,H7,J.unpinned,r7,n7⟩
theorem km {tg iter:Expr} {body:List Stmt} {pos:Pos} {ix:List Nat} {src:Rho->R (List D)} {T:D->Rho->Option Rho} {F:Rho->R Out} (hc:X.calm=true) (hex:X.ex=[]) (hstk:X.stack=X.env :: X.outer) (hfrm:X.env.frame=some X.env.locals) (hi:ID C X tg iter src) (hg:GD C X.nox tg ix T) (hb:∀ pn xe,SDs C (reX X X.A X.calm pn xe) body F)
  (hs:∀ x,foldedSetIterable iter X.env x=pure x:=by intro _;rfl):SD C X (.For tg iter body [] pos) (bB src T F) :=
 bN (zy hc hi hg (B3 hex hstk hfrm hb) hs) fun D σ H h=>sw h
end
section
variable {prog:Program} {w:World} {A:Around} {R:Result->Shared->Prop} {I:Addr} {fp wr:List Addr} {n:Nat} {P:Nat->Value->Prop} {St:Nat->Heap->Prop}
end
section
variable {C:Addr} {X:Cx}
end
theorem Da:bootBuiltins "ValueError"=some (.type "ValueError"):=by decide +kernel
section
variable {C:Addr} {X:Cx}
variable (C X) in
def JP (ps:List Expr) (F:Rho->R Unit):Prop:=∀ (pins:List (Addr × Obj)) (s:Shared) (σ:St) (H:Hp) (Q:VK) (acc:Str),Inv X pins σ H s->teS C X F σ H Q->acc.length + 1000 * ps.length<=20000 ->
 wpAny (model X.prog X.w) X.A (joinParts acc (evalEach ps X.env)) (EP X pins σ Q) X.xe s
theorem t7:JP C X [] sK:=by
 rintro pins s σ H Q acc I ⟨ρ,_,q⟩ hl
 refine joinParts_nil ⟨.str _,H,I.tok _,⟨_,rfl⟩,q _ H (Same.refl _)⟩ ?_
 rw [sizeLine_eq]
 have:acc.length<=20000:=by simpa using hl
 omega
theorem gf {y:Str} {j:Nat} {p:Pos} {ps:List Expr} {F:Rho->R Unit} (hy:y.length<=1000) (h:JP C X ps F) (hd:evalEach (.Constant (.str y) j p :: ps) X.env=eval (.Constant (.str y) j p) X.env :: evalEach ps X.env:=by rfl):JP C X (.Constant (.str y) j p :: ps) F:=by
 intro pins s σ H Q acc I q hl
 rw [hd]
 have hl:acc.length + 1000 * (ps.length + 1)<=20000:=hl
 refine joinParts_cons (Calls.Constant_str ⟨?_,?_⟩)
 ·rw [strLen_append,sizeLine_eq];omega
 ·exact h pins _ σ H Q _ (I.tok _) q (by rw [strLen_append];omega)
def fSs (a:Rho->R D) (F:Rho->R Unit):Rho->R Unit:=fun ρ=>(fS a ρ).bind fun _=>F ρ
theorem qz {a:Expr} {p:Pos} {ps:List Expr} {Fa:Rho->R D} {F:Rho->R Unit} (ha:EB C X a Fa) (h:JP C X ps F) (hd:evalEach (.FormattedValue a (-1) none p :: ps) X.env=eval (.FormattedValue a (-1) none p) X.env :: evalEach ps X.env:=by rfl):JP C X (.FormattedValue a (-1) none p :: ps) (fSs Fa F):=by
 rintro pins s σ H Q acc I ⟨ρ,⟨H0,r⟩,q⟩ hl
 rw [hd]
 have hl:acc.length + 1000 * (ps.length + 1)<=20000:=hl
 refine joinParts_cons (FormattedValue_plain ?_)
 unfold fSs fS at q
 cases e:Fa ρ with
 | exc c=>rw [e] at q;exact q.elim
 | bad=>rw [e] at q;exact q.elim
 | val d =>
  rw [e] at q
  cases d with
  | int i =>
   dsimp only at q
   by_cases hi:i.natAbs < 10 ^ 40
   ·rw [if_pos hi] at q
    refine thn (ha pins s σ H (fun v H1=>Same H H1/\v=.int i) I ⟨ρ,⟨H0,r⟩,?_⟩) fun u s1 ⟨v,H1,I1,rv,s1',ev⟩=>?_
    ·rw [e]
     exact fun v H1 s1 h1=>⟨s1,h1.int⟩
    ·subst ev
     obtain ⟨t,rfl⟩:=(show ∃ t,u=Value.int i t from rv)
     have hlen:=int_text_length_le10 (k:=40) (by decide) hi
     have e1:(toString i:Str).length=(toString i).length:=PySem.ofString_length _
     refine formatField_int_small (AW hi) ⟨?_,?_⟩
     ·rw [strLen_append,e1,sizeLine_eq];omega
     ·refine h pins _ σ H1 Q _ (I1.tok _) ⟨ρ,⟨H0,r.mono s1'⟩,?_⟩ (by rw [strLen_append,e1];omega)
      have q:(match F ρ with | .val _=>∀ (x:Str) H',Same H H'->Q (.str x) H' | _=>False):=q
      cases eF:F ρ with
      | val z=>rw [eF] at q;exact fun x H' sm=>q x H' (s1'.trans sm)
      | exc c=>rw [eF] at q;exact q.elim
      | bad=>rw [eF] at q;exact q.elim
   ·rw [if_neg hi] at q;exact q.elim
  | _=>exact q.elim
theorem p9 {a b:Expr} {ps:List Expr} {pos:Pos} {F:Rho->R Unit} (h:JP C X (a :: b :: ps) F) (hl:(a :: b :: ps).length<=20):SE C X (.JoinedStr (a :: b :: ps) pos) F:=by
 intro pins s σ H Q I q
 refine JoinedStr_many ?_
 exact h pins s σ H Q Str.empty I q (by have e0:(Str.empty:Str).length=0:=rfl;rw [e0];omega)
end
end DL
namespace DL
def cX:List Int->List Int->Bool
 | [],[]=>false
 | [],_ :: _=>true
 | _ :: _,[]=>false
 | a :: x,b :: y=>if a=b then cX x y else decide (a < b)
theorem nN:∀ x:List Int,cX x x=false
 | []=>rfl
 | a :: x=>by unfold cX;rw [if_pos rfl];exact nN x
theorem ir:∀ {x y z:List Int},cX x y=true->cX y z=true->cX x z=true
 | [],[],_,h,_=>by cases h
 | [],_ :: _,[],_,h=>by cases h
 | [],_ :: _,_ :: _,_,_=>rfl
 | _ :: _,[],_,h,_=>by cases h
 | _ :: _,_ :: _,[],_,h=>by cases h
 | a :: x,b :: y,c :: z,h1,h2=>by
  unfold cX at h1 h2 ⊢
  by_cases e1:a=b
  ·subst e1
   rw [if_pos rfl] at h1
   by_cases e2:a=c
   ·subst e2
    rw [if_pos rfl] at h2 ⊢
    exact ir h1 h2
   ·rw [if_neg e2] at h2 ⊢;exact h2
  ·rw [if_neg e1] at h1
   have h1:=of_decide_eq_true h1
   by_cases e2:b=c
   ·subst e2
    rw [if_neg e1];exact decide_eq_true h1
   ·rw [if_neg e2] at h2
    have h2:=of_decide_eq_true h2
    rw [if_neg (by omega)]
    exact decide_eq_true (by omega)
theorem kz:∀ {x y:List Int},cX x y=false->cX y x=false->x=y
 | [],[],_,_=>rfl
 | [],_ :: _,h,_=>by cases h
 | _ :: _,[],_,h=>by cases h
 | a :: x,b :: y,h1,h2=>by
  unfold cX at h1 h2
  by_cases e:a=b
  ·subst e
   rw [if_pos rfl] at h1 h2
   rw [kz h1 h2]
  ·rw [if_neg e] at h1
   rw [if_neg (fun z=>e z.symm)] at h2
   have h1:=of_decide_eq_false h1
   have h2:=of_decide_eq_false h2
   omega
theorem vf {x y:List Int} (h:cX x y=true):cX y x=false:=by
 cases e:cX y x with
 | false=>rfl
 | true=>have:=ir h e;rw [nN] at this;cases this
def leL (a b:List Int):Bool:=!cX b a
theorem wn (a b c:List Int) (h1:leL a b=true) (h2:leL b c=true):leL a c=true:=by
 unfold leL at *
 simp only [Bool.not_eq_true'] at *
 cases e:cX c a with
 | false=>rfl
 | true =>
  by_cases q:cX b a=true
  ·rw [q] at h1;cases h1
  ·have q:cX b a=false:=by simpa using q
   by_cases p:cX a b=true
   ·rw [ir e p] at h2;cases h2
   ·have p:cX a b=false:=by simpa using p
    rw [kz p q,h2] at e;cases e
theorem wo (a b:List Int):(leL a b || leL b a)=true:=by
 unfold leL
 cases e:cX b a with
 | false=>rfl
 | true=>rw [vf e];rfl
theorem xX {a b:List Int} (h1:leL a b=true) (h2:leL b a=true):a=b:=by
 unfold leL at *
 simp only [Bool.not_eq_true'] at *
 exact kz h2 h1
def jH (xs:List (List Int)):List (List Int):=xs.mergeSort leL
theorem pj (xs:List (List Int)):(jH xs).Perm xs:=List.mergeSort_perm _ _
theorem jv {xs ys:List (List Int)} (hp:ys.Perm xs) (ho:ys.Pairwise fun a b=>leL a b=true):jH xs=ys :=
 List.Perm.eq_of_pairwise (fun a b _ _=>xX) (List.pairwise_mergeSort wn wo xs) ho ((pj xs).trans hp.symm)
end DL
namespace DL
open PySem.W PyProof.Rows
def ge {α:Type} (ok:Nat->Nat->Prop) (lt:Nat->Nat->Bool):KasT α->(α->Prop)->Prop
 | .ret a,Q=>Q a
 | .ask i j k,Q=>ok i j/\ge ok lt (k (lt i j)) Q
theorem e_ {α β:Type} {ok:Nat->Nat->Prop} {lt:Nat->Nat->Bool} {f:α->KasT β} {Q:β->Prop}:∀ {t:KasT α},ge ok lt t (fun a=>ge ok lt (f a) Q)->ge ok lt (t.bind f) Q
 | .ret _,h=>h
 | .ask _ _ _,h=>⟨h.1,e_ h.2⟩
theorem cN {α:Type} {ok:Nat->Nat->Prop} {lt:Nat->Nat->Bool} {Q Q':α->Prop} (hq:∀ a,Q a->Q' a):∀ {t:KasT α},ge ok lt t Q->ge ok lt t Q'
 | .ret _,h=>hq _ h
 | .ask _ _ _,h=>⟨h.1,cN hq h.2⟩
section
variable {n:Nat} {r:Nat->Nat}
abbrev okN (n:Nat):Nat->Nat->Prop:=fun i j=>i < n/\j < n
abbrev ltR (r:Nat->Nat):Nat->Nat->Bool:=fun i j=>decide (r i < r j)
structure PN (n:Nat) (p:Array Nat):Prop where
 pe:p.Perm (List.range n).toArray
def gk (r:Nat->Nat) (p:Array Nat) (k:Nat):Nat:=r (p.getD k 0)
theorem PN.size {p:Array Nat} (h:PN n p):p.size=n:=by rw [h.pe.size_eq];simp
theorem PN.bd {p:Array Nat} (h:PN n p) (hn:0 < n) (k:Nat):p.getD k 0 < n:=by
 by_cases hk:k < p.size
 ·have:p[k] ∈ p:=Array.getElem_mem hk
  have:=h.pe.mem_iff.mp this
  simp at this
  rw [Array.getD_eq_getD_getElem?,Array.getElem?_eq_getElem hk]
  exact this
 ·rw [Array.getD_eq_getD_getElem?,Array.getElem?_eq_none (by omega)]
  exact hn
theorem PN.mir {p:Array Nat} (h:PN n p) (i j d:Nat):PN n (mirror p i j d):=⟨(mirror_perm _ _ _ _).trans h.pe⟩
theorem PN.bub {p:Array Nat} (h:PN n p) (i d:Nat):PN n (bubble p i d):=⟨(bubble_perm _ _ _).trans h.pe⟩
theorem sv {p q:Array Nat} {i j:Nat} (h:p[i]?=q[j]?):gk r p i=gk r q j:=by
 unfold gk;rw [Array.getD_eq_getD_getElem?,Array.getD_eq_getD_getElem?,h]
theorem nW {p:Array Nat} {i j:Nat} (hj:j<=p.size) (k:Nat):gk r (kas_rev p i j) k=if i<=k/\k < j then gk r p (i + j - 1 - k) else gk r p k:=by
 have e:=getElem?_mirror_all (i:=i) hj k
 unfold kas_rev
 by_cases h1:i<=k/\k < j
 ·rw [if_pos h1] at e ⊢;exact sv e
 ·rw [if_neg h1] at e ⊢;exact sv e
theorem yg {p:Array Nat} {s d:Nat} (hs:s < p.size) (hd:d<=s) (k:Nat):gk r (bubble p s d) k=if k=s - d then gk r p s else if s - d < k/\k<=s then gk r p (k - 1) else gk r p k:=by
 have e:=getElem?_bubble hs d hd k
 by_cases h1:k=s - d
 ·rw [if_pos h1] at e ⊢;exact sv e
 ·rw [if_neg h1] at e ⊢
  by_cases h2:s - d < k/\k<=s
  ·rw [if_pos h2] at e ⊢;exact sv e
  ·rw [if_neg h2] at e ⊢;exact sv e
def Up (r:Nat->Nat) (p:Array Nat) (k:Nat):Prop:=∀ i j,i<=j->j < k->gk r p i<=gk r p j
def Dn (r:Nat->Nat) (p:Array Nat) (k:Nat):Prop:=∀ i j,i<=j->j < k->gk r p j<=gk r p i
theorem nV (hn:0 < n) {p:Array Nat} (h:PN n p):∀ (f a:Nat),1<=a->a + f<=n->Up r p a->ge (okN n) (ltR r) (kas_asc p f a) (fun m=>a<=m/\m<=a + f/\Up r p m/\(∀ i,m < a + f->i=m->gk r p i < gk r p (i - 1)))
 | 0,a,_,_,u=>⟨Nat.le_refl _,Nat.le_refl _,u,fun i h=>absurd h (by omega)⟩
 | f + 1,a,h1,h2,u=>by
  refine ⟨⟨h.bd hn _,h.bd hn _⟩,?_⟩
  by_cases c:r (p.getD a 0) < r (p.getD (a - 1) 0)
  ·rw [show ltR r (p.getD a 0) (p.getD (a - 1) 0)=true from decide_eq_true c]
   dsimp only
   rw [if_pos rfl]
   exact ⟨Nat.le_refl _,by omega,u,fun i _ e=>by subst e;exact c⟩
  ·rw [show ltR r (p.getD a 0) (p.getD (a - 1) 0)=false from decide_eq_false c]
   dsimp only
   rw [if_neg (by decide)]
   have u':Up r p (a + 1):=fun i j hij hj=>by
    by_cases e:j=a
    ·subst e
     by_cases e2:i=j
     ·subst e2;exact Nat.le_refl _
     ·have:=u i (j - 1) (by omega) (by omega)
      have c:¬ gk r p j < gk r p (j - 1):=c
      omega
    ·exact u i j hij (by omega)
   refine cN (fun m hm=>⟨by omega,by omega,hm.2.2.1,fun i h e=>hm.2.2.2 i (by omega) e⟩) (nV hn h f (a + 1) (by omega) (by omega) u')
theorem jB (hn:0 < n):∀ (f:Nat) (p:Array Nat) (a q:Nat),PN n p->a + f<=n->q + 1<=a->Dn r p a->(∀ k,a - (q + 1)<=k->k < a->gk r p k=gk r p (a - 1)) ->
  ge (okN n) (ltR r) (kas_desc f p a q) (fun z=>PN n z.1/\a<=z.2.1/\z.2.1<=a + f/\z.2.2 + 1<=z.2.1/\Dn r z.1 z.2.1/\(∀ k,z.2.1 - (z.2.2 + 1)<=k->k < z.2.1->gk r z.1 k=gk r z.1 (z.2.1 - 1)))
 | 0,p,a,q,h,h1,h2,d,e=>⟨h,Nat.le_refl _,Nat.le_refl _,h2,d,e⟩
 | f + 1,p,a,q,h,h1,h2,d,e=>by
  have sz:=h.size
  refine ⟨⟨h.bd hn _,h.bd hn _⟩,?_⟩
  by_cases c:r (p.getD a 0) < r (p.getD (a - 1) 0)
  ·rw [show ltR r (p.getD a 0) (p.getD (a - 1) 0)=true from decide_eq_true c]
   dsimp only
   rw [if_pos rfl]
   have c:gk r p a < gk r p (a - 1):=c
   have d':Dn r p (a + 1):=fun i j hij hj=>by
    by_cases ej:j=a
    ·subst ej
     by_cases ei:i=j
     ·subst ei;exact Nat.le_refl _
     ·have:=d i (j - 1) (by omega) (by omega)
      omega
    ·exact d i j hij (by omega)
   by_cases hq:q > 0
   ·rw [if_pos hq]
    have same:∀ k,gk r (kas_rev p (a - (q + 1)) a) k=gk r p k:=fun k=>by
     rw [nW (by omega)]
     split
     ·rw [e _ (by omega) (by omega),e k (by omega) (by omega)]
     ·rfl
    refine cN (fun z hz=>⟨hz.1,by omega,by omega,hz.2.2.2.1,hz.2.2.2.2⟩) (jB hn f (kas_rev p (a - (q + 1)) a) (a + 1) 0 (h.mir _ _ _) (by omega) (by omega) (fun i j hij hj=>by rw [same,same];exact d' i j hij hj) (fun k h1 h2=>by rw [show k=a + 1 - 1 by omega]))
   ·rw [if_neg hq]
    refine cN (fun z hz=>⟨hz.1,by omega,by omega,hz.2.2.2.1,hz.2.2.2.2⟩) (jB hn f p (a + 1) 0 h (by omega) (by omega) d' (fun k h1 h2=>by rw [show k=a + 1 - 1 by omega]))
  ·rw [show ltR r (p.getD a 0) (p.getD (a - 1) 0)=false from decide_eq_false c]
   dsimp only
   rw [if_neg (by decide)]
   have c:¬ gk r p a < gk r p (a - 1):=c
   refine ⟨⟨h.bd hn _,h.bd hn _⟩,?_⟩
   by_cases c2:r (p.getD (a - 1) 0) < r (p.getD a 0)
   ·rw [show ltR r (p.getD (a - 1) 0) (p.getD a 0)=true from decide_eq_true c2]
    dsimp only
    rw [if_pos rfl]
    exact ⟨h,Nat.le_refl _,Nat.le_add_right _ _,h2,d,e⟩
   ·rw [show ltR r (p.getD (a - 1) 0) (p.getD a 0)=false from decide_eq_false c2]
    dsimp only
    rw [if_neg (by decide)]
    have c2:¬ gk r p (a - 1) < gk r p a:=c2
    have ee:gk r p a=gk r p (a - 1):=by omega
    refine cN (fun z hz=>⟨hz.1,by omega,by omega,hz.2.2.2.1,hz.2.2.2.2⟩) (jB hn f p (a + 1) (q + 1) h (by omega) (by omega) (fun i j hij hj=>by
     by_cases ej:j=a
     ·subst ej
      by_cases ei:i=j
      ·subst ei;exact Nat.le_refl _
      ·have:=d i (j - 1) (by omega) (by omega)
       omega
     ·exact d i j hij (by omega)) (fun k h1 h2=>by
     rw [show a + 1 - 1=a by omega]
     by_cases ek:k=a
     ·rw [ek]
     ·rw [e k (by omega) (by omega),ee]))
def Cnt (n:Nat) (r:Nat->Nat) (z:Nat × Array Nat):Prop:=PN n z.2/\1<=z.1/\z.1<=n/\Up r z.2 z.1
theorem Bh {p:Array Nat} {a:Nat} (ha:a<=p.size) (d:Dn r p a):Up r (kas_rev p 0 a) a:=fun i j hij hj=>by
 rw [nW ha,nW ha,if_pos (by omega),if_pos (by omega)]
 exact d _ _ (by omega) (by omega)
theorem nU (hn:0 < n) {p:Array Nat} {a:Nat} (h:PN n p) (h1:1<=a) (h2:a<=n) (d:Dn r p a):ge (okN n) (ltR r) (kas_tail3 a n p) (Cnt n r):=by
 unfold kas_tail3
 refine e_ (cN (fun m hm=>?_) (nV hn (h.mir 0 a _) (n - a) a h1 (by omega) (Bh (by rw [h.size];exact h2) d)))
 exact ⟨h.mir _ _ _,by omega,by omega,hm.2.2.1⟩
theorem jL (hn:0 < n) {p:Array Nat} {a:Nat} (h:PN n p) (h1:1<=a) (h2:a < n) (d:Dn r p (a + 1)):ge (okN n) (ltR r) (kas_descPart a n p) (Cnt n r):=by
 unfold kas_descPart
 refine e_ (cN (fun z hz=>?_) (jB hn (n - (a + 1)) p (a + 1) 0 h (by omega) (by omega) d (fun k h1 h2=>by rw [show k=a + 1 - 1 by omega])))
 obtain ⟨z1,z2,z3,z4,z5,z6⟩:=hz
 have sz:=z1.size
 by_cases c:z.2.2 > 0
 ·rw [if_pos c]
  have same:∀ k,gk r (kas_rev z.1 (z.2.1 - (z.2.2 + 1)) z.2.1) k=gk r z.1 k:=fun k=>by
   rw [nW (by omega)]
   split
   ·rw [z6 _ (by omega) (by omega),z6 k (by omega) (by omega)]
   ·rfl
  exact nU hn (z1.mir _ _ _) (by omega) (by omega) (fun i j hij hj=>by
   show gk r (kas_rev _ _ _) j<=gk r (kas_rev _ _ _) i
   rw [same,same];exact z5 i j hij hj)
 ·rw [if_neg c]
  exact nU hn z1 (by omega) (by omega) z5
theorem t_ (hn:0 < n) {p:Array Nat} (h:PN n p):ge (okN n) (ltR r) (kas_count n p) (Cnt n r):=by
 unfold kas_count
 refine e_ (cN (fun m hm=>?_) (nV hn h (n - 1) 1 (Nat.le_refl _) (by omega) (fun i j hij hj=>by rw [show i=j by omega];exact Nat.le_refl _)))
 obtain ⟨m1,m2,m3,m4⟩:=hm
 have sz:=h.size
 by_cases c:m=n
 ·rw [if_pos (by simpa using c)]
  exact ⟨h,by omega,by omega,m3⟩
 ·rw [if_neg (by simpa using c)]
  have lt:=m4 m (by omega) rfl
  by_cases c1:m > 1
  ·rw [if_pos c1]
   refine ⟨⟨h.bd hn _,h.bd hn _⟩,?_⟩
   by_cases c2:r (p.getD 0 0) < r (p.getD (m - 1) 0)
   ·rw [show ltR r (p.getD 0 0) (p.getD (m - 1) 0)=true from decide_eq_true c2]
    dsimp only
    rw [if_pos rfl]
    exact ⟨h,by omega,by omega,m3⟩
   ·rw [show ltR r (p.getD 0 0) (p.getD (m - 1) 0)=false from decide_eq_false c2]
    dsimp only
    rw [if_neg (by decide)]
    have c2:¬ gk r p 0 < gk r p (m - 1):=c2
    have eq:∀ k,k < m->gk r p k=gk r p 0:=fun k hk=>by
     have a:=m3 0 k (by omega) hk
     have b:=m3 k (m - 1) (by omega) (by omega)
     omega
    have same:∀ k,gk r (kas_rev p 0 m) k=gk r p k:=fun k=>by
     rw [nW (by omega)]
     split
     ·rw [eq _ (by omega),eq k (by omega)]
     ·rfl
    exact jL hn (h.mir _ _ _) m1 (by omega) (fun i j hij hj=>by
     show gk r (kas_rev _ _ _) j<=gk r (kas_rev _ _ _) i
     rw [same,same]
     by_cases ej:j=m
     ·subst ej
      by_cases ei:i=j
      ·subst ei;exact Nat.le_refl _
      ·have:=eq i (by omega)
       have:=eq (j - 1) (by omega)
       omega
     ·rw [eq i (by omega),eq j (by omega)];exact Nat.le_refl _)
  ·rw [if_neg c1]
   have em:m=1:=by omega
   subst em
   exact jL hn h m1 (by omega) (fun i j hij hj=>by
    by_cases ei:i=j
    ·subst ei;exact Nat.le_refl _
    ·have:i=0:=by omega
     have:j=1:=by omega
     subst i;subst j
     exact Nat.le_of_lt lt)
theorem jW (hn:0 < n) {p:Array Nat} (h:PN n p) {k:Nat} (u:Up r p k):∀ (f l t:Nat),t<=k->l<=t->t - l<=f->(∀ i,i < l->gk r p i<=gk r p k)->(∀ i,t<=i->i < k->gk r p k < gk r p i) ->
  ge (okN n) (ltR r) (kas_place p k f l t) (fun m=>m<=k/\(∀ i,i < m->gk r p i<=gk r p k)/\(∀ i,m<=i->i < k->gk r p k < gk r p i))
 | 0,l,t,h1,h2,h3,a,b=>⟨by omega,a,fun i hi hk=>b i (by omega) hk⟩
 | f + 1,l,t,h1,h2,h3,a,b=>by
  unfold kas_place
  by_cases c:l ≥ t
  ·rw [if_pos c]
   exact ⟨by omega,a,fun i hi hk=>b i (by omega) hk⟩
  ·rw [if_neg c]
   refine ⟨⟨h.bd hn _,h.bd hn _⟩,?_⟩
   by_cases c2:r (p.getD k 0) < r (p.getD ((l + t) / 2) 0)
   ·rw [show ltR r (p.getD k 0) (p.getD ((l + t) / 2) 0)=true from decide_eq_true c2]
    dsimp only
    rw [if_pos rfl]
    have c2:gk r p k < gk r p ((l + t) / 2):=c2
    exact jW hn h u f l _ (by omega) (by omega) (by omega) a (fun i hi hk=>by
     have:=u ((l + t) / 2) i hi hk
     omega)
   ·rw [show ltR r (p.getD k 0) (p.getD ((l + t) / 2) 0)=false from decide_eq_false c2]
    dsimp only
    rw [if_neg (by decide)]
    have c2:¬ gk r p k < gk r p ((l + t) / 2):=c2
    exact jW hn h u f _ t h1 (by omega) (by omega) (fun i hi=>by
     have:=u i ((l + t) / 2) (by omega) (by omega)
     omega) b
theorem su (hn:0 < n):∀ (f:Nat) (p:Array Nat) (k:Nat),PN n p->k + f=n->Up r p k->ge (okN n) (ltR r) (kas_bin f p k) (fun z=>PN n z/\Up r z n)
 | 0,p,k,h,e,u=>⟨h,(show k=n from e) ▸ u⟩
 | f + 1,p,k,h,e,u=>by
  have sz:=h.size
  unfold kas_bin
  refine e_ (cN (fun m hm=>?_) (jW hn h u k 0 k (Nat.le_refl _) (by omega) (by omega) (fun i hi=>absurd hi (by omega)) (fun i hi hk=>absurd hi (by omega))))
  obtain ⟨m1,m2,m3⟩:=hm
  refine su hn f _ (k + 1) (h.bub _ _) (by omega) (fun i j hij hj=>?_)
  rw [yg (by omega) (by omega),yg (by omega) (by omega)]
  have e1:k - (k - m)=m:=by omega
  rw [e1]
  by_cases i1:i=m
  ·rw [if_pos i1]
   by_cases j1:j=m
   ·rw [if_pos j1];exact Nat.le_refl _
   ·rw [if_neg j1,if_pos (by omega)]
    exact Nat.le_of_lt (m3 (j - 1) (by omega) (by omega))
  ·rw [if_neg i1]
   by_cases i2:m < i/\i<=k
   ·rw [if_pos i2,if_neg (by omega),if_pos (by omega)]
    exact u _ _ (by omega) (by omega)
   ·rw [if_neg i2]
    by_cases j1:j=m
    ·rw [if_pos j1]
     exact m2 i (by omega)
    ·rw [if_neg j1]
     by_cases j2:m < j/\j<=k
     ·rw [if_pos j2]
      exact u _ _ (by omega) (by omega)
     ·rw [if_neg j2]
      exact u _ _ hij (by omega)
theorem wu (hn:0 < n):ge (okN n) (ltR r) (kas_sort n) (fun z=>PN n z/\Up r z n):=by
 unfold kas_sort
 refine e_ (cN (fun z hz=>?_) (t_ hn ⟨Array.Perm.refl _⟩))
 obtain ⟨z1,z2,z3,z4⟩:=hz
 by_cases c:z.1 < n
 ·rw [if_pos c]
  have:max z.1 1=z.1:=by omega
  rw [this]
  exact su hn _ _ _ z1 (by omega) z4
 ·rw [if_neg c]
  have:z.1=n:=by omega
  rw [this] at z4
  exact ⟨z1,z4⟩
end
theorem pP {p q:Nat->Bool}:∀ {l:List Nat},(∀ x ∈ l,p x=true->q x=true)->(∃ x ∈ l,q x=true/\p x=false)->l.countP p < l.countP q
 | [],_,⟨_,h,_⟩=>by cases h
 | a :: l,h,⟨x,hx,h1,h2⟩=>by
  rw [List.countP_cons,List.countP_cons]
  have mono:=List.countP_mono_left (l:=l) fun x hx=>h x (List.mem_cons_of_mem _ hx)
  rcases List.mem_cons.mp hx with rfl | hx
  ·rw [h1,h2];simp;omega
  ·have:=pP (l:=l) (fun x hx=>h x (List.mem_cons_of_mem _ hx)) ⟨x,hx,h1,h2⟩
   have:=h a (by simp)
   split <;> split <;> simp_all <;> omega
def rk (xs:List (List Int)) (i:Nat):Nat:=(List.range xs.length).countP fun j=>cX (xs.getD j []) (xs.getD i [])
theorem AZ {xs:List (List Int)} {i j:Nat} (hi:i < xs.length) (h:cX (xs.getD i []) (xs.getD j [])=true):rk xs i < rk xs j :=
 pP (fun k _ hk=>ir hk h) ⟨i,List.mem_range.mpr hi,h,nN _⟩
theorem xg {xs:List (List Int)} {i j:Nat} (hi:i < xs.length) (hj:j < xs.length):cX (xs.getD i []) (xs.getD j [])=decide (rk xs i < rk xs j):=by
 cases e:cX (xs.getD i []) (xs.getD j []) with
 | true=>exact (decide_eq_true (AZ hi e)).symm
 | false =>
  refine (decide_eq_false ?_).symm
  cases e2:cX (xs.getD j []) (xs.getD i []) with
  | true=>have:=AZ hj e2;omega
  | false =>
   have:xs.getD i []=xs.getD j []:=kz e e2
   unfold rk
   rw [this];omega
theorem Bt {xs:List (List Int)} {p:Array Nat} (h:PN xs.length p) (u:Up (rk xs) p xs.length):p.toList.map (fun i=>xs.getD i [])=jH xs:=by
 have sz:=h.size
 refine (jv ?_ ?_).symm
 ·have e:xs=(List.range xs.length).map fun i=>xs.getD i []:=by
   apply List.ext_getElem
   ·simp
   ·intro i h1 h2
    simp [h1]
  have:=(Array.perm_iff_toList_perm.mp h.pe).map fun i=>xs.getD i []
  rw [List.toList_toArray] at this
  refine this.trans ?_
  rw [<- e]
 ·rw [List.pairwise_map,List.pairwise_iff_getElem]
  intro i j hi hj hij
  have hi':i < p.size:=by simpa using hi
  have hj':j < p.size:=by simpa using hj
  have:=u i j (by omega) (by omega)
  unfold gk at this
  rw [Array.getD_eq_getD_getElem?,Array.getD_eq_getD_getElem?,Array.getElem?_eq_getElem hi',Array.getElem?_eq_getElem hj'] at this
  have b:∀ k (hk:k < p.size),p[k] < xs.length:=fun k hk=>by
   have:=h.pe.mem_iff.mp (Array.getElem_mem hk)
   simpa using this
  unfold leL
  rw [Array.getElem_toList,Array.getElem_toList,xg (b j hj') (b i hi'),decide_eq_false (by simpa using this)]
  rfl
end DL
namespace DL
open PySem PySem.Spec PyProof.Rows L2
def lR:List D->Option (List (List Int))
 | []=>some []
 | .lst xs :: r=>match hU xs with
  | some l=>(lR r).map (l :: ·)
  | none=>none
 | _=>none
def rwI (l:List Int):D:=.lst (l.map D.int)
def Aj:D->R (List D)
 | .lst xs=>match lR xs with
  | some ls=>if ls.length < 64 then .val ((jH ls).map rwI) else .bad
  | none=>.bad
 | _=>.bad
def yo (F:Rho->R D):Rho->R (List D):=fun ρ=>(F ρ).bind Aj
theorem si {α:Type} {prog:Program} {w:World} {A:Around} {κ:SortKind} {it:Array Keyed} {ok:Nat->Nat->Prop} {lt:Nat->Nat->Bool} {s:Shared} (hc:∀ i j (C:Bool->Shared->Prop),ok i j->C (lt i j) s->PySem.W.kas_cmp prog w A κ it i j C s) {Q:α->Prop} :
  ∀ {t:PySem.W.KasT α},ge ok lt t Q->t.kasWp (PySem.W.kas_cmp prog w A κ it) (fun a s'=>s'=s/\Q a) s
 | .ret a,h=>⟨rfl,h⟩
 | .ask i j k,h=>hc i j _ h.1 (si hc h.2)
theorem A9 {xs:List Int} {i:Nat} (h:i < xs.length):xs.getD i 0=xs[i]:=by rw [List.getD_eq_getElem?_getD,List.getElem?_eq_getElem h];rfl
open PySem.MeetsSeq3 in
open PySem.AutoSeq1 (wpAny_loadPart') in
theorem z8 (l b:Addr) (items items2:Array Value) (n n2:Nat) (dd dd2:Option Addr) (sl sl2:Array (Option Value)) (xs ys:List Int) (hx:xs.length=items.size) (hy:ys.length=items2.size)
  (ix:∀ j,j < items.size->∃ t,items[j]?=some (.int (xs.getD j 0) t)) (iy:∀ j,j < items2.size->∃ t,items2[j]?=some (.int (ys.getD j 0) t)) (k:Nat) :
  ∀ i:Nat,items.size - i=k->i<=items.size->i<=items2.size->Meets (Builtin.«list.__eq__.loop» ⟨[.ref l,.ref b,rawInt i,rawInt 0],[]⟩)
   (fun A R s=>s.heap.get? l=some { cls:=.type "list",dict:=dd,data:=.seq items n,slots:=sl }/\s.heap.get? b=some { cls:=.type "list",dict:=dd2,data:=.seq items2 n2,slots:=sl2 } /\
    R (.ok (.ret (.bool (cX (xs.drop i) (ys.drop i))))) s):=by
 induction k with
 | zero =>
  intro i hk h1 h2 prog w A R s h
  obtain ⟨hp,g,d,tk,os⟩:=s;obtain ⟨hl,hb,h⟩:=h
  wp_walk using wpAny_loadPart' hl,wpAny_loadPart' hb
  have hi1:items[((i:Nat):Int).toNat]?=none:=by simp;omega
  have e1:xs.drop i=[]:=List.drop_eq_nil_of_le (by omega)
  rw [hi1]
  wp_walk using wpAny_loadPart' hl,wpAny_loadPart' hb
  show R (.ok (.ret (.bool (decide (items.size < items2.size))))) _
  rw [e1] at h
  by_cases c:items.size < items2.size
  ·rw [List.drop_eq_getElem_cons (by omega:i < ys.length)] at h
   rw [decide_eq_true c];exact h
  ·rw [List.drop_eq_nil_of_le (by omega:ys.length<=i)] at h
   rw [decide_eq_false c];exact h
 | succ k ih =>
  intro i hk h1 h2 prog w A R s h
  obtain ⟨hp,g,d,tk,os⟩:=s;obtain ⟨hl,hb,h⟩:=h
  wp_walk using wpAny_loadPart' hl,wpAny_loadPart' hb
  have hlt:i < items.size:=by omega
  obtain ⟨t,ht⟩:=ix i hlt
  have hi1:items[((i:Nat):Int).toNat]?=some (.int (xs.getD i 0) t):=by rw [Int.toNat_natCast];exact ht
  have gx:xs.drop i=xs.getD i 0 :: xs.drop (i + 1):=by rw [List.drop_eq_getElem_cons (by omega:i < xs.length),A9 (by omega:i < xs.length)]
  have hc:((i:Int) + 1)=((i + 1:Nat):Int):=by push_cast;rfl
  rw [hi1]
  rw [gx] at h
  by_cases c:i < items2.size
  ·obtain ⟨u,hu⟩:=iy i c
   have hi2:items2[((i:Nat):Int).toNat]?=some (.int (ys.getD i 0) u):=by rw [Int.toNat_natCast];exact hu
   have gy:ys.drop i=ys.getD i 0 :: ys.drop (i + 1):=by rw [List.drop_eq_getElem_cons (by omega:i < ys.length),A9 (by omega:i < ys.length)]
   rw [gy] at h
   rw [hi2]
   refine wpAny_bind (PySem.SeqAt.EqAt.int_int (xs.getD i 0) t (ys.getD i 0) u prog w _ _ ?_)
   by_cases e:xs.getD i 0=ys.getD i 0
   ·rw [show (xs.getD i 0 == ys.getD i 0)=true from beq_iff_eq.mpr e]
    wp_walk
    rw [hc]
    exact ⟨plainId_quiet plain_eq_loop _,codeAny_builtin entry_eq_loop (by
     rw [Around.under_plainId plain_eq_loop _]
     refine ih (i + 1) (by omega) (by omega) (by omega) prog w A R _ ⟨hl,hb,?_⟩
     have q:cX (xs.getD i 0 :: xs.drop (i + 1)) (ys.getD i 0 :: ys.drop (i + 1))=cX (xs.drop (i + 1)) (ys.drop (i + 1)):=if_pos e
     rw [q] at h;exact h)⟩
   ·rw [show (xs.getD i 0 == ys.getD i 0)=false from beq_eq_false_iff_ne.mpr e]
    wp_walk using wpAny_loadPart' hl,wpAny_loadPart' hb
    rw [hi1,hi2]
    have q:cX (xs.getD i 0 :: xs.drop (i + 1)) (ys.getD i 0 :: ys.drop (i + 1))=decide (xs.getD i 0 < ys.getD i 0):=if_neg e
    rw [q] at h
    dsimp only
    refine wpAny_bind (wpAny_lt_int ?_)
    wp_walk
    exact h
  ·have hi2:items2[((i:Nat):Int).toNat]?=none:=by simp;omega
   rw [hi2]
   rw [List.drop_eq_nil_of_le (by omega:ys.length<=i)] at h
   wp_walk using wpAny_loadPart' hl,wpAny_loadPart' hb
   show R (.ok (.ret (.bool (decide (items.size < items2.size))))) _
   rw [decide_eq_false (by omega)];exact h
open PySem.MeetsSeq3 in
open PySem.AutoSeq1 (wpAny_loadPart') in
theorem z9 (l b:Addr) (items items2:Array Value) (n n2:Nat) (dd dd2:Option Addr) (sl sl2:Array (Option Value)) (xs ys:List Int) (hx:xs.length=items.size) (hy:ys.length=items2.size)
  (ix:∀ j,j < items.size->∃ t,items[j]?=some (.int (xs.getD j 0) t)) (iy:∀ j,j < items2.size->∃ t,items2[j]?=some (.int (ys.getD j 0) t)) :
  Meets (Builtin.«list.__lt__» ⟨[.ref l,.ref b],[]⟩)
   (fun A R s=>s.heap.get? l=some { cls:=.type "list",dict:=dd,data:=.seq items n,slots:=sl }/\s.heap.get? b=some { cls:=.type "list",dict:=dd2,data:=.seq items2 n2,slots:=sl2 } /\
    R (.ok (.ret (.bool (cX xs ys)))) s):=by
 intro prog w A R s h
 obtain ⟨hp,g,d,tk,os⟩:=s;obtain ⟨hl,hb,h⟩:=h
 have f3:=PySem.AutoSeq1.sub_list_list
 wp_walk using wpAny_loadPart' hl,wpAny_loadPart' hb
 exact ⟨plainId_quiet plain_eq_loop _,codeAny_builtin entry_eq_loop (by
  rw [Around.under_plainId plain_eq_loop _]
  exact z8 l b items items2 n n2 dd dd2 sl sl2 xs ys hx hy ix iy _ 0 rfl (Nat.zero_le _) (Nat.zero_le _) prog w A R _ ⟨hl,hb,h⟩)⟩
def RowAt (h:Heap) (v:Value) (xs:List Int):Prop:=∃ (l:Addr) (items:Array Value) (n:Nat),v=.ref l/\h.get? l=some { cls:=.type "list",dict:=none,data:=.seq items n,slots:=#[] }/\xs.length=items.size/\∀ j,j < items.size->∃ t,items[j]?=some (.int (xs.getD j 0) t)
section
variable {prog:Program} {w:World} {A:Around} {E:Value->Shared->Prop} {s:Shared}
theorem Ch {u v:Value} {xs ys:List Int} {Q:Bool->Shared->Prop} (hu:RowAt s.heap u xs) (hv:RowAt s.heap v ys) (ha:A.units < cLine) (h:Q (cX xs ys) s):wpAny (model prog w) A (oneLt' true u v) Q E s:=by
 obtain ⟨l,items,n,rfl,hl,hx,ix⟩:=hu
 obtain ⟨b,items2,n2,rfl,hb,hy,iy⟩:=hv
 rw [oneLt'_eq]
 simp only [if_true]
 refine wpAny_bind (wpAny_cRoomFor ha ?_)
 refine wpAny_bind (wpAny_callSpecialIfBound?_slot (name:="__lt__") ⟨_,hl,rfl⟩ PySem.F.slot_list_lt (call_meets PySem.F.slot_list_lt ⟨_,hl,rfl⟩ PySem.F.entry_list_lt (PySem.F.args_list_lt_2 _ _) (z9 l b items items2 n n2 none none #[] #[] xs ys hx hy ix iy) ⟨hl,hb,?_⟩))
 exact wpAny_truthy_bool h
end
section
variable {prog:Program} {w:World} {A:Around} {E:Value->Shared->Prop} {s:Shared}
def uz (h:Heap) (vs:List Value) (ls:List (List Int)):Prop:=vs.length=ls.length/\∀ i,i < ls.length->RowAt h (vs.getD i Value.none) (ls.getD i [])
theorem RowAt.kept {h h':Heap} {v:Value} {xs:List Int} (r:RowAt h v xs) (k:∀ b o,h.get? b=some o->h'.get? b=some o):RowAt h' v xs:=by
 obtain ⟨l,items,n,e,hl,hx⟩:=r
 exact ⟨l,items,n,e,k _ _ hl,hx⟩
theorem xE (vs:List Value):Array.map (fun x=>x.2) (vs.toArray.zip vs.toArray)=vs.toArray:=by
 apply Array.toList_inj.mp
 rw [Array.toList_map,Array.toList_zip,List.map_snd_zip (by simp)]
theorem tJ (vs:List Value):(List.range vs.length).map (fun i=>vs.getD i Value.none)=vs:=by
 apply List.ext_getElem
 ·simp
 ·intro i h1 h2
  simp [h2]
theorem v9 {a:Addr} {vs:List Value} {ls:List (List Int)} {n:Nat} {P:PySem.Fin->Shared->Prop} (ho:s.heap.get? a=some (seqObj "list" vs.toArray n)) (hr:uz s.heap vs ls) (hna:∀ i,i < ls.length->vs.getD i Value.none ≠ .ref a) (h64:vs.length < 64) (ha:A.units < cLine)
  (h:∀ p:List Nat,p.Perm (List.range ls.length)->p.map (fun i=>ls.getD i [])=jH ls->P (.done (.ret .none)) { s with heap:=sortedHeap s.heap a vs (p.map fun i=>vs.getD i Value.none).toArray }) :
  wpAny (model prog w) A (Builtin.«list.sort» ⟨[.ref a],[]⟩) P E s:=by
 rw [list_sort_plain]
 have hlt:a < s.heap.objs.size:=Heap.lt_size ho
 refine wpAny_bind (listItems_at ho rfl ?_)
 refine wpAny_bind (listUpdate_at ho rfl ?_ (by rw [List.size_toArray,sizeLine_eq];omega) (Nat.zero_le _))
 obtain ⟨e1,ho1⟩:∃ e1,(s.heap.update a (Obj.mapSeq fun _=>#[])).get? a=some (seqObj "list" #[] e1):=⟨_,get?_update_seq ho (fun _=>#[])⟩
 refine wpAny_bind (seqEpoch_at ho1 rfl ?_)
 refine wpAny_bind (wpAny_newTuple ?_ (by show vs.length<=_;rw [sizeLine_eq];omega))
 refine wpAny_bind (wpAny_newList ?_ (Nat.zero_le _))
 refine wpAny_holding ?_
 have ho6:(((s.heap.update a (Obj.mapSeq fun _=>#[])).push (seqObj "tuple" vs.toArray 0)).push (seqObj "list" #[] 0)).get? a=some (seqObj "list" #[] e1):=by
  rw [Heap.get?_push_ne _ _ _ (by rw [size_push',Heap.size_update];exact Nat.ne_of_lt (Nat.lt_succ_of_lt hlt)),Heap.get?_push_ne _ _ _ (by rw [Heap.size_update];exact Nat.ne_of_lt hlt)]
  exact ho1
 show wpAny (model prog w) A _ P E { s with heap:=((s.heap.update a (Obj.mapSeq fun _=>#[])).push (seqObj "tuple" vs.toArray 0)).push (seqObj "list" #[] 0) }
 dsimp only
 have keep:∀ b o,b ≠ a->s.heap.get? b=some o->(((s.heap.update a (Obj.mapSeq fun _=>#[])).push (seqObj "tuple" vs.toArray 0)).push (seqObj "list" #[] 0)).get? b=some o:=fun b o hb e=>by
  refine Heap.get?_push_of_some _ (Heap.get?_push_of_some _ ?_)
  rw [Heap.get?_update_ne _ _ _ _ hb];exact e
 have rows:∀ i,i < ls.length->RowAt (((s.heap.update a (Obj.mapSeq fun _=>#[])).push (seqObj "tuple" vs.toArray 0)).push (seqObj "list" #[] 0)) (vs.getD i Value.none) (ls.getD i []):=fun i hi=>by
  obtain ⟨l,items,m,e,hl,hx⟩:=hr.2 i hi
  exact ⟨l,items,m,e,keep _ _ (fun z=>hna i hi (by rw [e,z])) hl,hx⟩
 have hl:=hr.1
 by_cases h2:vs.toArray.size < 2
 ·rw [if_pos h2,if_pos h2]
  refine wpAny_bind (wpAny_pure ?_)
  rw [StateT.run_pure]
  refine wpAny_bind (wpAny_pure ?_)
  dsimp only
  refine wpAny_bind (seqEpoch_at ho6 rfl ?_)
  refine wpAny_bind (listUpdate_at ho6 rfl ?_ (hsz2:=by rw [Array.size_map];show (pairsOf vs).size<=_;rw [pairsOf_size,sizeLine_eq];omega))
  simp only [bne_self_eq_false,Bool.false_eq_true,if_false]
  refine wpAny_pure ?_
  have h2:vs.length < 2:=by simpa using h2
  have out:Array.map (fun x=>x.2) (arrOf (SortSt.mk' general' (vs.toArray.zip vs.toArray) #[] 7 none))=((List.range ls.length).map fun i=>vs.getD i Value.none).toArray:=by
   show Array.map (fun x=>x.2) (vs.toArray.zip vs.toArray)=_
   rw [xE,<- hl,tJ]
  have srt:(List.range ls.length).map (fun i=>ls.getD i [])=jH ls:=by
   match ls,hl,h2 with
   | [],_,_=>exact (jv (List.Perm.refl _) List.Pairwise.nil).symm
   | [x],_,_=>exact (jv (xs:=[x]) (ys:=[x]) (List.Perm.refl _) (List.pairwise_singleton _ _)).symm
   | _ :: _ :: _,h,h'=>rw [h] at h';simp at h';omega
  have:=h (List.range ls.length) (List.Perm.refl _) srt
  rw [<- out] at this
  exact this
 ·rw [if_neg h2,if_neg h2]
  have h2:2<=vs.length:=by simpa using h2
  have mem:∀ v ∈ vs,∃ i,i < ls.length/\vs.getD i Value.none=v:=fun v hv=>by
   obtain ⟨i,hi,e⟩:=List.mem_iff_getElem.mp hv
   exact ⟨i,by omega,by rw [List.getD_eq_getElem?_getD,List.getElem?_eq_getElem hi,e];rfl⟩
  refine wpAny_bind (PySem.W.kas_kind (T:=.type "list") h2 (fun v hv=>?_) rfl rfl ?_)
  ·obtain ⟨i,hi,rfl⟩:=mem v hv
   obtain ⟨l,items,m,e,hg,_⟩:=rows i hi
   rw [e]
   exact fun A Q E s' kp q=>wpAny_typeOf (T:="list") ⟨_,kp _ _ hg,rfl⟩ q
  have est:SortSt.mk' oneType' (vs.toArray.zip vs.toArray) #[] 7 none=PySem.W.kas_st oneType' (pairsOf vs) (List.toArray (List.range vs.length)):=by
   have e:=PySem.W.kas_range (pairsOf vs)
   rw [pairsOf_size] at e
   show SortSt.mk' oneType' (pairsOf vs) #[] 7 none=SortSt.mk' oneType' ((List.toArray (List.range vs.length)).map (PySem.W.kas_item (pairsOf vs))) #[] 7 none
   rw [e]
  have gs:=wu (n:=ls.length) (r:=rk ls) (by omega)
  have ask:=si (prog:=prog) (w:=w) (A:=A) (κ:=oneType') (it:=pairsOf vs) (s:={ s with heap:=((s.heap.update a (Obj.mapSeq fun _=>#[])).push (seqObj "tuple" vs.toArray 0)).push (seqObj "list" #[] 0) }) (fun i j C hij hC=>by
   unfold PySem.W.kas_cmp
   rw [PySem.W.kas_item_eq,PySem.W.kas_item_eq,keyLt'_oneType]
   refine Ch (rows i hij.1) (rows j hij.2) ha ?_
   rw [xg hij.1 hij.2];exact hC) gs
  rw [<- hl] at ask
  have run:=PySem.W.kas_runs (E:=E) (Q:=fun _ st' s'=>∃ p:Array Nat,arrOf st'=p.map (PySem.W.kas_item (pairsOf vs))/\failedOf st'=none/\s'={ s with heap:=((s.heap.update a (Obj.mapSeq fun _=>#[])).push (seqObj "tuple" vs.toArray 0)).push (seqObj "list" #[] 0) }/\PN vs.length p/\Up (rk ls) p vs.length)
   h2 h64 (fun p' st' s' a1 a2 a3 a4=>⟨p',a2,a3,a4.1,a4.2⟩) ask
  rw [<- est] at run
  refine wpAny_bind (wpAny_mono run ?_ fun _ _ e=>e)
  rintro ⟨⟨⟩,st'⟩ s' ⟨p,har,hf,rfl,hpn,hup⟩
  rw [hl] at hpn hup
  dsimp only
  have hout:(arrOf st').map (·.2)=(p.toList.map fun i=>vs.getD i Value.none).toArray:=by
   apply Array.toList_inj.mp
   rw [har,Array.map_map,Array.toList_map]
   exact List.map_congr_left fun i _=>by show (PySem.W.kas_item (pairsOf vs) i).2=_;rw [PySem.W.kas_item_eq]
  have hsz:(p.toList.map fun i=>vs.getD i Value.none).toArray.size=ls.length:=by rw [List.size_toArray,List.length_map,Array.length_toList,hpn.size]
  rw [hout]
  refine wpAny_bind (seqEpoch_at ho6 rfl ?_)
  refine wpAny_bind (listUpdate_at ho6 rfl ?_ (Nat.zero_le _) (Nat.le_trans (Nat.le_of_eq hsz) (by rw [sizeLine_eq];omega)))
  rw [hf]
  simp only [bne_self_eq_false,Bool.false_eq_true,if_false]
  refine wpAny_pure (h p.toList ?_ (Bt hpn hup))
  have:=Array.perm_iff_toList_perm.mp hpn.pe
  rwa [List.toList_toArray] at this
theorem rG {l:Addr} {vs:List Value} {ls:List (List Int)} {Q:Value->Shared->Prop} (hl:s.heap.IsList l vs.toArray) (hr:uz s.heap vs ls) (h64:vs.length < 64) (ha:A.units + 2 < cLine)
  (h:∀ p:List Nat,p.Perm (List.range ls.length)->p.map (fun i=>ls.getD i [])=jH ls->Q (.ref (s.heap.objs.size + 1)) { s with heap:=sortedAll s.heap vs (p.map fun i=>vs.getD i Value.none).toArray }) :
  wpAny (model prog w) A (call (.builtin "sorted") [.ref l]) Q E s:=by
 refine Calls.call_function_entry kind_sorted plain_sorted entry_sorted (args_sorted1 _) ?_
 unfold Builtin.«sorted»
 refine wpAny_bind (m:=checkCount "sorted" 1 1 _) (wpAny_pure ?_)
 refine wpAny_bind (collect_list hl ?_ (by rw [sizeLine_eq];omega))
 refine wpAny_bind (wpAny_newList ?_ (by rw [sizeLine_eq];omega))
 have hsz:((s.heap.push (seqObj "list" #[] 0)).update s.heap.objs.size (Obj.mapSeq (· ++ vs.toArray))).objs.size=s.heap.objs.size + 1:=by
  rw [Heap.size_update,size_push']
 have hoL:(((s.heap.push (seqObj "list" #[] 0)).update s.heap.objs.size (Obj.mapSeq (· ++ vs.toArray))).push (seqObj "list" vs.toArray 0)).get? (s.heap.objs.size + 1)=some (seqObj "list" vs.toArray 0):=by
  rw [<- hsz];exact Heap.get?_push_size _ rfl
 have keep:∀ b o,s.heap.get? b=some o->(((s.heap.push (seqObj "list" #[] 0)).update s.heap.objs.size (Obj.mapSeq (· ++ vs.toArray))).push (seqObj "list" vs.toArray 0)).get? b=some o:=fun b o q=>by
  have hlt:b < s.heap.objs.size:=Heap.lt_size q
  rw [Heap.get?_push_ne _ _ _ (by rw [hsz];exact Nat.ne_of_lt (Nat.lt_succ_of_lt hlt)),Heap.get?_update_ne _ _ _ _ (Nat.ne_of_lt hlt),Heap.get?_push_ne _ _ _ (Nat.ne_of_lt hlt)]
  exact q
 show wpAny _ _ _ _ _ { s with heap:=((s.heap.push (seqObj "list" #[] 0)).update s.heap.objs.size (Obj.mapSeq (· ++ vs.toArray))).push (seqObj "list" vs.toArray 0) }
 rw [hsz]
 refine wpAny_bind (wpAny_holding (wpAny_call_entry slot_list_sort ⟨_,hoL,rfl⟩ entry_list_sort (v9 (ls:=ls) hoL ⟨hr.1,fun i hi=>(hr.2 i hi).kept keep⟩ (fun i hi e=>?_) h64 ?_ fun p a1 a2=>⟨_,rfl,?_⟩) (args_list_sort _)))
 ·obtain ⟨b,items,m,e',hg,_⟩:=hr.2 i hi
  rw [e'] at e
  have e2:b=s.heap.objs.size + 1:=by injection e
  have e3:=Heap.lt_size hg
  rw [e2] at e3
  exact absurd e3 (Nat.not_lt_of_ge (Nat.le_succ _))
 ·exact ha
 ·exact wpAny_pure ⟨_,rfl,h p a1 a2⟩
end
section
variable {C:Addr} {X:Cx}
def Es:List V->Hp->VK->Prop:=fun vs H Q=>∃ (l:Addr) (as:List V) (ls:List (List Int)),vs=[.ref l]/\H l=some (.lst as)/\as.length=ls.length/\(∀ i,i < ls.length->∃ b,as.getD i .non=.ref b/\H b=some (.lst ((ls.getD i []).map V.int)))/\ls.length < 64 /\
 ∀ (p:List Nat) (l':Addr),p.Perm (List.range ls.length)->p.map (fun i=>ls.getD i [])=jH ls->H l'=none->Q (.ref l') (upd H l' (.lst (p.map fun i=>as.getD i .non)))
theorem Vals.of_getD {as:List V} {its:List Value} (r:Vals as its):∀ {p:List Nat},(∀ i ∈ p,i < as.length)->Vals (p.map fun i=>as.getD i .non) (p.map fun i=>its.getD i Value.none)
 | [],_=>.nil
 | i :: p,h=>by
  have hi:=h i (by simp)
  have q:as[i]?=some (as.getD i .non):=by rw [List.getD_eq_getElem?_getD,List.getElem?_eq_getElem hi];rfl
  obtain ⟨t,g1,g2⟩:=r.get q
  have:its.getD i Value.none=t:=by rw [List.getD_eq_getElem?_getD,g1];rfl
  rw [List.map_cons,List.map_cons,this]
  exact .cons g2 (Vals.of_getD r fun j hj=>h j (by simp [hj]))
theorem zo {pins:List (Addr × Obj)} {σ:St} {H:Hp} {s:Shared} (I:Inv X pins σ H s) {b:Addr} {xs:List Int} (hH:H b=some (.lst (xs.map V.int))):RowAt s.heap (.ref b) xs:=by
 obtain ⟨z,its,n,r,hl,e⟩:=I.lstM hH
 have hx:xs.length=its.length:=by rw [<- hl,List.length_map]
 refine ⟨b,its.toArray,n,rfl,e,by simpa using hx,fun j hj=>?_⟩
 have hj:j < its.length:=by simpa using hj
 obtain ⟨i,t,e1,e2⟩:=lP r (List.getElem?_eq_getElem hj)
 refine ⟨t,?_⟩
 have:xs.getD j 0=i:=by rw [List.getD_eq_getElem?_getD,e1];rfl
 rw [this]
 simp [hj,e2]
theorem rz {h:Heap} {vs:List Value} {out:Array Value} (b:Addr) (o:Obj) (q:h.get? b=some o):(sortedAll h vs out).get? b=some o:=by
 have hlt:b < h.objs.size:=Heap.lt_size q
 have hsz:((h.push (seqObj "list" #[] 0)).update h.objs.size (Obj.mapSeq (· ++ vs.toArray))).objs.size=h.objs.size + 1:=by
  rw [Heap.size_update,size_push']
 have hb:b ≠ h.objs.size + 1:=Nat.ne_of_lt (Nat.lt_succ_of_lt hlt)
 unfold sortedAll sortedHeap
 rw [Heap.get?_update_ne _ _ _ _ hb]
 refine Heap.get?_push_of_some _ (Heap.get?_push_of_some _ ?_)
 rw [Heap.get?_update_ne _ _ _ _ hb]
 refine Heap.get?_push_of_some _ ?_
 rw [Heap.get?_update_ne _ _ _ _ (Nat.ne_of_lt hlt)]
 exact Heap.get?_push_of_some _ q
theorem tx {h:Heap} {vs:List Value} {out:Array Value}:∃ c,(sortedAll h vs out).get? (h.objs.size + 1)=some (seqObj "list" out c):=by
 have hsz:((h.push (seqObj "list" #[] 0)).update h.objs.size (Obj.mapSeq (· ++ vs.toArray))).objs.size=h.objs.size + 1:=by
  rw [Heap.size_update,size_push']
 have hoL:(((h.push (seqObj "list" #[] 0)).update h.objs.size (Obj.mapSeq (· ++ vs.toArray))).push (seqObj "list" vs.toArray 0)).get? (h.objs.size + 1)=some (seqObj "list" vs.toArray 0):=by
  rw [<- hsz];exact Heap.get?_push_size _ rfl
 have h1:=get?_update_seq hoL (fun _=>(#[]:Array Value))
 have h2:=get?_update_seq (Heap.get?_push_of_some (seqObj "list" #[] 0) (Heap.get?_push_of_some (seqObj "tuple" vs.toArray 0) h1)) (fun _=>out)
 exact ⟨_,h2⟩
theorem sS (hu:X.A.units + 9 < cLine):jO X (.builtin "sorted") Es:=by
 intro pins s σ H xs us Q I rv h
 obtain ⟨l,as,ls,rfl,e,hl,hrow,h64,q⟩:=h
 obtain ⟨u,rfl,ru⟩:=o_ rv
 obtain rfl:=(show u=Value.ref l from ru)
 obtain ⟨z,its,m,r,hlen,eo⟩:=I.lstM e
 have rows:uz s.heap its ls:=by
  refine ⟨by omega,fun i hi=>?_⟩
  obtain ⟨b,g1,g2⟩:=hrow i hi
  have q:as[i]?=some (.ref b):=by rw [<- g1,List.getD_eq_getElem?_getD,List.getElem?_eq_getElem (by omega:i < as.length)];rfl
  obtain ⟨t,g3,g4⟩:=r.get q
  have et:t=Value.ref b:=g4
  have:its.getD i Value.none=.ref b:=by rw [List.getD_eq_getElem?_getD,g3,et];rfl
  rw [this]
  exact zo I g2
 refine rG (s:=s) (l:=l) (vs:=its) ⟨_,eo,rfl,m,rfl⟩ rows (by omega) (by omega) fun p hp hsrt=>?_
 obtain ⟨c,hc⟩:=tx (h:=s.heap) (vs:=its) (out:=(p.map fun i=>its.getD i Value.none).toArray)
 have inr:∀ i ∈ p,i < as.length:=fun i hi=>by
  have:=hp.mem_iff.mp hi
  rw [List.mem_range] at this
  omega
 have rr:=Vals.of_getD r inr
 have pl:p.length=ls.length:=by rw [hp.length_eq,List.length_range]
 exact ⟨.ref (s.heap.objs.size + 1),upd H (s.heap.objs.size + 1) (.lst (p.map fun i=>as.getD i .non)),I.laid (t':=s.toks) (fun b o e=>rz b o e) (Nat.le_succ _) (show ObjOk X.prog X.w _ _ _ (.lst _) from ⟨by rw [List.length_map,sizeLine_eq];omega,_,c,rr,hc⟩),rfl,q p _ hp hsrt (I.hok.fresh (Nat.le_succ _))⟩
theorem rH {K:Frag} {M:Hp}:∀ {xs:List D} {ls:List (List Int)} {vs:List V},lR xs=some ls->HasL K C M vs xs->vs.length=ls.length/\∀ i,i < ls.length->∃ b,vs.getD i .non=.ref b/\M b=some (.lst ((ls.getD i []).map V.int))
 | [],ls,vs,e,h=>by cases e;cases h;exact ⟨rfl,fun i hi=>by cases hi⟩
 | x :: r,ls,vs,e,h=>by
  cases x with
  | lst ys =>
   unfold lR at e
   cases z:hU ys with
   | none=>rw [z] at e;cases e
   | some l =>
    rw [z] at e
    dsimp only at e
    cases z2:lR r with
    | none=>rw [z2] at e;cases e
    | some l' =>
     rw [z2] at e;cases e
     cases h with
     | cons a b =>
      cases a with
      | lst q hh =>
       obtain ⟨i1,i2⟩:=rH z2 b
       refine ⟨by rw [List.length_cons,List.length_cons,i1],fun i hi=>?_⟩
       cases i with
       | zero=>exact ⟨_,rfl,by rw [q,ll z hh];rfl⟩
       | succ i=>exact i2 i (by simpa using hi)
  | _=>cases e
theorem w6 {K:Frag} {M:Hp} {b:Addr} {l:List Int} (h:M b=some (.lst (l.map V.int))):Has K C M (.ref b) (rwI l):=.lst h (HasL.ints l)
theorem uE {K:Frag} {M:Hp} {ls:List (List Int)} {vs:List V} (h:∀ i,i < ls.length->∃ b,vs.getD i .non=.ref b/\M b=some (.lst ((ls.getD i []).map V.int))):∀ {p:List Nat},(∀ i ∈ p,i < ls.length)->HasL K C M (p.map fun i=>vs.getD i .non) ((p.map fun i=>ls.getD i []).map rwI)
 | [],_=>.nil
 | i :: p,hp=>by
  obtain ⟨b,g1,g2⟩:=h i (hp i (by simp))
  rw [List.map_cons,List.map_cons,List.map_cons,g1]
  exact .cons (w6 g2) (uE h fun j hj=>hp j (by simp [hj]))
theorem wx {e : Expr} {p pos : Pos} {F : Rho -> R D} (hu : X.A.units + 9 < cLine) (hg : Gl X "sorted") (hm : X.mg "sorted" = none) (hst : starEach [e] X.env = (false, eval e X.env) :: starEach [] X.env) (he : EB C X e F) :
    FD C X (.Call (.Name "sorted" p) [e] [] pos) (yo F) :=
  aX (fx (sS hu) hg hm boot_sorted (cS he er hst) (he := hst) (hpl := ax)) fun σ H Q yy5 => by
   obtain ⟨ρ, r0, q⟩ := yy5
   exact ⟨ρ, r0, aY (P := fun z H => pF (X := X) (iN C X ρ σ) z σ H Q) (fun _ h => h) (fun h => h) q fun x v H1 s1 h1 q1 => by
    cases x with
    | lst xs =>
      obtain ⟨a, vs, rfl, e1, h2⟩ := h1.lst msk_sub
      unfold Aj at q1
      dsimp only at q1
      cases z : lR xs with
      | none => rw [z] at q1; exact q1.elim
      | some ls =>
        rw [z] at q1
        dsimp only at q1
        by_cases c : ls.length < 64
        · rw [if_pos c] at q1
          obtain ⟨i1, i2⟩ := rH z h2
          refine ⟨a, vs, ls, rfl, e1, i1, fun i hi => ?_, c, fun p l hp hs hl => ?_⟩
          · obtain ⟨b, g1, g2⟩ := i2 i hi
            exact ⟨b, g1, msk_sub _ _ g2⟩
          · refine q1 l _ H1 s1 hl ?_
            rw [<- hs]
            exact uE i2 fun i hi => List.mem_range.mp (hp.mem_iff.mp hi)
        · rw [if_neg c] at q1; exact q1.elim
    | _ => exact q1.elim⟩
end
end DL
namespace Ar
abbrev Arr:=Nat × Nat × List Nat
def Ok (sz:List Nat) (x:Arr):Prop:=∃ n m,sz[x.1]?=some n/\sz[x.2.1]?=some m/\x.2.2.length=n/\∀ y ∈ x.2.2,y < m
def comp (x y:Arr):Arr:=(x.1,y.2.1,x.2.2.map fun i=>y.2.2.getD i 0)
def idm (sz:List Nat) (b:Nat):Arr:=(b,b,List.range (sz.getD b 0))
def funs:Nat->Nat->List (List Nat)
 | 0,_=>[[]]
 | n + 1,m=>(List.range m).flatMap fun y=>(funs n m).map fun l=>y :: l
theorem se:∀ {l:List Nat} {m:Nat},(∀ y ∈ l,y < m)->l ∈ funs l.length m
 | [],m,_=>by simp [funs]
 | y :: l,m,h=>by
  have h1:y < m:=h y (by simp)
  have h2:l ∈ funs l.length m:=se fun z hz=>h z (by simp [hz])
  show y :: l ∈ funs (l.length + 1) m
  simp only [funs,List.mem_flatMap,List.mem_map,List.mem_range]
  exact ⟨y,h1,l,h2,rfl⟩
def Bi (sz:List Nat):List Arr:=(List.range sz.length).flatMap fun a=>(List.range sz.length).flatMap fun b=>(funs (sz.getD a 0) (sz.getD b 0)).map fun f=>(a,b,f)
theorem sd {sz:List Nat} {x:Arr} (h:Ok sz x):x ∈ Bi sz:=by
 obtain ⟨a,b,f⟩:=x
 obtain ⟨n,m,h1,h2,h3,h4⟩:=h
 have ha:a < sz.length:=(List.getElem?_eq_some_iff.mp h1).1
 have hb:b < sz.length:=(List.getElem?_eq_some_iff.mp h2).1
 simp only [Bi,List.mem_flatMap,List.mem_map,List.mem_range]
 refine ⟨a,ha,b,hb,f,?_,rfl⟩
 have e1:sz.getD a 0=n:=by simp only [List.getD,h1];rfl
 have e2:sz.getD b 0=m:=by simp only [List.getD,h2];rfl
 rw [e1,e2,<- h3]
 exact se h4
theorem gM {α:Type} [DecidableEq α]:∀ {l u:List α},l.Nodup->(∀ x ∈ l,x ∈ u)->l.length<=u.length
 | [],_,_,_=>by simp
 | x :: l,u,nd,h=>by
  obtain ⟨h1,h2⟩:=List.nodup_cons.mp nd
  have hx:x ∈ u:=h x (by simp)
  have hl:l.length<=(u.erase x).length:=gM h2 fun y hy=>by
   have:y ≠ x:=fun e=>h1 (e ▸ hy)
   exact (List.mem_erase_of_ne this).mpr (h y (by simp [hy]))
  rw [List.length_erase_of_mem hx] at hl
  have:0 < u.length:=List.length_pos_of_mem hx
  simp only [List.length_cons];omega
def szs:List (List Nat):=[[1],[1,1],[1,1,1],[1,1,1,1],[1,2],[2,1],[2,2],[0,2],[2],[3],[1,1,2],[0,1,2],[1,2,2],[2,1,0]]
theorem rq:∀ sz ∈ szs,(Bi sz).length<=27:=by decide +kernel
theorem ju:∀ sz ∈ szs,1<=sz.length/\sz.length<=4/\∀ n ∈ sz,n<=3:=by decide +kernel
def o8 (kn:List Arr) (x:Arr):List Arr:=if x ∈ kn then kn else kn ++ [x]
def iU (kn:List Arr) (f s:Arr):List Arr:=if f.2.1=s.1 then o8 kn (comp f s) else kn
def jQ (k:Arr) (kn:List Arr) (o:Arr):List Arr:=iU (iU kn k o) o k
def qj (k:Arr) (kn snap:List Arr):List Arr:=snap.foldl (jQ k) kn
theorem sW (kn:List Arr) (x:Arr):kn <+: o8 kn x:=by
 unfold o8;split
 ·exact List.prefix_refl _
 ·exact List.prefix_append _ _
theorem yW (kn:List Arr) (x:Arr):x ∈ o8 kn x:=by
 unfold o8;split
 ·assumption
 ·simp
theorem kR (kn:List Arr) (f s:Arr):kn <+: iU kn f s:=by
 unfold iU;split
 ·exact sW _ _
 ·exact List.prefix_refl _
theorem rj (k:Arr) (kn:List Arr) (o:Arr):kn <+: jQ k kn o:=(kR kn k o).trans (kR _ o k)
theorem iY (k:Arr):∀ (snap kn:List Arr),kn <+: qj k kn snap
 | [],kn=>List.prefix_refl _
 | o :: r,kn=>(rj k kn o).trans (iY k r _)
structure Kn (sz:List Nat) (kn:List Arr):Prop where
 nd:kn.Nodup
 ok:∀ x ∈ kn,Ok sz x
theorem AL {sz:List Nat} {x y:Arr} (hx:Ok sz x) (hy:Ok sz y) (e:x.2.1=y.1):Ok sz (comp x y):=by
 obtain ⟨n,m,h1,h2,h3,h4⟩:=hx
 obtain ⟨n',m',g1,g2,g3,g4⟩:=hy
 refine ⟨n,m',h1,g2,by simp [comp,h3],fun z hz=>?_⟩
 simp only [comp,List.mem_map] at hz
 obtain ⟨i,hi,rfl⟩:=hz
 have hm:m=n':=by rw [e] at h2;rw [h2] at g1;exact Option.some.inj g1
 have:i < y.2.2.length:=by rw [g3,<- hm];exact h4 i hi
 have e3:y.2.2.getD i 0=y.2.2[i]:=by simp [List.getD,List.getElem?_eq_getElem this]
 rw [e3]
 exact g4 _ (List.getElem_mem this)
theorem vQ {sz kn x} (h:Kn sz kn) (hx:Ok sz x):Kn sz (o8 kn x):=by
 unfold o8;split
 ·exact h
 ·rename_i hn
  refine ⟨?_,fun y hy=>?_⟩
  ·rw [List.nodup_append]
   refine ⟨h.nd,by simp,fun a ha b hb=>?_⟩
   simp at hb;subst hb
   exact fun e=>hn (e ▸ ha)
  ·rcases List.mem_append.mp hy with q | q
   ·exact h.ok y q
   ·simp at q;subst q;exact hx
theorem mW {sz kn f s} (h:Kn sz kn) (hf:Ok sz f) (hs:Ok sz s):Kn sz (iU kn f s):=by
 unfold iU;split
 ·exact vQ h (AL hf hs ‹_›)
 ·exact h
theorem uB {sz k kn o} (h:Kn sz kn) (hk:Ok sz k) (ho:Ok sz o):Kn sz (jQ k kn o):=mW (mW h hk ho) ho hk
theorem uZ {sz k} (hk:Ok sz k):∀ {snap kn:List Arr},Kn sz kn->(∀ o ∈ snap,Ok sz o)->Kn sz (qj k kn snap)
 | [],kn,h,_=>h
 | o :: r,kn,h,hs=>uZ hk (snap:=r) (uB h hk (hs o (by simp))) fun q hq=>hs q (by simp [hq])
theorem pi {kn f s} (e:f.2.1=s.1):comp f s ∈ iU kn f s:=by
 unfold iU;rw [if_pos e];exact yW _ _
theorem wQ {k kn o}:(k.2.1=o.1->comp k o ∈ jQ k kn o)/\(o.2.1=k.1->comp o k ∈ jQ k kn o) :=
 ⟨fun e=>(kR _ o k).subset (pi e),fun e=>pi e⟩
theorem ni {k}:∀ {snap kn:List Arr} {o:Arr},o ∈ snap->(k.2.1=o.1->comp k o ∈ qj k kn snap)/\(o.2.1=k.1->comp o k ∈ qj k kn snap)
 | q :: r,kn,o,h=>by
  rcases List.mem_cons.mp h with e | h
  ·subst e
   have t:=wQ (k:=k) (kn:=kn) (o:=o)
   exact ⟨fun e=>(iY k r _).subset (t.1 e),fun e=>(iY k r _).subset (t.2 e)⟩
  ·exact ni (snap:=r) (kn:=jQ k kn q) h
def Cl (kn:List Arr) (n:Nat):Prop:=∀ i j x y,i < n->j < n->kn[i]?=some x->kn[j]?=some y->x.2.1=y.1->comp x y ∈ kn
theorem uT {α:Type} {l l':List α} (h:l <+: l') {i:Nat} {x:α} (e:l[i]?=some x):l'[i]?=some x:=by
 obtain ⟨t,rfl⟩:=h
 rw [List.getElem?_append_left (List.getElem?_eq_some_iff.mp e).1];exact e
theorem zK {kn:List Arr} {n:Nat} {k:Arr} (h:Cl kn n) (hk:kn[n]?=some k):Cl (qj k kn kn) (n + 1):=by
 have pre:=iY k kn kn
 have hn:n < kn.length:=(List.getElem?_eq_some_iff.mp hk).1
 have back:∀ {i x},i < n + 1->(qj k kn kn)[i]?=some x->kn[i]?=some x:=fun {i x} hi e=>by
  have hl:i < kn.length:=by omega
  have:kn[i]?=some kn[i]:=by simp [hl]
  rw [uT pre this] at e;rw [this];exact e
 intro i j x y hi hj hx hy e
 have hx':=back hi hx
 have hy':=back hj hy
 by_cases ei:i=n
 ·subst ei
  rw [hk] at hx';cases hx'
  exact (ni (List.mem_of_getElem? hy')).1 e
 ·by_cases ej:j=n
  ·subst ej
   rw [hk] at hy';cases hy'
   exact (ni (List.mem_of_getElem? hx')).2 e
  ·exact pre.subset (h i j x y (by omega) (by omega) hx' hy' e)
theorem C8 {kn:List Arr} (h:Cl kn kn.length):∀ x ∈ kn,∀ y ∈ kn,x.2.1=y.1->comp x y ∈ kn:=by
 intro x hx y hy e
 obtain ⟨i,hi,rfl⟩:=List.mem_iff_getElem.mp hx
 obtain ⟨j,hj,rfl⟩:=List.mem_iff_getElem.mp hy
 exact h i j _ _ hi hj (by simp [hi]) (by simp [hj]) e
structure Good (sz:List Nat) (kn:List Arr):Prop where
 szm:sz ∈ szs
 nd:kn.Nodup
 ok:∀ x ∈ kn,Ok sz x
 rest:∀ b,b < sz.length->idm sz b ∈ kn
 cl:∀ x ∈ kn,∀ y ∈ kn,x.2.1=y.1->comp x y ∈ kn
theorem Good.few {sz kn} (g:Good sz kn):kn.length<=27 :=
 Nat.le_trans (gM g.nd fun x hx=>sd (g.ok x hx)) (rq sz g.szm)
theorem Good.perm {sz kn kn'} (g:Good sz kn) (p:kn'.Perm kn):Good sz kn' :=
 ⟨g.szm,p.nodup_iff.mpr g.nd,fun x hx=>g.ok x (p.mem_iff.mp hx),fun b hb=>p.mem_iff.mpr (g.rest b hb),fun x hx y hy e=>p.mem_iff.mpr (g.cl x (p.mem_iff.mp hx) y (p.mem_iff.mp hy) e)⟩
end Ar
namespace Ar
theorem aZ {α:Type} {l:List α} {i:Nat} {d:α} (h:i < l.length):l.getD i d=l[i]:=by
 rw [List.getD_eq_getElem?_getD,List.getElem?_eq_getElem h];rfl
structure bY (en:List (Nat × Nat)) (re:List Nat) (tb:List (List Int)):Prop where
 nb1:1<=re.length
 nb6:re.length<=6
 na1:1<=en.length
 na40:en.length<=40
 eb:∀ i,i < en.length->(en.getD i (0,0)).1 < re.length/\(en.getD i (0,0)).2 < re.length
 rs:∀ b,b < re.length->re.getD b 0 < en.length/\en.getD (re.getD b 0) (0,0)=(b,b)
 tl:tb.length=en.length
 rl:∀ i,i < en.length->(tb.getD i []).length=en.length
 tp:∀ i j,i < en.length->j < en.length->(en.getD i (0,0)).2=(en.getD j (0,0)).1 ->
  ∃ k,k < en.length/\(tb.getD i []).getD j (-1)=(k:Int)/\en.getD k (0,0)=((en.getD i (0,0)).1,(en.getD j (0,0)).2)
 tn:∀ i j,i < en.length->j < en.length->(en.getD i (0,0)).2 ≠ (en.getD j (0,0)).1->(tb.getD i []).getD j (-1)=-1
 ul:∀ i,i < en.length->(tb.getD (re.getD (en.getD i (0,0)).1 0) []).getD i (-1)=(i:Int)
 ur:∀ i,i < en.length->(tb.getD i []).getD (re.getD (en.getD i (0,0)).2 0) (-1)=(i:Int)
 as:∀ i j k x y:Nat,i < en.length->j < en.length->k < en.length->(tb.getD i []).getD j (-1)=(x:Int)->(tb.getD j []).getD k (-1)=(y:Int) ->
  (tb.getD x []).getD k (-1)=(tb.getD i []).getD y (-1)
def iS (kn:List Arr):List (Nat × Nat):=kn.map fun x=>(x.1,x.2.1)
def ij (sz:List Nat) (kn:List Arr):List Nat:=(List.range sz.length).map fun b=>kn.idxOf (idm sz b)
def mk (kn:List Arr) (x y:Arr):Int:=if x.2.1=y.1 then (kn.idxOf (comp x y):Int) else -1
def g8 (kn:List Arr):List (List Int):=kn.map fun x=>kn.map fun y=>mk kn x y
theorem uo {sz:List Nat} {x y z:Arr} (hx:Ok sz x) (hy:Ok sz y) (hz:Ok sz z) (e:x.2.1=y.1) (e':y.2.1=z.1):comp (comp x y) z=comp x (comp y z):=by
 obtain ⟨n,m,h1,h2,h3,h4⟩:=hx
 obtain ⟨n',m',g1,g2,g3,g4⟩:=hy
 have hm:m=n':=by rw [e] at h2;rw [h2] at g1;exact Option.some.inj g1
 simp only [comp,List.map_map,Prod.mk.injEq,true_and]
 refine List.map_congr_left fun i hi=>?_
 have hl:i < y.2.2.length:=by rw [g3,<- hm];exact h4 i hi
 simp only [Function.comp,List.getD_eq_getElem?_getD,List.getElem?_map]
 rw [List.getElem?_eq_getElem hl]
 simp
theorem nK (l:List Nat):(List.range l.length).map (fun i=>l.getD i 0)=l:=by
 apply List.ext_getElem
 ·simp
 ·intro i h1 h2
  simp only [List.getElem_map,List.getElem_range]
  exact aZ h2
theorem yM {sz:List Nat} {x:Arr} (hx:Ok sz x):comp (idm sz x.1) x=x:=by
 obtain ⟨n,m,h1,h2,h3,h4⟩:=hx
 have e:sz.getD x.1 0=x.2.2.length:=by rw [List.getD_eq_getElem?_getD,h1,h3];rfl
 simp only [comp,idm,e,nK]
theorem yL {sz:List Nat} {x:Arr} (hx:Ok sz x):comp x (idm sz x.2.1)=x:=by
 obtain ⟨n,m,h1,h2,h3,h4⟩:=hx
 have e:sz.getD x.2.1 0=m:=by rw [List.getD_eq_getElem?_getD,h2];rfl
 have:(x.2.2.map fun i=>(List.range m).getD i 0)=x.2.2:=by
  conv=>rhs;rw [<- List.map_id x.2.2]
  refine List.map_congr_left fun i hi=>?_
  have:=h4 i hi
  rw [aZ (by simpa using this)];simp
 simp only [comp,idm,e,this]
section
variable {sz:List Nat} {kn:List Arr}
theorem eE:(iS kn).length=kn.length:=by simp [iS]
theorem na:(ij sz kn).length=sz.length:=by simp [ij]
theorem i_ {i:Nat} (h:i < kn.length):(iS kn).getD i (0,0)=(kn[i].1,kn[i].2.1):=by
 rw [aZ (by rw [eE];exact h)];simp [iS]
theorem wT {i:Nat} (h:i < kn.length):(g8 kn).getD i []=kn.map fun y=>mk kn kn[i] y:=by
 rw [aZ (by simp [g8];exact h)];simp [g8]
theorem lQ {i j:Nat} (h:i < kn.length) (h':j < kn.length):((g8 kn).getD i []).getD j (-1)=mk kn kn[i] kn[j]:=by
 rw [wT h,aZ (by simpa using h')];simp
theorem xh {b:Nat} (h:b < sz.length):(ij sz kn).getD b 0=kn.idxOf (idm sz b):=by
 rw [aZ (by rw [na];exact h)];simp [ij]
theorem rR {x:Arr} (h:Ok sz x):x.1 < sz.length/\x.2.1 < sz.length:=by
 obtain ⟨n,m,h1,h2,_⟩:=h
 exact ⟨(List.getElem?_eq_some_iff.mp h1).1,(List.getElem?_eq_some_iff.mp h2).1⟩
theorem lj {x:Arr} (h:x ∈ kn):∃ hl:kn.idxOf x < kn.length,kn[kn.idxOf x]=x :=
 ⟨List.idxOf_lt_length_of_mem h,List.getElem_idxOf _⟩
theorem xM {x y:Arr} {k:Nat} (h:mk kn x y=(k:Int)):x.2.1=y.1/\k=kn.idxOf (comp x y):=by
 unfold mk at h
 split at h
 ·exact ⟨‹_›,by omega⟩
 ·omega
theorem vk (g:Good sz kn):bY (iS kn) (ij sz kn) (g8 kn):=by
 have few:=g.few
 obtain ⟨s1,s4,_⟩:=ju sz g.szm
 have okat:∀ {i} (h:i < kn.length),Ok sz kn[i]:=fun h=>g.ok _ (List.getElem_mem h)
 have n1:1<=kn.length:=List.length_pos_of_mem (g.rest 0 (by omega))
 have idn:∀ {i} (h:i < kn.length),kn.idxOf kn[i]=i:=fun {i} h=>g.nd.idxOf_getElem i h
 refine ⟨by rw [na];exact s1,by rw [na];omega,by rw [eE];exact n1,by rw [eE];omega,?_,?_,?_,?_,?_,?_,?_,?_,?_⟩
 ·intro i h
  rw [eE] at h
  rw [i_ h,na]
  exact rR (okat h)
 ·intro b h
  rw [na] at h
  obtain ⟨hl,e⟩:=lj (g.rest b h)
  rw [xh h,eE,i_ hl,e]
  exact ⟨hl,rfl⟩
 ·simp [g8,eE]
 ·intro i h
  rw [eE] at h
  rw [wT h,eE];simp
 ·intro i j hi hj e
  rw [eE] at hi hj
  rw [i_ hi,i_ hj] at e
  obtain ⟨hl,ek⟩:=lj (g.cl _ (List.getElem_mem hi) _ (List.getElem_mem hj) e)
  refine ⟨kn.idxOf (comp kn[i] kn[j]),by rw [eE];exact hl,?_,?_⟩
  ·rw [lQ hi hj,mk,if_pos e]
  ·rw [i_ hl,ek,i_ hi,i_ hj];rfl
 ·intro i j hi hj e
  rw [eE] at hi hj
  rw [i_ hi,i_ hj] at e
  rw [lQ hi hj,mk,if_neg e]
 ·intro i h
  rw [eE] at h
  have o:=okat h
  obtain ⟨hl,e⟩:=lj (g.rest _ (rR o).1)
  rw [i_ h,xh (rR o).1,lQ hl h,e,mk,if_pos (show (idm sz kn[i].1).2.1=kn[i].1 from rfl),yM o,idn h]
 ·intro i h
  rw [eE] at h
  have o:=okat h
  obtain ⟨hl,e⟩:=lj (g.rest _ (rR o).2)
  rw [i_ h,xh (rR o).2,lQ h hl,e,mk,if_pos (show kn[i].2.1=(idm sz kn[i].2.1).1 from rfl),yL o,idn h]
 ·intro i j k x y hi hj hk hx hy
  rw [eE] at hi hj hk
  rw [lQ hi hj] at hx
  rw [lQ hj hk] at hy
  obtain ⟨e1,rfl⟩:=xM hx
  obtain ⟨e2,rfl⟩:=xM hy
  obtain ⟨l1,q1⟩:=lj (g.cl _ (List.getElem_mem hi) _ (List.getElem_mem hj) e1)
  obtain ⟨l2,q2⟩:=lj (g.cl _ (List.getElem_mem hj) _ (List.getElem_mem hk) e2)
  rw [lQ l1 hk,lQ hi l2,q1,q2]
  have a1:(comp kn[i] kn[j]).2.1=kn[k].1:=e2
  have a2:kn[i].2.1=(comp kn[j] kn[k]).1:=e1
  rw [mk,mk,if_pos a1,if_pos a2,uo (okat hi) (okat hj) (okat hk) e1 e2]
end
end Ar
namespace Ar
section
variable {en:List (Nat × Nat)} {re:List Nat} {tb:List (List Int)}
end
end Ar
namespace DL
open L2
section
variable {α β:Type}
@[simp] theorem af (a:α) (f:α->R β):(R.val a).bind f=f a:=Eq.trans rfl rfl
@[simp] theorem qk (a:α):noE (R.val a)=.val a:=Eq.trans rfl rfl
@[simp] theorem DO (a:D):noex (R.val a)=.val a:=Eq.trans rfl rfl
end
section
variable (ρ:Rho)
@[simp] theorem aW (a b:Rho->R Out):sq a b ρ=(a ρ).bind fun o=>match o with
 | .nx ρ'=>b ρ'
 | o=>.val o:=Eq.trans rfl rfl
@[simp] theorem iZ:nxt ρ=.val (.nx ρ):=Eq.trans rfl rfl
@[simp] theorem fO (i:Nat) (e:Rho->R D):asg i e ρ=(e ρ).bind fun d=>.val (.nx (ρ.set i (some (.shr d)))):=Eq.trans rfl rfl
@[simp] theorem B4 (i:Nat) (e:Rho->R (List D)):own i e ρ=(e ρ).bind fun d=>.val (.nx (ρ.set i (some (.own d)))):=Eq.trans rfl rfl
@[simp] theorem cW (e:Rho->R D):ret e ρ=(e ρ).bind fun d=>.val (.rt d):=Eq.trans rfl rfl
@[simp] theorem on (e:Rho->R D):drp e ρ=(e ρ).bind fun _=>.val (.nx ρ):=Eq.trans rfl rfl
@[simp] theorem bW (t:Rho->R Bool) (a b:Rho->R Out):DL.iff t a b ρ=(t ρ).bind fun c=>if c=true then a ρ else b ρ:=Eq.trans rfl rfl
@[simp] theorem bT (F:Rho->R D):tst F ρ=(F ρ).bind asB:=Eq.trans rfl rfl
@[simp] theorem rb (b:Bool):asB (.bl b)=.val b:=Eq.trans rfl rfl
@[simp] theorem gI (a b:Rho->R Bool):lI a b ρ=(a ρ).bind fun x=>if x=true then b ρ else .val false:=Eq.trans rfl rfl
@[simp] theorem gL (a b:Rho->R Bool):orB a b ρ=(a ρ).bind fun x=>if x=true then .val true else b ρ:=Eq.trans rfl rfl
@[simp] theorem fq (a:Rho->R Bool):iO a ρ=(a ρ).bind fun x=>.val (!x):=Eq.trans rfl rfl
@[simp] theorem ES (i:Nat):vr i ρ=match ρ[i]? with
 | some (some (.shr d))=>.val d
 | _=>.bad:=Eq.trans rfl rfl
@[simp] theorem Dg (i:Nat):vb i ρ=match ρ[i]? with
 | some (some (.shr d))=>.val d
 | some (some (.own xs))=>.val (.lst xs)
 | some (some (.tre (.l .s) (.lst xs)))=>.val (.lst xs)
 | _=>.bad:=Eq.trans rfl rfl
@[simp] theorem cY (d:D):kd d ρ=.val d:=Eq.trans rfl rfl
@[simp] theorem aD (f:D->D->R D) (a b:Rho->R D):bin f a b ρ=(a ρ).bind fun x=>(b ρ).bind fun y=>f x y:=Eq.trans rfl rfl
@[simp] theorem jP (f:D->R D) (a:Rho->R D):una f a ρ=(a ρ).bind f:=Eq.trans rfl rfl
@[simp] theorem gJ:aN ρ=.val []:=Eq.trans rfl rfl
@[simp] theorem aI (a:Rho->R D) (r:Rho->R (List D)):aC a r ρ=(a ρ).bind fun x=>(r ρ).bind fun xs=>.val (x :: xs):=Eq.trans rfl rfl
@[simp] theorem eR (a:Rho->R (List D)):eT a ρ=(a ρ).bind mkT:=Eq.trans rfl rfl
@[simp] theorem om (a:Rho->R (List D)):eL a ρ=(a ρ).bind mkL:=Eq.trans rfl rfl
@[simp] theorem EW (a b:D):mkT [a,b]=.val (.tup [a,b]):=Eq.trans rfl rfl
@[simp] theorem EV (a b c:D):mkT [a,b,c]=.val (.tup [a,b,c]):=Eq.trans rfl rfl
@[simp] theorem EU (a b c d e:D):mkT [a,b,c,d,e]=.val (.tup [a,b,c,d,e]):=Eq.trans rfl rfl
@[simp] theorem EX (a b:D):mkL [a,b]=.val (.lst [a,b]):=Eq.trans rfl rfl
@[simp] theorem cr (F:Rho->R (List D)):eLs F ρ=(F ρ).bind fun xs=>.val (.lst xs):=Eq.trans rfl rfl
@[simp] theorem D2:iQ aN ρ=.val []:=Eq.trans rfl rfl
@[simp] theorem ue (F:Rho->R D):fIt F ρ=(F ρ).bind itD:=Eq.trans rfl rfl
@[simp] theorem Ee (xs:List D):itD (.lst xs)=.val xs:=Eq.trans rfl rfl
@[simp] theorem Ed (xs:List D):itD (.tup xs)=.val xs:=Eq.trans rfl rfl
@[simp] theorem yQ (n:Nat) (den:List D->R D) (a:Rho->R (List D)):cal n den a ρ=(a ρ).bind fun ds=>if ds.length=n then noex (den ds) else .bad:=Eq.trans rfl rfl
@[simp] theorem A_ (i:Nat) (F:Rho->R Out):fz i F ρ=F (frz i ρ):=Eq.trans rfl rfl
@[simp] theorem cw (src:Rho->R (List D)) (T:D->Rho->Option Rho) (F:Rho->R Out):bB src T F ρ=(src ρ).bind fun xs=>bK T F xs ρ:=Eq.trans rfl rfl
@[simp] theorem gF (F:Rho->R (List D)):cP F ρ=(F ρ).bind oO:=Eq.trans rfl rfl
@[simp] theorem Eg (F:Rho->R (List D)):eQ F ρ=(F ρ).bind CS:=Eq.trans rfl rfl
@[simp] theorem De (F:Rho->R (List D)):jd F ρ=(F ρ).bind rgT:=Eq.trans rfl rfl
@[simp] theorem vF (F:Rho->R (List D)):qI F ρ=(F ρ).bind An:=Eq.trans rfl rfl
@[simp] theorem vm (i j:Int):An [.int i,.int j]=.val (.int (if j > i then j else i)):=Eq.trans rfl rfl
@[simp] theorem EK (d:D):fin (.val (.rt d))=.val d:=Eq.trans rfl rfl
@[simp] theorem EL (ρ:Rho):fin (.val (.nx ρ))=.val .non:=Eq.trans rfl rfl
@[simp] theorem Cn (den:Rho->R D) (Fa:Rho->R (List D)):mkH den Fa ρ=(Fa ρ).bind fun ds=>match ds with
 | [e,r,t]=>noex (den (jI e r t))
 | _=>.bad:=Eq.trans rfl rfl
@[simp] theorem uc (xs:List D):aA (.lst xs)=.val (.int xs.length):=Eq.trans rfl rfl
@[simp] theorem EF (xs:List D):jJ (.lst xs)=.val (.tup xs):=Eq.trans rfl rfl
@[simp] theorem Ef (i:Int):dE (.int i)=.val (.int (-i)):=Eq.trans rfl rfl
@[simp] theorem dX (f:Int->Int->R D) (i j:Int):iI f (.int i) (.int j)=f i j:=Eq.trans rfl rfl
@[simp] theorem EG (i j:Int):flt i j=.val (.bl (decide (i < j))):=Eq.trans rfl rfl
@[simp] theorem EM (i j:Int):fgt i j=.val (.bl (decide (j < i))):=Eq.trans rfl rfl
@[simp] theorem jD (i j:Int):aV (.int i) (.int j)=.val (.int (i + j)):=Eq.trans rfl rfl
theorem fu {i j:Int} (h:0 < j):aK i j=.val (.int (i % j)):=if_pos h
theorem kD {i j:Int} (h:0 < j/\j < 1073741824):df i j=.val (.int (i / j)):=if_pos h
theorem kC {i j:Int} (h:-(2 ^ 64) < j/\j < 2 ^ 64):dM i j=.val (.int (i * j)):=if_pos (.inr h)
@[simp] theorem EO (f g:Int->Int->Bool) (a b c:Rho->R D):chn f g a b c ρ=(a ρ).bind fun x=>(b ρ).bind fun y=>match x,y with
 | .int i,.int j=>if f i j=true then (c ρ).bind fun z=>match z with
   | .int k=>.val (.bl (g j k))
   | _=>.bad
  else .val (.bl false)
 | _,_=>.bad:=Eq.trans rfl rfl
end
theorem q9 {α:Type} (xs:List α) (i:Nat):atI xs (i:Int)=xs[i]?:=by
 unfold atI ixN
 rw [if_pos (Int.natCast_nonneg i)]
 by_cases h:i < xs.length
 ·rw [if_pos (by exact_mod_cast h)];simp
 ·rw [if_neg (by intro z;exact h (by exact_mod_cast z))]
  simp at h
  simp [List.getElem?_eq_none h]
theorem i7 {xs:List D} {i:Nat} {d:D} (h:xs[i]?=some d):fix (.lst xs) (.int (i:Int))=.val d:=by
 show (match atI xs (i:Int) with | some d=>R.val d | none=>.bad)=_
 rw [q9,h]
theorem vn {xs:List D} {i:Nat} {d:D} (h:xs[i]?=some d):fix (.tup xs) (.int (i:Int))=.val d:=by
 show (match atI xs (i:Int) with | some d=>R.val d | none=>.bad)=_
 rw [q9,h]
theorem Bb {xs:List Int} {i:Nat} {d:Int} (h:xs[i]?=some d):fix (.scr xs) (.int (i:Int))=.val (.int d):=by
 show (match atI xs (i:Int) with | some d=>R.val (D.int d) | none=>R.bad)=_
 rw [q9,h]
@[simp] theorem i6 (a:D) (r:List D):fix (.tup (a :: r)) (.int 0)=.val a:=vn (i:=0) rfl
@[simp] theorem gh (a b:D) (r:List D):fix (.tup (a :: b :: r)) (.int 1)=.val b:=vn (i:=1) rfl
@[simp] theorem ud (a b c:D) (r:List D):fix (.tup (a :: b :: c :: r)) (.int 2)=.val c:=vn (i:=2) rfl
theorem sQ {T:D->Rho->Option Rho} {e:Rho->R D} {g:D->D} {ρ:Rho}:∀ {xs:List D},(∀ x ∈ xs,∃ ρ1,T x ρ=some ρ1/\e ρ1=.val (g x))->jk T tT e xs ρ=.val (xs.map g)
 | [],_=>rfl
 | x :: r,h=>by
  obtain ⟨ρ1,h1,h2⟩:=h x (by simp)
  have ih:=sQ (T:=T) (e:=e) (g:=g) (ρ:=ρ) (xs:=r) fun y hy=>h y (by simp [hy])
  unfold jk
  rw [h1]
  show (noE (tT ρ1)).bind _=_
  simp [tT,h2,ih]
theorem g_ {T:D->Rho->Option Rho} {F:Rho->R Out} (I:Nat->Rho->Prop) {xs:List D} (step:∀ (i:Nat) x ρ,xs[i]?=some x->I i ρ->∃ ρ1 ρ2,T x ρ=some ρ1/\F ρ1=.val (.nx ρ2)/\I (i + 1) ρ2) {ρ:Rho} (h:I 0 ρ):∃ ρ',bK T F xs ρ=.val (.nx ρ')/\I xs.length ρ':=by
 suffices ∀ (n k:Nat) (ρ:Rho),k + n=xs.length->I k ρ->∃ ρ',bK T F (xs.drop k) ρ=.val (.nx ρ')/\I xs.length ρ' by
  have:=this xs.length 0 ρ (by omega) h
  rwa [List.drop_zero] at this
 intro n
 induction n with
 | zero =>
  intro k ρ hk hI
  have hk:k=xs.length:=by omega
  subst hk
  rw [List.drop_length]
  exact ⟨ρ,rfl,hI⟩
 | succ n ih =>
  intro k ρ hk hI
  have hlt:k < xs.length:=by omega
  obtain ⟨ρ1,ρ2,h1,h2,h3⟩:=step k xs[k] ρ (by simp [hlt]) hI
  rw [List.drop_eq_getElem_cons hlt]
  unfold bK
  rw [h1]
  show ∃ ρ',(F ρ1).bind _=_/\_
  rw [h2]
  exact ih (k + 1) ρ2 (by omega) h3
end DL
namespace DL
open L2 Ar
def pln:Nat->D->Bool
 | _,.non=>true
 | _,.int _=>true
 | n + 1,.lst xs=>xs.all (pln n)
 | n + 1,.tup xs=>xs.all (pln n)
 | _,_=>false
theorem fm:∀ {n:Nat} {x:D},pln n x=true->eqb n x=true:=by
 intro n
 induction n with
 | zero =>
  intro x h
  cases x with
  | non=>rfl
  | int _=>rfl
  | _=>cases h
 | succ n ih =>
  intro x h
  cases x with
  | non=>rfl
  | int _=>rfl
  | lst xs=>exact List.all_eq_true.mpr fun y hy=>ih (List.all_eq_true.mp h y hy)
  | tup xs=>exact List.all_eq_true.mpr fun y hy=>ih (List.all_eq_true.mp h y hy)
  | _=>cases h
theorem rL {n:Nat} (ih:∀ {x y:D},pln n x=true->pln n y=true->(pyq n x y=true ↔ x=y)) {xs ys:List D} (hx:xs.all (pln n)=true) (hy:ys.all (pln n)=true) :
  (decide (xs.length=ys.length) && (List.range xs.length).all fun j=>pyq n (xs.getD j .non) (ys.getD j .non))=true ↔ xs=ys:=by
 rw [Bool.and_eq_true,decide_eq_true_iff,List.all_eq_true]
 rw [List.all_eq_true] at hx hy
 constructor
 ·rintro ⟨hl,h⟩
  apply List.ext_getElem hl
  intro j h1 h2
  have:=h j (List.mem_range.mpr h1)
  rw [aZ h1,aZ h2] at this
  exact (ih (hx _ (List.getElem_mem h1)) (hy _ (List.getElem_mem h2))).mp this
 ·rintro rfl
  refine ⟨rfl,fun j hj=>?_⟩
  have h1:=List.mem_range.mp hj
  rw [aZ h1]
  exact (ih (hx _ (List.getElem_mem h1)) (hx _ (List.getElem_mem h1))).mpr rfl
theorem eB {p q:Prop} (h:¬ p) (g:¬ q):p ↔ q:=⟨fun x=>absurd x h,fun x=>absurd x g⟩
theorem vh {a b:Int}:(a == b)=true ↔ D.int a=D.int b:=beq_iff_eq.trans ⟨congrArg D.int,fun h=>by cases h;rfl⟩
theorem jw:∀ (n:Nat) {x y:D},pln n x=true->pln n y=true->(pyq n x y=true ↔ x=y):=by
 intro n
 induction n with
 | zero =>
  intro x y hx hy
  cases x with
  | non =>
   cases y with
   | non=>exact ⟨fun _=>rfl,fun _=>rfl⟩
   | int b=>exact eB Bool.false_ne_true (fun h=>by cases h)
   | _=>cases hy
  | int a =>
   cases y with
   | int b=>exact vh
   | non=>exact eB Bool.false_ne_true (fun h=>by cases h)
   | _=>cases hy
  | _=>cases hx
 | succ n ih =>
  intro x y hx hy
  cases x with
  | lst xs =>
   cases y with
   | lst ys=>rw [qe,rL ih hx hy];exact ⟨congrArg D.lst,fun h=>by cases h;rfl⟩
   | non=>exact eB Bool.false_ne_true (fun h=>by cases h)
   | int _=>exact eB Bool.false_ne_true (fun h=>by cases h)
   | tup _=>exact eB Bool.false_ne_true (fun h=>by cases h)
   | _=>cases hy
  | tup xs =>
   cases y with
   | tup ys=>rw [qd,rL ih hx hy];exact ⟨congrArg D.tup,fun h=>by cases h;rfl⟩
   | non=>exact eB Bool.false_ne_true (fun h=>by cases h)
   | int _=>exact eB Bool.false_ne_true (fun h=>by cases h)
   | lst _=>exact eB Bool.false_ne_true (fun h=>by cases h)
   | _=>cases hy
  | non =>
   cases y with
   | non=>exact ⟨fun _=>rfl,fun _=>rfl⟩
   | int b=>exact eB Bool.false_ne_true (fun h=>by cases h)
   | lst _=>exact eB Bool.false_ne_true (fun h=>by cases h)
   | tup _=>exact eB Bool.false_ne_true (fun h=>by cases h)
   | _=>cases hy
  | int a =>
   cases y with
   | int b=>exact vh
   | non=>exact eB Bool.false_ne_true (fun h=>by cases h)
   | lst _=>exact eB Bool.false_ne_true (fun h=>by cases h)
   | tup _=>exact eB Bool.false_ne_true (fun h=>by cases h)
   | _=>cases hy
  | _=>cases hx
theorem i8 {x:D} (h:pln 9 x=true):feq x x=.val (.bl true):=by
 unfold feq;rw [if_pos ⟨fm h,fm h⟩,(jw 9 h h).mpr rfl]
theorem n8 {x y:D} (h:pln 9 x=true) (h':pln 9 y=true) (e:x ≠ y):feq x y=.val (.bl false):=by
 unfold feq;rw [if_pos ⟨fm h,fm h'⟩]
 cases q:pyq 9 x y with
 | false=>rfl
 | true=>exact absurd ((jw 9 h h').mp q) e
theorem hV {x:D} (h:pln 9 x=true):fne x x=.val (.bl false):=by
 unfold fne;rw [if_pos ⟨fm h,fm h⟩,(jw 9 h h).mpr rfl];rfl
theorem sx {x y:D} (h:pln 9 x=true) (h':pln 9 y=true) (e:x ≠ y):fne x y=.val (.bl true):=by
 unfold fne;rw [if_pos ⟨fm h,fm h'⟩]
 cases q:pyq 9 x y with
 | false=>rfl
 | true=>exact absurd ((jw 9 h h').mp q) e
@[simp] theorem gj (a b:Int):feq (.int a) (.int b)=.val (.bl (decide (a=b))):=by
 by_cases h:a=b
 ·subst h;rw [i8 rfl];simp
 ·rw [n8 rfl rfl (by simpa using h)];simp [h]
@[simp] theorem ub (a b:Int):fne (.int a) (.int b)=.val (.bl (decide (a ≠ b))):=by
 by_cases h:a=b
 ·subst h;rw [hV rfl];simp
 ·rw [sx rfl rfl (by simpa using h)];simp [h]
abbrev nD (n:Nat):D:=.int (n:Int)
def aB (x:Arr):D:=.tup [nD x.1,nD x.2.1,.tup (x.2.2.map nD)]
def eD (p:Nat × Nat):D:=.tup [nD p.1,nD p.2]
def dv (en:List (Nat × Nat)):D:=.lst (en.map eD)
def aw (re:List Nat):D:=.lst (re.map nD)
def aL (r:List Int):D:=.lst (r.map D.int)
def bC (tb:List (List Int)):D:=.lst (tb.map aL)
theorem nD_inj {a b:Nat}:nD a=nD b ↔ a=b:=by
 simp only [nD,D.int.injEq];omega
theorem endD_inj {p q:Nat × Nat}:eD p=eD q ↔ p=q:=by
 obtain ⟨a,b⟩:=p
 obtain ⟨c,d⟩:=q
 simp only [eD,nD,D.tup.injEq,List.cons.injEq,D.int.injEq,and_true,Prod.mk.injEq];omega
theorem mG {α:Type} {f:α->D} (hf:∀ a b,f a=f b->a=b):∀ {l m:List α},l.map f=m.map f->l=m
 | [],[],_=>rfl
 | [],_ :: _,h=>by simp at h
 | _ :: _,[],h=>by simp at h
 | a :: l,b :: m,h=>by
  simp only [List.map_cons,List.cons.injEq] at h
  rw [hf _ _ h.1,mG hf h.2]
theorem arrD_inj {x y:Arr}:aB x=aB y ↔ x=y:=by
 obtain ⟨a,b,l⟩:=x
 obtain ⟨c,d,m⟩:=y
 constructor
 ·intro h
  simp only [aB,nD,D.tup.injEq,List.cons.injEq,D.int.injEq,Int.natCast_inj,and_true] at h
  obtain ⟨h1,h2,h3⟩:=h
  rw [h1,h2,mG (fun a b e=>nD_inj.mp e) h3]
 ·rintro h;rw [h]
theorem all_map {α:Type} {f:α->D} {n:Nat} (h:∀ a,pln n (f a)=true) (l:List α):(l.map f).all (pln n)=true:=by
 rw [List.all_eq_true]
 intro y hy
 obtain ⟨a,_,rfl⟩:=List.mem_map.mp hy
 exact h a
theorem rN {k:Nat} (n:Nat):pln k (nD n)=true:=by unfold nD pln;rfl
theorem uV {k:Nat} (n:Int):pln k (.int n)=true:=by cases k <;> rfl
theorem mF {k:Nat} {xs:List D} (h:xs.all (pln k)=true):pln (k + 1) (.tup xs)=true:=h
theorem uU {k:Nat} {xs:List D} (h:xs.all (pln k)=true):pln (k + 1) (.lst xs)=true:=h
theorem iq {k:Nat} (p:Nat × Nat):pln (k + 1) (eD p)=true:=mF (by simp [rN])
theorem jx {k:Nat} (x:Arr):pln (k + 2) (aB x)=true:=mF (by simp [rN];exact mF (all_map (fun a=>rN a) _))
theorem zB {k:Nat} (r:List Int):pln (k + 1) (aL r)=true:=uU (all_map (fun p=>uV p) _)
theorem qh {k:Nat} (tb:List (List Int)):pln (k + 2) (bC tb)=true:=uU (all_map (fun p=>zB p) _)
theorem fD {α:Type} {f:α->D} {l:List α} {i:Nat} {d:α} (h:i < l.length):(l.map f)[i]?=some (f (l.getD i d)):=by
 rw [aZ h];simp [h]
theorem fW {en:List (Nat × Nat)} {i:Nat} (h:i < en.length):fix (dv en) (.int (i:Int))=.val (eD (en.getD i (0,0))):=i7 (fD h)
theorem dS {re:List Nat} {i:Nat} (h:i < re.length):fix (aw re) (.int (i:Int))=.val (nD (re.getD i 0)):=i7 (fD h)
theorem iw {tb:List (List Int)} {i:Nat} (h:i < tb.length):fix (bC tb) (.int (i:Int))=.val (aL (tb.getD i [])):=i7 (fD h)
theorem iz {r:List Int} {i:Nat} (h:i < r.length):fix (aL r) (.int (i:Int))=.val (.int (r.getD i (-1))):=i7 (fD h)
@[simp] theorem CM (p:Nat × Nat):fix (eD p) (.int 0)=.val (nD p.1):=i6 _ _
@[simp] theorem CL (p:Nat × Nat):fix (eD p) (.int 1)=.val (nD p.2):=gh _ _ _
@[simp] theorem EJ (x:Arr):fix (aB x) (.int 0)=.val (nD x.1):=i6 _ _
@[simp] theorem EI (x:Arr):fix (aB x) (.int 1)=.val (nD x.2.1):=gh _ _ _
@[simp] theorem EH (x:Arr):fix (aB x) (.int 2)=.val (.tup (x.2.2.map nD)):=ud _ _ _ _
@[simp] theorem nZ (en:List (Nat × Nat)):aA (dv en)=.val (.int en.length):=by unfold dv;simp
@[simp] theorem cq (re:List Nat):aA (aw re)=.val (.int re.length):=by unfold aw;simp
@[simp] theorem sy (r:List Int):aA (aL r)=.val (.int r.length):=by unfold aL;simp
@[simp] theorem DZ (r:List (List Int)):aA (bC r)=.val (.int r.length):=by unfold bC;simp
@[simp] theorem D0 (p:Nat × Nat):aA (eD p)=.val (.int 2):=Eq.trans rfl rfl
theorem nM {F:Rho->R Out} {i j:Nat} (I:Rho->Prop) {xs:List D} (step:∀ (k:Nat) x ρ,xs[k]?=some x->I ρ->∃ ρ2,F ((ρ.set i (some (.shr (.int (k:Int))))).set j (some (.shr x)))=.val (.nx ρ2)/\I ρ2) {ρ:Rho} (h:I ρ) :
  ∃ ρ',bK (tg2 i j) F (enu 0 xs) ρ=.val (.nx ρ')/\I ρ':=by
 refine g_ (fun _=>I) (fun k y ρ e hI=>?_) h
 obtain ⟨x,e1,rfl⟩:=ug e
 rw [Nat.zero_add]
 obtain ⟨ρ2,h1,h2⟩:=step k x ρ e1 hI
 exact ⟨_,ρ2,rfl,h1,h2⟩
theorem i0 {F:Rho->R Out} {i n:Nat} (I:Nat->Rho->Prop) (step:∀ (k:Nat) ρ,k < n->I k ρ->∃ ρ2,F (ρ.set i (some (.shr (.int (k:Int)))))=.val (.nx ρ2)/\I (k + 1) ρ2) {ρ:Rho} (h:I 0 ρ) :
  ∃ ρ',bK (tgN i) F (rng 0 n) ρ=.val (.nx ρ')/\I n ρ':=by
 have hl:(rng 0 n).length=n:=by unfold rng;simp
 obtain ⟨ρ',h1,h2⟩:=g_ (T:=tgN i) (F:=F) I (xs:=rng 0 n) (fun k y ρ e hI=>by
  have hk:k < n:=by rw [<- hl];exact (List.getElem?_eq_some_iff.mp e).1
  have:y=.int (k:Int):=by
   unfold rng at e
   rw [List.getElem?_map,List.getElem?_range hk] at e
   simp at e;exact e.symm
  subst this
  obtain ⟨ρ2,h1,h2⟩:=step k ρ hk hI
  exact ⟨_,ρ2,rfl,h1,h2⟩) h
 exact ⟨ρ',h1,by rw [hl] at h2;exact h2⟩
theorem dq {n:Nat} (h:n<=100000):oO [.int (n:Int)]=.val (rng 0 n):=by
 have:-(2 ^ 62)<=(n:Int)/\(n:Int) < 2 ^ 62:=by constructor <;> omega
 unfold oO
 dsimp only
 rw [if_pos this,Int.toNat_natCast]
theorem w_ {z:Int} (h:0<=z) (h':z<=100000):oO [.int z]=.val (rng 0 z.toNat):=by
 have:-(2 ^ 62)<=z/\z < 2 ^ 62:=by constructor <;> omega
 unfold oO
 dsimp only
 rw [if_pos this]
theorem zt (n:Nat):(rng 0 n).length=n:=by unfold rng;simp
theorem z7 {n:Nat} {x:D} (h:x ∈ rng 0 n):∃ k:Nat,k < n/\x=.int (k:Int):=by
 unfold rng at h
 obtain ⟨k,hk,rfl⟩:=List.mem_map.mp h
 exact ⟨k,List.mem_range.mp hk,by simp⟩
theorem gl {src:Rho->R (List D)} {m n:Nat} {e:Rho->R D} {g:Nat->D} {ρ:Rho} {i:Nat} (hs:src ρ=.val (rng 0 m)) (hl:m<=100000) (h:∀ k:Nat,k < m->e ((ρ ++ List.replicate n none).set i (some (.shr (.int (k:Int)))))=.val (g k)) :
  bI src n (tgN i) tT e ρ=.val ((List.range m).map g):=by
 unfold bI
 rw [hs,af,if_pos (show (rng 0 m).length<=LIM by rw [zt];exact hl)]
 have:jk (tgN i) tT e (rng 0 m) (ρ ++ List.replicate n none)=.val ((rng 0 m).map fun x=>match x with | .int z=>g z.toNat | _=>.non):=sQ fun x hx=>by
  obtain ⟨k,hk,rfl⟩:=z7 hx
  exact ⟨_,rfl,by rw [h k hk];simp⟩
 rw [this,qk]
 unfold rng
 rw [List.map_map]
 congr 1
 apply List.map_congr_left
 intro k hk
 simp
theorem gm {α:Type} {src:Rho->R (List D)} {n:Nat} {e:Rho->R D} {f g:α->D} {l:List α} {ρ:Rho} {i:Nat} (hs:src ρ=.val (l.map f)) (hl:l.length<=100000) (h:∀ a ∈ l,e ((ρ ++ List.replicate n none).set i (some (.shr (f a))))=.val (g a)) :
  bI src n (tgN i) tT e ρ=.val (l.map g):=by
 unfold bI
 rw [hs,af,if_pos (show (l.map f).length<=LIM by rw [List.length_map];exact hl)]
 suffices ∀ l:List α,(∀ a ∈ l,e ((ρ ++ List.replicate n none).set i (some (.shr (f a))))=.val (g a))->jk (tgN i) tT e (l.map f) (ρ ++ List.replicate n none)=.val (l.map g) by
  rw [this l h];rfl
 intro l
 induction l with
 | nil=>intro _;rfl
 | cons a r ih =>
  intro h
  have h1:=h a (by simp)
  have h2:=ih fun b hb=>h b (by simp [hb])
  rw [List.map_cons]
  unfold jk
  show (noE (tT _)).bind _=_
  rw [h2]
  simp only [tT,qk,af,if_true]
  rw [h1];rfl
end DL
namespace DL
open PySem PySem.Spec PyProof.Rows L2
structure Txt (K:Frag) (mg:Str->Option Value) (C:Addr):Prop where
 cl:Cls K C
 nE:NoAttr K C "ends"
 nR:NoAttr K C "rests"
 nT:NoAttr K C "table"
 len:mg "len"=none
 list:mg "list"=none
 tuple:mg "tuple"=none
 range:mg "range"=none
 enumerate:mg "enumerate"=none
 max:mg "max"=none
 isinstance:mg "isinstance"=none
 all:mg "all"=none
 sorted:mg "sorted"=none
 min:mg "min"=none
 int:mg "int"=none
 bool:mg "bool"=none
 verr:mg "ValueError"=none
 ih:IsH K C
 hall:mg "Hall"=some (.ref C)
 most_boxes:∃ t,mg "MOST_BOXES"=some (.int 6 t)
 most_arrows:∃ t,mg "MOST_ARROWS"=some (.int 40 t)
 most_places:∃ t,mg "MOST_PLACES"=some (.int 3 t)
 most_ties:∃ t,mg "MOST_TIES"=some (.int 4 t)
 xc2:XC K mg 2
 xc3:XC K mg 3
 xa:ux K mg [2,3]
 xb:∃ CA,XB K mg [2,3] CA
 kt_int:KTy K "int"
 kt_bool:KTy K "bool"
 kt_list:KTy K "list"
abbrev sAt (i:Nat):Stmt:=PySem.Challenge.pw_arrowhall_k06_no_picture.main.body.getD i (.Pass ⟨0,0,0,0⟩)
section
variable {C:Addr} {X:Cx} {e:Expr} {p pos:Pos} {F:Rho->R D}
theorem edl (h:EB C X e F) (hg:Gl X "len") (hm:X.mg "len"=none) (hst:starEach [e] X.env=(false,eval e X.env) :: starEach [] X.env):ED C X (.Call (.Name "len" p) [e] [] pos) (una aA F):=CV h hg hm hst (fun t ha=>fx kM hg hm PySem.boot_len ha (he:=hst) (hpl:=ax))
theorem fdl (h:EB C X e F) (hg:Gl X "list") (hm:X.mg "list"=none) (hst:starEach [e] X.env=(false,eval e X.env) :: starEach [] X.env):FD C X (.Call (.Name "list" p) [e] [] pos) (fIt F):=Ap h hg hm hst (fun t ha=>dw kL hg hm boot_list ha (he:=hst) (hpl:=ax))
end
seal ED EB TD AD FD ID GD WD sY SD SDs KD PD
variable {P:Program} {w:World} {K:Frag} {mg:Str->Option Value} {base:Heap} {C:Addr}
variable {f a:Addr} {fd:FuncData} (cdv:Value) (A:Around) (outer:List Env) (s:Shared) (H:Hp) (E:XK) (T:Txt K mg C)
abbrev d7:Stmt:=sAt 12
abbrev kf:List Str:=["number","count"]
theorem rE:aH kf ["number","count"] (ak d7):=by constructor <;> first | rfl | decide +kernel
def iG:Rho->R Out:=(ret (chn (fun i j=>decide (i<=j)) (fun i j=>decide (i < j)) (kd (.int 0)) (vb 0) (vb 1)))
def aR (ds:List D):R D:=fin (iG (st0 kf ds))
include T in
theorem o7 (hr:Room 0 (A.deeper (envOfC "is_below" (ak d7) s.heap.objs.size f cdv))) :
  SDs C (bS CX0 P w K mg base kf "is_below" (ak d7) f cdv A outer s H E).nox (aF d7) iG :=
 (au (aU (yE (f:=fun i j=>decide (i<=j)) (g:=fun i j=>decide (i < j)) rQ A5 (EB.of ah) (ag (pv 0)) (ag (pv 1)))))
include T in
theorem rZ (F:Fun K "is_below" "is_below" d7 a fd) (hm:mg "is_below"=some (.ref a)) (hb:Binds K fd ["number","count"] []):Fn P w K mg base C 1 "is_below" 2 aR :=
 ⟨a,fd,_,bA F rE (fun cdv A outer s H E hr=>o7 cdv A outer s H E T hr),hm,F.kp,hb⟩
abbrev cj:Stmt:=sAt 13
abbrev gA:List Str:=["ends","rests"]
theorem lX:aH gA ["ends","rests"] (ak cj):=by constructor <;> first | rfl | decide +kernel
def fk:Rho->R Out:=(sq (iff (iO (tst (chn (fun i j=>decide (i<=j)) (fun i j=>decide (i<=j)) (kd (.int 1)) (una aA (vb 1)) (kd (.int 6)))))
 bad
 nxt)
 (iff (iO (tst (chn (fun i j=>decide (i<=j)) (fun i j=>decide (i<=j)) (kd (.int 1)) (una aA (vb 0)) (kd (.int 40)))))
 bad
 nxt))
def cz (ds:List D):R D:=fin (fk (st0 gA ds))
include T in
theorem kP (hr:Room 0 (A.deeper (envOfC "check_counts" (ak cj) s.heap.objs.size f cdv))) :
  SDs C (bS CX0 P w K mg base gA "check_counts" (ak cj) f cdv A outer s H E).nox (aF cj) fk :=
 (aq (bh (fC (rm (f:=fun i j=>decide (i<=j)) (g:=fun i j=>decide (i<=j)) rQ rQ (EB.of ah) (EB.of (edl (ag (pv 1)) rfl T.len ac)) (EB.of (hW rfl T.most_boxes.choose_spec))))
 (au gK)
 aG)
 (au (bh (fC (rm (f:=fun i j=>decide (i<=j)) (g:=fun i j=>decide (i<=j)) rQ rQ (EB.of ah) (EB.of (edl (ag (pv 0)) rfl T.len ac)) (EB.of (hW rfl T.most_arrows.choose_spec))))
 (au gK)
 aG)))
include T in
theorem mf (F:Fun K "check_counts" "check_counts" cj a fd) (hm:mg "check_counts"=some (.ref a)) (hb:Binds K fd ["ends","rests"] []):Fn P w K mg base C 1 "check_counts" 2 cz :=
 ⟨a,fd,_,bA F lX (fun cdv A outer s H E hr=>kP cdv A outer s H E T hr),hm,F.kp,hb⟩
abbrev dk:Stmt:=sAt 14
abbrev iM:List Str:=["ends","boxes","arrow","pair"]
theorem sc_check_ends:aH iM ["ends","boxes"] (ak dk):=by constructor <;> first | rfl | decide +kernel
def gw:Rho->R Out:=(bB (eQ (aC (vr 0) aN)) (tg2 2 3)
 (iff (orB (tst (bin fne (una aA (vb 3)) (kd (.int 2)))) (orB (iO (tst (cal 2 aR (aC (bin fix (vb 3) (kd (.int 0))) (aC (vr 1) aN))))) (iO (tst (cal 2 aR (aC (bin fix (vb 3) (kd (.int 1))) (aC (vr 1) aN)))))))
 bad
 nxt))
def dA (ds:List D):R D:=fin (gw (st0 iM ds))
variable (fn_is_below:Fn P w K mg base C 1 "is_below" 2 aR)
include T fn_is_below in
theorem mB (hr:Room 1 (A.deeper (envOfC "check_ends" (ak dk) s.heap.objs.size f cdv))) :
  SDs C (bS CX0 P w K mg base iM "check_ends" (ak dk) f cdv A outer s H E).nox (aF dk) gw :=
 (au (bZ PassesOwn.never rfl (cV rfl T.enumerate (ae (ai (pv 0)) al ac) (br ac)) (dD rfl (aJ (i:=2) sc_check_ends.nd rfl (Or.inl rfl)) (aJ (i:=3) sc_check_ends.nd rfl (Or.inl rfl)))
 (au (bh (ki (iT (ef (bj hr) (EB.of (edl (ag (pv 3)) rfl T.len ac)) (EB.of ah)) (iT (fC (eU (aE fn_is_below (hr.mono (by decide)) rfl (ae (ay (ag (pv 3)) (EB.of ah)) (ae (ai (pv 1)) al ac) ao) (he:=ao) (hpl:=(ar ac ax))))) (h9 (fC (eU (aE fn_is_below (hr.mono (by decide)) rfl (ae (ay (ag (pv 3)) (EB.of ah)) (ae (ai (pv 1)) al ac) ao) (he:=ao) (hpl:=(ar ac ax)))))))))
 (au gK)
 aG))))
include T fn_is_below in
theorem oW (F:Fun K "check_ends" "check_ends" dk a fd) (hm:mg "check_ends"=some (.ref a)) (hb:Binds K fd ["ends","boxes"] []):Fn P w K mg base C 2 "check_ends" 2 dA :=
 ⟨a,fd,_,bA F sc_check_ends (fun cdv A outer s H E hr=>mB cdv A outer s H E T fn_is_below hr),hm,F.kp,hb⟩
abbrev cL:Stmt:=sAt 15
abbrev gY:List Str:=["ends","rests","box","rest"]
theorem sc_check_rests:aH gY ["ends","rests"] (ak cL):=by constructor <;> first | rfl | decide +kernel
def fJ:Rho->R Out:=(bB (eQ (aC (vr 1) aN)) (tg2 2 3)
 (iff (orB (iO (tst (cal 2 aR (aC (vr 3) (aC (una aA (vb 0)) aN))))) (tst (bin fne (bin fix (vb 0) (vb 3)) (eT (aC (vr 2) (aC (vr 2) aN))))))
 bad
 nxt))
def c_ (ds:List D):R D:=fin (fJ (st0 gY ds))
include T fn_is_below in
theorem lF (hr:Room 1 (A.deeper (envOfC "check_rests" (ak cL) s.heap.objs.size f cdv))) :
  SDs C (bS CX0 P w K mg base gY "check_rests" (ak cL) f cdv A outer s H E).nox (aF cL) fJ :=
 (au (bZ PassesOwn.never rfl (cV rfl T.enumerate (ae (ai (pv 1)) al ac) (br ac)) (dD rfl (aJ (i:=2) sc_check_rests.nd rfl (Or.inl rfl)) (aJ (i:=3) sc_check_rests.nd rfl (Or.inl rfl)))
 (au (bh (ki (iT (fC (eU (aE fn_is_below (hr.mono (by decide)) rfl (ae (ai (pv 3)) (ae (edl (ag (pv 0)) rfl T.len ac) al az) ac) (he:=ac) (hpl:=(ar az ax))))) (h9 (ef (bj hr) (EB.of (ay (ag (pv 0)) (ag (pv 3)))) (EB.of (a_ (ae (ai (pv 2)) (ae (ai (pv 2)) al ac) ac)))))))
 (au gK)
 aG))))
include T fn_is_below in
theorem nH (F:Fun K "check_rests" "check_rests" cL a fd) (hm:mg "check_rests"=some (.ref a)) (hb:Binds K fd ["ends","rests"] []):Fn P w K mg base C 2 "check_rests" 2 c_ :=
 ⟨a,fd,_,bA F sc_check_rests (fun cdv A outer s H E hr=>lF cdv A outer s H E T fn_is_below hr),hm,F.kp,hb⟩
abbrev dj:Stmt:=sAt 16
abbrev fX:List Str:=["table","arrows","one","row"]
theorem sc_check_form:aH fX ["table","arrows"] (ak dj):=by constructor <;> first | rfl | decide +kernel
def gv:Rho->R Out:=(sq (iff (tst (bin fne (una aA (vb 0)) (vb 1)))
 bad
 nxt)
 (bB (eQ (aC (vr 0) aN)) (tg2 2 3)
 (iff (tst (bin fne (una aA (vb 3)) (vb 1)))
 bad
 nxt)))
def dz (ds:List D):R D:=fin (gv (st0 fX ds))
include T in
theorem my (hr:Room 0 (A.deeper (envOfC "check_form" (ak dj) s.heap.objs.size f cdv))) :
  SDs C (bS CX0 P w K mg base fX "check_form" (ak dj) f cdv A outer s H E).nox (aF dj) gv :=
 (aq (bh (ef (bj hr) (EB.of (edl (ag (pv 0)) rfl T.len ac)) (ag (pv 1)))
 (au gK)
 aG)
 (au (bZ PassesOwn.never rfl (cV rfl T.enumerate (ae (ai (pv 0)) al ac) (br ac)) (dD rfl (aJ (i:=2) sc_check_form.nd rfl (Or.inl rfl)) (aJ (i:=3) sc_check_form.nd rfl (Or.inl rfl)))
 (au (bh (ef (bj hr) (EB.of (edl (ag (pv 3)) rfl T.len ac)) (ag (pv 1)))
 (au gK)
 aG)))))
include T in
theorem oV (F:Fun K "check_form" "check_form" dj a fd) (hm:mg "check_form"=some (.ref a)) (hb:Binds K fd ["table","arrows"] []):Fn P w K mg base C 1 "check_form" 2 dz :=
 ⟨a,fd,_,bA F sc_check_form (fun cdv A outer s H E hr=>my cdv A outer s H E T hr),hm,F.kp,hb⟩
abbrev cM:Stmt:=sAt 18
abbrev gZ:List Str:=["ends","one","other","made"]
theorem m7:aH gZ ["ends","one","other","made"] (ak cM):=by constructor <;> first | rfl | decide +kernel
def fL:Rho->R Out:=(iff (tst (bin fne (bin fix (bin fix (vb 0) (vb 1)) (kd (.int 1))) (bin fix (bin fix (vb 0) (vb 2)) (kd (.int 0)))))
 (iff (tst (bin fne (vb 3) (una dE (kd (.int 1)))))
 bad
 nxt)
 (iff (orB (iO (tst (cal 2 aR (aC (vr 3) (aC (una aA (vb 0)) aN))))) (tst (bin fne (bin fix (vb 0) (vb 3)) (eT (aC (bin fix (bin fix (vb 0) (vb 1)) (kd (.int 0))) (aC (bin fix (bin fix (vb 0) (vb 2)) (kd (.int 1))) aN))))))
 bad
 nxt))
def da (ds:List D):R D:=fin (fL (st0 gZ ds))
include T fn_is_below in
theorem lG (hr:Room 1 (A.deeper (envOfC "check_entry" (ak cM) s.heap.objs.size f cdv))) :
  SDs C (bS CX0 P w K mg base gZ "check_entry" (ak cM) f cdv A outer s H E).nox (aF cM) fL :=
 (au (bh (ef (bj hr) (EB.of (ay (EB.of (ay (ag (pv 0)) (ag (pv 1)))) (EB.of ah))) (EB.of (ay (EB.of (ay (ag (pv 0)) (ag (pv 2)))) (EB.of ah))))
 (au (bh (ef (bj hr) (ag (pv 3)) (EB.of (eI (EB.of ah))))
 (au gK)
 aG))
 (au (bh (ki (iT (fC (eU (aE fn_is_below (hr.mono (by decide)) rfl (ae (ai (pv 3)) (ae (edl (ag (pv 0)) rfl T.len ac) al az) ac) (he:=ac) (hpl:=(ar az ax))))) (h9 (ef (bj hr) (EB.of (ay (ag (pv 0)) (ag (pv 3)))) (EB.of (a_ (ae (ay (EB.of (ay (ag (pv 0)) (ag (pv 1)))) (EB.of ah)) (ae (ay (EB.of (ay (ag (pv 0)) (ag (pv 2)))) (EB.of ah)) al ao) ao)))))))
 (au gK)
 aG))))
include T fn_is_below in
theorem nI (F:Fun K "check_entry" "check_entry" cM a fd) (hm:mg "check_entry"=some (.ref a)) (hb:Binds K fd ["ends","one","other","made"] []):Fn P w K mg base C 2 "check_entry" 4 da :=
 ⟨a,fd,_,bA F m7 (fun cdv A outer s H E hr=>lG cdv A outer s H E T fn_is_below hr),hm,F.kp,hb⟩
abbrev cK:Stmt:=sAt 17
abbrev gX:List Str:=["ends","table","one","row","other","made"]
theorem sc_check_table:aH gX ["ends","table"] (ak cK):=by constructor <;> first | rfl | decide +kernel
def fI:Rho->R Out:=(bB (eQ (aC (vr 1) aN)) (tg2 2 3)
 (bB (eQ (aC (vr 3) aN)) (tg2 4 5)
 (drp (cal 4 da (aC (vr 0) (aC (vr 2) (aC (vr 4) (aC (vr 5) aN))))))))
def cZ (ds:List D):R D:=fin (fI (st0 gX ds))
variable (fn_check_entry:Fn P w K mg base C 2 "check_entry" 4 da)
include T fn_check_entry in
theorem lE (hr:Room 2 (A.deeper (envOfC "check_table" (ak cK) s.heap.objs.size f cdv))) :
  SDs C (bS CX0 P w K mg base gX "check_table" (ak cK) f cdv A outer s H E).nox (aF cK) fI :=
 (au (bZ PassesOwn.never rfl (cV rfl T.enumerate (ae (ai (pv 1)) al ac) (br ac)) (dD rfl (aJ (i:=2) sc_check_table.nd rfl (Or.inl rfl)) (aJ (i:=3) sc_check_table.nd rfl (Or.inl rfl)))
 (au (bZ PassesOwn.never rfl (cV rfl T.enumerate (ae (ai (pv 3)) al ac) (br ac)) (dD rfl (aJ (i:=4) sc_check_table.nd rfl (Or.inl rfl)) (aJ (i:=5) sc_check_table.nd rfl (Or.inl rfl)))
 (au (gC (EB.of (aE fn_check_entry (hr.mono (by decide)) rfl (ae (ai (pv 0)) (ae (ai (pv 2)) (ae (ai (pv 4)) (ae (ai (pv 5)) al ac) ac) ac) ac) (he:=ac) (hpl:=(ar ac (ar ac (ar ac ax))))))))))))
include T fn_check_entry in
theorem nG (F:Fun K "check_table" "check_table" cK a fd) (hm:mg "check_table"=some (.ref a)) (hb:Binds K fd ["ends","table"] []):Fn P w K mg base C 3 "check_table" 2 cZ :=
 ⟨a,fd,_,bA F sc_check_table (fun cdv A outer s H E hr=>lE cdv A outer s H E T fn_check_entry hr),hm,F.kp,hb⟩
abbrev bn:Stmt:=sAt 19
abbrev dQ:List Str:=["ends","rests","table","arrow","pair"]
theorem sc_check_beside_rests:aH dQ ["ends","rests","table"] (ak bn):=by constructor <;> first | rfl | decide +kernel
def dn:Rho->R Out:=(bB (eQ (aC (vr 0) aN)) (tg2 3 4)
 (iff (orB (tst (bin fne (bin fix (bin fix (vb 2) (bin fix (vb 1) (bin fix (vb 4) (kd (.int 0))))) (vb 3)) (vb 3))) (tst (bin fne (bin fix (bin fix (vb 2) (vb 3)) (bin fix (vb 1) (bin fix (vb 4) (kd (.int 1))))) (vb 3))))
 bad
 nxt))
def bq (ds:List D):R D:=fin (dn (st0 dQ ds))
include T in
theorem h7 (hr:Room 0 (A.deeper (envOfC "check_beside_rests" (ak bn) s.heap.objs.size f cdv))) :
  SDs C (bS CX0 P w K mg base dQ "check_beside_rests" (ak bn) f cdv A outer s H E).nox (aF bn) dn :=
 (au (bZ PassesOwn.never rfl (cV rfl T.enumerate (ae (ai (pv 0)) al ac) (br ac)) (dD rfl (aJ (i:=3) sc_check_beside_rests.nd rfl (Or.inl rfl)) (aJ (i:=4) sc_check_beside_rests.nd rfl (Or.inl rfl)))
 (au (bh (ki (iT (ef (bj hr) (EB.of (ay (EB.of (ay (ag (pv 2)) (EB.of (ay (ag (pv 1)) (EB.of (ay (ag (pv 4)) (EB.of ah))))))) (ag (pv 3)))) (ag (pv 3))) (h9 (ef (bj hr) (EB.of (ay (EB.of (ay (ag (pv 2)) (ag (pv 3)))) (EB.of (ay (ag (pv 1)) (EB.of (ay (ag (pv 4)) (EB.of ah))))))) (ag (pv 3))))))
 (au gK)
 aG))))
include T in
theorem iP (F:Fun K "check_beside_rests" "check_beside_rests" bn a fd) (hm:mg "check_beside_rests"=some (.ref a)) (hb:Binds K fd ["ends","rests","table"] []):Fn P w K mg base C 1 "check_beside_rests" 3 bq :=
 ⟨a,fd,_,bA F sc_check_beside_rests (fun cdv A outer s H E hr=>h7 cdv A outer s H E T hr),hm,F.kp,hb⟩
abbrev ci:Stmt:=sAt 21
abbrev eP:List Str:=["table","one","other","made","third","later"]
theorem sc_check_thirds:aH eP ["table","one","other","made"] (ak ci):=by constructor <;> first | rfl | decide +kernel
def fj:Rho->R Out:=(bB (eQ (aC (bin fix (vb 0) (vb 2)) aN)) (tg2 4 5)
 (iff (lI (tst (bin fne (vb 5) (una dE (kd (.int 1))))) (tst (bin fne (bin fix (bin fix (vb 0) (vb 3)) (vb 4)) (bin fix (bin fix (vb 0) (vb 1)) (vb 5)))))
 bad
 nxt))
def cy (ds:List D):R D:=fin (fj (st0 eP ds))
include T in
theorem kO (hr:Room 0 (A.deeper (envOfC "check_thirds" (ak ci) s.heap.objs.size f cdv))) :
  SDs C (bS CX0 P w K mg base eP "check_thirds" (ak ci) f cdv A outer s H E).nox (aF ci) fj :=
 (au (bZ PassesOwn.never rfl (cV rfl T.enumerate (ae (ay (ag (pv 0)) (ag (pv 2))) al ao) (br ao)) (dD rfl (aJ (i:=4) sc_check_thirds.nd rfl (Or.inl rfl)) (aJ (i:=5) sc_check_thirds.nd rfl (Or.inl rfl)))
 (au (bh (ki (mS (ef (bj hr) (ag (pv 5)) (EB.of (eI (EB.of ah)))) (kh (ef (bj hr) (EB.of (ay (EB.of (ay (ag (pv 0)) (ag (pv 3)))) (ag (pv 4)))) (EB.of (ay (EB.of (ay (ag (pv 0)) (ag (pv 1)))) (ag (pv 5))))))))
 (au gK)
 aG))))
include T in
theorem me (F:Fun K "check_thirds" "check_thirds" ci a fd) (hm:mg "check_thirds"=some (.ref a)) (hb:Binds K fd ["table","one","other","made"] []):Fn P w K mg base C 1 "check_thirds" 4 cy :=
 ⟨a,fd,_,bA F sc_check_thirds (fun cdv A outer s H E hr=>kO cdv A outer s H E T hr),hm,F.kp,hb⟩
abbrev cg:Stmt:=sAt 20
abbrev gz:List Str:=["table","one","row","other","made"]
theorem sc_check_threes:aH gz ["table"] (ak cg):=by constructor <;> first | rfl | decide +kernel
def fi:Rho->R Out:=(bB (eQ (aC (vr 0) aN)) (tg2 1 2)
 (bB (eQ (aC (vr 2) aN)) (tg2 3 4)
 (iff (tst (bin fne (vb 4) (una dE (kd (.int 1)))))
 (drp (cal 4 cy (aC (vr 0) (aC (vr 1) (aC (vr 3) (aC (vr 4) aN))))))
 nxt)))
def cx (ds:List D):R D:=fin (fi (st0 gz ds))
variable (fn_check_thirds:Fn P w K mg base C 1 "check_thirds" 4 cy)
include T fn_check_thirds in
theorem kN (hr:Room 1 (A.deeper (envOfC "check_threes" (ak cg) s.heap.objs.size f cdv))) :
  SDs C (bS CX0 P w K mg base gz "check_threes" (ak cg) f cdv A outer s H E).nox (aF cg) fi :=
 (au (bZ PassesOwn.never rfl (cV rfl T.enumerate (ae (ai (pv 0)) al ac) (br ac)) (dD rfl (aJ (i:=1) sc_check_threes.nd rfl (Or.inl rfl)) (aJ (i:=2) sc_check_threes.nd rfl (Or.inl rfl)))
 (au (bZ PassesOwn.never rfl (cV rfl T.enumerate (ae (ai (pv 2)) al ac) (br ac)) (dD rfl (aJ (i:=3) sc_check_threes.nd rfl (Or.inl rfl)) (aJ (i:=4) sc_check_threes.nd rfl (Or.inl rfl)))
 (au (bh (ef (bj hr) (ag (pv 4)) (EB.of (eI (EB.of ah))))
 (au (gC (EB.of (aE fn_check_thirds (hr.mono (by decide)) rfl (ae (ai (pv 0)) (ae (ai (pv 1)) (ae (ai (pv 3)) (ae (ai (pv 4)) al ac) ac) ac) ac) (he:=ac) (hpl:=(ar ac (ar ac (ar ac ax))))))))
 aG))))))
include T fn_check_thirds in
theorem l_ (F:Fun K "check_threes" "check_threes" cg a fd) (hm:mg "check_threes"=some (.ref a)) (hb:Binds K fd ["table"] []):Fn P w K mg base C 2 "check_threes" 1 cx :=
 ⟨a,fd,_,bA F sc_check_threes (fun cdv A outer s H E hr=>kN cdv A outer s H E T fn_check_thirds hr),hm,F.kp,hb⟩
abbrev bM:Stmt:=Ah (sAt 22) 0
abbrev fw:List Str:=["self","ends","rests","table"]
theorem m8:aH fw ["self","ends","rests","table"] (ak bM):=by constructor <;> first | rfl | decide +kernel
abbrev Nc_Hall___init_0:List Str:=["self","ends","rests","table","row"]
theorem kZ:Nc_Hall___init_0.Nodup:=by decide +kernel
def jh:Rho->R D:=AH [(cal 2 cz (aC (vr 1) (aC (vr 2) aN))),(cal 2 dA (aC (vr 1) (aC (una aA (vb 2)) aN))),(cal 2 c_ (aC (vr 1) (aC (vr 2) aN))),(cal 2 dz (aC (vr 3) (aC (una aA (vb 1)) aN))),(cal 2 cZ (aC (vr 1) (aC (vr 3) aN))),(cal 3 bq (aC (vr 1) (aC (vr 2) (aC (vr 3) aN)))),(cal 1 cx (aC (vr 3) aN))] (fIt (vb 1)) (fIt (vb 2)) (bI (fIt (vr 3)) 1 (tgN 4) tT (eLs (fIt (vb 4))))
variable (fn_check_beside_rests:Fn P w K mg base C 1 "check_beside_rests" 3 bq)
variable (fn_check_counts:Fn P w K mg base C 1 "check_counts" 2 cz)
variable (fn_check_ends:Fn P w K mg base C 2 "check_ends" 2 dA)
variable (fn_check_form:Fn P w K mg base C 1 "check_form" 2 dz)
variable (fn_check_rests:Fn P w K mg base C 2 "check_rests" 2 c_)
variable (fn_check_table:Fn P w K mg base C 3 "check_table" 2 cZ)
variable (fn_check_threes:Fn P w K mg base C 2 "check_threes" 1 cx)
include T fn_check_beside_rests fn_check_counts fn_check_ends fn_check_form fn_check_rests fn_check_table fn_check_threes in
theorem lH (hr:Room 3 (A.deeper (envOfC "Hall.__init__" (ak bM) s.heap.objs.size f cdv))) :
  PSs (bS CX0 P w K mg base fw "Hall.__init__" (ak bM) f cdv A outer s H E).nox (aF bM) (tCk C (bS CX0 P w K mg base fw "Hall.__init__" (ak bM) f cdv A outer s H E).nox [(cal 2 cz (aC (vr 1) (aC (vr 2) aN))),(cal 2 dA (aC (vr 1) (aC (una aA (vb 2)) aN))),(cal 2 c_ (aC (vr 1) (aC (vr 2) aN))),(cal 2 dz (aC (vr 3) (aC (una aA (vb 1)) aN))),(cal 2 cZ (aC (vr 1) (aC (vr 3) aN))),(cal 3 bq (aC (vr 1) (aC (vr 2) (aC (vr 3) aN)))),(cal 1 cx (aC (vr 3) aN))] (tI C (bS CX0 P w K mg base fw "Hall.__init__" (ak bM) f cdv A outer s H E).nox (fIt (vb 1)) (fIt (vb 2)) (bI (fIt (vr 3)) 1 (tgN 4) tT (eLs (fIt (vb 4)))))) :=
 (jU (nh (EB.of (aE fn_check_counts (hr.mono (by decide)) rfl (ae (ai (pv 1)) (ae (ai (pv 2)) al ac) ac) (he:=ac) (hpl:=(ar ac ax)))))
 (jU (nh (EB.of (aE fn_check_ends (hr.mono (by decide)) rfl (ae (ai (pv 1)) (ae (edl (ag (pv 2)) rfl T.len ac) al az) ac) (he:=ac) (hpl:=(ar az ax)))))
 (jU (nh (EB.of (aE fn_check_rests (hr.mono (by decide)) rfl (ae (ai (pv 1)) (ae (ai (pv 2)) al ac) ac) (he:=ac) (hpl:=(ar ac ax)))))
 (jU (nh (EB.of (aE fn_check_form (hr.mono (by decide)) rfl (ae (ai (pv 3)) (ae (edl (ag (pv 1)) rfl T.len ac) al az) ac) (he:=ac) (hpl:=(ar az ax)))))
 (jU (nh (EB.of (aE fn_check_table (hr.mono (by decide)) rfl (ae (ai (pv 1)) (ae (ai (pv 3)) al ac) ac) (he:=ac) (hpl:=(ar ac ax)))))
 (jU (nh (EB.of (aE fn_check_beside_rests (hr.mono (by decide)) rfl (ae (ai (pv 1)) (ae (ai (pv 2)) (ae (ai (pv 3)) al ac) ac) ac) (he:=ac) (hpl:=(ar ac (ar ac ax))))))
 (jU (nh (EB.of (aE fn_check_threes (hr.mono (by decide)) rfl (ae (ai (pv 3)) al ac) (he:=ac) (hpl:=ax))))
 (DI (xo (pv 0) (fdl (ag (pv 1)) rfl T.list ac)) (xo (pv 0) (fdl (ag (pv 2)) rfl T.list ac)) (xo (pv 0) (dU (N':=Nc_Hall___init_0) (n:=1) rfl rfl rfl (i4 4) dF (dC (ai (pv 3))) (fun L cs s H fp=>(ba (i:=4) kZ rfl (Or.inl rfl))) (fun L cs s H fp=>cU) (fun L cs s H fp=>(bX (fdl (ag (pv 4)) rfl T.list ac)))))))))))))
include T fn_check_beside_rests fn_check_counts fn_check_ends fn_check_form fn_check_rests fn_check_table fn_check_threes in
theorem nJ (F:Fun K "__init__" "Hall.__init__" bM a fd) (M:Mk K C a) (hb:Binds K fd ["self","ends","rests","table"] []):FnH P w K mg base C 4 jh :=
 ⟨a,fd,M,Af F m8 T.cl T.nE T.nR T.nT (fun cdv A outer s H E hr=>lH cdv A outer s H E T fn_check_beside_rests fn_check_counts fn_check_ends fn_check_form fn_check_rests fn_check_table fn_check_threes hr),T.hall,hb⟩
abbrev dL:Stmt:=sAt 23
abbrev jt:List Str:=["hall","box"]
theorem qa:aH jt ["hall","box"] (ak dL):=by constructor <;> first | rfl | decide +kernel
def fv:Rho->R Out:=(iff (iO (tst (cal 2 aR (aC (vr 1) (aC (una aA (una (gB 1) (vb 0))) aN)))))
 (rse 2 (fS (vb 1)))
 nxt)
def bv (ds:List D):R D:=fin (fv (st0 jt ds))
include T fn_is_below in
theorem oG (hr:Room 1 (A.deeper (envOfC "check_box" (ak dL) s.heap.objs.size f cdv))) :
  SDs C (bS (CXd P w) P w K mg base jt "check_box" (ak dL) f cdv A outer s H E) (aF dL) fv :=
 (au (bh (fC (eU (aE fn_is_below (hr.mono (by decide)) rfl (ae (ai (pv 1)) (ae (edl (EB.of (jc (k:=1) (ag (pv 0)) T.cl T.nR rfl (fun _ _ _=>rfl))) rfl T.len dR) al az) ac) (he:=ac) (hpl:=(ar az ax)))))
 (au (kl (c:=2) T.xc2 rfl rfl rfl rfl (Dr (ag (pv 1)) (by decide)) rfl))
 aG))
include T fn_is_below in
theorem qt (F:Fun K "check_box" "check_box" dL a fd) (hm:mg "check_box"=some (.ref a)) (hb:Binds K fd ["hall","box"] []):FnX P w K mg base C 2 "check_box" 2 bv :=
 ⟨a,fd,_,kJ F qa (fun cdv A outer s H E hr=>oG cdv A outer s H E T fn_is_below hr),hm,F.kp,hb⟩
abbrev e7:Stmt:=sAt 24
abbrev lO:List Str:=["hall","box","other"]
theorem tF:aH lO ["hall","box","other"] (ak e7):=by constructor <;> first | rfl | decide +kernel
abbrev Nc_between_0:List Str:=["hall","box","other","arrow","pair"]
theorem ku:Nc_between_0.Nodup:=by decide +kernel
def jg:Rho->R Out:=(sq (drp (cal 2 bv (aC (vr 0) (aC (vr 1) aN))))
 (sq (drp (cal 2 bv (aC (vr 0) (aC (vr 2) aN))))
 (ret (eLs (bI (eQ (aC (una (gB 0) (vb 0)) aN)) 2 (tg2 3 4) (tst (bin feq (vb 4) (eT (aC (vr 1) (aC (vr 2) aN))))) (vr 3))))))
def bo (ds:List D):R D:=fin (jg (st0 lO ds))
variable (fn_check_box:FnX P w K mg base C 2 "check_box" 2 bv)
include T fn_check_box in
theorem qZ (hr:Room 2 (A.deeper (envOfC "between" (ak e7) s.heap.objs.size f cdv))) :
  SDs C (bS CX0 P w K mg base lO "between" (ak e7) f cdv A outer s H E).nox (aF e7) jg :=
 (aq (gC (EB.of (aE fn_check_box.fn (hr.mono (by decide)) rfl (ae (ai (pv 0)) (ae (ai (pv 1)) al ac) ac) (he:=ac) (hpl:=(ar ac ax)))))
 (aq (gC (EB.of (aE fn_check_box.fn (hr.mono (by decide)) rfl (ae (ai (pv 0)) (ae (ai (pv 2)) al ac) ac) (he:=ac) (hpl:=(ar ac ax)))))
 (au (aU (bX (dU (N':=Nc_between_0) (n:=2) rfl rfl rfl (DX 3) wR (cV rfl T.enumerate (ae (jc (k:=0) (ag (pv 0)) T.cl T.nE rfl (fun _ _ _=>rfl)) al dR) (br dR)) (fun L cs s H fp=>(dD rfl (aJ (i:=3) ku rfl (Or.inl rfl)) (aJ (i:=4) ku rfl (Or.inl rfl)))) (fun L cs s H fp=>(qA (d8 (bj hr) (ag (pv 4)) (EB.of (a_ (ae (ai (pv 1)) (ae (ai (pv 2)) al ac) ac)))))) (fun L cs s H fp=>(ai (pv 3)))))))))
include T fn_check_box in
theorem tW (F:Fun K "between" "between" e7 a fd) (hm:mg "between"=some (.ref a)) (hb:Binds K fd ["hall","box","other"] []):Fn P w K mg base C 3 "between" 3 bo :=
 ⟨a,fd,_,bA F tF (fun cdv A outer s H E hr=>qZ cdv A outer s H E T fn_check_box hr),hm,F.kp,hb⟩
abbrev f_:Stmt:=sAt 29
abbrev oI:List Str:=["hall","places","tie"]
theorem v7:aH oI ["hall","places","tie"] (ak f_):=by constructor <;> first | rfl | decide +kernel
def j5:Rho->R Out:=(sq (iff (orB (tst (bin fne (una aA (vb 2)) (kd (.int 3)))) (orB (iO (tst (cal 2 aR (aC (bin fix (vb 2) (kd (.int 0))) (aC (una aA (vb 1)) aN))))) (iO (tst (cal 2 aR (aC (bin fix (vb 2) (kd (.int 1))) (aC (una aA (vb 1)) aN)))))))
 (ret (kd (.bl false)))
 nxt)
 (ret (yV (cal 2 aR (aC (bin fix (vb 2) (kd (.int 2))) (aC (una aA (una (gB 0) (vb 0))) aN))) (bin feq (bin fix (una (gB 0) (vb 0)) (bin fix (vb 2) (kd (.int 2)))) (eT (aC (bin fix (vb 1) (bin fix (vb 2) (kd (.int 0)))) (aC (bin fix (vb 1) (bin fix (vb 2) (kd (.int 1)))) aN)))))))
def fh (ds:List D):R D:=fin (j5 (st0 oI ds))
include T fn_is_below in
theorem sT (hr:Room 1 (A.deeper (envOfC "is_tie" (ak f_) s.heap.objs.size f cdv))) :
  SDs C (bS CX0 P w K mg base oI "is_tie" (ak f_) f cdv A outer s H E).nox (aF f_) j5 :=
 (aq (bh (ki (iT (ef (bj hr) (EB.of (edl (ag (pv 2)) rfl T.len ac)) (EB.of ah)) (iT (fC (eU (aE fn_is_below (hr.mono (by decide)) rfl (ae (ay (ag (pv 2)) (EB.of ah)) (ae (edl (ag (pv 1)) rfl T.len ac) al az) ao) (he:=ao) (hpl:=(ar az ax))))) (h9 (fC (eU (aE fn_is_below (hr.mono (by decide)) rfl (ae (ay (ag (pv 2)) (EB.of ah)) (ae (edl (ag (pv 1)) rfl T.len ac) al az) ao) (he:=ao) (hpl:=(ar az ax)))))))))
 (au (aU ol))
 aG)
 (au (aU (yF (aE fn_is_below (hr.mono (by decide)) rfl (ae (ay (ag (pv 2)) (EB.of ah)) (ae (edl (EB.of (jc (k:=0) (ag (pv 0)) T.cl T.nE rfl (fun _ _ _=>rfl))) rfl T.len dR) al az) ao) (he:=ao) (hpl:=(ar az ax))) (yC (kH (bj hr) (EB.of (ay (EB.of (jc (k:=0) (ag (pv 0)) T.cl T.nE rfl (fun _ _ _=>rfl))) (EB.of (ay (ag (pv 2)) (EB.of ah))))) (EB.of (a_ (ae (ay (ag (pv 1)) (EB.of (ay (ag (pv 2)) (EB.of ah)))) (ae (ay (ag (pv 1)) (EB.of (ay (ag (pv 2)) (EB.of ah)))) al ao) ao)))))))))
include T fn_is_below in
theorem wg (F:Fun K "is_tie" "is_tie" f_ a fd) (hm:mg "is_tie"=some (.ref a)) (hb:Binds K fd ["hall","places","tie"] []):Fn P w K mg base C 2 "is_tie" 3 fh :=
 ⟨a,fd,_,bA F v7 (fun cdv A outer s H E hr=>sT cdv A outer s H E T fn_is_below hr),hm,F.kp,hb⟩
abbrev bV:Stmt:=sAt 28
abbrev fQ:List Str:=["hall","places","ties","place","box","number","tie"]
theorem sc_check_picture:aH fQ ["hall","places","ties"] (ak bV):=by constructor <;> first | rfl | decide +kernel
def eO:Rho->R Out:=(sq (iff (orB (tst (bin (iI fgt) (una aA (vb 1)) (kd (.int 3)))) (tst (bin (iI fgt) (una aA (vb 2)) (kd (.int 4)))))
 (rse 3 (fSs (kd (.int 3)) (fSs (kd (.int 4)) sK)))
 nxt)
 (sq (bB (eQ (aC (vr 1) aN)) (tg2 3 4)
 (iff (iO (tst (cal 2 aR (aC (vr 4) (aC (una aA (una (gB 1) (vb 0))) aN)))))
 (rse 3 (fSs (vb 3) sK))
 nxt))
 (bB (eQ (aC (vr 2) aN)) (tg2 5 6)
 (iff (iO (tst (cal 3 fh (aC (vr 0) (aC (vr 1) (aC (vr 6) aN))))))
 (rse 3 (fSs (vb 5) sK))
 nxt))))
def bz (ds:List D):R D:=fin (eO (st0 fQ ds))
variable (fn_is_tie:Fn P w K mg base C 2 "is_tie" 3 fh)
include T fn_is_below fn_is_tie in
theorem j8 (hr:Room 2 (A.deeper (envOfC "check_picture" (ak bV) s.heap.objs.size f cdv))) :
  SDs C (bS (CXd P w) P w K mg base fQ "check_picture" (ak bV) f cdv A outer s H E) (aF bV) eO :=
 (aq (bh (ki (iT (jK (EB.of (edl (ag (pv 1)) rfl T.len ac)) (EB.of (hW rfl T.most_places.choose_spec))) (h9 (jK (EB.of (edl (ag (pv 2)) rfl T.len ac)) (EB.of (hW rfl T.most_ties.choose_spec))))))
 (au (kl (c:=3) T.xc3 rfl rfl rfl rfl (p9 (gf (by decide) (qz (EB.of (hW rfl T.most_places.choose_spec)) (gf (by decide) (qz (EB.of (hW rfl T.most_ties.choose_spec)) (gf (by decide) t7))))) (by decide)) rfl))
 aG)
 (aq (km rfl rfl rfl rfl (cV rfl T.enumerate (ae (ai (pv 1)) al ac) (br ac)) (dD rfl (aJ (i:=3) sc_check_picture.nd rfl (Or.inl rfl)) (aJ (i:=4) sc_check_picture.nd rfl (Or.inl rfl)))
 (fun pn xe=>(au (bh (fC (eU (aE fn_is_below (hr.mono (by decide)) rfl (ae (ai (pv 4)) (ae (edl (EB.of (jc (k:=1) (ag (pv 0)) T.cl T.nR rfl (fun _ _ _=>rfl))) rfl T.len dR) al az) ac) (he:=ac) (hpl:=(ar az ax)))))
 (au (kl (c:=3) T.xc3 rfl rfl rfl rfl (p9 (gf (by decide) (qz (ag (pv 3)) (gf (by decide) t7))) (by decide)) rfl))
 aG))))
 (au (km rfl rfl rfl rfl (cV rfl T.enumerate (ae (ai (pv 2)) al ac) (br ac)) (dD rfl (aJ (i:=5) sc_check_picture.nd rfl (Or.inl rfl)) (aJ (i:=6) sc_check_picture.nd rfl (Or.inl rfl)))
 (fun pn xe=>(au (bh (fC (eU (aE fn_is_tie (hr.mono (by decide)) rfl (ae (ai (pv 0)) (ae (ai (pv 1)) (ae (ai (pv 6)) al ac) ac) ac) (he:=ac) (hpl:=(ar ac (ar ac ax))))))
 (au (kl (c:=3) T.xc3 rfl rfl rfl rfl (p9 (gf (by decide) (qz (ag (pv 5)) (gf (by decide) t7))) (by decide)) rfl))
 aG)))))))
include T fn_is_below fn_is_tie in
theorem ld (F:Fun K "check_picture" "check_picture" bV a fd) (hm:mg "check_picture"=some (.ref a)) (hb:Binds K fd ["hall","places","ties"] []):FnX P w K mg base C 3 "check_picture" 3 bz :=
 ⟨a,fd,_,kJ F sc_check_picture (fun cdv A outer s H E hr=>j8 cdv A outer s H E T fn_is_below fn_is_tie hr),hm,F.kp,hb⟩
abbrev dJ:Stmt:=sAt 30
abbrev js:List Str:=["hall","arrows","tie"]
theorem p_:aH js ["hall","arrows","tie"] (ak dJ):=by constructor <;> first | rfl | decide +kernel
def gQ:Rho->R Out:=(ret (bin feq (bin fix (bin fix (una (gB 2) (vb 0)) (bin fix (vb 1) (bin fix (vb 2) (kd (.int 0))))) (bin fix (vb 2) (kd (.int 2)))) (bin fix (vb 1) (bin fix (vb 2) (kd (.int 1))))))
def cb (ds:List D):R D:=fin (gQ (st0 js ds))
include T in
theorem oF (hr:Room 0 (A.deeper (envOfC "keeps_tie" (ak dJ) s.heap.objs.size f cdv))) :
  SDs C (bS CX0 P w K mg base js "keeps_tie" (ak dJ) f cdv A outer s H E).nox (aF dJ) gQ :=
 (au (aU (kH (bj hr) (EB.of (ay (EB.of (ay (EB.of (jc (k:=2) (ag (pv 0)) T.cl T.nT rfl (fun _ _ _=>rfl))) (EB.of (ay (ag (pv 1)) (EB.of (ay (ag (pv 2)) (EB.of ah))))))) (EB.of (ay (ag (pv 2)) (EB.of ah))))) (EB.of (ay (ag (pv 1)) (EB.of (ay (ag (pv 2)) (EB.of ah))))))))
include T in
theorem qs (F:Fun K "keeps_tie" "keeps_tie" dJ a fd) (hm:mg "keeps_tie"=some (.ref a)) (hb:Binds K fd ["hall","arrows","tie"] []):Fn P w K mg base C 1 "keeps_tie" 3 cb :=
 ⟨a,fd,_,bA F p_ (fun cdv A outer s H E hr=>oF cdv A outer s H E T hr),hm,F.kp,hb⟩
abbrev ig:Stmt:=sAt 32
abbrev rh:List Str:=["hall","begun","arrows","due","longer","told","arrow","more"]
theorem sc_grown:aH rh ["hall","begun","arrows","due"] (ak ig):=by constructor <;> first | rfl | decide +kernel
abbrev Nc_grown_0:List Str:=["hall","begun","arrows","due","longer","told","arrow","more","tie"]
theorem tP:Nc_grown_0.Nodup:=by decide +kernel
def lq:Rho->R Out:=(sq (own 4 (iQ aN))
 (sq (bB (fIt (vr 1)) (tgN 5)
 (bB (fIt (vr 2)) (tgN 6)
 (sq (asg 7 (bin aV (vb 5) (eL (aC (vr 6) aN))))
 (iff (tst (una qD (eLs (bI (fIt (vr 3)) 1 (tgN 8) tT (cal 3 cb (aC (vr 0) (aC (vr 7) (aC (vr 8) aN))))))))
 (app 4 (vr 7))
 nxt))))
 (fz 4 (ret (vr 4)))))
def fy (ds:List D):R D:=fin (lq (st0 rh ds))
variable (fn_keeps_tie:Fn P w K mg base C 1 "keeps_tie" 3 cb)
include T fn_keeps_tie in
theorem uv (hr:Room 1 (A.deeper (envOfC "grown" (ak ig) s.heap.objs.size f cdv))) :
  SDs C (bS CX0 P w K mg base rh "grown" (ak ig) f cdv A outer s H E).nox (aF ig) lq :=
 (aq (jS (i:=4) sc_grown.nd rfl (Or.inl rfl) (jZ al))
 (aq (bZ PassesOwn.never rfl (dC (ai (pv 1))) (ba (i:=5) sc_grown.nd rfl (Or.inl rfl))
 (au (bZ PassesOwn.never rfl (dC (ai (pv 2))) (ba (i:=6) sc_grown.nd rfl (Or.inl rfl))
 (aq (aT (i:=7) sc_grown.nd rfl (Or.inr rfl) (bF (ag (pv 5)) (EB.of (bb (ae (ai (pv 6)) al ac)))))
 (au (bh (eU (yG rfl rfl T.all bP (EB.of (bX (dU (N':=Nc_grown_0) (n:=1) rfl rfl rfl (i4 8) dF (dC (ai (pv 3))) (fun L cs s H fp=>(ba (i:=8) tP rfl (Or.inl rfl))) (fun L cs s H fp=>cU) (fun L cs s H fp=>(aE fn_keeps_tie (hr.mono (by decide)) rfl (ae (ai (pv 0)) (ae (ai (pv 7)) (ae (ai (pv 8)) al ac) ac) ac) (he:=ac) (hpl:=(ar ac (ar ac ax))))))))))
 (au (iX (pv 4) (ai (pv 7)) (hst:=ac)))
 aG))))))
 (jR 4 (au (aU (ai (pv 4)))))))
include T fn_keeps_tie in
theorem xN (F:Fun K "grown" "grown" ig a fd) (hm:mg "grown"=some (.ref a)) (hb:Binds K fd ["hall","begun","arrows","due"] []):Fn P w K mg base C 2 "grown" 4 fy :=
 ⟨a,fd,_,bA F sc_grown (fun cdv A outer s H E hr=>uv cdv A outer s H E T fn_keeps_tie hr),hm,F.kp,hb⟩
abbrev dg:Stmt:=sAt 31
abbrev iJ:List Str:=["hall","places","ties","box","begun","place","goal","due"]
theorem sc_views_from:aH iJ ["hall","places","ties","box"] (ak dg):=by constructor <;> first | rfl | decide +kernel
abbrev Nc_views_from_0:List Str:=["hall","places","ties","box","begun","place","goal","due","tie"]
theorem lY:Nc_views_from_0.Nodup:=by decide +kernel
def gq:Rho->R Out:=(sq (asg 4 (eL (aC (eL aN) aN)))
 (sq (bB (eQ (aC (vr 1) aN)) (tg2 5 6)
 (sq (asg 7 (eLs (bI (fIt (vr 2)) 1 (tgN 8) (tst (bin feq (qI (aC (bin fix (vb 8) (kd (.int 0))) (aC (bin fix (vb 8) (kd (.int 1))) aN))) (vb 5))) (vr 8))))
 (asg 4 (cal 4 fy (aC (vr 0) (aC (vr 4) (aC (cal 3 bo (aC (vr 0) (aC (vr 3) (aC (vr 6) aN)))) (aC (vr 7) aN))))))))
 (ret (vr 4))))
def ce (ds:List D):R D:=fin (gq (st0 iJ ds))
variable (fn_between:Fn P w K mg base C 3 "between" 3 bo)
variable (fn_grown:Fn P w K mg base C 2 "grown" 4 fy)
include T fn_between fn_grown in
theorem mt (hr:Room 3 (A.deeper (envOfC "views_from" (ak dg) s.heap.objs.size f cdv))) :
  SDs C (bS CX0 P w K mg base iJ "views_from" (ak dg) f cdv A outer s H E).nox (aF dg) gq :=
 (aq (aT (i:=4) sc_views_from.nd rfl (Or.inl rfl) (bb (ae (bb al) al bL)))
 (aq (bZ PassesOwn.never rfl (cV rfl T.enumerate (ae (ai (pv 1)) al ac) (br ac)) (dD rfl (aJ (i:=5) sc_views_from.nd rfl (Or.inr rfl)) (aJ (i:=6) sc_views_from.nd rfl (Or.inl rfl)))
 (aq (kj (e8 (i:=7) (aJ (i:=7) sc_views_from.nd rfl (Or.inl rfl)) (N':=Nc_views_from_0) (n:=1) rfl rfl rfl (i4 8) dF (dC (ai (pv 2))) (fun L cs s H fp=>(ba (i:=8) lY rfl (Or.inl rfl))) (fun L cs s H fp=>(qA (d8 (bj hr) (EB.of (yD rfl (ae (ay (ag (pv 8)) (EB.of ah)) (ae (ay (ag (pv 8)) (EB.of ah)) al ao) ao) rfl T.max (fun t ha=>fx (lw rfl) rfl T.max boot_max ha (he:=ao) (hpl:=(ar ao ax))))) (ag (pv 5))))) (fun L cs s H fp=>(ai (pv 8))) rfl))
 (au (aT (i:=4) sc_views_from.nd rfl (Or.inl rfl) (aE fn_grown (hr.mono (by decide)) rfl (ae (ai (pv 0)) (ae (ai (pv 4)) (ae (aE fn_between (hr.mono (by decide)) rfl (ae (ai (pv 0)) (ae (ai (pv 3)) (ae (ai (pv 6)) al ac) ac) ac) (he:=ac) (hpl:=(ar ac (ar ac ax)))) (ae (ai (pv 7)) al ac) az) ac) ac) (he:=ac) (hpl:=(ar ac (ar az (ar ac ax)))))))))
 (au (aU (ai (pv 4))))))
include T fn_between fn_grown in
theorem oQ (F:Fun K "views_from" "views_from" dg a fd) (hm:mg "views_from"=some (.ref a)) (hb:Binds K fd ["hall","places","ties","box"] []):Fn P w K mg base C 4 "views_from" 4 ce :=
 ⟨a,fd,_,bA F sc_views_from (fun cdv A outer s H E hr=>mt cdv A outer s H E T fn_between fn_grown hr),hm,F.kp,hb⟩
abbrev ib:Stmt:=sAt 33
abbrev rg:List Str:=["hall","places","ties","box"]
theorem wZ:aH rg ["hall","places","ties","box"] (ak ib):=by constructor <;> first | rfl | decide +kernel
def hZ:Rho->R Out:=(sq (drp (iH 3 bz (aC (vr 0) (aC (vr 1) (aC (vr 2) aN)))))
 (sq (drp (iH 2 bv (aC (vr 0) (aC (vr 3) aN))))
 (ret (cal 4 ce (aC (vr 0) (aC (vr 1) (aC (vr 2) (aC (vr 3) aN))))))))
def dN (ds:List D):R D:=fin (hZ (st0 rg ds))
variable (fn_check_picture:FnX P w K mg base C 3 "check_picture" 3 bz)
variable (fn_views_from:Fn P w K mg base C 4 "views_from" 4 ce)
include T fn_check_box fn_check_picture fn_views_from in
theorem uu (hr:Room 4 (A.deeper (envOfC "views" (ak ib) s.heap.objs.size f cdv))) :
  SDs C (bS (CXd P w) P w K mg base rg "views" (ak ib) f cdv A outer s H E) (aF ib) hZ :=
 (aq (gC (EB.of (jb fn_check_picture (hr.mono (by decide)) rfl (ae (ai (pv 0)) (ae (ai (pv 1)) (ae (ai (pv 2)) al ac) ac) ac) rfl (he:=ac) (hpl:=(ar ac (ar ac ax))))))
 (aq (gC (EB.of (jb fn_check_box (hr.mono (by decide)) rfl (ae (ai (pv 0)) (ae (ai (pv 3)) al ac) ac) rfl (he:=ac) (hpl:=(ar ac ax)))))
 (au (aU (aE fn_views_from (hr.mono (by decide)) rfl (ae (ai (pv 0)) (ae (ai (pv 1)) (ae (ai (pv 2)) (ae (ai (pv 3)) al ac) ac) ac) ac) (he:=ac) (hpl:=(ar ac (ar ac (ar ac ax)))))))))
include T fn_check_box fn_check_picture fn_views_from in
theorem xL (F:Fun K "views" "views" ib a fd) (hm:mg "views"=some (.ref a)) (hb:Binds K fd ["hall","places","ties","box"] []):FnX P w K mg base C 5 "views" 4 dN :=
 ⟨a,fd,_,kJ F wZ (fun cdv A outer s H E hr=>uu cdv A outer s H E T fn_check_box fn_check_picture fn_views_from hr),hm,F.kp,hb⟩
abbrev cG:Stmt:=sAt 34
abbrev gS:List Str:=["hall","arrow","arrows"]
theorem mY:aH gS ["hall","arrow","arrows"] (ak cG):=by constructor <;> first | rfl | decide +kernel
abbrev Nc_made_behind_0:List Str:=["hall","arrow","arrows","other"]
theorem kW:Nc_made_behind_0.Nodup:=by decide +kernel
def fE:Rho->R Out:=(ret (eLs (bI (fIt (vr 2)) 1 (tgN 3) tT (bin fix (bin fix (una (gB 2) (vb 0)) (vb 1)) (vb 3)))))
def bG (ds:List D):R D:=fin (fE (st0 gS ds))
include T in
theorem ly (hr:Room 0 (A.deeper (envOfC "made_behind" (ak cG) s.heap.objs.size f cdv))) :
  SDs C (bS CX0 P w K mg base gS "made_behind" (ak cG) f cdv A outer s H E).nox (aF cG) fE :=
 (au (aU (bX (dU (N':=Nc_made_behind_0) (n:=1) rfl rfl rfl (i4 3) dF (dC (ai (pv 2))) (fun L cs s H fp=>(ba (i:=3) kW rfl (Or.inl rfl))) (fun L cs s H fp=>cU) (fun L cs s H fp=>(ay (EB.of (ay (EB.of (jc (k:=2) (ag (pv 0)) T.cl T.nT rfl (fun _ _ _=>rfl))) (ag (pv 1)))) (ag (pv 3))))))))
include T in
theorem nA (F:Fun K "made_behind" "made_behind" cG a fd) (hm:mg "made_behind"=some (.ref a)) (hb:Binds K fd ["hall","arrow","arrows"] []):Fn P w K mg base C 1 "made_behind" 3 bG :=
 ⟨a,fd,_,bA F mY (fun cdv A outer s H E hr=>ly cdv A outer s H E T hr),hm,F.kp,hb⟩
abbrev cJ:Stmt:=sAt 35
abbrev gW:List Str:=["hall","seen","box"]
theorem m6:aH gW ["hall","seen","box"] (ak cJ):=by constructor <;> first | rfl | decide +kernel
abbrev Nc_has_as_many_0:List Str:=["hall","seen","box","start","lists"]
theorem g9:Nc_has_as_many_0.Nodup:=by decide +kernel
def fH:Rho->R Out:=(ret (una qD (eLs (bI (eQ (aC (vr 1) aN)) 2 (tg2 3 4) tT (bin feq (una aA (cal 3 bo (aC (vr 0) (aC (vr 3) (aC (vr 2) aN))))) (una aA (vb 4)))))))
def cv (ds:List D):R D:=fin (fH (st0 gW ds))
include T fn_between in
theorem lD (hr:Room 3 (A.deeper (envOfC "has_as_many" (ak cJ) s.heap.objs.size f cdv))) :
  SDs C (bS CX0 P w K mg base gW "has_as_many" (ak cJ) f cdv A outer s H E).nox (aF cJ) fH :=
 (au (aU (yG rfl rfl T.all bP (EB.of (bX (dU (N':=Nc_has_as_many_0) (n:=2) rfl rfl rfl (DX 3) wR (cV rfl T.enumerate (ae (ai (pv 1)) al ac) (br ac)) (fun L cs s H fp=>(dD rfl (aJ (i:=3) g9 rfl (Or.inl rfl)) (aJ (i:=4) g9 rfl (Or.inl rfl)))) (fun L cs s H fp=>cU) (fun L cs s H fp=>(kH (bj hr) (EB.of (edl (EB.of (aE fn_between (hr.mono (by decide)) rfl (ae (ai (pv 0)) (ae (ai (pv 3)) (ae (ai (pv 2)) al ac) ac) ac) (he:=ac) (hpl:=(ar ac (ar ac ax))))) rfl T.len az)) (EB.of (edl (ag (pv 4)) rfl T.len ac))))))))))
include T fn_between in
theorem nF (F:Fun K "has_as_many" "has_as_many" cJ a fd) (hm:mg "has_as_many"=some (.ref a)) (hb:Binds K fd ["hall","seen","box"] []):Fn P w K mg base C 4 "has_as_many" 3 cv :=
 ⟨a,fd,_,bA F m6 (fun cdv A outer s H E hr=>lD cdv A outer s H E T fn_between hr),hm,F.kp,hb⟩
abbrev eZ:Stmt:=sAt 36
abbrev lN:List Str:=["hall","seen","box","arrows","start","lists","made"]
theorem sc_is_best:aH lN ["hall","seen","box","arrows"] (ak eZ):=by constructor <;> first | rfl | decide +kernel
abbrev Nc_is_best_0:List Str:=["hall","seen","box","arrows","start","lists","made","arrow"]
theorem qm:Nc_is_best_0.Nodup:=by decide +kernel
def jf:Rho->R Out:=(sq (bB (eQ (aC (vr 1) aN)) (tg2 4 5)
 (sq (asg 6 (eLs (bI (fIt (cal 3 bo (aC (vr 0) (aC (vr 4) (aC (vr 2) aN))))) 1 (tgN 7) tT (cal 3 bG (aC (vr 0) (aC (vr 7) (aC (vr 3) aN)))))))
 (iff (tst (bin fne (eLs (yo (vb 6))) (vb 5)))
 (ret (kd (.bl false)))
 nxt)))
 (ret (kd (.bl true))))
def dP (ds:List D):R D:=fin (jf (st0 lN ds))
variable (fn_made_behind:Fn P w K mg base C 1 "made_behind" 3 bG)
include T fn_between fn_made_behind in
theorem qY (hr:Room 3 (A.deeper (envOfC "is_best" (ak eZ) s.heap.objs.size f cdv))) :
  SDs C (bS CX0 P w K mg base lN "is_best" (ak eZ) f cdv A outer s H E).nox (aF eZ) jf :=
 (aq (bZ PassesOwn.never rfl (cV rfl T.enumerate (ae (ai (pv 1)) al ac) (br ac)) (dD rfl (aJ (i:=4) sc_is_best.nd rfl (Or.inl rfl)) (aJ (i:=5) sc_is_best.nd rfl (Or.inl rfl)))
 (aq (kj (e8 (i:=6) (aJ (i:=6) sc_is_best.nd rfl (Or.inl rfl)) (N':=Nc_is_best_0) (n:=1) rfl rfl rfl (i4 7) dF (dC (aE fn_between (hr.mono (by decide)) rfl (ae (ai (pv 0)) (ae (ai (pv 4)) (ae (ai (pv 2)) al ac) ac) ac) (he:=ac) (hpl:=(ar ac (ar ac ax))))) (fun L cs s H fp=>(ba (i:=7) qm rfl (Or.inl rfl))) (fun L cs s H fp=>cU) (fun L cs s H fp=>(aE fn_made_behind (hr.mono (by decide)) rfl (ae (ai (pv 0)) (ae (ai (pv 7)) (ae (ai (pv 3)) al ac) ac) ac) (he:=ac) (hpl:=(ar ac (ar ac ax))))) rfl))
 (au (bh (ef (bj hr) (EB.of (bX (wx (bj hr) rfl T.sorted ac (ag (pv 6))))) (ag (pv 5)))
 (au (aU ol))
 aG))))
 (au (aU ol)))
include T fn_between fn_made_behind in
theorem tV (F:Fun K "is_best" "is_best" eZ a fd) (hm:mg "is_best"=some (.ref a)) (hb:Binds K fd ["hall","seen","box","arrows"] []):Fn P w K mg base C 4 "is_best" 4 dP :=
 ⟨a,fd,_,bA F sc_is_best (fun cdv A outer s H E hr=>qY cdv A outer s H E T fn_between fn_made_behind hr),hm,F.kp,hb⟩
abbrev jT:Stmt:=sAt 37
abbrev uA:List Str:=["hall","places","ties","seen","box","lists","arrows"]
theorem sc_best:aH uA ["hall","places","ties"] (ak jT):=by constructor <;> first | rfl | decide +kernel
abbrev Nc_best_0:List Str:=["hall","places","ties","seen","4.","lists","arrows","box"]
theorem we:Nc_best_0.Nodup:=by decide +kernel
def kI:Rho->R Out:=(sq (drp (iH 3 bz (aC (vr 0) (aC (vr 1) (aC (vr 2) aN)))))
 (sq (asg 3 (eLs (bI (cP (aC (una aA (una (gB 1) (vb 0))) aN)) 1 (tgN 7) tT (cal 4 ce (aC (vr 0) (aC (vr 1) (aC (vr 2) (aC (vr 7) aN))))))))
 (sq (bB (eQ (aC (vr 3) aN)) (tg2 4 5)
 (iff (tst (cal 3 cv (aC (vr 0) (aC (vr 3) (aC (vr 4) aN)))))
 (bB (fIt (vr 5)) (tgN 6)
 (iff (tst (cal 4 dP (aC (vr 0) (aC (vr 3) (aC (vr 4) (aC (vr 6) aN))))))
 (ret (eT (aC (vr 4) (aC (vr 6) aN))))
 nxt))
 nxt))
 (ret (kd .non)))))
def eM (ds:List D):R D:=fin (kI (st0 uA ds))
variable (fn_has_as_many:Fn P w K mg base C 4 "has_as_many" 3 cv)
variable (fn_is_best:Fn P w K mg base C 4 "is_best" 4 dP)
include T fn_check_picture fn_views_from fn_has_as_many fn_is_best in
theorem wD (hr:Room 4 (A.deeper (envOfC "best" (ak jT) s.heap.objs.size f cdv))) :
  SDs C (bS (CXd P w) P w K mg base uA "best" (ak jT) f cdv A outer s H E) (aF jT) kI :=
 (aq (gC (EB.of (jb fn_check_picture (hr.mono (by decide)) rfl (ae (ai (pv 0)) (ae (ai (pv 1)) (ae (ai (pv 2)) al ac) ac) ac) rfl (he:=ac) (hpl:=(ar ac (ar ac ax))))))
 (aq (kj (e8 (i:=3) (aJ (i:=3) sc_best.nd rfl (Or.inl rfl)) (N':=Nc_best_0) (n:=1) rfl rfl rfl (i4 7) dF (cD rfl T.range (ae (edl (EB.of (jc (k:=1) (ag (pv 0)) T.cl T.nR rfl (fun _ _ _=>rfl))) rfl T.len dR) al az) (br az)) (fun L cs s H fp=>(ba (i:=7) we rfl (Or.inl rfl))) (fun L cs s H fp=>cU) (fun L cs s H fp=>(aE fn_views_from (hr.mono (by decide)) rfl (ae (ai (pv 0)) (ae (ai (pv 1)) (ae (ai (pv 2)) (ae (ai (pv 7)) al ac) ac) ac) ac) (he:=ac) (hpl:=(ar ac (ar ac (ar ac ax)))))) rfl))
 (aq (km rfl rfl rfl rfl (cV rfl T.enumerate (ae (ai (pv 3)) al ac) (br ac)) (dD rfl (aJ (i:=4) sc_best.nd rfl (Or.inl rfl)) (aJ (i:=5) sc_best.nd rfl (Or.inl rfl)))
 (fun pn xe=>(au (bh (eU (aE fn_has_as_many (hr.mono (by decide)) rfl (ae (ai (pv 0)) (ae (ai (pv 3)) (ae (ai (pv 4)) al ac) ac) ac) (he:=ac) (hpl:=(ar ac (ar ac ax)))))
 (au (km rfl rfl rfl rfl (dC (ai (pv 5))) (ba (i:=6) sc_best.nd rfl (Or.inl rfl))
 (fun pn xe=>(au (bh (eU (aE fn_is_best (hr.mono (by decide)) rfl (ae (ai (pv 0)) (ae (ai (pv 3)) (ae (ai (pv 4)) (ae (ai (pv 6)) al ac) ac) ac) ac) (he:=ac) (hpl:=(ar ac (ar ac (ar ac ax))))))
 (au (aU (a_ (ae (ai (pv 4)) (ae (ai (pv 6)) al ac) ac))))
 aG)))))
 aG))))
 (au (aU qH)))))
include T fn_check_picture fn_views_from fn_has_as_many fn_is_best in
theorem zW (F:Fun K "best" "best" jT a fd) (hm:mg "best"=some (.ref a)) (hb:Binds K fd ["hall","places","ties"] []):FnX P w K mg base C 5 "best" 3 eM :=
 ⟨a,fd,_,kJ F sc_best (fun cdv A outer s H E hr=>wD cdv A outer s H E T fn_check_picture fn_views_from fn_has_as_many fn_is_best hr),hm,F.kp,hb⟩
abbrev eV:Stmt:=sAt 38
abbrev lJ:List Str:=["hall","places","ties","box","arrows","told","arrow"]
theorem sc_through:aH lJ ["hall","places","ties","box","arrows"] (ak eV):=by constructor <;> first | rfl | decide +kernel
def gG:Rho->R Out:=(sq (asg 5 (iH 3 eM (aC (vr 0) (aC (vr 1) (aC (vr 2) aN)))))
 (sq (drp (iH 2 bv (aC (vr 0) (aC (vr 3) aN))))
 (sq (iff (tst (una (fun d=>.val (qC d)) (vb 5)))
 (ret (kd .non))
 nxt)
 (sq (bB (fIt (cal 3 bo (aC (vr 0) (aC (vr 3) (aC (bin fix (vb 5) (kd (.int 0))) aN))))) (tgN 6)
 (iff (tst (bin feq (cal 3 bG (aC (vr 0) (aC (vr 6) (aC (bin fix (vb 5) (kd (.int 1))) aN)))) (vb 4)))
 (ret (vr 6))
 nxt))
 (ret (kd .non))))))
def dl (ds:List D):R D:=fin (gG (st0 lJ ds))
variable (fn_best:FnX P w K mg base C 5 "best" 3 eM)
include T fn_check_box fn_between fn_made_behind fn_best in
theorem qV (hr:Room 5 (A.deeper (envOfC "through" (ak eV) s.heap.objs.size f cdv))) :
  SDs C (bS (CXd P w) P w K mg base lJ "through" (ak eV) f cdv A outer s H E) (aF eV) gG :=
 (aq (aT (i:=5) sc_through.nd rfl (Or.inl rfl) (jb fn_best (hr.mono (by decide)) rfl (ae (ai (pv 0)) (ae (ai (pv 1)) (ae (ai (pv 2)) al ac) ac) ac) rfl (he:=ac) (hpl:=(ar ac (ar ac ax)))))
 (aq (gC (EB.of (jb fn_check_box (hr.mono (by decide)) rfl (ae (ai (pv 0)) (ae (ai (pv 3)) al ac) ac) rfl (he:=ac) (hpl:=(ar ac ax)))))
 (aq (bh (Bn (ag (pv 5)))
 (au (aU qH))
 aG)
 (aq (km rfl rfl rfl rfl (dC (aE fn_between (hr.mono (by decide)) rfl (ae (ai (pv 0)) (ae (ai (pv 3)) (ae (ay (ag (pv 5)) (EB.of ah)) al ao) ac) ac) (he:=ac) (hpl:=(ar ac (ar ao ax))))) (ba (i:=6) sc_through.nd rfl (Or.inl rfl))
 (fun pn xe=>(au (bh (d8 (bj hr) (EB.of (aE fn_made_behind (hr.mono (by decide)) rfl (ae (ai (pv 0)) (ae (ai (pv 6)) (ae (ay (ag (pv 5)) (EB.of ah)) al ao) ac) ac) (he:=ac) (hpl:=(ar ac (ar ao ax))))) (ag (pv 4)))
 (au (aU (ai (pv 6))))
 aG))))
 (au (aU qH))))))
include T fn_check_box fn_between fn_made_behind fn_best in
theorem tR (F:Fun K "through" "through" eV a fd) (hm:mg "through"=some (.ref a)) (hb:Binds K fd ["hall","places","ties","box","arrows"] []):FnX P w K mg base C 6 "through" 5 dl :=
 ⟨a,fd,_,kJ F sc_through (fun cdv A outer s H E hr=>qV cdv A outer s H E T fn_check_box fn_between fn_made_behind fn_best hr),hm,F.kp,hb⟩
abbrev d6:Stmt:=sAt 40
abbrev ke:List Str:=["script","k","base"]
theorem sc_law_cell:aH ke ["script","k"] (ak d6):=by constructor <;> first | rfl | decide +kernel
def iF:Rho->R Out:=(sq (iff (tst (bin (iI flt) (vb 1) (una aA (vb 0))))
 (ret (bin fix (vb 0) (vb 1)))
 nxt)
 (sq (asg 2 (kd (.int 0)))
 (sq (iff (tst (bin (iI fgt) (una aA (vb 0)) (kd (.int 0))))
 (asg 2 (bin fix (vb 0) (kd (.int 0))))
 nxt)
 (ret (bin (iI aK) (bin aV (bin (iI dM) (bin (iI aK) (vb 2) (kd (.int 65521))) (kd (.int 48271))) (bin (iI dM) (vb 1) (kd (.int 30103)))) (kd (.int 65521)))))))
def av (ds:List D):R D:=fin (iF (st0 ke ds))
include T in
theorem o6 (hr:Room 0 (A.deeper (envOfC "_law_cell" (ak d6) s.heap.objs.size f cdv))) :
  SDs C (bS CX0 P w K mg base ke "_law_cell" (ak d6) f cdv A outer s H E).nox (aF d6) iF :=
 (aq (bh (wS (ag (pv 1)) (EB.of (edl (ag (pv 0)) rfl T.len ac)))
 (au (aU (ay (ag (pv 0)) (ag (pv 1)))))
 aG)
 (aq (aT (i:=2) sc_law_cell.nd rfl (Or.inl rfl) ah)
 (aq (bh (jK (EB.of (edl (ag (pv 0)) rfl T.len ac)) (EB.of ah))
 (au (aT (i:=2) sc_law_cell.nd rfl (Or.inl rfl) (ay (ag (pv 0)) (EB.of ah))))
 aG)
 (au (aU (bw (EB.of (bF (EB.of (j3 (EB.of (bw (ag (pv 2)) (EB.of ah))) (EB.of ah))) (EB.of (j3 (ag (pv 1)) (EB.of ah))))) (EB.of ah)))))))
include T in
theorem rY (F:Fun K "_law_cell" "_law_cell" d6 a fd) (hm:mg "_law_cell"=some (.ref a)) (hb:Binds K fd ["script","k"] []):Fn P w K mg base C 1 "_law_cell" 2 av :=
 ⟨a,fd,_,bA F sc_law_cell (fun cdv A outer s H E hr=>o6 cdv A outer s H E T hr),hm,F.kp,hb⟩
abbrev d0:Stmt:=sAt 41
abbrev j9:List Str:=["step"]
theorem rB:aH j9 ["step"] (ak d0):=by constructor <;> first | rfl | decide +kernel
def iD:Rho->R Out:=(ret (bin (iI aK) (bin aV (bin (iI dM) (vb 0) (kd (.int 48271))) (kd (.int 11))) (kd (.int 2147483647))))
def aQ (ds:List D):R D:=fin (iD (st0 j9 ds))
include T in
theorem o4 (hr:Room 0 (A.deeper (envOfC "_law_next" (ak d0) s.heap.objs.size f cdv))) :
  SDs C (bS CX0 P w K mg base j9 "_law_next" (ak d0) f cdv A outer s H E).nox (aF d0) iD :=
 (au (aU (bw (EB.of (bF (EB.of (j3 (ag (pv 0)) (EB.of ah))) (EB.of ah))) (EB.of ah))))
include T in
theorem rW (F:Fun K "_law_next" "_law_next" d0 a fd) (hm:mg "_law_next"=some (.ref a)) (hb:Binds K fd ["step"] []):Fn P w K mg base C 1 "_law_next" 1 aQ :=
 ⟨a,fd,_,bA F rB (fun cdv A outer s H E hr=>o4 cdv A outer s H E T hr),hm,F.kp,hb⟩
abbrev dH:Stmt:=sAt 42
abbrev jq:List Str:=["script","k","cell","way"]
theorem sc_law_sizes:aH jq ["script","k"] (ak dH):=by constructor <;> first | rfl | decide +kernel
abbrev Nc_law_sizes_0:List Str:=["script","k","cell","way","box"]
theorem nr:Nc_law_sizes_0.Nodup:=by decide +kernel
def gO:Rho->R Out:=(sq (asg 2 (cal 2 av (aC (vr 0) (aC (vr 1) aN))))
 (sq (asg 3 (bin (iI aK) (vb 2) (kd (.int 4))))
 (sq (iff (tst (bin feq (vb 3) (kd (.int 0))))
 (ret (eLs (bI (cP (aC (bin aV (kd (.int 1)) (bin (iI aK) (bin (iI df) (vb 2) (kd (.int 4))) (kd (.int 4)))) aN)) 1 (tgN 4) tT (kd (.int 1)))))
 nxt)
 (sq (iff (tst (bin feq (vb 3) (kd (.int 1))))
 (ret (bin fix (eL (aC (eL (aC (kd (.int 1)) (aC (kd (.int 2)) aN))) (aC (eL (aC (kd (.int 2)) (aC (kd (.int 1)) aN))) (aC (eL (aC (kd (.int 2)) (aC (kd (.int 2)) aN))) (aC (eL (aC (kd (.int 0)) (aC (kd (.int 2)) aN))) (aC (eL (aC (kd (.int 2)) aN)) (aC (eL (aC (kd (.int 1)) aN)) aN))))))) (bin (iI aK) (bin (iI df) (vb 2) (kd (.int 4))) (kd (.int 6)))))
 nxt)
 (sq (iff (tst (bin feq (vb 3) (kd (.int 2))))
 (ret (eL (aC (kd (.int 3)) aN)))
 nxt)
 (ret (bin fix (eL (aC (eL (aC (kd (.int 1)) (aC (kd (.int 1)) (aC (kd (.int 2)) aN)))) (aC (eL (aC (kd (.int 0)) (aC (kd (.int 1)) (aC (kd (.int 2)) aN)))) (aC (eL (aC (kd (.int 1)) (aC (kd (.int 2)) (aC (kd (.int 2)) aN)))) (aC (eL (aC (kd (.int 2)) (aC (kd (.int 1)) (aC (kd (.int 0)) aN)))) (aC (eL (aC (kd (.int 2)) (aC (kd (.int 2)) aN))) aN)))))) (bin (iI aK) (bin (iI df) (vb 2) (kd (.int 4))) (kd (.int 5))))))))))
def dW (ds:List D):R D:=fin (gO (st0 jq ds))
variable (fn_law_cell:Fn P w K mg base C 1 "_law_cell" 2 av)
include T fn_law_cell in
theorem oC (hr:Room 1 (A.deeper (envOfC "_law_sizes" (ak dH) s.heap.objs.size f cdv))) :
  SDs C (bS CX0 P w K mg base jq "_law_sizes" (ak dH) f cdv A outer s H E).nox (aF dH) gO :=
 (aq (aT (i:=2) sc_law_sizes.nd rfl (Or.inl rfl) (aE fn_law_cell (hr.mono (by decide)) rfl (ae (ai (pv 0)) (ae (ai (pv 1)) al ac) ac) (he:=ac) (hpl:=(ar ac ax))))
 (aq (aT (i:=3) sc_law_sizes.nd rfl (Or.inl rfl) (bw (ag (pv 2)) (EB.of ah)))
 (aq (bh (d8 (bj hr) (ag (pv 3)) (EB.of ah))
 (au (aU (bX (dU (N':=Nc_law_sizes_0) (n:=1) rfl rfl rfl (i4 4) dF (cD rfl T.range (ae (bF (EB.of ah) (EB.of (bw (EB.of (eK (ag (pv 2)) (EB.of ah))) (EB.of ah)))) al aM) (br aM)) (fun L cs s H fp=>(ba (i:=4) nr rfl (Or.inl rfl))) (fun L cs s H fp=>cU) (fun L cs s H fp=>ah)))))
 aG)
 (aq (bh (d8 (bj hr) (ag (pv 3)) (EB.of ah))
 (au (aU (ay (EB.of (bb (ae (bb (ae ah (ae ah al aj) aj)) (ae (bb (ae ah (ae ah al aj) aj)) (ae (bb (ae ah (ae ah al aj) aj)) (ae (bb (ae ah (ae ah al aj) aj)) (ae (bb (ae ah al aj)) (ae (bb (ae ah al aj)) al bL) bL) bL) bL) bL) bL))) (EB.of (bw (EB.of (eK (ag (pv 2)) (EB.of ah))) (EB.of ah))))))
 aG)
 (aq (bh (d8 (bj hr) (ag (pv 3)) (EB.of ah))
 (au (aU (bb (ae ah al aj))))
 aG)
 (au (aU (ay (EB.of (bb (ae (bb (ae ah (ae ah (ae ah al aj) aj) aj)) (ae (bb (ae ah (ae ah (ae ah al aj) aj) aj)) (ae (bb (ae ah (ae ah (ae ah al aj) aj) aj)) (ae (bb (ae ah (ae ah (ae ah al aj) aj) aj)) (ae (bb (ae ah (ae ah al aj) aj)) al bL) bL) bL) bL) bL))) (EB.of (bw (EB.of (eK (ag (pv 2)) (EB.of ah))) (EB.of ah)))))))))))
include T fn_law_cell in
theorem qp (F:Fun K "_law_sizes" "_law_sizes" dH a fd) (hm:mg "_law_sizes"=some (.ref a)) (hb:Binds K fd ["script","k"] []):Fn P w K mg base C 2 "_law_sizes" 2 dW :=
 ⟨a,fd,_,bA F sc_law_sizes (fun cdv A outer s H E hr=>oC cdv A outer s H E T fn_law_cell hr),hm,F.kp,hb⟩
abbrev dh:Stmt:=sAt 43
abbrev iK:List Str:=["known","met","arrow","at","other","first","second","made"]
theorem sc_law_closed:aH iK ["known"] (ak dh):=by constructor <;> first | rfl | decide +kernel
abbrev Nc_law_closed_0:List Str:=["known","met","arrow","at","other","first","second","made","x"]
theorem lZ:Nc_law_closed_0.Nodup:=by decide +kernel
def gt:Rho->R Out:=(sq (yI 1)
 (sq (nY 0 2 1)
 (sq (asg 3 (kd (.int 0)))
 (sq (whD (tst (bin (iI flt) (vb 3) (una aA (vb 0))))
 (sq (bB (fIt (eLs (fIt (vb 0)))) (tgN 4)
 (bB (fIt (eL (aC (eT (aC (bin fix (vb 0) (vb 3)) (aC (vr 4) aN))) (aC (eT (aC (vr 4) (aC (bin fix (vb 0) (vb 3)) aN))) aN)))) (tg2 5 6)
 (iff (tst (bin feq (bin fix (vb 5) (kd (.int 1))) (bin fix (vb 6) (kd (.int 0)))))
 (sq (asg 7 (eT (aC (bin fix (vb 5) (kd (.int 0))) (aC (bin fix (vb 6) (kd (.int 1))) (aC (una jJ (eLs (bI (fIt (bin fix (vb 5) (kd (.int 2)))) 1 (tgN 8) tT (bin fix (bin fix (vb 6) (kd (.int 2))) (vb 8))))) aN)))))
 (iff (yH 1 (vr 7))
 (sq (qJ 1 (vr 7) (kd (.bl true)))
 (app 0 (vr 7)))
 nxt))
 nxt)))
 (asg 3 (bin aV (vb 3) (kd (.int 1))))) 30)
 (fz 0 (ret (vr 0)))))))
def cR (xs:List D):R D:=fin (gt (st1 iK xs))
include T in
theorem mv (hr:Room 0 (A.deeper (envOfC "_law_closed" (ak dh) s.heap.objs.size f cdv))) :
  SDs C (bS CX0 P w K mg base iK "_law_closed" (ak dh) f cdv A outer s H E).nox (aF dh) gt :=
 (aq (uK (i:=1) sc_law_closed.nd rfl (Or.inl rfl))
 (aq (vZ (pp hr) PassesOwn.never rfl (pv 0) (aJ (i:=2) sc_law_closed.nd rfl (Or.inl rfl)) (pv 1) (pv 2))
 (aq (aT (i:=3) sc_law_closed.nd rfl (Or.inl rfl) ah)
 (aq (wX 30 PassesOwn.never (wS (ag (pv 3)) (EB.of (edl (ag (pv 0)) rfl T.len ac)))
 (aq (bZ PassesOwn.never rfl (dC (bX (fdl (ag (pv 0)) rfl T.list ac))) (ba (i:=4) sc_law_closed.nd rfl (Or.inl rfl))
 (au (bZ PassesOwn.never rfl (dC (bb (ae (a_ (ae (ay (ag (pv 0)) (ag (pv 3))) (ae (ai (pv 4)) al ac) ao)) (ae (a_ (ae (ai (pv 4)) (ae (ay (ag (pv 0)) (ag (pv 3))) al ao) ac)) al bO) bO))) (dD rfl (aJ (i:=5) sc_law_closed.nd rfl (Or.inl rfl)) (aJ (i:=6) sc_law_closed.nd rfl (Or.inr rfl)))
 (au (bh (d8 (bj hr) (EB.of (ay (ag (pv 5)) (EB.of ah))) (EB.of (ay (ag (pv 6)) (EB.of ah))))
 (aq (aT (i:=7) sc_law_closed.nd rfl (Or.inl rfl) (a_ (ae (ay (ag (pv 5)) (EB.of ah)) (ae (ay (ag (pv 6)) (EB.of ah)) (ae (kG (EB.of (bX (dU (N':=Nc_law_closed_0) (n:=1) rfl rfl rfl (i4 8) dF (dC (ay (ag (pv 5)) (EB.of ah))) (fun L cs s H fp=>(ba (i:=8) lZ rfl (Or.inl rfl))) (fun L cs s H fp=>cU) (fun L cs s H fp=>(ay (EB.of (ay (ag (pv 6)) (EB.of ah))) (ag (pv 8))))))) rfl T.tuple bP (fun t ha=>dw dY rfl T.tuple boot_tuple ha (he:=bP) (hpl:=ax))) al az) ao) ao)))
 (au (bh (zb (pp hr) (pv 1) (ai (pv 7)))
 (aq (uJ (pp hr) (pv 1) (ai (pv 7)) ol)
 (au (iX (pv 0) (ai (pv 7)) (hst:=ac))))
 aG)))
 aG)))))
 (au (aT (i:=3) sc_law_closed.nd rfl (Or.inl rfl) (bF (ag (pv 3)) (EB.of ah))))))
 (jR 0 (au (aU (ai (pv 0)))))))))
include T in
theorem oR (F:Fun K "_law_closed" "_law_closed" dh a fd) (hm:mg "_law_closed"=some (.ref a)) (hb:Binds K fd ["known"] []):Mv P w K mg base C 1 "_law_closed" cR :=
 ⟨a,fd,_,DQ F sc_law_closed (fun cdv A outer s H E hr=>mv cdv A outer s H E T hr),hm,F.kp,hb⟩
abbrev di:Stmt:=sAt 44
abbrev iL:List Str:=["script","k","sizes","known","step","turn","one","other","row","x","mixed","arrow"]
theorem sc_law_arrows:aH iL ["script","k","sizes"] (ak di):=by constructor <;> first | rfl | decide +kernel
abbrev Nc_law_arrows_0:List Str:=["script","k","sizes","known","step","turn","one","other","row","x","mixed","arrow","box"]
theorem l0:Nc_law_arrows_0.Nodup:=by decide +kernel
def gu:Rho->R Out:=(sq (own 3 (bI (cP (aC (una aA (vb 2)) aN)) 1 (tgN 12) tT (eT (aC (vr 12) (aC (vr 12) (aC (jd (aC (bin fix (vb 2) (vb 12)) aN)) aN))))))
 (sq (asg 4 (cal 1 aQ (aC (bin aV (bin (iI aK) (bin (iI dM) (cal 2 av (aC (vr 0) (aC (vr 1) aN))) (kd (.int 1000003))) (kd (.int 2147483647))) (kd (.int 17))) aN)))
 (sq (bB (cP (aC (bin (iI aK) (cal 2 av (aC (vr 0) (aC (bin aV (vb 1) (kd (.int 1))) aN))) (kd (.int 5))) aN)) (tgN 5)
 (sq (asg 4 (cal 1 aQ (aC (vr 4) aN)))
 (sq (asg 6 (bin (iI aK) (bin (iI df) (vb 4) (kd (.int 64))) (una aA (vb 2))))
 (sq (asg 4 (cal 1 aQ (aC (vr 4) aN)))
 (sq (asg 7 (bin (iI aK) (bin (iI df) (vb 4) (kd (.int 64))) (una aA (vb 2))))
 (sq (own 8 (iQ aN))
 (sq (bB (cP (aC (bin fix (vb 2) (vb 6)) aN)) (tgN 9)
 (sq (asg 4 (cal 1 aQ (aC (vr 4) aN)))
 (iff (tst (bin feq (bin fix (vb 2) (vb 6)) (kd (.int 3))))
 (ins 8 (bin (iI aK) (bin (iI df) (vb 4) (kd (.int 64))) (bin aV (vb 9) (kd (.int 1)))) (vr 9))
 (app 8 (bin (iI aK) (bin (iI df) (vb 4) (kd (.int 64))) (qI (aC (kd (.int 1)) (aC (bin fix (vb 2) (vb 7)) aN))))))))
 (iff (orB (tst (bin feq (bin fix (vb 2) (vb 6)) (kd (.int 0)))) (tst (bin (iI fgt) (bin fix (vb 2) (vb 7)) (kd (.int 0)))))
 (iff (tst (bin (mj true) (eT (aC (vr 6) (aC (vr 7) (aC (una jJ (vb 8)) aN)))) (vb 3)))
 (app 3 (eT (aC (vr 6) (aC (vr 7) (aC (una jJ (vb 8)) aN)))))
 nxt)
 nxt))))))))
 (sq (zV 3 cR)
 (sq (own 10 (iQ aN))
 (fz 3 (sq (bB (fIt (vr 3)) (tgN 11)
 (sq (asg 4 (cal 1 aQ (aC (vr 4) aN)))
 (ins 10 (bin (iI aK) (bin (iI df) (vb 4) (kd (.int 64))) (bin aV (una aA (vb 10)) (kd (.int 1)))) (vr 11))))
 (fz 10 (ret (vr 10))))))))))
def cQ (ds:List D):R D:=fin (gu (st0 iL ds))
variable (mv_law_closed:Mv P w K mg base C 1 "_law_closed" cR)
variable (fn_law_next:Fn P w K mg base C 1 "_law_next" 1 aQ)
include T fn_law_cell mv_law_closed fn_law_next in
theorem mw (hr:Room 1 (A.deeper (envOfC "_law_arrows" (ak di) s.heap.objs.size f cdv))) :
  SDs C (bS CX0 P w K mg base iL "_law_arrows" (ak di) f cdv A outer s H E).nox (aF di) gu :=
 (aq (zk (e8 (i:=3) (aJ (i:=3) sc_law_arrows.nd rfl (Or.inl rfl)) (N':=Nc_law_arrows_0) (n:=1) rfl rfl rfl (i4 12) dF (cD rfl T.range (ae (edl (ag (pv 2)) rfl T.len ac) al az) (br az)) (fun L cs s H fp=>(ba (i:=12) l0 rfl (Or.inl rfl))) (fun L cs s H fp=>cU) (fun L cs s H fp=>(a_ (ae (ai (pv 12)) (ae (ai (pv 12)) (ae (sL rfl (ae (ay (ag (pv 2)) (ag (pv 12))) al ao) rfl T.range rfl T.tuple (br ao) az (fun t ha=>dw (jm rfl) rfl T.tuple boot_tuple ha (he:=az) (hpl:=ax))) al az) ac) ac))) rfl))
 (aq (aT (i:=4) sc_law_arrows.nd rfl (Or.inl rfl) (aE fn_law_next (hr.mono (by decide)) rfl (ae (bF (EB.of (bw (EB.of (j3 (EB.of (aE fn_law_cell (hr.mono (by decide)) rfl (ae (ai (pv 0)) (ae (ai (pv 1)) al ac) ac) (he:=ac) (hpl:=(ar ac ax)))) (EB.of ah))) (EB.of ah))) (EB.of ah)) al aM) (he:=aM) (hpl:=ax)))
 (aq (bZ PassesOwn.never rfl (cD rfl T.range (ae (bw (EB.of (aE fn_law_cell (hr.mono (by decide)) rfl (ae (ai (pv 0)) (ae (bF (ag (pv 1)) (EB.of ah)) al aM) ac) (he:=ac) (hpl:=(ar aM ax)))) (EB.of ah)) al aM) (br aM)) (ba (i:=5) sc_law_arrows.nd rfl (Or.inl rfl))
 (aq (aT (i:=4) sc_law_arrows.nd rfl (Or.inl rfl) (aE fn_law_next (hr.mono (by decide)) rfl (ae (ai (pv 4)) al ac) (he:=ac) (hpl:=ax)))
 (aq (aT (i:=6) sc_law_arrows.nd rfl (Or.inl rfl) (bw (EB.of (eK (ag (pv 4)) (EB.of ah))) (EB.of (edl (ag (pv 2)) rfl T.len ac))))
 (aq (aT (i:=4) sc_law_arrows.nd rfl (Or.inl rfl) (aE fn_law_next (hr.mono (by decide)) rfl (ae (ai (pv 4)) al ac) (he:=ac) (hpl:=ax)))
 (aq (aT (i:=7) sc_law_arrows.nd rfl (Or.inl rfl) (bw (EB.of (eK (ag (pv 4)) (EB.of ah))) (EB.of (edl (ag (pv 2)) rfl T.len ac))))
 (aq (jS (i:=8) sc_law_arrows.nd rfl (Or.inl rfl) (jZ al))
 (aq (bZ PassesOwn.never rfl (cD rfl T.range (ae (ay (ag (pv 2)) (ag (pv 6))) al ao) (br ao)) (ba (i:=9) sc_law_arrows.nd rfl (Or.inl rfl))
 (aq (aT (i:=4) sc_law_arrows.nd rfl (Or.inl rfl) (aE fn_law_next (hr.mono (by decide)) rfl (ae (ai (pv 4)) al ac) (he:=ac) (hpl:=ax)))
 (au (bh (d8 (bj hr) (EB.of (ay (ag (pv 2)) (ag (pv 6)))) (EB.of ah))
 (au (wY (pv 8) (bw (EB.of (eK (ag (pv 4)) (EB.of ah))) (EB.of (bF (ag (pv 9)) (EB.of ah)))) (ai (pv 9)) (hst:=aM) (hst2:=ac)))
 (au (iX (pv 8) (bw (EB.of (eK (ag (pv 4)) (EB.of ah))) (EB.of (yD rfl (ae ah (ae (ay (ag (pv 2)) (ag (pv 7))) al ao) aj) rfl T.max (fun t ha=>fx (lw rfl) rfl T.max boot_max ha (he:=aj) (hpl:=(ar ao ax)))))) (hst:=aM)))))))
 (au (bh (ki (iT (d8 (bj hr) (EB.of (ay (ag (pv 2)) (ag (pv 6)))) (EB.of ah)) (h9 (jK (EB.of (ay (ag (pv 2)) (ag (pv 7)))) (EB.of ah)))))
 (au (bh (Bm (bj hr) (EB.of (a_ (ae (ai (pv 6)) (ae (ai (pv 7)) (ae (kG (ag (pv 8)) rfl T.tuple ac (fun t ha=>dw dY rfl T.tuple boot_tuple ha (he:=ac) (hpl:=ax))) al az) ac) ac))) (ag (pv 3)))
 (au (iX (pv 3) (a_ (ae (ai (pv 6)) (ae (ai (pv 7)) (ae (kG (ag (pv 8)) rfl T.tuple ac (fun t ha=>dw dY rfl T.tuple boot_tuple ha (he:=ac) (hpl:=ax))) al az) ac) ac)) (hst:=bO)))
 aG))
 aG)))))))))
 (aq (zm mv_law_closed (hr.mono (by decide)) rfl (pv 3) (i:=3) sc_law_arrows.nd rfl (Or.inl rfl) rfl)
 (aq (jS (i:=10) sc_law_arrows.nd rfl (Or.inl rfl) (jZ al))
 (jR 3 (aq (bZ PassesOwn.never rfl (dC (ai (pv 3))) (ba (i:=11) sc_law_arrows.nd rfl (Or.inl rfl))
 (aq (aT (i:=4) sc_law_arrows.nd rfl (Or.inl rfl) (aE fn_law_next (hr.mono (by decide)) rfl (ae (ai (pv 4)) al ac) (he:=ac) (hpl:=ax)))
 (au (wY (pv 10) (bw (EB.of (eK (ag (pv 4)) (EB.of ah))) (EB.of (bF (EB.of (edl (ag (pv 10)) rfl T.len ac)) (EB.of ah)))) (ai (pv 11)) (hst:=aM) (hst2:=ac)))))
 (jR 10 (au (aU (ai (pv 10))))))))))))
include T fn_law_cell mv_law_closed fn_law_next in
theorem oU (F:Fun K "_law_arrows" "_law_arrows" di a fd) (hm:mg "_law_arrows"=some (.ref a)) (hb:Binds K fd ["script","k","sizes"] []):Fn P w K mg base C 2 "_law_arrows" 3 cQ :=
 ⟨a,fd,_,bA F sc_law_arrows (fun cdv A outer s H E hr=>mw cdv A outer s H E T fn_law_cell mv_law_closed fn_law_next hr),hm,F.kp,hb⟩
abbrev dI:Stmt:=sAt 45
abbrev jr:List Str:=["script","k","sizes","known","place","at","table","first","row","second","made","rests"]
theorem sc_law_parts:aH jr ["script","k"] (ak dI):=by constructor <;> first | rfl | decide +kernel
abbrev Nc_law_parts_0:List Str:=["script","k","sizes","known","place","at","table","first","row","second","made","rests","x"]
theorem nv:Nc_law_parts_0.Nodup:=by decide +kernel
abbrev Nc_law_parts_1:List Str:=["script","k","sizes","known","place","at","table","first","row","second","made","rests","box"]
theorem nu:Nc_law_parts_1.Nodup:=by decide +kernel
abbrev Nc_law_parts_2:List Str:=["script","k","sizes","known","place","at","table","first","row","second","made","rests","arrow"]
theorem nt:Nc_law_parts_2.Nodup:=by decide +kernel
def gP:Rho->R Out:=(sq (asg 2 (cal 2 dW (aC (vr 0) (aC (vr 1) aN))))
 (sq (asg 3 (cal 3 cQ (aC (vr 0) (aC (bin aV (vb 1) (kd (.int 1))) (aC (vr 2) aN)))))
 (sq (yI 4)
 (sq (bB (cP (aC (una aA (vb 3)) aN)) (tgN 5)
 (qJ 4 (bin fix (vb 3) (vb 5)) (vr 5)))
 (sq (own 6 (iQ aN))
 (sq (bB (fIt (vr 3)) (tgN 7)
 (sq (own 8 (iQ aN))
 (sq (bB (fIt (vr 3)) (tgN 9)
 (sq (asg 10 (una dE (kd (.int 1))))
 (sq (iff (tst (bin feq (bin fix (vb 7) (kd (.int 1))) (bin fix (vb 9) (kd (.int 0)))))
 (asg 10 (qL 4 (eT (aC (bin fix (vb 7) (kd (.int 0))) (aC (bin fix (vb 9) (kd (.int 1))) (aC (una jJ (eLs (bI (fIt (bin fix (vb 7) (kd (.int 2)))) 1 (tgN 12) tT (bin fix (bin fix (vb 9) (kd (.int 2))) (vb 12))))) aN))))))
 nxt)
 (app 8 (vr 10)))))
 (fz 8 (app 6 (vr 8))))))
 (sq (asg 11 (eLs (bI (cP (aC (una aA (vb 2)) aN)) 1 (tgN 12) tT (qL 4 (eT (aC (vr 12) (aC (vr 12) (aC (jd (aC (bin fix (vb 2) (vb 12)) aN)) aN))))))))
 (fz 6 (ret (eT (aC (eLs (bI (fIt (vr 3)) 1 (tgN 12) tT (eT (aC (bin fix (vb 12) (kd (.int 0))) (aC (bin fix (vb 12) (kd (.int 1))) aN))))) (aC (vr 11) (aC (vr 6) (aC (vr 3) (aC (vr 2) aN)))))))))))))))
def dm (ds:List D):R D:=fin (gP (st0 jr ds))
variable (fn_law_arrows:Fn P w K mg base C 2 "_law_arrows" 3 cQ)
variable (fn_law_sizes:Fn P w K mg base C 2 "_law_sizes" 2 dW)
include T fn_law_arrows fn_law_sizes in
theorem oE (hr:Room 2 (A.deeper (envOfC "_law_parts" (ak dI) s.heap.objs.size f cdv))) :
  SDs C (bS CX0 P w K mg base jr "_law_parts" (ak dI) f cdv A outer s H E).nox (aF dI) gP :=
 (aq (aT (i:=2) sc_law_parts.nd rfl (Or.inr rfl) (aE fn_law_sizes (hr.mono (by decide)) rfl (ae (ai (pv 0)) (ae (ai (pv 1)) al ac) ac) (he:=ac) (hpl:=(ar ac ax))))
 (aq (aT (i:=3) sc_law_parts.nd rfl (Or.inl rfl) (aE fn_law_arrows (hr.mono (by decide)) rfl (ae (ai (pv 0)) (ae (bF (ag (pv 1)) (EB.of ah)) (ae (ai (pv 2)) al ac) aM) ac) (he:=ac) (hpl:=(ar aM (ar ac ax)))))
 (aq (uK (i:=4) sc_law_parts.nd rfl (Or.inr rfl))
 (aq (bZ PassesOwn.never rfl (cD rfl T.range (ae (edl (ag (pv 3)) rfl T.len ac) al az) (br az)) (ba (i:=5) sc_law_parts.nd rfl (Or.inl rfl))
 (au (uJ (pp hr) (pv 4) (ay (ag (pv 3)) (ag (pv 5))) (ai (pv 5)))))
 (aq (jS (i:=6) sc_law_parts.nd rfl (Or.inl rfl) (jZ al))
 (aq (bZ PassesOwn.never rfl (dC (ai (pv 3))) (ba (i:=7) sc_law_parts.nd rfl (Or.inl rfl))
 (aq (jS (i:=8) sc_law_parts.nd rfl (Or.inl rfl) (jZ al))
 (aq (bZ PassesOwn.never rfl (dC (ai (pv 3))) (ba (i:=9) sc_law_parts.nd rfl (Or.inr rfl))
 (aq (aT (i:=10) sc_law_parts.nd rfl (Or.inl rfl) (eI (EB.of ah)))
 (aq (bh (d8 (bj hr) (EB.of (ay (ag (pv 7)) (EB.of ah))) (EB.of (ay (ag (pv 9)) (EB.of ah))))
 (au (aT (i:=10) sc_law_parts.nd rfl (Or.inl rfl) (vE (pp hr) (pv 4) (a_ (ae (ay (ag (pv 7)) (EB.of ah)) (ae (ay (ag (pv 9)) (EB.of ah)) (ae (kG (EB.of (bX (dU (N':=Nc_law_parts_0) (n:=1) rfl rfl rfl (i4 12) dF (dC (ay (ag (pv 7)) (EB.of ah))) (fun L cs s H fp=>(ba (i:=12) nv rfl (Or.inl rfl))) (fun L cs s H fp=>cU) (fun L cs s H fp=>(ay (EB.of (ay (ag (pv 9)) (EB.of ah))) (ag (pv 12))))))) rfl T.tuple bP (fun t ha=>dw dY rfl T.tuple boot_tuple ha (he:=bP) (hpl:=ax))) al az) ao) ao)))))
 aG)
 (au (iX (pv 8) (ai (pv 10)) (hst:=ac))))))
 (jR 8 (au (iX (pv 6) (ai (pv 8)) (hst:=ac)))))))
 (aq (kj (e8 (i:=11) (aJ (i:=11) sc_law_parts.nd rfl (Or.inl rfl)) (N':=Nc_law_parts_1) (n:=1) rfl rfl rfl (i4 12) dF (cD rfl T.range (ae (edl (ag (pv 2)) rfl T.len ac) al az) (br az)) (fun L cs s H fp=>(ba (i:=12) nu rfl (Or.inl rfl))) (fun L cs s H fp=>cU) (fun L cs s H fp=>(vE (pp hr) (pv 4) (a_ (ae (ai (pv 12)) (ae (ai (pv 12)) (ae (sL rfl (ae (ay (ag (pv 2)) (ag (pv 12))) al ao) rfl T.range rfl T.tuple (br ao) az (fun t ha=>dw (jm rfl) rfl T.tuple boot_tuple ha (he:=az) (hpl:=ax))) al az) ac) ac)))) rfl))
 (jR 6 (au (aU (a_ (ae (bX (dU (N':=Nc_law_parts_2) (n:=1) rfl rfl rfl (i4 12) dF (dC (ai (pv 3))) (fun L cs s H fp=>(ba (i:=12) nt rfl (Or.inl rfl))) (fun L cs s H fp=>cU) (fun L cs s H fp=>(a_ (ae (ay (ag (pv 12)) (EB.of ah)) (ae (ay (ag (pv 12)) (EB.of ah)) al ao) ao))))) (ae (ai (pv 11)) (ae (ai (pv 6)) (ae (ai (pv 3)) (ae (ai (pv 2)) al ac) ac) ac) ac) bP))))))))))))
include T fn_law_arrows fn_law_sizes in
theorem qr (F:Fun K "_law_parts" "_law_parts" dI a fd) (hm:mg "_law_parts"=some (.ref a)) (hb:Binds K fd ["script","k"] []):Fn P w K mg base C 3 "_law_parts" 2 dm :=
 ⟨a,fd,_,bA F sc_law_parts (fun cdv A outer s H E hr=>oE cdv A outer s H E T fn_law_arrows fn_law_sizes hr),hm,F.kp,hb⟩
abbrev d5:Stmt:=sAt 46
abbrev j_:List Str:=["parts"]
theorem rD:aH j_ ["parts"] (ak d5):=by constructor <;> first | rfl | decide +kernel
abbrev Nc_law_hall_0:List Str:=["parts","row"]
theorem oP:Nc_law_hall_0.Nodup:=by decide +kernel
def iE:Rho->R Out:=(ret (mkH jh (aC (eLs (fIt (bin fix (vb 0) (kd (.int 0))))) (aC (eLs (fIt (bin fix (vb 0) (kd (.int 1))))) (aC (eLs (bI (fIt (bin fix (vb 0) (kd (.int 2)))) 1 (tgN 1) tT (eLs (fIt (vb 1))))) aN)))))
def dO (ds:List D):R D:=fin (iE (st0 j_ ds))
variable (fn_Hall:FnH P w K mg base C 4 jh)
include T fn_Hall in
theorem o5 (hr:Room 5 (A.deeper (envOfC "_law_hall" (ak d5) s.heap.objs.size f cdv))) :
  SDs C (bS CX0 P w K mg base j_ "_law_hall" (ak d5) f cdv A outer s H E).nox (aF d5) iE :=
 (au (aU (AC fn_Hall (hr.mono (by decide)) rfl (ae (bX (fdl (EB.of (ay (ag (pv 0)) (EB.of ah))) rfl T.list ao)) (ae (bX (fdl (EB.of (ay (ag (pv 0)) (EB.of ah))) rfl T.list ao)) (ae (bX (dU (N':=Nc_law_hall_0) (n:=1) rfl rfl rfl (i4 1) dF (dC (ay (ag (pv 0)) (EB.of ah))) (fun L cs s H fp=>(ba (i:=1) oP rfl (Or.inl rfl))) (fun L cs s H fp=>cU) (fun L cs s H fp=>(bX (fdl (ag (pv 1)) rfl T.list ac))))) al bP) az) az) rfl (he:=az) (hpl:=(ar az (ar bP ax))))))
include T fn_Hall in
theorem rX (F:Fun K "_law_hall" "_law_hall" d5 a fd) (hm:mg "_law_hall"=some (.ref a)) (hb:Binds K fd ["parts"] []):Fn P w K mg base C 6 "_law_hall" 1 dO :=
 ⟨a,fd,_,bA F rD (fun cdv A outer s H E hr=>o5 cdv A outer s H E T fn_Hall hr),hm,F.kp,hb⟩
abbrev cI:Stmt:=sAt 47
abbrev gU:List Str:=["parts","box","other"]
theorem mZ:aH gU ["parts","box","other"] (ak cI):=by constructor <;> first | rfl | decide +kernel
abbrev Nc_law_between_0:List Str:=["parts","box","other","arrow"]
theorem kY:Nc_law_between_0.Nodup:=by decide +kernel
def fG:Rho->R Out:=(ret (eLs (bI (cP (aC (una aA (bin fix (vb 0) (kd (.int 0)))) aN)) 1 (tgN 3) (tst (bin feq (bin fix (bin fix (vb 0) (kd (.int 0))) (vb 3)) (eT (aC (vr 1) (aC (vr 2) aN))))) (vr 3))))
def bQ (ds:List D):R D:=fin (fG (st0 gU ds))
include T in
theorem lC (hr:Room 0 (A.deeper (envOfC "_law_between" (ak cI) s.heap.objs.size f cdv))) :
  SDs C (bS CX0 P w K mg base gU "_law_between" (ak cI) f cdv A outer s H E).nox (aF cI) fG :=
 (au (aU (bX (dU (N':=Nc_law_between_0) (n:=1) rfl rfl rfl (i4 3) dF (cD rfl T.range (ae (edl (EB.of (ay (ag (pv 0)) (EB.of ah))) rfl T.len ao) al az) (br az)) (fun L cs s H fp=>(ba (i:=3) kY rfl (Or.inl rfl))) (fun L cs s H fp=>(qA (d8 (bj hr) (EB.of (ay (EB.of (ay (ag (pv 0)) (EB.of ah))) (ag (pv 3)))) (EB.of (a_ (ae (ai (pv 1)) (ae (ai (pv 2)) al ac) ac)))))) (fun L cs s H fp=>(ai (pv 3)))))))
include T in
theorem nC (F:Fun K "_law_between" "_law_between" cI a fd) (hm:mg "_law_between"=some (.ref a)) (hb:Binds K fd ["parts","box","other"] []):Fn P w K mg base C 1 "_law_between" 3 bQ :=
 ⟨a,fd,_,bA F mZ (fun cdv A outer s H E hr=>lC cdv A outer s H E T hr),hm,F.kp,hb⟩
abbrev cH:Stmt:=sAt 48
abbrev gT:List Str:=["script","k","parts","places","ties","j","one","other","some"]
theorem sc_law_picture:aH gT ["script","k","parts"] (ak cH):=by constructor <;> first | rfl | decide +kernel
abbrev Nc_law_picture_0:List Str:=["script","k","parts","places","ties","5.","one","other","some","j"]
theorem kX:Nc_law_picture_0.Nodup:=by decide +kernel
def fF:Rho->R Out:=(sq (asg 3 (eLs (bI (cP (aC (bin (iI aK) (cal 2 av (aC (vr 0) (aC (vr 1) aN))) (kd (.int 4))) aN)) 1 (tgN 9) tT (bin (iI aK) (cal 2 av (aC (vr 0) (aC (bin aV (bin aV (vb 1) (kd (.int 1))) (vb 9)) aN))) (una aA (bin fix (vb 2) (kd (.int 1))))))))
 (sq (own 4 (iQ aN))
 (sq (iff (tst (bin (iI fgt) (una aA (vb 3)) (kd (.int 0))))
 (bB (cP (aC (bin (iI aK) (bin (iI df) (cal 2 av (aC (vr 0) (aC (vr 1) aN))) (kd (.int 4))) (kd (.int 5))) aN)) (tgN 5)
 (sq (asg 6 (bin (iI aK) (cal 2 av (aC (vr 0) (aC (bin aV (bin aV (vb 1) (kd (.int 5))) (bin (iI dM) (kd (.int 3)) (vb 5))) aN))) (una aA (vb 3))))
 (sq (asg 7 (bin (iI aK) (cal 2 av (aC (vr 0) (aC (bin aV (bin aV (vb 1) (kd (.int 6))) (bin (iI dM) (kd (.int 3)) (vb 5))) aN))) (una aA (vb 3))))
 (sq (asg 8 (cal 3 bQ (aC (vr 2) (aC (bin fix (vb 3) (vb 6)) (aC (bin fix (vb 3) (vb 7)) aN)))))
 (iff (tst (bin (iI fgt) (una aA (vb 8)) (kd (.int 0))))
 (app 4 (eT (aC (vr 6) (aC (vr 7) (aC (bin fix (vb 8) (bin (iI aK) (cal 2 av (aC (vr 0) (aC (bin aV (bin aV (vb 1) (kd (.int 7))) (bin (iI dM) (kd (.int 3)) (vb 5))) aN))) (una aA (vb 8)))) aN)))))
 nxt)))))
 nxt)
 (fz 4 (ret (eT (aC (vr 3) (aC (vr 4) aN))))))))
def cu (ds:List D):R D:=fin (fF (st0 gT ds))
variable (fn_law_between:Fn P w K mg base C 1 "_law_between" 3 bQ)
include T fn_law_cell fn_law_between in
theorem lA (hr:Room 1 (A.deeper (envOfC "_law_picture" (ak cH) s.heap.objs.size f cdv))) :
  SDs C (bS CX0 P w K mg base gT "_law_picture" (ak cH) f cdv A outer s H E).nox (aF cH) fF :=
 (aq (kj (e8 (i:=3) (aJ (i:=3) sc_law_picture.nd rfl (Or.inl rfl)) (N':=Nc_law_picture_0) (n:=1) rfl rfl rfl (i4 9) dF (cD rfl T.range (ae (bw (EB.of (aE fn_law_cell (hr.mono (by decide)) rfl (ae (ai (pv 0)) (ae (ai (pv 1)) al ac) ac) (he:=ac) (hpl:=(ar ac ax)))) (EB.of ah)) al aM) (br aM)) (fun L cs s H fp=>(ba (i:=9) kX rfl (Or.inl rfl))) (fun L cs s H fp=>cU) (fun L cs s H fp=>(bw (EB.of (aE fn_law_cell (hr.mono (by decide)) rfl (ae (ai (pv 0)) (ae (bF (EB.of (bF (ag (pv 1)) (EB.of ah))) (ag (pv 9))) al aM) ac) (he:=ac) (hpl:=(ar aM ax)))) (EB.of (edl (EB.of (ay (ag (pv 2)) (EB.of ah))) rfl T.len ao)))) rfl))
 (aq (jS (i:=4) sc_law_picture.nd rfl (Or.inl rfl) (jZ al))
 (aq (bh (jK (EB.of (edl (ag (pv 3)) rfl T.len ac)) (EB.of ah))
 (au (bZ PassesOwn.never rfl (cD rfl T.range (ae (bw (EB.of (eK (EB.of (aE fn_law_cell (hr.mono (by decide)) rfl (ae (ai (pv 0)) (ae (ai (pv 1)) al ac) ac) (he:=ac) (hpl:=(ar ac ax)))) (EB.of ah))) (EB.of ah)) al aM) (br aM)) (ba (i:=5) sc_law_picture.nd rfl (Or.inl rfl))
 (aq (aT (i:=6) sc_law_picture.nd rfl (Or.inl rfl) (bw (EB.of (aE fn_law_cell (hr.mono (by decide)) rfl (ae (ai (pv 0)) (ae (bF (EB.of (bF (ag (pv 1)) (EB.of ah))) (EB.of (j3 (EB.of ah) (ag (pv 5))))) al aM) ac) (he:=ac) (hpl:=(ar aM ax)))) (EB.of (edl (ag (pv 3)) rfl T.len ac))))
 (aq (aT (i:=7) sc_law_picture.nd rfl (Or.inl rfl) (bw (EB.of (aE fn_law_cell (hr.mono (by decide)) rfl (ae (ai (pv 0)) (ae (bF (EB.of (bF (ag (pv 1)) (EB.of ah))) (EB.of (j3 (EB.of ah) (ag (pv 5))))) al aM) ac) (he:=ac) (hpl:=(ar aM ax)))) (EB.of (edl (ag (pv 3)) rfl T.len ac))))
 (aq (aT (i:=8) sc_law_picture.nd rfl (Or.inl rfl) (aE fn_law_between (hr.mono (by decide)) rfl (ae (ai (pv 2)) (ae (ay (ag (pv 3)) (ag (pv 6))) (ae (ay (ag (pv 3)) (ag (pv 7))) al ao) ao) ac) (he:=ac) (hpl:=(ar ao (ar ao ax)))))
 (au (bh (jK (EB.of (edl (ag (pv 8)) rfl T.len ac)) (EB.of ah))
 (au (iX (pv 4) (a_ (ae (ai (pv 6)) (ae (ai (pv 7)) (ae (ay (ag (pv 8)) (EB.of (bw (EB.of (aE fn_law_cell (hr.mono (by decide)) rfl (ae (ai (pv 0)) (ae (bF (EB.of (bF (ag (pv 1)) (EB.of ah))) (EB.of (j3 (EB.of ah) (ag (pv 5))))) al aM) ac) (he:=ac) (hpl:=(ar aM ax)))) (EB.of (edl (ag (pv 8)) rfl T.len ac))))) al ao) ac) ac)) (hst:=bO)))
 aG)))))))
 aG)
 (jR 4 (au (aU (a_ (ae (ai (pv 3)) (ae (ai (pv 4)) al ac) ac))))))))
include T fn_law_cell fn_law_between in
theorem nB (F:Fun K "_law_picture" "_law_picture" cH a fd) (hm:mg "_law_picture"=some (.ref a)) (hb:Binds K fd ["script","k","parts"] []):Fn P w K mg base C 2 "_law_picture" 3 cu :=
 ⟨a,fd,_,bA F sc_law_picture (fun cdv A outer s H E hr=>lA cdv A outer s H E T fn_law_cell fn_law_between hr),hm,F.kp,hb⟩
abbrev dG:Stmt:=sAt 50
abbrev jp:List Str:=["e","low","told"]
theorem sc_law_which:aH jp ["e"] (ak dG):=by constructor <;> first | rfl | decide +kernel
def jN:Rho->R Out:=(sq (asg 1 (eL (aC (una (oY [2,3] 0) (vb 0)) (aC (una (oY [2,3] 1) (vb 0)) (aC (una (oY [2,3] 2) (vb 0)) (aC (una (oY [2,3] 3) (vb 0)) aN))))))
 (sq (asg 2 (bin aV (vb 1) (eL (aC (una (oY [2,3] 4) (vb 0)) (aC (una (oY [2,3] 5) (vb 0)) (aC (una (oY [2,3] 6) (vb 0)) aN))))))
 (sq (iff (orB (iO (tst (una (Ao [2,3]) (vb 0)))) (tst (bin fne (una C7 (vb 2)) (kd (.int 1)))))
 (ret (kd (.int 9)))
 nxt)
 (ret (una CB (vb 2))))))
def cE (ds:List D):R D:=fin (jN (st0 jp ds))
include T in
theorem oB (hr:RoomN 0 (A.deeper (envOfC "_law_which" (ak dG) s.heap.objs.size f cdv))) :
  SDs C (cxN P w K mg base jp "_law_which" (ak dG) f cdv A outer s H) (aF dG) jN :=
 (aq (aT (i:=1) sc_law_which.nd rfl (Or.inl rfl) (bb (ae (j4 (k:=0) T.xa (by decide) rfl rfl T.isinstance rfl (ag (pv 0)) ac) (ae (j4 (k:=1) T.xa (by decide) rfl rfl T.isinstance rfl (ag (pv 0)) ac) (ae (j4 (k:=2) T.xa (by decide) rfl rfl T.isinstance rfl (ag (pv 0)) ac) (ae (j4 (k:=3) T.xa (by decide) rfl rfl T.isinstance rfl (ag (pv 0)) ac) al az) az) az) az)))
 (aq (aT (i:=2) sc_law_which.nd rfl (Or.inl rfl) (bF (ag (pv 1)) (EB.of (bb (ae (j4 (k:=4) T.xa (by decide) rfl rfl T.isinstance rfl (ag (pv 0)) ac) (ae (j4 (k:=5) T.xa (by decide) rfl rfl T.isinstance rfl (ag (pv 0)) ac) (ae (j4 (k:=6) T.xa (by decide) rfl rfl T.isinstance rfl (ag (pv 0)) ac) al az) az) az)))))
 (aq (bh (ki (iT (fC (eU (CW T.xa rfl T.isinstance rfl T.verr Da (ag (pv 0)) ac))) (h9 (ef (m_ hr) (EB.of (AE (m_ hr) (ag (pv 2)) (fun ho ha=>pq PySem.F.plainAttrs_list PySem.F.slot_list_count PySem.F.type_list_count (rV (m_ hr)) ho ha))) (EB.of ah)))))
 (au (aU ah))
 aG)
 (au (aU (AB (m_ hr) (ag (pv 2)) (fun ho ha=>pq PySem.F.plainAttrs_list PySem.F.slot_list_index PySem.F.type_list_index (rT (m_ hr)) ho ha)))))))
include T in
theorem qo (F:Fun K "_law_which" "_law_which" dG a fd) (hm:mg "_law_which"=some (.ref a)) (hb:Binds K fd ["e"] []):FnN P w K mg base C 1 "_law_which" 1 cE :=
 ⟨a,fd,_,AI F sc_law_which (fun cdv A outer s H hr=>oB cdv A outer s H T hr),hm,F.kp,hb⟩
abbrev bU:Stmt:=sAt 51
abbrev fP:List Str:=["script","places","parts","way","one","other","some","arrow","same"]
theorem sc_law_elsewhere:aH fP ["script","places","parts","way"] (ak bU):=by constructor <;> first | rfl | decide +kernel
def eN:Rho->R Out:=(sq (asg 4 (bin (iI aK) (cal 2 av (aC (vr 0) (aC (kd (.int 34)) aN))) (una aA (vb 1))))
 (sq (asg 5 (bin (iI aK) (cal 2 av (aC (vr 0) (aC (kd (.int 35)) aN))) (una aA (vb 1))))
 (sq (own 6 (iQ aN))
 (sq (bB (cP (aC (una aA (bin fix (vb 2) (kd (.int 0)))) aN)) (tgN 7)
 (sq (asg 8 (eL (aC (bin feq (bin fix (bin fix (bin fix (vb 2) (kd (.int 0))) (vb 7)) (kd (.int 0))) (bin fix (vb 1) (vb 4))) (aC (bin feq (bin fix (bin fix (bin fix (vb 2) (kd (.int 0))) (vb 7)) (kd (.int 1))) (bin fix (vb 1) (vb 5))) aN))))
 (iff (tst (bin feq (vb 8) (eL (aC (bin feq (vb 3) (kd (.int 7))) (aC (bin feq (vb 3) (kd (.int 8))) aN)))))
 (app 6 (vr 7))
 nxt)))
 (sq (iff (tst (bin feq (una aA (vb 6)) (kd (.int 0))))
 (ret (kd .non))
 nxt)
 (ret (eT (aC (vr 4) (aC (vr 5) (aC (bin fix (vb 6) (bin (iI aK) (cal 2 av (aC (vr 0) (aC (kd (.int 36)) aN))) (una aA (vb 6)))) aN))))))))))
def bJ (ds:List D):R D:=fin (eN (st0 fP ds))
include T fn_law_cell in
theorem j7 (hr:Room 1 (A.deeper (envOfC "_law_elsewhere" (ak bU) s.heap.objs.size f cdv))) :
  SDs C (bS CX0 P w K mg base fP "_law_elsewhere" (ak bU) f cdv A outer s H E).nox (aF bU) eN :=
 (aq (aT (i:=4) sc_law_elsewhere.nd rfl (Or.inl rfl) (bw (EB.of (aE fn_law_cell (hr.mono (by decide)) rfl (ae (ai (pv 0)) (ae ah al aj) ac) (he:=ac) (hpl:=(ar aj ax)))) (EB.of (edl (ag (pv 1)) rfl T.len ac))))
 (aq (aT (i:=5) sc_law_elsewhere.nd rfl (Or.inl rfl) (bw (EB.of (aE fn_law_cell (hr.mono (by decide)) rfl (ae (ai (pv 0)) (ae ah al aj) ac) (he:=ac) (hpl:=(ar aj ax)))) (EB.of (edl (ag (pv 1)) rfl T.len ac))))
 (aq (jS (i:=6) sc_law_elsewhere.nd rfl (Or.inl rfl) (jZ al))
 (aq (bZ PassesOwn.never rfl (cD rfl T.range (ae (edl (EB.of (ay (ag (pv 2)) (EB.of ah))) rfl T.len ao) al az) (br az)) (ba (i:=7) sc_law_elsewhere.nd rfl (Or.inl rfl))
 (aq (aT (i:=8) sc_law_elsewhere.nd rfl (Or.inl rfl) (bb (ae (kH (bj hr) (EB.of (ay (EB.of (ay (EB.of (ay (ag (pv 2)) (EB.of ah))) (ag (pv 7)))) (EB.of ah))) (EB.of (ay (ag (pv 1)) (ag (pv 4))))) (ae (kH (bj hr) (EB.of (ay (EB.of (ay (EB.of (ay (ag (pv 2)) (EB.of ah))) (ag (pv 7)))) (EB.of ah))) (EB.of (ay (ag (pv 1)) (ag (pv 5))))) al ia) ia)))
 (au (bh (d8 (bj hr) (ag (pv 8)) (EB.of (bb (ae (kH (bj hr) (ag (pv 3)) (EB.of ah)) (ae (kH (bj hr) (ag (pv 3)) (EB.of ah)) al ia) ia))))
 (au (iX (pv 6) (ai (pv 7)) (hst:=ac)))
 aG))))
 (aq (bh (d8 (bj hr) (EB.of (edl (ag (pv 6)) rfl T.len ac)) (EB.of ah))
 (au (aU qH))
 aG)
 (au (aU (a_ (ae (ai (pv 4)) (ae (ai (pv 5)) (ae (ay (ag (pv 6)) (EB.of (bw (EB.of (aE fn_law_cell (hr.mono (by decide)) rfl (ae (ai (pv 0)) (ae ah al aj) ac) (he:=ac) (hpl:=(ar aj ax)))) (EB.of (edl (ag (pv 6)) rfl T.len ac))))) al ao) ac) ac)))))))))
include T fn_law_cell in
theorem k_ (F:Fun K "_law_elsewhere" "_law_elsewhere" bU a fd) (hm:mg "_law_elsewhere"=some (.ref a)) (hb:Binds K fd ["script","places","parts","way"] []):Fn P w K mg base C 2 "_law_elsewhere" 4 bJ :=
 ⟨a,fd,_,bA F sc_law_elsewhere (fun cdv A outer s H E hr=>j7 cdv A outer s H E T fn_law_cell hr),hm,F.kp,hb⟩
abbrev eX:Stmt:=sAt 52
abbrev lM:List Str:=["script","places","ties","parts","way","number","off","at","spot","wrong"]
theorem sc_law_bad:aH lM ["script","places","ties","parts"] (ak eX):=by constructor <;> first | rfl | decide +kernel
abbrev Nc_law_bad_0:List Str:=["script","places","ties","parts","way","number","off","at","spot","wrong","k"]
theorem ql:Nc_law_bad_0.Nodup:=by decide +kernel
def je:Rho->R Out:=(sq (asg 4 (bin (iI aK) (cal 2 av (aC (vr 0) (aC (kd (.int 30)) aN))) (kd (.int 9))))
 (sq (asg 5 (cal 2 av (aC (vr 0) (aC (kd (.int 31)) aN))))
 (sq (asg 6 (bin fix (eL (aC (una dE (kd (.int 1))) (aC (una aA (bin fix (vb 3) (kd (.int 1)))) (aC (bin (iI jX) (kd (.int 10)) (kd (.int 29))) aN)))) (bin (iI aK) (vb 5) (kd (.int 3)))))
 (sq (asg 7 (bin (iI aK) (bin (iI df) (vb 5) (kd (.int 4))) (bin aV (una aA (vb 1)) (kd (.int 1)))))
 (sq (iff (lI (tst (bin feq (vb 4) (kd (.int 0)))) (tst (bin (iI flt) (una aA (vb 1)) (kd (.int 3)))))
 (ret (eT (aC (bin aV (bin aV (eLs (fSl (vb 1) oN (oS (vr 7)))) (eL (aC (vr 6) aN))) (eLs (fSl (vb 1) (oS (vr 7)) oN))) (aC (eL aN) aN))))
 nxt)
 (sq (asg 2 (eLs (fSl (vb 2) oN (oS (kd (.int 3))))))
 (sq (asg 8 (bin (iI aK) (bin (iI df) (vb 5) (kd (.int 64))) (bin aV (una aA (vb 2)) (kd (.int 1)))))
 (sq (iff (lI (tst (bin feq (vb 4) (kd (.int 1)))) (tst (bin (iI fgt) (una aA (vb 1)) (kd (.int 0)))))
 (sq (asg 9 (bin fix (eL (aC (eT (aC (una aA (vb 1)) (aC (kd (.int 0)) (aC (kd (.int 0)) aN)))) (aC (eT (aC (kd (.int 0)) (aC (una aA (vb 1)) (aC (kd (.int 0)) aN)))) (aC (eT (aC (una dE (kd (.int 1))) (aC (kd (.int 0)) (aC (kd (.int 0)) aN)))) (aC (eT (aC (kd (.int 0)) (aC (una dE (kd (.int 1))) (aC (kd (.int 0)) aN)))) aN))))) (bin (iI aK) (vb 5) (kd (.int 4)))))
 (ret (eT (aC (vr 1) (aC (bin aV (bin aV (eLs (fSl (vb 2) oN (oS (vr 8)))) (eL (aC (vr 9) aN))) (eLs (fSl (vb 2) (oS (vr 8)) oN))) aN)))))
 nxt)
 (sq (iff (lI (tst (bin feq (vb 4) (kd (.int 2)))) (tst (bin (iI fgt) (una aA (vb 1)) (kd (.int 0)))))
 (sq (asg 9 (eT (aC (kd (.int 0)) (aC (kd (.int 0)) (aC (bin fix (eL (aC (una dE (kd (.int 1))) (aC (una aA (bin fix (vb 3) (kd (.int 0)))) (aC (bin (iI jX) (kd (.int 10)) (kd (.int 29))) aN)))) (bin (iI aK) (vb 5) (kd (.int 3)))) aN)))))
 (ret (eT (aC (vr 1) (aC (bin aV (bin aV (eLs (fSl (vb 2) oN (oS (vr 8)))) (eL (aC (vr 9) aN))) (eLs (fSl (vb 2) (oS (vr 8)) oN))) aN)))))
 nxt)
 (sq (iff (lI (tst (bin (iI fgt) (vb 4) (kd (.int 5)))) (tst (bin (iI fgt) (una aA (vb 1)) (kd (.int 0)))))
 (sq (asg 9 (cal 4 bJ (aC (vr 0) (aC (vr 1) (aC (vr 3) (aC (vr 4) aN))))))
 (iff (tst (una (fun d=>.val (gi d)) (vb 9)))
 (ret (eT (aC (vr 1) (aC (bin aV (bin aV (eLs (fSl (vb 2) oN (oS (vr 8)))) (eL (aC (vr 9) aN))) (eLs (fSl (vb 2) (oS (vr 8)) oN))) aN))))
 nxt))
 nxt)
 (sq (iff (tst (bin feq (vb 4) (kd (.int 3))))
 (ret (eT (aC (eL (aC (kd (.int 0)) (aC (kd (.int 0)) (aC (kd (.int 0)) (aC (kd (.int 0)) aN))))) (aC (eL aN) aN))))
 nxt)
 (sq (iff (tst (bin feq (vb 4) (kd (.int 4))))
 (ret (eT (aC (eL (aC (kd (.int 0)) aN)) (aC (eLs (bI (cP (aC (kd (.int 5)) aN)) 1 (tgN 10) tT (eT (aC (kd (.int 0)) (aC (kd (.int 0)) (aC (bin fix (bin fix (vb 3) (kd (.int 1))) (kd (.int 0))) aN)))))) aN))))
 nxt)
 (ret (eT (aC (eL (aC (kd (.int 0)) (aC (bin (iI wv) (una aA (bin fix (vb 3) (kd (.int 1)))) (kd (.int 1))) aN))) (aC (eL (aC (eT (aC (kd (.int 0)) (aC (kd (.int 1)) (aC (bin fix (bin fix (vb 3) (kd (.int 1))) (kd (.int 0))) aN)))) (aC (eT (aC (kd (.int 1)) (aC (kd (.int 0)) (aC (bin fix (bin fix (vb 3) (kd (.int 1))) (una dE (kd (.int 1)))) aN)))) (aC (eT (aC (kd (.int 2)) (aC (kd (.int 0)) (aC (kd (.int 0)) aN)))) aN)))) aN))))))))))))))))
def fg (ds:List D):R D:=fin (je (st0 lM ds))
variable (fn_law_elsewhere:Fn P w K mg base C 2 "_law_elsewhere" 4 bJ)
include T fn_law_cell fn_law_elsewhere in
theorem qX (hr:Room 2 (A.deeper (envOfC "_law_bad" (ak eX) s.heap.objs.size f cdv))) :
  SDs C (bS CX0 P w K mg base lM "_law_bad" (ak eX) f cdv A outer s H E).nox (aF eX) je :=
 (aq (aT (i:=4) sc_law_bad.nd rfl (Or.inl rfl) (bw (EB.of (aE fn_law_cell (hr.mono (by decide)) rfl (ae (ai (pv 0)) (ae ah al aj) ac) (he:=ac) (hpl:=(ar aj ax)))) (EB.of ah)))
 (aq (aT (i:=5) sc_law_bad.nd rfl (Or.inl rfl) (aE fn_law_cell (hr.mono (by decide)) rfl (ae (ai (pv 0)) (ae ah al aj) ac) (he:=ac) (hpl:=(ar aj ax))))
 (aq (aT (i:=6) sc_law_bad.nd rfl (Or.inl rfl) (ay (EB.of (bb (ae (eI (EB.of ah)) (ae (edl (EB.of (ay (ag (pv 3)) (EB.of ah))) rfl T.len ao) (ae (uk (EB.of ah) (EB.of ah)) al aM) az) fZ))) (EB.of (bw (ag (pv 5)) (EB.of ah)))))
 (aq (aT (i:=7) sc_law_bad.nd rfl (Or.inl rfl) (bw (EB.of (eK (ag (pv 5)) (EB.of ah))) (EB.of (bF (EB.of (edl (ag (pv 1)) rfl T.len ac)) (EB.of ah)))))
 (aq (bh (ki (mS (d8 (bj hr) (ag (pv 4)) (EB.of ah)) (kh (wS (EB.of (edl (ag (pv 1)) rfl T.len ac)) (EB.of ah)))))
 (au (aU (a_ (ae (bF (EB.of (bF (EB.of (bX (eC (ag (pv 1)) fV (fU (ai (pv 7)))))) (EB.of (bb (ae (ai (pv 6)) al ac))))) (EB.of (bX (eC (ag (pv 1)) (fU (ai (pv 7))) fV)))) (ae (bb al) al bL) aM))))
 aG)
 (aq (aT (i:=2) sc_law_bad.nd rfl (Or.inl rfl) (bX (eC (ag (pv 2)) fV (fU ah))))
 (aq (aT (i:=8) sc_law_bad.nd rfl (Or.inl rfl) (bw (EB.of (eK (ag (pv 5)) (EB.of ah))) (EB.of (bF (EB.of (edl (ag (pv 2)) rfl T.len ac)) (EB.of ah)))))
 (aq (bh (ki (mS (d8 (bj hr) (ag (pv 4)) (EB.of ah)) (kh (jK (EB.of (edl (ag (pv 1)) rfl T.len ac)) (EB.of ah)))))
 (aq (aT (i:=9) sc_law_bad.nd rfl (Or.inl rfl) (ay (EB.of (bb (ae (a_ (ae (edl (ag (pv 1)) rfl T.len ac) (ae ah (ae ah al aj) aj) az)) (ae (a_ (ae ah (ae (edl (ag (pv 1)) rfl T.len ac) (ae ah al aj) az) aj)) (ae (a_ (ae (eI (EB.of ah)) (ae ah (ae ah al aj) aj) fZ)) (ae (a_ (ae ah (ae (eI (EB.of ah)) (ae ah al aj) fZ) aj)) al bO) bO) bO) bO))) (EB.of (bw (ag (pv 5)) (EB.of ah)))))
 (au (aU (a_ (ae (ai (pv 1)) (ae (bF (EB.of (bF (EB.of (bX (eC (ag (pv 2)) fV (fU (ai (pv 8)))))) (EB.of (bb (ae (ai (pv 9)) al ac))))) (EB.of (bX (eC (ag (pv 2)) (fU (ai (pv 8))) fV)))) al aM) ac)))))
 aG)
 (aq (bh (ki (mS (d8 (bj hr) (ag (pv 4)) (EB.of ah)) (kh (jK (EB.of (edl (ag (pv 1)) rfl T.len ac)) (EB.of ah)))))
 (aq (aT (i:=9) sc_law_bad.nd rfl (Or.inl rfl) (a_ (ae ah (ae ah (ae (ay (EB.of (bb (ae (eI (EB.of ah)) (ae (edl (EB.of (ay (ag (pv 3)) (EB.of ah))) rfl T.len ao) (ae (uk (EB.of ah) (EB.of ah)) al aM) az) fZ))) (EB.of (bw (ag (pv 5)) (EB.of ah)))) al ao) aj) aj)))
 (au (aU (a_ (ae (ai (pv 1)) (ae (bF (EB.of (bF (EB.of (bX (eC (ag (pv 2)) fV (fU (ai (pv 8)))))) (EB.of (bb (ae (ai (pv 9)) al ac))))) (EB.of (bX (eC (ag (pv 2)) (fU (ai (pv 8))) fV)))) al aM) ac)))))
 aG)
 (aq (bh (ki (mS (jK (ag (pv 4)) (EB.of ah)) (kh (jK (EB.of (edl (ag (pv 1)) rfl T.len ac)) (EB.of ah)))))
 (aq (aT (i:=9) sc_law_bad.nd rfl (Or.inl rfl) (aE fn_law_elsewhere (hr.mono (by decide)) rfl (ae (ai (pv 0)) (ae (ai (pv 1)) (ae (ai (pv 3)) (ae (ai (pv 4)) al ac) ac) ac) ac) (he:=ac) (hpl:=(ar ac (ar ac (ar ac ax))))))
 (au (bh (za (ag (pv 9)))
 (au (aU (a_ (ae (ai (pv 1)) (ae (bF (EB.of (bF (EB.of (bX (eC (ag (pv 2)) fV (fU (ai (pv 8)))))) (EB.of (bb (ae (ai (pv 9)) al ac))))) (EB.of (bX (eC (ag (pv 2)) (fU (ai (pv 8))) fV)))) al aM) ac))))
 aG)))
 aG)
 (aq (bh (d8 (bj hr) (ag (pv 4)) (EB.of ah))
 (au (aU (a_ (ae (bb (ae ah (ae ah (ae ah (ae ah al aj) aj) aj) aj)) (ae (bb al) al bL) bL))))
 aG)
 (aq (bh (d8 (bj hr) (ag (pv 4)) (EB.of ah))
 (au (aU (a_ (ae (bb (ae ah al aj)) (ae (bX (dU (N':=Nc_law_bad_0) (n:=1) rfl rfl rfl (i4 10) dF (cD rfl T.range (ae ah al aj) (br aj)) (fun L cs s H fp=>(ba (i:=10) ql rfl (Or.inl rfl))) (fun L cs s H fp=>cU) (fun L cs s H fp=>(a_ (ae ah (ae ah (ae (ay (EB.of (ay (ag (pv 3)) (EB.of ah))) (EB.of ah)) al ao) aj) aj))))) al bP) bL))))
 aG)
 (au (aU (a_ (ae (bb (ae ah (ae (CU (EB.of (edl (EB.of (ay (ag (pv 3)) (EB.of ah))) rfl T.len ao)) (EB.of ah)) al aM) aj)) (ae (bb (ae (a_ (ae ah (ae ah (ae (ay (EB.of (ay (ag (pv 3)) (EB.of ah))) (EB.of ah)) al ao) aj) aj)) (ae (a_ (ae ah (ae ah (ae (ay (EB.of (ay (ag (pv 3)) (EB.of ah))) (EB.of (eI (EB.of ah)))) al ao) aj) aj)) (ae (a_ (ae ah (ae ah (ae ah al aj) aj) aj)) al bO) bO) bO)) al bL) bL))))))))))))))))
include T fn_law_cell fn_law_elsewhere in
theorem tU (F:Fun K "_law_bad" "_law_bad" eX a fd) (hm:mg "_law_bad"=some (.ref a)) (hb:Binds K fd ["script","places","ties","parts"] []):Fn P w K mg base C 3 "_law_bad" 4 fg :=
 ⟨a,fd,_,bA F sc_law_bad (fun cdv A outer s H E hr=>qX cdv A outer s H E T fn_law_cell fn_law_elsewhere hr),hm,F.kp,hb⟩
abbrev eW:Stmt:=sAt 53
abbrev lL:List Str:=["hall","way","picture","box","which","e"]
theorem sc_law_met:aH lL ["hall","way","picture","box"] (ak eW):=by constructor <;> first | rfl | decide +kernel
def gH:Rho->R Out:=(sq (asg 4 (una dE (kd (.int 1))))
 (sq (tm [2,3] 5
 (iff (tst (bin feq (vb 1) (kd (.int 0))))
 (drp (iH 4 dN (aC (vr 0) (aC (eLs (fIt (bin fix (vb 2) (kd (.int 0))))) (aC (eLs (fIt (bin fix (vb 2) (kd (.int 1))))) (aC (vr 3) aN))))))
 (iff (tst (bin feq (vb 1) (kd (.int 1))))
 (drp (iH 5 dl (aC (vr 0) (aC (eLs (fIt (bin fix (vb 2) (kd (.int 0))))) (aC (eLs (fIt (bin fix (vb 2) (kd (.int 1))))) (aC (vr 3) (aC (eL (aC (kd (.int 0)) aN)) aN)))))))
 (drp (iH 3 eM (aC (vr 0) (aC (eLs (fIt (bin fix (vb 2) (kd (.int 0))))) (aC (eLs (fIt (bin fix (vb 2) (kd (.int 1))))) aN)))))))
 (asg 4 (cal 1 cE (aC (vr 5) aN))))
 (ret (vr 4))))
def aP (ds:List D):R D:=fin (gH (st0 lL ds))
variable (fn_law_which:FnN P w K mg base C 1 "_law_which" 1 cE)
variable (fn_through:FnX P w K mg base C 6 "through" 5 dl)
variable (fn_views:FnX P w K mg base C 5 "views" 4 dN)
include T fn_best fn_law_which fn_through fn_views in
theorem qW (hr:Room 6 (A.deeper (envOfC "_law_met" (ak eW) s.heap.objs.size f cdv))) :
  SDs C (bS CX0 P w K mg base lL "_law_met" (ak eW) f cdv A outer s H E).nox (aF eW) gH :=
 (aq (aT (i:=4) sc_law_met.nd rfl (Or.inl rfl) (eI (EB.of ah)))
 (aq (Bu (ie:=5) T.xb.choose_spec T.xa (by decide) rfl sc_law_met.nd rfl rfl rfl rfl rfl rfl rfl
 (fun pn xe=>(iW (wW (d8 (bj hr) (ag (pv 1)) (EB.of ah))
 (iW (mX (EB.of (jb fn_views (hr.mono (by decide)) rfl (ae (ai (pv 0)) (ae (bX (fdl (EB.of (ay (ag (pv 2)) (EB.of ah))) rfl T.list ao)) (ae (bX (fdl (EB.of (ay (ag (pv 2)) (EB.of ah))) rfl T.list ao)) (ae (ai (pv 3)) al ac) az) az) ac) rfl (he:=ac) (hpl:=(ar az (ar az (ar ac ax))))))))
 (iW (wW (d8 (bj hr) (ag (pv 1)) (EB.of ah))
 (iW (mX (EB.of (jb fn_through (hr.mono (by decide)) rfl (ae (ai (pv 0)) (ae (bX (fdl (EB.of (ay (ag (pv 2)) (EB.of ah))) rfl T.list ao)) (ae (bX (fdl (EB.of (ay (ag (pv 2)) (EB.of ah))) rfl T.list ao)) (ae (ai (pv 3)) (ae (bb (ae ah al aj)) al bL) ac) az) az) ac) rfl (he:=ac) (hpl:=(ar az (ar az (ar ac (ar bL ax)))))))))
 (iW (mX (EB.of (jb fn_best (hr.mono (by decide)) rfl (ae (ai (pv 0)) (ae (bX (fdl (EB.of (ay (ag (pv 2)) (EB.of ah))) rfl T.list ao)) (ae (bX (fdl (EB.of (ay (ag (pv 2)) (EB.of ah))) rfl T.list ao)) al az) az) ac) rfl (he:=ac) (hpl:=(ar az (ar az ax))))))))))))
 (fun ev pn=>(au (aT (i:=4) sc_law_met.nd rfl (Or.inl rfl) (CY fn_law_which (RoomN.mono (RoomN.mark (RoomN.of hr)) (by decide)) rfl (ae (ai (pv 5)) al ac) (he:=ac) (hpl:=ax))))))
 (au (aU (ai (pv 4))))))
include T fn_best fn_law_which fn_through fn_views in
theorem tS (F:Fun K "_law_met" "_law_met" eW a fd) (hm:mg "_law_met"=some (.ref a)) (hb:Binds K fd ["hall","way","picture","box"] []):Fn P w K mg base C 7 "_law_met" 4 aP :=
 ⟨a,fd,_,bA F sc_law_met (fun cdv A outer s H E hr=>qW cdv A outer s H E T fn_best fn_law_which fn_through fn_views hr),hm,F.kp,hb⟩
abbrev ko:Stmt:=sAt 54
abbrev yX:List Str:=["script","parts","hall","places","ties","off","box","four","bad","way"]
theorem sc_law:aH yX ["script"] (ak ko):=by constructor <;> first | rfl | decide +kernel
abbrev Nc_law_0:List Str:=["script","parts","hall","places","ties","off","box","four","bad","way","k"]
theorem xJ:Nc_law_0.Nodup:=by decide +kernel
def qM:Rho->R Out:=(sq (asg 1 (cal 2 dm (aC (vr 0) (aC (kd (.int 0)) aN))))
 (sq (asg 2 (cal 1 dO (aC (vr 1) aN)))
 (sq (asT (tg2 3 4) (cal 3 cu (aC (vr 0) (aC (kd (.int 4)) (aC (vr 1) aN)))))
 (sq (asg 5 (bin fix (eL (aC (una dE (kd (.int 1))) (aC (una aA (bin fix (vb 1) (kd (.int 1)))) (aC (bin (iI jX) (kd (.int 10)) (kd (.int 29))) aN)))) (bin (iI aK) (cal 2 av (aC (vr 0) (aC (kd (.int 32)) aN))) (kd (.int 3)))))
 (sq (asg 6 (bin fix (eL (aC (kd (.int 0)) (aC (vr 5) aN))) (bin (iI aK) (cal 2 av (aC (vr 0) (aC (kd (.int 33)) aN))) (kd (.int 2)))))
 (sq (asg 7 (eT (aC (eL (aC (kd (.int 0)) aN)) (aC (eLs (bI (cP (aC (kd (.int 4)) aN)) 1 (tgN 10) tT (eT (aC (kd (.int 0)) (aC (kd (.int 0)) (aC (bin fix (bin fix (vb 1) (kd (.int 1))) (kd (.int 0))) aN)))))) aN))))
 (sq (iff (orB (tst (bin fne (cal 4 aP (aC (vr 2) (aC (kd (.int 0)) (aC (vr 7) (aC (kd (.int 0)) aN))))) (una dE (kd (.int 1))))) (tst (bin fne (cal 4 aP (aC (vr 2) (aC (kd (.int 2)) (aC (vr 7) (aC (kd (.int 0)) aN))))) (una dE (kd (.int 1))))))
 (ret (kd (.bl false)))
 nxt)
 (sq (asg 8 (cal 4 fg (aC (vr 0) (aC (vr 3) (aC (vr 4) (aC (vr 1) aN))))))
 (sq (bB (cP (aC (kd (.int 3)) aN)) (tgN 9)
 (iff (tst (bin fne (cal 4 aP (aC (vr 2) (aC (vr 9) (aC (vr 8) (aC (vr 6) aN))))) (kd (.int 3))))
 (ret (kd (.bl false)))
 nxt))
 (sq (iff (tst (bin fne (cal 4 aP (aC (vr 2) (aC (kd (.int 2)) (aC (eT (aC (vr 3) (aC (vr 4) aN))) (aC (kd (.int 0)) aN))))) (una dE (kd (.int 1)))))
 (ret (kd (.bl false)))
 nxt)
 (ret (yV (bin feq (cal 4 aP (aC (vr 2) (aC (kd (.int 0)) (aC (eT (aC (vr 3) (aC (vr 4) aN))) (aC (vr 5) aN))))) (kd (.int 2))) (bin feq (cal 4 aP (aC (vr 2) (aC (kd (.int 1)) (aC (eT (aC (vr 3) (aC (vr 4) aN))) (aC (vr 5) aN))))) (kd (.int 2)))))))))))))))
def oo (ds:List D):R D:=fin (qM (st0 yX ds))
variable (fn_law_bad:Fn P w K mg base C 3 "_law_bad" 4 fg)
variable (fn_law_hall:Fn P w K mg base C 6 "_law_hall" 1 dO)
variable (fn_law_met:Fn P w K mg base C 7 "_law_met" 4 aP)
variable (fn_law_parts:Fn P w K mg base C 3 "_law_parts" 2 dm)
variable (fn_law_picture:Fn P w K mg base C 2 "_law_picture" 3 cu)
include T fn_law_cell fn_law_bad fn_law_hall fn_law_met fn_law_parts fn_law_picture in
theorem yS (hr:Room 7 (A.deeper (envOfC "law" (ak ko) s.heap.objs.size f cdv))) :
  SDs C (bS CX0 P w K mg base yX "law" (ak ko) f cdv A outer s H E).nox (aF ko) qM :=
 (aq (aT (i:=1) sc_law.nd rfl (Or.inr rfl) (aE fn_law_parts (hr.mono (by decide)) rfl (ae (ai (pv 0)) (ae ah al aj) ac) (he:=ac) (hpl:=(ar aj ax))))
 (aq (aT (i:=2) sc_law.nd rfl (Or.inl rfl) (aE fn_law_hall (hr.mono (by decide)) rfl (ae (ai (pv 1)) al ac) (he:=ac) (hpl:=ax)))
 (aq (Bv (aE fn_law_picture (hr.mono (by decide)) rfl (ae (ai (pv 0)) (ae ah (ae (ai (pv 1)) al ac) aj) ac) (he:=ac) (hpl:=(ar aj (ar ac ax)))) (dD rfl (aJ (i:=3) sc_law.nd rfl (Or.inl rfl)) (aJ (i:=4) sc_law.nd rfl (Or.inl rfl))))
 (aq (aT (i:=5) sc_law.nd rfl (Or.inl rfl) (ay (EB.of (bb (ae (eI (EB.of ah)) (ae (edl (EB.of (ay (ag (pv 1)) (EB.of ah))) rfl T.len ao) (ae (uk (EB.of ah) (EB.of ah)) al aM) az) fZ))) (EB.of (bw (EB.of (aE fn_law_cell (hr.mono (by decide)) rfl (ae (ai (pv 0)) (ae ah al aj) ac) (he:=ac) (hpl:=(ar aj ax)))) (EB.of ah)))))
 (aq (aT (i:=6) sc_law.nd rfl (Or.inl rfl) (ay (EB.of (bb (ae ah (ae (ai (pv 5)) al ac) aj))) (EB.of (bw (EB.of (aE fn_law_cell (hr.mono (by decide)) rfl (ae (ai (pv 0)) (ae ah al aj) ac) (he:=ac) (hpl:=(ar aj ax)))) (EB.of ah)))))
 (aq (aT (i:=7) sc_law.nd rfl (Or.inl rfl) (a_ (ae (bb (ae ah al aj)) (ae (bX (dU (N':=Nc_law_0) (n:=1) rfl rfl rfl (i4 10) dF (cD rfl T.range (ae ah al aj) (br aj)) (fun L cs s H fp=>(ba (i:=10) xJ rfl (Or.inl rfl))) (fun L cs s H fp=>cU) (fun L cs s H fp=>(a_ (ae ah (ae ah (ae (ay (EB.of (ay (ag (pv 1)) (EB.of ah))) (EB.of ah)) al ao) aj) aj))))) al bP) bL)))
 (aq (bh (ki (iT (ef (bj hr) (EB.of (aE fn_law_met (hr.mono (by decide)) rfl (ae (ai (pv 2)) (ae ah (ae (ai (pv 7)) (ae ah al aj) ac) aj) ac) (he:=ac) (hpl:=(ar aj (ar ac (ar aj ax)))))) (EB.of (eI (EB.of ah)))) (h9 (ef (bj hr) (EB.of (aE fn_law_met (hr.mono (by decide)) rfl (ae (ai (pv 2)) (ae ah (ae (ai (pv 7)) (ae ah al aj) ac) aj) ac) (he:=ac) (hpl:=(ar aj (ar ac (ar aj ax)))))) (EB.of (eI (EB.of ah)))))))
 (au (aU ol))
 aG)
 (aq (aT (i:=8) sc_law.nd rfl (Or.inl rfl) (aE fn_law_bad (hr.mono (by decide)) rfl (ae (ai (pv 0)) (ae (ai (pv 3)) (ae (ai (pv 4)) (ae (ai (pv 1)) al ac) ac) ac) ac) (he:=ac) (hpl:=(ar ac (ar ac (ar ac ax))))))
 (aq (bZ PassesOwn.never rfl (cD rfl T.range (ae ah al aj) (br aj)) (ba (i:=9) sc_law.nd rfl (Or.inl rfl))
 (au (bh (ef (bj hr) (EB.of (aE fn_law_met (hr.mono (by decide)) rfl (ae (ai (pv 2)) (ae (ai (pv 9)) (ae (ai (pv 8)) (ae (ai (pv 6)) al ac) ac) ac) ac) (he:=ac) (hpl:=(ar ac (ar ac (ar ac ax)))))) (EB.of ah))
 (au (aU ol))
 aG)))
 (aq (bh (ef (bj hr) (EB.of (aE fn_law_met (hr.mono (by decide)) rfl (ae (ai (pv 2)) (ae ah (ae (a_ (ae (ai (pv 3)) (ae (ai (pv 4)) al ac) ac)) (ae ah al aj) bO) aj) ac) (he:=ac) (hpl:=(ar aj (ar bO (ar aj ax)))))) (EB.of (eI (EB.of ah))))
 (au (aU ol))
 aG)
 (au (aU (yF (kH (bj hr) (EB.of (aE fn_law_met (hr.mono (by decide)) rfl (ae (ai (pv 2)) (ae ah (ae (a_ (ae (ai (pv 3)) (ae (ai (pv 4)) al ac) ac)) (ae (ai (pv 5)) al ac) bO) aj) ac) (he:=ac) (hpl:=(ar aj (ar bO (ar ac ax)))))) (EB.of ah)) (yC (kH (bj hr) (EB.of (aE fn_law_met (hr.mono (by decide)) rfl (ae (ai (pv 2)) (ae ah (ae (a_ (ae (ai (pv 3)) (ae (ai (pv 4)) al ac) ac)) (ae (ai (pv 5)) al ac) bO) aj) ac) (he:=ac) (hpl:=(ar aj (ar bO (ar ac ax)))))) (EB.of ah))))))))))))))))
end DL
namespace DL
open PySem L2 Ar
theorem d9 (a b:Int):aR [.int a,.int b]=.val (.bl (decide (0<=a) && decide (a < b))):=by
 simp only [aR,iG]
 show fin (ret _ [some (.shr (.int a)),some (.shr (.int b))])=_
 by_cases h:(0:Int)<=a <;> simp [h]
theorem h8 {a b:Nat} (h:a < b):aR [.int (a:Int),.int (b:Int)]=.val (.bl true):=by
 rw [d9];simp;exact h
section
variable {en:List (Nat × Nat)} {re:List Nat} {tb:List (List Int)}
theorem mq (h:bY en re tb):cz [dv en,aw re]=.val .non:=by
 have h1:=h.nb1;have h2:=h.nb6;have h3:=h.na1;have h4:=h.na40
 simp only [cz,fk]
 show fin (sq _ _ [some (.shr (dv en)),some (.shr (aw re))])=_
 have a1:(1:Int)<=re.length:=by omega
 have a2:(re.length:Int)<=6:=by omega
 have a3:(1:Int)<=en.length:=by omega
 have a4:(en.length:Int)<=40:=by omega
 simp [a1,a2,a3,a4]
theorem yB {k:Nat} {x:D} (e:(en.map eD)[k]?=some x):k < en.length/\x=eD (en.getD k (0,0)):=by
 have hk:k < en.length:=by have:=(List.getElem?_eq_some_iff.mp e).1;simpa using this
 rw [fD (d:=(0,0)) hk] at e
 exact ⟨hk,(Option.some.inj e).symm⟩
theorem Bz {k:Nat} {x:D} (e:(re.map nD)[k]?=some x):k < re.length/\x=nD (re.getD k 0):=by
 have hk:k < re.length:=by have:=(List.getElem?_eq_some_iff.mp e).1;simpa using this
 rw [fD (d:=0) hk] at e
 exact ⟨hk,(Option.some.inj e).symm⟩
theorem tq {k:Nat} {x:D} (e:(tb.map aL)[k]?=some x):k < tb.length/\x=aL (tb.getD k []):=by
 have hk:k < tb.length:=by have:=(List.getElem?_eq_some_iff.mp e).1;simpa using this
 rw [fD (d:=[]) hk] at e
 exact ⟨hk,(Option.some.inj e).symm⟩
theorem tG {r:List Int} {k:Nat} {x:D} (e:(r.map D.int)[k]?=some x):k < r.length/\x=.int (r.getD k (-1)):=by
 have hk:k < r.length:=by have:=(List.getElem?_eq_some_iff.mp e).1;simpa using this
 rw [fD (d:=-1) hk] at e
 exact ⟨hk,(Option.some.inj e).symm⟩
theorem keep {F:Rho->R Out} {ρ1:Rho} {I:Rho->Prop} (h:F ρ1=.val (.nx ρ1)) (hI:I ρ1):∃ ρ2,F ρ1=.val (.nx ρ2)/\I ρ2:=⟨ρ1,h,hI⟩
theorem iA {F:Rho->R Out} {i j:Nat} {xs:List D} {ρ:Rho} (I:Rho->Prop) (step:∀ (k:Nat) x ρ,xs[k]?=some x->I ρ->∃ ρ2,F ((ρ.set i (some (.shr (.int (k:Int))))).set j (some (.shr x)))=.val (.nx ρ2)/\I ρ2) (h:I ρ):fin (bK (tg2 i j) F (enu 0 xs) ρ)=.val .non:=by
 obtain ⟨ρ',e,_⟩:=nM I step h
 rw [e];rfl
theorem o0 (h:bY en re tb):dA [dv en,.int re.length]=.val .non:=by
 simp only [dA,gw]
 show fin (bK (tg2 2 3) _ (enu 0 (en.map eD)) [some (.shr (dv en)),some (.shr (.int re.length)),none,none])=_
 refine iA (fun ρ=>∃ a b,ρ=[some (.shr (dv en)),some (.shr (.int re.length)),a,b]) (fun k x ρ ex hI=>?_) ⟨none,none,rfl⟩
 obtain ⟨a,b,rfl⟩:=hI
 obtain ⟨hk,rfl⟩:=yB ex
 obtain ⟨b1,b2⟩:=h.eb k hk
 refine keep ?_ ⟨_,_,rfl⟩
 simp [-List.getD_eq_getElem?_getD,h8 b1,h8 b2]
theorem og (h:bY en re tb):c_ [dv en,aw re]=.val .non:=by
 simp only [c_,fJ]
 show fin (bK (tg2 2 3) _ (enu 0 (re.map nD)) [some (.shr (dv en)),some (.shr (aw re)),none,none])=_
 refine iA (fun ρ=>∃ a b,ρ=[some (.shr (dv en)),some (.shr (aw re)),a,b]) (fun k x ρ ex hI=>?_) ⟨none,none,rfl⟩
 obtain ⟨a,b,rfl⟩:=hI
 obtain ⟨hk,rfl⟩:=Bz ex
 obtain ⟨b1,b2⟩:=h.rs k hk
 have e2:fne (eD (en.getD (re.getD k 0) (0,0))) (.tup [.int (k:Int),.int (k:Int)])=.val (.bl false):=by
  rw [b2];exact hV (x:=eD (k,k)) (iq _)
 refine keep ?_ ⟨_,_,rfl⟩
 simp [-List.getD_eq_getElem?_getD,h8 b1,fW b1,e2]
theorem oZ (h:bY en re tb):dz [bC tb,.int en.length]=.val .non:=by
 simp only [dz,gv]
 have ht:=h.tl
 have:sq (DL.iff (tst (bin fne (una aA (vb 0)) (vb 1))) bad nxt) (bB (eQ (aC (vr 0) aN)) (tg2 2 3) (DL.iff (tst (bin fne (una aA (vb 3)) (vb 1))) bad nxt)) (st0 fX [bC tb,.int en.length])=bK (tg2 2 3) (DL.iff (tst (bin fne (una aA (vb 3)) (vb 1))) bad nxt) (enu 0 (tb.map aL)) [some (.shr (bC tb)),some (.shr (.int en.length)),none,none]:=by
  show sq _ _ [some (.shr (bC tb)),some (.shr (.int en.length)),none,none]=_
  simp [ht];rfl
 rw [this]
 refine iA (fun ρ=>∃ a b,ρ=[some (.shr (bC tb)),some (.shr (.int en.length)),a,b]) (fun k x ρ ex hI=>?_) ⟨none,none,rfl⟩
 obtain ⟨a,b,rfl⟩:=hI
 obtain ⟨hk,rfl⟩:=tq ex
 have b1:=h.rl k (by omega)
 refine keep ?_ ⟨_,_,rfl⟩
 simp [-List.getD_eq_getElem?_getD,b1]
theorem oh (h:bY en re tb) {i j:Nat} (hi:i < en.length) (hj:j < en.length):da [dv en,.int (i:Int),.int (j:Int),.int ((tb.getD i []).getD j (-1))]=.val .non:=by
 simp only [da,fL]
 show fin (DL.iff _ _ _ [some (.shr (dv en)),some (.shr (.int (i:Int))),some (.shr (.int (j:Int))),some (.shr (.int ((tb.getD i []).getD j (-1))))])=_
 by_cases e:(en.getD i (0,0)).2=(en.getD j (0,0)).1
 ·obtain ⟨k,k1,k2,k3⟩:=h.tp i j hi hj e
  have e2:fne (eD (en.getD k (0,0))) (.tup [nD (en.getD i (0,0)).1,nD (en.getD j (0,0)).2])=.val (.bl false):=by
   rw [k3];exact hV (x:=eD _) (iq _)
  rw [k2]
  simp [-List.getD_eq_getElem?_getD,fW hi,fW hj,e,h8 k1,fW k1,e2]
 ·have e1:=h.tn i j hi hj e
  have e':((en.getD i (0,0)).2:Int) ≠ ((en.getD j (0,0)).1:Int):=by omega
  rw [e1]
  simp [-List.getD_eq_getElem?_getD,fW hi,fW hj,e']
theorem oa (h:bY en re tb):cZ [dv en,bC tb]=.val .non:=by
 simp only [cZ,fI]
 show fin (bK (tg2 2 3) _ (enu 0 (tb.map aL)) [some (.shr (dv en)),some (.shr (bC tb)),none,none,none,none])=_
 refine iA (fun ρ=>∃ a b c d,ρ=[some (.shr (dv en)),some (.shr (bC tb)),a,b,c,d]) (fun k x ρ ex hI=>?_) ⟨none,none,none,none,rfl⟩
 obtain ⟨a,b,c,d,rfl⟩:=hI
 obtain ⟨hk,rfl⟩:=tq ex
 have hk':k < en.length:=by have:=h.tl;omega
 show ∃ ρ2,bK (tg2 4 5) _ (enu 0 ((tb.getD k []).map D.int)) [some (.shr (dv en)),some (.shr (bC tb)),some (.shr (.int (k:Int))),some (.shr (aL (tb.getD k []))),c,d]=_/\_
 have:=nM (i:=4) (j:=5) (F:=drp (cal 4 da (aC (vr 0) (aC (vr 2) (aC (vr 4) (aC (vr 5) aN)))))) (fun ρ=>∃ c d,ρ=[some (.shr (dv en)),some (.shr (bC tb)),some (.shr (.int (k:Int))),some (.shr (aL (tb.getD k []))),c,d]) (xs:=(tb.getD k []).map D.int) (fun m x ρ ex hI=>?_) (ρ:=[some (.shr (dv en)),some (.shr (bC tb)),some (.shr (.int (k:Int))),some (.shr (aL (tb.getD k []))),c,d]) ⟨c,d,rfl⟩
 ·obtain ⟨ρ',e,c',d',rfl⟩:=this
  exact ⟨_,e,_,_,_,_,rfl⟩
 ·obtain ⟨c,d,rfl⟩:=hI
  obtain ⟨hm,rfl⟩:=tG ex
  have hm':m < en.length:=by rw [h.rl k hk'] at hm;exact hm
  refine keep ?_ ⟨_,_,rfl⟩
  simp [-List.getD_eq_getElem?_getD,oh h hk' hm']
theorem pN (h:bY en re tb) {i j:Nat} (hi:i < en.length) (hj:j < en.length):(tb.getD i []).getD j (-1)=-1\/∃ k:Nat,k < en.length/\(tb.getD i []).getD j (-1)=(k:Int):=by
 by_cases e:(en.getD i (0,0)).2=(en.getD j (0,0)).1
 ·obtain ⟨k,k1,k2,_⟩:=h.tp i j hi hj e
  exact .inr ⟨k,k1,k2⟩
 ·exact .inl (h.tn i j hi hj e)
theorem AA (h:bY en re tb) {i j k:Nat} (hi:i < en.length) (hj:j < en.length) (e:(tb.getD i []).getD j (-1)=(k:Int)):(en.getD i (0,0)).2=(en.getD j (0,0)).1/\k < en.length/\en.getD k (0,0)=((en.getD i (0,0)).1,(en.getD j (0,0)).2):=by
 by_cases e0:(en.getD i (0,0)).2=(en.getD j (0,0)).1
 ·obtain ⟨k',k1,k2,k3⟩:=h.tp i j hi hj e0
  have:k'=k:=by rw [k2] at e;omega
  subst this
  exact ⟨e0,k1,k3⟩
 ·rw [h.tn i j hi hj e0] at e;omega
theorem iR (h:bY en re tb):bq [dv en,aw re,bC tb]=.val .non:=by
 simp only [bq,dn]
 show fin (bK (tg2 3 4) _ (enu 0 (en.map eD)) [some (.shr (dv en)),some (.shr (aw re)),some (.shr (bC tb)),none,none])=_
 refine iA (fun ρ=>∃ a b,ρ=[some (.shr (dv en)),some (.shr (aw re)),some (.shr (bC tb)),a,b]) (fun k x ρ ex hI=>?_) ⟨none,none,rfl⟩
 obtain ⟨a,b,rfl⟩:=hI
 obtain ⟨hk,rfl⟩:=yB ex
 obtain ⟨b1,b2⟩:=h.eb k hk
 have r1:=(h.rs _ b1).1
 have r2:=(h.rs _ b2).1
 have u1:=h.ul k hk
 have u2:=h.ur k hk
 have ht:=h.tl
 have t1:=iw (tb:=tb) (show re.getD (en.getD k (0,0)).1 0 < tb.length by omega)
 have t2:=iw (tb:=tb) (show k < tb.length by omega)
 have t3:=iz (r:=tb.getD (re.getD (en.getD k (0,0)).1 0) []) (i:=k) (by rw [h.rl _ r1];exact hk)
 have t4:=iz (r:=tb.getD k []) (i:=re.getD (en.getD k (0,0)).2 0) (by rw [h.rl _ hk];exact r2)
 refine keep ?_ ⟨_,_,rfl⟩
 simp [-List.getD_eq_getElem?_getD,dS b1,dS b2,t1,t2,t3,t4,u1,u2]
theorem mn (h:bY en re tb) {i j x:Nat} (hi:i < en.length) (hj:j < en.length) (e:(tb.getD i []).getD j (-1)=(x:Int)):cy [bC tb,.int (i:Int),.int (j:Int),.int (x:Int)]=.val .non:=by
 simp only [cy,fj]
 have ht:=h.tl
 obtain ⟨_,hx,_⟩:=AA h hi hj e
 have t1:=iw (tb:=tb) (show i < tb.length by omega)
 have t2:=iw (tb:=tb) (show j < tb.length by omega)
 have t3:=iw (tb:=tb) (show x < tb.length by omega)
 have:∀ F,bB (eQ (aC (bin fix (vb 0) (vb 2)) aN)) (tg2 4 5) F (st0 eP [bC tb,.int (i:Int),.int (j:Int),.int (x:Int)])=bK (tg2 4 5) F (enu 0 ((tb.getD j []).map D.int)) [some (.shr (bC tb)),some (.shr (.int (i:Int))),some (.shr (.int (j:Int))),some (.shr (.int (x:Int))),none,none]:=fun F=>by
  show bB _ _ F [some (.shr (bC tb)),some (.shr (.int (i:Int))),some (.shr (.int (j:Int))),some (.shr (.int (x:Int))),none,none]=_
  simp [-List.getD_eq_getElem?_getD,t2];rfl
 rw [this]
 refine iA (fun ρ=>∃ a b,ρ=[some (.shr (bC tb)),some (.shr (.int (i:Int))),some (.shr (.int (j:Int))),some (.shr (.int (x:Int))),a,b]) (fun k d ρ ex hI=>?_) ⟨none,none,rfl⟩
 obtain ⟨a,b,rfl⟩:=hI
 obtain ⟨hk,rfl⟩:=tG ex
 rw [h.rl j hj] at hk
 refine keep ?_ ⟨_,_,rfl⟩
 rcases pN h hj hk with ey | ⟨y,hy,ey⟩
 ·rw [ey];simp
 ·rw [ey]
  have as:=h.as i j k x y hi hj hk e ey
  have t4:=iz (r:=tb.getD x []) (i:=k) (by rw [h.rl _ hx];exact hk)
  have t5:=iz (r:=tb.getD i []) (i:=y) (by rw [h.rl _ hi];exact hy)
  have ny:(y:Int) ≠ -1:=by omega
  simp [-List.getD_eq_getElem?_getD,t1,t3,t4,t5,as,ny]
theorem ml (h:bY en re tb):cx [bC tb]=.val .non:=by
 simp only [cx,fi]
 show fin (bK (tg2 1 2) _ (enu 0 (tb.map aL)) [some (.shr (bC tb)),none,none,none,none])=_
 refine iA (fun ρ=>∃ a b c d,ρ=[some (.shr (bC tb)),a,b,c,d]) (fun k x ρ ex hI=>?_) ⟨none,none,none,none,rfl⟩
 obtain ⟨a,b,c,d,rfl⟩:=hI
 obtain ⟨hk,rfl⟩:=tq ex
 have hk':k < en.length:=by have:=h.tl;omega
 have:=nM (i:=3) (j:=4) (F:=DL.iff (tst (bin fne (vb 4) (una dE (kd (.int 1))))) (drp (cal 4 cy (aC (vr 0) (aC (vr 1) (aC (vr 3) (aC (vr 4) aN)))))) nxt) (fun ρ=>∃ c d,ρ=[some (.shr (bC tb)),some (.shr (.int (k:Int))),some (.shr (aL (tb.getD k []))),c,d]) (xs:=(tb.getD k []).map D.int) (fun m x ρ ex hI=>?_) (ρ:=[some (.shr (bC tb)),some (.shr (.int (k:Int))),some (.shr (aL (tb.getD k []))),c,d]) ⟨c,d,rfl⟩
 ·obtain ⟨ρ',e,c',d',rfl⟩:=this
  exact ⟨_,e,_,_,_,_,rfl⟩
 ·obtain ⟨c,d,rfl⟩:=hI
  obtain ⟨hm,rfl⟩:=tG ex
  have hm':m < en.length:=by rw [h.rl k hk'] at hm;exact hm
  refine keep ?_ ⟨_,_,rfl⟩
  rcases pN h hk' hm' with ey | ⟨y,hy,ey⟩
  ·rw [ey];simp
  ·have:=mn h hk' hm' ey
   rw [ey]
   have ny:(y:Int) ≠ -1:=by omega
   simp [-List.getD_eq_getElem?_getD,this,ny]
theorem Az (h:bY en re tb):jh (jI (dv en) (aw re) (bC tb))=.val (.ob (dv en) (aw re) (bC tb)):=by
 have n1:=h.na40
 have n2:=h.tl
 have hf:bI (fIt (vr 3)) 1 (tgN 4) tT (eLs (fIt (vb 4))) (jI (dv en) (aw re) (bC tb))=.val (tb.map aL):=gm (f:=aL) rfl (by omega) fun r _=>rfl
 unfold jh AH
 rw [hf]
 unfold jI
 simp [-List.getD_eq_getElem?_getD,wH,mq h,o0 h,og h,oZ h,oa h,iR h,ml h]
 rfl
end
theorem kF (ns:List Int) (k:Nat):∃ c:Int,av [.scr ns,.int (k:Int)]=.val (.int c):=by
 simp only [av,iF]
 have m1:∀ i:Int,aK i 65521=.val (.int (i % 65521)):=fun i=>fu (by decide)
 have m2:∀ i:Int,dM i 48271=.val (.int (i * 48271)):=fun i=>kC (by decide)
 have m3:∀ i:Int,dM i 30103=.val (.int (i * 30103)):=fun i=>kC (by decide)
 show ∃ c,fin (sq _ _ [some (.shr (.scr ns)),some (.shr (.int (k:Int))),none])=_
 have t1:tst (bin (iI flt) (vb 1) (una aA (vb 0))) [some (.shr (.scr ns)),some (.shr (.int (k:Int))),none]=.val (decide ((k:Int) < (ns.length:Int))):=Eq.trans rfl rfl
 rw [aW,bW,t1,af]
 by_cases h:k < ns.length
 ·have e:fix (.scr ns) (.int (k:Int))=.val (.int ns[k]):=Bb (List.getElem?_eq_getElem h)
  refine ⟨ns[k],?_⟩
  rw [if_pos (decide_eq_true (Int.ofNat_lt.mpr h)),cW,aD]
  show fin (R.bind (R.bind (fix (.scr ns) (.int (k:Int))) _) _)=_
  rw [e];rfl
 ·rw [if_neg (by rw [decide_eq_false (fun z=>h (Int.ofNat_lt.mp z))];decide),iZ,af]
  dsimp only
  have t2:tst (bin (iI fgt) (una aA (vb 0)) (kd (.int 0))) [some (.shr (.scr ns)),some (.shr (.int (k:Int))),some (.shr (.int 0))]=.val (decide ((0:Int) < (ns.length:Int))):=Eq.trans rfl rfl
  have last:∀ b:Int,ret (bin (iI aK) (bin aV (bin (iI dM) (bin (iI aK) (vb 2) (kd (.int 65521))) (kd (.int 48271))) (bin (iI dM) (vb 1) (kd (.int 30103)))) (kd (.int 65521))) [some (.shr (.scr ns)),some (.shr (.int (k:Int))),some (.shr (.int b))]=.val (.rt (.int ((b % 65521 * 48271 + k * 30103) % 65521))):=fun b=>by
   have v2:vb 2 [some (.shr (.scr ns)),some (.shr (.int (k:Int))),some (.shr (.int b))]=.val (.int b):=Eq.trans rfl rfl
   have v1:vb 1 [some (.shr (.scr ns)),some (.shr (.int (k:Int))),some (.shr (.int b))]=.val (.int (k:Int)):=Eq.trans rfl rfl
   rw [cW,aD _ (iI aK),aD _ aV,aD _ (iI dM),aD _ (iI aK),v2,af,cY,af,dX,m1,af,cY,af,dX,m2,af,aD _ (iI dM),v1,af,cY,af,dX,m3,af,jD,af,af,dX,m1,af]
  have a2:asg 2 (kd (.int 0)) [some (.shr (.scr ns)),some (.shr (.int (k:Int))),none]=.val (.nx [some (.shr (.scr ns)),some (.shr (.int (k:Int))),some (.shr (.int 0))]):=Eq.trans rfl rfl
  rw [aW,a2,af]
  dsimp only
  rw [aW,bW,t2,af]
  by_cases h0:0 < ns.length
  ·have e:fix (.scr ns) (.int 0)=.val (.int ns[0]):=Bb (i:=0) (List.getElem?_eq_getElem h0)
   refine ⟨(ns[0] % 65521 * 48271 + k * 30103) % 65521,?_⟩
   rw [if_pos (decide_eq_true (show (0:Int) < (ns.length:Int) from Int.ofNat_lt.mpr h0)),fO,aD]
   show fin (R.bind (R.bind (fix (.scr ns) (.int 0)) _) _)=_
   rw [e]
   show fin (ret _ [some (.shr (.scr ns)),some (.shr (.int (k:Int))),some (.shr (.int ns[0]))])=_
   rw [last];rfl
  ·refine ⟨(0 % 65521 * 48271 + k * 30103) % 65521,?_⟩
   rw [if_neg (by rw [decide_eq_false (fun (z:(0:Int) < (ns.length:Int))=>h0 (Int.ofNat_lt.mp z))];decide),iZ,af]
   dsimp only
   rw [last];rfl
theorem kE (s:Int):∃ c:Int,aQ [.int s]=.val (.int c):=by
 simp only [aQ,iD]
 have m1:∀ i:Int,aK i 2147483647=.val (.int (i % 2147483647)):=fun i=>fu (by decide)
 have m2:∀ i:Int,dM i 48271=.val (.int (i * 48271)):=fun i=>kC (by decide)
 show ∃ c,fin (ret _ [some (.shr (.int s))])=_
 refine ⟨(s * 48271 + 11) % 2147483647,?_⟩
 simp [m1,m2]
theorem wU (m:Nat) (h:m=1\/m=2\/m=3\/m=4):∃ sz ∈ szs,D.lst ((List.range m).map fun _=>D.int 1)=aw sz:=by
 rcases h with rfl | rfl | rfl | rfl
 ·exact ⟨[1],by decide,rfl⟩
 ·exact ⟨[1,1],by decide,rfl⟩
 ·exact ⟨[1,1,1],by decide,rfl⟩
 ·exact ⟨[1,1,1,1],by decide,rfl⟩
def l6:List (List Nat):=[[1,2],[2,1],[2,2],[0,2],[2],[1]]
def l5:List (List Nat):=[[1,1,2],[0,1,2],[1,2,2],[2,1,0],[2,2]]
theorem DS:∀ i,i < 6->l6.getD i [] ∈ szs:=by decide
theorem DT:∀ i,i < 5->l5.getD i [] ∈ szs:=by decide
theorem ja (c:Int) (m:Nat) (h:0 < m):∃ i:Nat,i < m/\c % (m:Int)=(i:Int):=by
 have h':(0:Int) < (m:Int):=Int.ofNat_lt.mpr h
 obtain ⟨i,e⟩:=Int.eq_ofNat_of_zero_le (Int.emod_nonneg c (Int.ne_of_gt h'))
 refine ⟨i,?_,e⟩
 have:=Int.emod_lt_of_pos c h'
 rw [e] at this
 exact Int.ofNat_lt.mp this
theorem yr (ns:List Int) (k:Nat):∃ sz ∈ szs,dW [.scr ns,.int (k:Int)]=.val (aw sz):=by
 simp only [dW,gO]
 obtain ⟨c,hc⟩:=kF ns k
 have d4:df c 4=.val (.int (c / 4)):=kD (by decide)
 show ∃ sz ∈ szs,fin (sq _ _ [some (.shr (.scr ns)),some (.shr (.int (k:Int))),none,none])=_
 have x1:asg 2 (cal 2 av (aC (vr 0) (aC (vr 1) aN))) [some (.shr (.scr ns)),some (.shr (.int (k:Int))),none,none]=.val (.nx [some (.shr (.scr ns)),some (.shr (.int (k:Int))),some (.shr (.int c)),none]):=by
  rw [fO,yQ]
  show R.bind (noex (av [.scr ns,.int (k:Int)])) _=_
  rw [hc];rfl
 have x2:asg 3 (bin (iI aK) (vb 2) (kd (.int 4))) [some (.shr (.scr ns)),some (.shr (.int (k:Int))),some (.shr (.int c)),none]=.val (.nx [some (.shr (.scr ns)),some (.shr (.int (k:Int))),some (.shr (.int c)),some (.shr (.int (c % 4)))]):=by
  rw [fO,aD]
  show R.bind (aK c 4) _=_
  rw [fu (by decide)];rfl
 rw [aW,x1,af];dsimp only
 rw [aW,x2,af];dsimp only
 have ix:∀ (w:Int) (m:Int),0 < m->bin (iI aK) (bin (iI df) (vb 2) (kd (.int 4))) (kd (.int m)) [some (.shr (.scr ns)),some (.shr (.int (k:Int))),some (.shr (.int c)),some (.shr (.int w))]=.val (.int (c / 4 % m)):=fun w m hm=>by
  rw [aD,aD]
  show R.bind (df c 4) _=_
  rw [d4]
  show aK (c / 4) m=_
  exact fu hm
 have ts:∀ (w:Int) (m:Int),tst (bin feq (vb 3) (kd (.int m))) [some (.shr (.scr ns)),some (.shr (.int (k:Int))),some (.shr (.int c)),some (.shr (.int w))]=.val (decide (w=m)):=fun w m=>by
  rw [bT,aD]
  show R.bind (feq (.int w) (.int m)) asB=_
  rw [gj];rfl
 obtain ⟨i,hi,ei⟩:=ja c 4 (by decide)
 have ei:c % 4=(i:Int):=ei
 rw [ei]
 match i,hi with
 | 0,_ =>
  obtain ⟨j,hj,ej⟩:=ja (c / 4) 4 (by decide)
  have ej:c / 4 % 4=(j:Int):=ej
  have hz:oO [.int (1 + c / 4 % 4)]=.val (rng 0 (1 + j)):=by
   rw [ej]
   have:=dq (n:=1 + j) (Nat.le_trans (Nat.add_le_add_left (Nat.le_of_lt hj) 1) (by decide))
   rw [Int.natCast_add] at this
   exact this
  have hf:bI (cP (aC (bin aV (kd (.int 1)) (bin (iI aK) (bin (iI df) (vb 2) (kd (.int 4))) (kd (.int 4)))) aN)) 1 (tgN 4) tT (kd (.int 1)) [some (.shr (.scr ns)),some (.shr (.int (k:Int))),some (.shr (.int c)),some (.shr (.int ((0:Nat):Int)))]=.val ((List.range (1 + j)).map fun _=>D.int 1):=by
   refine gl ?_ (Nat.le_trans (Nat.add_le_add_left (Nat.le_of_lt hj) 1) (by decide)) fun k _=>rfl
   rw [gF,aI,aD,cY,af,ix _ 4 (by decide),af,jD,af,gJ,af,af,hz]
  obtain ⟨sz,hs,e⟩:=wU (1 + j) (by
   match j,hj with
   | 0,_=>exact .inl rfl
   | 1,_=>exact .inr (.inl rfl)
   | 2,_=>exact .inr (.inr (.inl rfl))
   | 3,_=>exact .inr (.inr (.inr rfl)))
  refine ⟨sz,hs,?_⟩
  rw [aW,bW,ts,af,if_pos (by decide),cW,cr,hf,af,af,af]
  exact congrArg R.val e
 | 1,_ =>
  obtain ⟨j,hj,ej⟩:=ja (c / 4) 6 (by decide)
  have ej:c / 4 % 6=(j:Int):=ej
  refine ⟨_,DS j hj,?_⟩
  have el:eL (aC (eL (aC (kd (.int 1)) (aC (kd (.int 2)) aN))) (aC (eL (aC (kd (.int 2)) (aC (kd (.int 1)) aN))) (aC (eL (aC (kd (.int 2)) (aC (kd (.int 2)) aN))) (aC (eL (aC (kd (.int 0)) (aC (kd (.int 2)) aN))) (aC (eL (aC (kd (.int 2)) aN)) (aC (eL (aC (kd (.int 1)) aN)) aN)))))) [some (.shr (.scr ns)),some (.shr (.int (k:Int))),some (.shr (.int c)),some (.shr (.int ((1:Nat):Int)))]=.val (.lst (l6.map aw)):=Eq.trans rfl rfl
  rw [aW,bW,ts,af,if_neg (by decide),iZ,af];dsimp only
  rw [aW,bW,ts,af,if_pos (by decide),cW,aD,el,af,ix _ 6 (by decide),af,ej,i7 (fD (d:=[]) hj)]
  rfl
 | 2,_ =>
  refine ⟨[3],by decide,?_⟩
  rw [aW,bW,ts,af,if_neg (by decide),iZ,af];dsimp only
  rw [aW,bW,ts,af,if_neg (by decide),iZ,af];dsimp only
  rw [aW,bW,ts,af,if_pos (by decide)]
  exact Eq.trans rfl rfl
 | 3,_ =>
  obtain ⟨j,hj,ej⟩:=ja (c / 4) 5 (by decide)
  have ej:c / 4 % 5=(j:Int):=ej
  refine ⟨_,DT j hj,?_⟩
  have el:eL (aC (eL (aC (kd (.int 1)) (aC (kd (.int 1)) (aC (kd (.int 2)) aN)))) (aC (eL (aC (kd (.int 0)) (aC (kd (.int 1)) (aC (kd (.int 2)) aN)))) (aC (eL (aC (kd (.int 1)) (aC (kd (.int 2)) (aC (kd (.int 2)) aN)))) (aC (eL (aC (kd (.int 2)) (aC (kd (.int 1)) (aC (kd (.int 0)) aN)))) (aC (eL (aC (kd (.int 2)) (aC (kd (.int 2)) aN))) aN))))) [some (.shr (.scr ns)),some (.shr (.int (k:Int))),some (.shr (.int c)),some (.shr (.int ((3:Nat):Int)))]=.val (.lst (l5.map aw)):=Eq.trans rfl rfl
  rw [aW,bW,ts,af,if_neg (by decide),iZ,af];dsimp only
  rw [aW,bW,ts,af,if_neg (by decide),iZ,af];dsimp only
  rw [aW,bW,ts,af,if_neg (by decide),iZ,af];dsimp only
  rw [cW,aD,el,af,ix _ 5 (by decide),af,ej,i7 (fD (d:=[]) hj)]
  rfl
def hJ (x:Arr):KA:=((x.1:Int),(x.2.1:Int),x.2.2.map fun (n:Nat)=>(n:Int))
theorem pI:∀ l:List Nat,hU (l.map nD)=some (l.map fun (n:Nat)=>(n:Int))
 | []=>rfl
 | a :: l=>by
  show (hU (l.map nD)).map _=_
  rw [pI l];rfl
theorem hE (x:Arr):oX (aB x)=some (hJ x):=by
 show (hU (x.2.2.map nD)).map _=_
 rw [pI];rfl
theorem nQ {x y:Arr} (h:hJ x=hJ y):x=y:=by
 obtain ⟨a,b,l⟩:=x
 obtain ⟨c,d,m⟩:=y
 simp only [hJ,Prod.mk.injEq] at h
 obtain ⟨h1,h2,h3⟩:=h
 have e3:l=m:=by
  have:∀ {l m:List Nat},(l.map fun (n:Nat)=>(n:Int))=(m.map fun (n:Nat)=>(n:Int))->l=m:=by
   intro l
   induction l with
   | nil=>intro m h;cases m with
    | nil=>rfl
    | cons _ _=>simp at h
   | cons a l ih=>intro m h;cases m with
    | nil=>simp at h
    | cons b m =>
     simp only [List.map_cons,List.cons.injEq] at h
     rw [ih h.2];congr 1;omega
  exact this h3
 rw [e3,show a=c by omega,show b=d by omega]
def met (kn:List Arr):List (KA × D):=kn.map fun x=>(hJ x,.bl true)
theorem u_ (kn:List Arr) (x:Arr):((met kn).any fun p=>decide (p.1=hJ x))=decide (x ∈ kn):=by
 unfold met
 rw [List.any_map]
 by_cases h:x ∈ kn
 ·rw [decide_eq_true h,List.any_eq_true]
  exact ⟨x,h,by simp⟩
 ·rw [decide_eq_false h,List.any_eq_false]
  intro y hy
  simp only [Function.comp,decide_eq_true_eq]
  exact fun e=>h (nQ e ▸ hy)
theorem u8 {kn:List Arr} {x:Arr} (h:x ∉ kn):nP (met kn) (hJ x) (.bl true)=met (kn ++ [x]):=by
 unfold nP
 rw [u_,decide_eq_false h,if_neg (by decide)]
 unfold met
 rw [List.map_append];rfl
theorem vd:∀ (l acc:List Arr),(acc ++ l).Nodup->(acc ++ l).length<=100000->r_ (l.map aB) (met acc)=some (met (acc ++ l))
 | [],acc,_,_=>by rw [List.append_nil];rfl
 | x :: l,acc,nd,hl=>by
  have hx:x ∉ acc:=fun h=>by
   rw [List.nodup_append] at nd
   exact nd.2.2 x h x (by simp) rfl
  have e:acc ++ x :: l=(acc ++ [x]) ++ l:=by simp
  rw [List.map_cons]
  unfold r_
  rw [hE]
  dsimp only
  have hl1:(met acc).length<=100000:=by unfold met;rw [List.length_map];simp at hl;omega
  rw [if_pos hl1,u8 hx,e]
  exact vd l (acc ++ [x]) (by rw [<- e];exact nd) (by rw [<- e];exact hl)
section
variable (ρ:Rho)
@[simp] theorem vH (i:Nat):yI i ρ=.val (.nx (ρ.set i (some (.dic [])))):=Eq.trans rfl rfl
theorem jo {i:Nat} {e:Rho->R D} {xs:List D} {d:D} (h:ρ[i]?=some (some (.own xs))) (he:e ρ=.val d) (hl:xs.length < 100000):app i e ρ=.val (.nx (ρ.set i (some (.own (xs ++ [d]))))):=by
 unfold app;rw [h];dsimp only;rw [he,af,if_pos (show xs.length < LIM from hl)]
theorem yc {i:Nat} {k e:Rho->R D} {xs:List D} {n:Nat} {d:D} (h:ρ[i]?=some (some (.own xs))) (hk:k ρ=.val (.int (n:Int))) (he:e ρ=.val d) (hn:n<=xs.length) (hl:xs.length < 100000):ins i k e ρ=.val (.nx (ρ.set i (some (.own (xs.take n ++ d :: xs.drop n))))):=by
 unfold ins;rw [h];dsimp only;rw [hk,af,he,af];dsimp only
 rw [if_pos ⟨by omega,by omega,(show xs.length < LIM from hl)⟩];rfl
theorem vG {i:Nat} {k e:Rho->R D} {kvs:List (KA × D)} {kd d:D} {ka:KA} (h:ρ[i]?=some (some (.dic kvs))) (hk:k ρ=.val kd) (he:e ρ=.val d) (ek:oX kd=some ka) (hl:kvs.length<=100000):qJ i k e ρ=.val (.nx (ρ.set i (some (.dic (nP kvs ka d))))):=by
 unfold qJ;rw [he,af,hk,qk,af,ek];dsimp only;rw [h];dsimp only;rw [if_pos hl]
theorem vI {i:Nat} {k:Rho->R D} {kvs:List (KA × D)} {kd d:D} {ka:KA} (h:ρ[i]?=some (some (.dic kvs))) (hk:k ρ=.val kd) (ek:oX kd=some ka) (hg:t6 kvs ka=some d):qL i k ρ=.val d:=by
 unfold qL;rw [h];dsimp only;rw [hk,af,ek];dsimp only;rw [hg]
theorem AG {i:Nat} {k:Rho->R D} {kvs:List (KA × D)} {kd:D} {ka:KA} (h:ρ[i]?=some (some (.dic kvs))) (hk:k ρ=.val kd) (ek:oX kd=some ka):yH i k ρ=.val (!(kvs.any fun p=>decide (p.1=ka))):=by
 unfold yH;rw [hk,af,h];dsimp only;rw [ek]
end
def rC (kn:List Arr) (a:Nat) (o f s m:Option Slt):Rho:=[some (.own (kn.map aB)),some (.dic (met kn)),none,some (.shr (nD a)),o,f,s,m]
abbrev oH:Rho->R Out:=DL.iff (tst (bin feq (bin fix (vb 5) (kd (.int 1))) (bin fix (vb 6) (kd (.int 0)))))
 (sq (asg 7 (eT (aC (bin fix (vb 5) (kd (.int 0))) (aC (bin fix (vb 6) (kd (.int 1))) (aC (una jJ (eLs (bI (fIt (bin fix (vb 5) (kd (.int 2)))) 1 (tgN 8) tT (bin fix (bin fix (vb 6) (kd (.int 2))) (vb 8))))) aN)))))
 (DL.iff (yH 1 (vr 7))
 (sq (qJ 1 (vr 7) (kd (.bl true)))
 (app 0 (vr 7)))
 nxt))
 nxt
theorem Cj {sz:List Nat} {f s:Arr} (hf:Ok sz f) (hs:Ok sz s) (e:f.2.1=s.1):∀ i ∈ f.2.2,i < s.2.2.length:=by
 obtain ⟨n,m,h1,h2,h3,h4⟩:=hf
 obtain ⟨n',m',g1,g2,g3,g4⟩:=hs
 have hm:m=n':=by rw [e] at h2;rw [h2] at g1;exact Option.some.inj g1
 intro i hi
 rw [g3,<- hm];exact h4 i hi
theorem Ci {sz:List Nat} (hz:sz ∈ szs) {f:Arr} (hf:Ok sz f):f.2.2.length<=3:=by
 obtain ⟨n,m,h1,h2,h3,h4⟩:=hf
 rw [h3]
 exact (ju sz hz).2.2 n (List.mem_of_getElem? h1)
theorem Kn.few {sz kn} (hz:sz ∈ szs) (g:Kn sz kn):kn.length<=27 :=
 Nat.le_trans (gM g.nd fun x hx=>sd (g.ok x hx)) (rq sz hz)
theorem vK {sz:List Nat} (hz:sz ∈ szs) {f s:Arr} (hf:Ok sz f) (hs:Ok sz s) (e:f.2.1=s.1) {src:Rho->R (List D)} {el:Rho->R D} {ρ:Rho} {i:Nat} (h1:src ρ=.val (f.2.2.map nD)) (h2:∀ k:Nat,el ((ρ ++ List.replicate 1 none).set i (some (.shr (nD k))))=fix (.tup (s.2.2.map nD)) (.int (k:Int))) :
  bI src 1 (tgN i) tT el ρ=.val ((comp f s).2.2.map nD):=by
 have hl:=Ci hz hf
 have:=gm (f:=nD) (g:=fun k=>nD (s.2.2.getD k 0)) (n:=1) (i:=i) (e:=el) h1 (by omega) fun k hk=>by
  rw [h2 k]
  exact vn (fD (Cj hf hs e k hk))
 rw [this]
 simp only [comp,List.map_map];rfl
theorem sJ {sz kn:List _} (hz:sz ∈ szs) (hk:Kn sz kn) {f s:Arr} (hf:Ok sz f) (hs:Ok sz s) (a:Nat) (o m:Option Slt) :
  ∃ m',oH (rC kn a o (some (.shr (aB f))) (some (.shr (aB s))) m)=.val (.nx (rC (iU kn f s) a o (some (.shr (aB f))) (some (.shr (aB s))) m')):=by
 have few:=Kn.few hz hk
 unfold iU
 by_cases e:f.2.1=s.1
 ·rw [if_pos e]
  have hc:=vK hz hf hs e (src:=fIt (bin fix (vb 5) (kd (.int 2)))) (el:=bin fix (bin fix (vb 6) (kd (.int 2))) (vb 8)) (i:=8) (ρ:=rC kn a o (some (.shr (aB f))) (some (.shr (aB s))) m) (by simp [rC]) (fun k=>by simp [rC])
  refine ⟨some (.shr (aB (comp f s))),?_⟩
  have ht:tst (bin feq (bin fix (vb 5) (kd (.int 1))) (bin fix (vb 6) (kd (.int 0)))) (rC kn a o (some (.shr (aB f))) (some (.shr (aB s))) m)=.val true:=by
   unfold rC;simp [e]
  have hv:eT (aC (bin fix (vb 5) (kd (.int 0))) (aC (bin fix (vb 6) (kd (.int 1))) (aC (una jJ (eLs (bI (fIt (bin fix (vb 5) (kd (.int 2)))) 1 (tgN 8) tT (bin fix (bin fix (vb 6) (kd (.int 2))) (vb 8))))) aN))) (rC kn a o (some (.shr (aB f))) (some (.shr (aB s))) m)=.val (aB (comp f s)):=by
   simp only [eR,aI,jP,cr,hc]
   unfold rC;simp;rfl
  show DL.iff _ _ _ _=_
  rw [bW,ht,af,if_pos rfl,aW,fO,hv]
  show DL.iff _ _ _ (rC kn a o (some (.shr (aB f))) (some (.shr (aB s))) (some (.shr (aB (comp f s)))))=_
  unfold o8
  rw [bW,AG (kvs:=met kn) _ rfl (kd:=aB (comp f s)) rfl (hE _),u_]
  by_cases hin:comp f s ∈ kn
  ·rw [if_pos hin,decide_eq_true hin];rfl
  ·rw [if_neg hin,decide_eq_false hin]
   show sq _ _ _=_
   rw [aW,vG (kvs:=met kn) _ rfl (kd:=aB (comp f s)) rfl (d:=.bl true) rfl (hE _) (by unfold met;rw [List.length_map];omega),u8 hin]
   rw [af]
   dsimp only
   rw [jo (xs:=kn.map aB) _ rfl (d:=aB (comp f s)) rfl (by rw [List.length_map];omega)]
   unfold rC
   rw [List.map_append];rfl
 ·rw [if_neg e]
  refine ⟨m,?_⟩
  have e':¬ ((f.2.1:Int)=(s.1:Int)):=by omega
  unfold rC
  simp [e']
abbrev tw:Rho->R (List D):=fIt (eL (aC (eT (aC (bin fix (vb 0) (vb 3)) (aC (vr 4) aN))) (aC (eT (aC (vr 4) (aC (bin fix (vb 0) (vb 3)) aN))) aN)))
theorem Aq {sz kn:List _} (hz:sz ∈ szs) (hk:Kn sz kn) {a:Nat} {k o:Arr} (ha:kn[a]?=some k) (ho:Ok sz o) (f s m:Option Slt) :
  ∃ f' s' m',bB tw (tg2 5 6) oH (rC kn a (some (.shr (aB o))) f s m)=.val (.nx (rC (jQ k kn o) a (some (.shr (aB o))) f' s' m')):=by
 have hkk:Ok sz k:=hk.ok k (List.mem_of_getElem? ha)
 have hx:fix (.lst (kn.map aB)) (.int (a:Int))=.val (aB k):=i7 (by rw [List.getElem?_map,ha];rfl)
 have hs:tw (rC kn a (some (.shr (aB o))) f s m)=.val [.tup [aB k,aB o],.tup [aB o,aB k]]:=by
  unfold rC;simp [hx]
 obtain ⟨m1,e1⟩:=sJ hz hk hkk ho a (some (.shr (aB o))) m
 obtain ⟨m2,e2⟩:=sJ hz (mW hk hkk ho) ho hkk a (some (.shr (aB o))) m1
 refine ⟨some (.shr (aB o)),some (.shr (aB k)),m2,?_⟩
 rw [cw,hs,af]
 unfold bK
 show (oH (rC kn a (some (.shr (aB o))) (some (.shr (aB k))) (some (.shr (aB o))) m)).bind _=_
 rw [e1,af]
 dsimp only
 unfold bK
 show (oH (rC (iU kn k o) a (some (.shr (aB o))) (some (.shr (aB o))) (some (.shr (aB k))) m1)).bind _=_
 rw [e2,af]
 rfl
theorem vv {sz:List Nat} (hz:sz ∈ szs) {a:Nat} {k:Arr}:∀ (snap:List Arr) {kn:List Arr} (hk:Kn sz kn) (ha:kn[a]?=some k) (hs:∀ o ∈ snap,Ok sz o) (o f s m:Option Slt),
  ∃ o' f' s' m',bK (tgN 4) (bB tw (tg2 5 6) oH) (snap.map aB) (rC kn a o f s m)=.val (.nx (rC (qj k kn snap) a o' f' s' m'))
 | [],kn,hk,ha,hs,o,f,s,m=>⟨o,f,s,m,rfl⟩
 | q :: r,kn,hk,ha,hs,o,f,s,m=>by
  have hq:=hs q (by simp)
  have hkk:Ok sz k:=hk.ok k (List.mem_of_getElem? ha)
  obtain ⟨f1,s1,m1,e1⟩:=Aq hz hk ha hq f s m
  obtain ⟨o2,f2,s2,m2,e2⟩:=vv hz r (uB hk hkk hq) (uT (rj k kn q) ha) (fun x hx=>hs x (by simp [hx])) (some (.shr (aB q))) f1 s1 m1
  refine ⟨o2,f2,s2,m2,?_⟩
  rw [List.map_cons]
  unfold bK
  show (bB tw (tg2 5 6) oH (rC kn a (some (.shr (aB q))) f s m)).bind _=_
  rw [e1,af]
  exact e2
abbrev yT:Rho->R Out:=sq (bB (fIt (eLs (fIt (vb 0)))) (tgN 4) (bB tw (tg2 5 6) oH)) (asg 3 (bin aV (vb 3) (kd (.int 1))))
abbrev yK:Rho->R Bool:=tst (bin (iI flt) (vb 3) (una aA (vb 0)))
theorem yx {sz:List Nat} (hz:sz ∈ szs) {a:Nat} {k:Arr} {kn:List Arr} (hk:Kn sz kn) (ha:kn[a]?=some k) (o f s m:Option Slt) :
  ∃ o' f' s' m',yT (rC kn a o f s m)=.val (.nx (rC (qj k kn kn) (a + 1) o' f' s' m')):=by
 obtain ⟨o',f',s',m',e⟩:=vv hz kn hk ha hk.ok o f s m
 refine ⟨o',f',s',m',?_⟩
 show sq _ _ _=_
 rw [aW,cw]
 have:fIt (eLs (fIt (vb 0))) (rC kn a o f s m)=.val (kn.map aB):=by unfold rC;simp
 rw [this,af,e,af]
 show asg 3 _ _=_
 unfold rC
 simp
theorem sF {sz:List Nat} (hz:sz ∈ szs):∀ (n a:Nat) (kn:List Arr) (o f s m:Option Slt),Kn sz kn->Cl kn a->a<=kn.length->28<=n + a ->
  ∃ kn' a' o' f' s' m',whD yK yT n (rC kn a o f s m)=.val (.nx (rC kn' a' o' f' s' m'))/\Kn sz kn'/\kn <+: kn'/\Cl kn' kn'.length
 | 0,a,kn,o,f,s,m,hk,hc,hl,hn=>by have:=Kn.few hz hk;omega
 | n + 1,a,kn,o,f,s,m,hk,hc,hl,hn=>by
  have hcond:yK (rC kn a o f s m)=.val (decide (a < kn.length)):=by
   unfold rC;simp
  unfold whD
  rw [hcond,af]
  by_cases h:a < kn.length
  ·rw [decide_eq_true h,if_pos rfl]
   have ha:kn[a]?=some kn[a]:=by simp [h]
   obtain ⟨o',f',s',m',e⟩:=yx hz hk ha o f s m
   have hkk:Ok sz kn[a]:=hk.ok _ (List.getElem_mem h)
   have pre:=iY kn[a] kn kn
   obtain ⟨kn',a',o2,f2,s2,m2,e2,g1,g2,g3⟩:=sF hz n (a + 1) (qj kn[a] kn kn) o' f' s' m' (uZ hkk hk hk.ok) (zK hc ha) (Nat.le_trans h pre.length_le) (by omega)
   rw [e,af]
   exact ⟨kn',a',o2,f2,s2,m2,e2,g1,pre.trans g2,g3⟩
  ·rw [decide_eq_false h]
   have:a=kn.length:=by omega
   subst this
   exact ⟨kn,kn.length,o,f,s,m,rfl,hk,List.prefix_refl _,hc⟩
theorem wA {sz kn:List _} (hz:sz ∈ szs) (hk:Kn sz kn):∃ kn',cR (kn.map aB)=.val (.lst (kn'.map aB))/\Kn sz kn'/\kn <+: kn'/\∀ x ∈ kn',∀ y ∈ kn',x.2.1=y.1->comp x y ∈ kn':=by
 have few:=Kn.few hz hk
 obtain ⟨kn',a',o',f',s',m',e,g1,g2,g3⟩:=sF hz 30 0 kn none none none none hk (fun i j x y hi=>absurd hi (Nat.not_lt_zero _)) (Nat.zero_le _) (by omega)
 refine ⟨kn',?_,g1,g2,C8 g3⟩
 have hm:r_ (kn.map aB) []=some (met kn):=vd kn [] (by simpa using hk.nd) (by simp;omega)
 have h0:nY 0 2 1 [some (.own (kn.map aB)),some (.dic []),none,none,none,none,none,none]=.val (.nx [some (.own (kn.map aB)),some (.dic (met kn)),none,none,none,none,none,none]):=by
  show (match r_ (kn.map aB) [] with | some kvs'=>_ | none=>_)=_
  rw [hm];rfl
 simp only [cR,gt]
 show fin (sq (yI 1) _ [some (.own (kn.map aB)),none,none,none,none,none,none,none])=_
 rw [aW,vH,af]
 show fin (sq (nY 0 2 1) _ [some (.own (kn.map aB)),some (.dic []),none,none,none,none,none,none])=_
 rw [aW,h0,af]
 show fin (sq (asg 3 (kd (.int 0))) _ [some (.own (kn.map aB)),some (.dic (met kn)),none,none,none,none,none,none])=_
 rw [aW,fO,cY,af,af]
 show fin (sq (whD yK yT 30) _ (rC kn 0 none none none none))=_
 rw [aW,e,af]
 rfl
theorem zq (n:Nat):rng 0 n=(List.range n).map nD:=by
 unfold rng
 apply List.map_congr_left
 intro k _
 simp [nD]
theorem uO {n:Nat} (h:n<=100000):rgT [.int (n:Int)]=.val (.tup ((List.range n).map nD)):=by
 have:-(2 ^ 62)<=(n:Int)/\(n:Int)<=100000:=by constructor <;> omega
 unfold rgT
 dsimp only
 rw [if_pos this,Int.toNat_natCast,zq]
theorem yj (x:Arr) (kn:List Arr):mj true (aB x) (.lst (kn.map aB))=.val (.bl (!decide (x ∈ kn))):=by
 have h1:eqb 8 (aB x)=true:=fm (jx x)
 have h2:(kn.map aB).all (eqb 8)=true:=by
  rw [List.all_eq_true]
  intro y hy
  obtain ⟨a,_,rfl⟩:=List.mem_map.mp hy
  exact fm (jx a)
 unfold mj
 dsimp only
 rw [if_pos ⟨h1,h2⟩]
 have:((kn.map aB).any fun y=>pyq 8 y (aB x))=decide (x ∈ kn):=by
  rw [List.any_map]
  by_cases h:x ∈ kn
  ·rw [decide_eq_true h,List.any_eq_true]
   exact ⟨x,h,(jw 8 (jx x) (jx x)).mpr rfl⟩
  ·rw [decide_eq_false h,List.any_eq_false]
   intro y hy e
   exact h (arrD_inj.mp ((jw 8 (jx y) (jx x)).mp e) ▸ hy)
 rw [this];rfl
theorem vX:∀ sz ∈ szs,∀ a,a < sz.length->∀ b,b < sz.length->sz.getD a 0=3->sz.getD b 0=3:=by decide +kernel
theorem jC {sz:List Nat} {i:Nat} (h:i < sz.length):fix (aw sz) (.int (i:Int))=.val (.int ((sz.getD i 0:Nat):Int)):=dS h
theorem CD {sz:List Nat} {b:Nat} (h:b < sz.length):Ok sz (idm sz b):=by
 refine ⟨sz[b],sz[b],by simp [idm,h],by simp [idm,h],?_,fun y hy=>?_⟩
 ·simp [idm,h]
 ·simp [idm,h] at hy;exact hy
theorem CC (sz:List Nat):Kn sz ((List.range sz.length).map (idm sz)):=by
 refine ⟨?_,fun x hx=>?_⟩
 ·unfold List.Nodup
  rw [List.pairwise_map]
  exact List.nodup_range.imp fun {a b} h e=>h (by simpa [idm] using congrArg (·.1) e)
 ·obtain ⟨b,hb,rfl⟩:=List.mem_map.mp hx
  exact CD (List.mem_range.mp hb)
def rA (ns:List Int) (k:Nat) (sz:List Nat) (known:Slt) (st:Int) (a5 a6 a7 a8 a9 a10 a11:Option Slt):Rho:=[some (.shr (.scr ns)),some (.shr (nD k)),some (.shr (aw sz)),some known,some (.shr (.int st)),a5,a6,a7,a8,a9,a10,a11]
section
variable {ns:List Int} {k:Nat} {sz:List Nat}
abbrev w9:Rho->R Out:=sq (asg 4 (cal 1 aQ (aC (vr 4) aN)))
 (DL.iff (tst (bin feq (bin fix (vb 2) (vb 6)) (kd (.int 3))))
 (ins 8 (bin (iI aK) (bin (iI df) (vb 4) (kd (.int 64))) (bin aV (vb 9) (kd (.int 1)))) (vr 9))
 (app 8 (bin (iI aK) (bin (iI df) (vb 4) (kd (.int 64))) (qI (aC (kd (.int 1)) (aC (bin fix (vb 2) (vb 7)) aN))))))
def bnd (s1 s2:Nat):Nat:=if s1=3 then 3 else max 1 s2
theorem d64 (i:Int):df i 64=.val (.int (i / 64)):=kD (by decide)
theorem Av {known:Slt} {st:Int} {o1 o2 x:Nat} {l:List Nat} {a5 a10 a11:Option Slt} (h1:o1 < sz.length) (h2:o2 < sz.length) (hx:x < sz.getD o1 0) (hl:l.length=x) (hx3:sz.getD o1 0<=3) (hb:∀ y ∈ l,y < bnd (sz.getD o1 0) (sz.getD o2 0)) :
  ∃ (st':Int) (l':List Nat),w9 (rA ns k sz known st a5 (some (.shr (nD o1))) (some (.shr (nD o2))) (some (.own (l.map nD))) (some (.shr (nD x))) a10 a11)=.val (.nx (rA ns k sz known st' a5 (some (.shr (nD o1))) (some (.shr (nD o2))) (some (.own (l'.map nD))) (some (.shr (nD x))) a10 a11))/\l'.length=x + 1/\∀ y ∈ l',y < bnd (sz.getD o1 0) (sz.getD o2 0):=by
 obtain ⟨st',hst⟩:=kE st
 have f1:=jC (sz:=sz) h1
 have f2:=jC (sz:=sz) h2
 have hA:asg 4 (cal 1 aQ (aC (vr 4) aN)) (rA ns k sz known st a5 (some (.shr (nD o1))) (some (.shr (nD o2))) (some (.own (l.map nD))) (some (.shr (nD x))) a10 a11)=.val (.nx (rA ns k sz known st' a5 (some (.shr (nD o1))) (some (.shr (nD o2))) (some (.own (l.map nD))) (some (.shr (nD x))) a10 a11)):=by
  unfold rA;simp [hst]
 have hT:tst (bin feq (bin fix (vb 2) (vb 6)) (kd (.int 3))) (rA ns k sz known st' a5 (some (.shr (nD o1))) (some (.shr (nD o2))) (some (.own (l.map nD))) (some (.shr (nD x))) a10 a11)=.val (decide (((sz.getD o1 0:Nat):Int)=3)):=by
  unfold rA;simp [-List.getD_eq_getElem?_getD,f1]
 show ∃ (st':Int) (l':List Nat),sq _ _ _=_/\_
 rw [aW,hA,af]
 dsimp only
 rw [bW,hT,af]
 by_cases e3:sz.getD o1 0=3
 ·rw [if_pos (by simp [-List.getD_eq_getElem?_getD,e3])]
  have hm:aK (st' / 64) ((x:Int) + 1)=.val (.int (st' / 64 % ((x:Int) + 1))):=fu (by omega)
  have p0:0<=st' / 64 % ((x:Int) + 1):=Int.emod_nonneg _ (by omega)
  have p1:st' / 64 % ((x:Int) + 1) < (x:Int) + 1:=Int.emod_lt_of_pos _ (by omega)
  obtain ⟨p,hp⟩:∃ p:Nat,st' / 64 % ((x:Int) + 1)=(p:Int):=⟨_,(Int.toNat_of_nonneg p0).symm⟩
  refine ⟨st',l.take p ++ x :: l.drop p,?_,?_,fun y hy=>?_⟩
  ·rw [yc (xs:=l.map nD) (n:=p) (d:=nD x) _ rfl (by unfold rA;simp [d64,hm,hp]) rfl (by rw [List.length_map];omega) (by rw [List.length_map];omega)]
   unfold rA
   simp
  ·rw [List.length_append,List.length_cons,List.length_take,List.length_drop];omega
  ·unfold bnd
   rw [if_pos e3]
   rcases List.mem_append.mp hy with q | q
   ·have:=hb y (List.mem_of_mem_take q)
    unfold bnd at this;rw [if_pos e3] at this;exact this
   ·rcases List.mem_cons.mp q with q | q
    ·rw [q];omega
    ·have:=hb y (List.mem_of_mem_drop q)
     unfold bnd at this;rw [if_pos e3] at this;exact this
 ·have e3':¬ (((sz.getD o1 0:Nat):Int)=3):=by omega
  rw [if_neg (by simp [-List.getD_eq_getElem?_getD];exact e3')]
  have hmx:(if ((sz.getD o2 0:Nat):Int) > 1 then ((sz.getD o2 0:Nat):Int) else 1)=((max 1 (sz.getD o2 0):Nat):Int):=by
   split <;> omega
  have hm:aK (st' / 64) ((max 1 (sz.getD o2 0):Nat):Int)=.val (.int (st' / 64 % ((max 1 (sz.getD o2 0):Nat):Int))):=fu (by omega)
  have p0:0<=st' / 64 % ((max 1 (sz.getD o2 0):Nat):Int):=Int.emod_nonneg _ (by omega)
  have p1:st' / 64 % ((max 1 (sz.getD o2 0):Nat):Int) < ((max 1 (sz.getD o2 0):Nat):Int):=Int.emod_lt_of_pos _ (by omega)
  obtain ⟨p,hp⟩:∃ p:Nat,st' / 64 % ((max 1 (sz.getD o2 0):Nat):Int)=(p:Int):=⟨_,(Int.toNat_of_nonneg p0).symm⟩
  refine ⟨st',l ++ [p],?_,by rw [List.length_append,hl];rfl,fun y hy=>?_⟩
  ·rw [jo (xs:=l.map nD) (d:=nD p) _ rfl (by unfold rA;simp only [aD,jP,Dg,cY,af,vF,aI,gJ,dX,List.getElem?_cons_succ,List.getElem?_cons_zero,f2,vm,d64];rw [hmx,hm,hp]) (by rw [List.length_map];omega)]
   unfold rA
   simp
  ·rcases List.mem_append.mp hy with q | q
   ·exact hb y q
   ·rw [List.mem_singleton.mp q]
    unfold bnd;rw [if_neg e3];omega
theorem At {known:Slt} {st:Int} {o1 o2:Nat} {a5 a9 a10 a11:Option Slt} (h1:o1 < sz.length) (h2:o2 < sz.length) (hx3:sz.getD o1 0<=3) :
  ∃ (st':Int) (l:List Nat) (a9':Option Slt),bK (tgN 9) w9 (rng 0 (sz.getD o1 0)) (rA ns k sz known st a5 (some (.shr (nD o1))) (some (.shr (nD o2))) (some (.own [])) a9 a10 a11)=.val (.nx (rA ns k sz known st' a5 (some (.shr (nD o1))) (some (.shr (nD o2))) (some (.own (l.map nD))) a9' a10 a11))/\l.length=sz.getD o1 0/\∀ y ∈ l,y < bnd (sz.getD o1 0) (sz.getD o2 0):=by
 obtain ⟨ρ',e,st',l,a9',rfl,g1,g2⟩:=i0 (i:=9) (n:=sz.getD o1 0) (F:=w9) (ρ:=rA ns k sz known st a5 (some (.shr (nD o1))) (some (.shr (nD o2))) (some (.own [])) a9 a10 a11) (fun x ρ=>∃ (st:Int) (l:List Nat) (a9:Option Slt),ρ=rA ns k sz known st a5 (some (.shr (nD o1))) (some (.shr (nD o2))) (some (.own (l.map nD))) a9 a10 a11/\l.length=x/\∀ y ∈ l,y < bnd (sz.getD o1 0) (sz.getD o2 0)) (fun x ρ hx hI=>by
  obtain ⟨st,l,a9,rfl,hl,hb⟩:=hI
  obtain ⟨st',l',e,g1,g2⟩:=Av (ns:=ns) (k:=k) (known:=known) (st:=st) (a5:=a5) (a10:=a10) (a11:=a11) h1 h2 hx hl hx3 hb
  exact ⟨_,e,st',l',_,rfl,g1,g2⟩) ⟨st,[],a9,rfl,rfl,fun y hy=>by cases hy⟩
 exact ⟨st',l,a9',e,g1,g2⟩
abbrev sU:Rho->R Out:=sq (asg 4 (cal 1 aQ (aC (vr 4) aN)))
 (sq (asg 6 (bin (iI aK) (bin (iI df) (vb 4) (kd (.int 64))) (una aA (vb 2))))
 (sq (asg 4 (cal 1 aQ (aC (vr 4) aN)))
 (sq (asg 7 (bin (iI aK) (bin (iI df) (vb 4) (kd (.int 64))) (una aA (vb 2))))
 (sq (own 8 (iQ aN))
 (sq (bB (cP (aC (bin fix (vb 2) (vb 6)) aN)) (tgN 9) w9)
 (DL.iff (orB (tst (bin feq (bin fix (vb 2) (vb 6)) (kd (.int 0)))) (tst (bin (iI fgt) (bin fix (vb 2) (vb 7)) (kd (.int 0)))))
 (DL.iff (tst (bin (mj true) (eT (aC (vr 6) (aC (vr 7) (aC (una jJ (vb 8)) aN)))) (vb 3)))
 (app 3 (eT (aC (vr 6) (aC (vr 7) (aC (una jJ (vb 8)) aN)))))
 nxt)
 nxt))))))
theorem yk:aA (aw sz)=.val (.int ((sz.length:Nat):Int)):=by
 show R.val (D.int (((sz.map nD).length:Nat):Int))=_
 rw [List.length_map]
theorem xH {known:Slt} {st s1:Int} {a5 a6 a7 a8 a9 a10 a11:Option Slt} (h:aQ [.int st]=.val (.int s1)):asg 4 (cal 1 aQ (aC (vr 4) aN)) (rA ns k sz known st a5 a6 a7 a8 a9 a10 a11)=.val (.nx (rA ns k sz known s1 a5 a6 a7 a8 a9 a10 a11)):=by
 rw [fO,yQ]
 show R.bind (noex (aQ [.int st])) _=_
 rw [h];rfl
theorem xw {known:Slt} {s1:Int} {o:Nat} {a5 a6 a7 a8 a9 a10 a11:Option Slt} (q:aK (s1 / 64) (sz.length:Int)=.val (.int (o:Int))):bin (iI aK) (bin (iI df) (vb 4) (kd (.int 64))) (una aA (vb 2)) (rA ns k sz known s1 a5 a6 a7 a8 a9 a10 a11)=.val (nD o):=by
 rw [aD,aD]
 show R.bind (df s1 64) _=_
 rw [d64,af,jP]
 show R.bind (R.bind (.val (aw sz)) aA) _=_
 rw [af,yk]
 exact q
theorem zD {known:Slt} {s1:Int} {o:Nat} {a5 a6 a7 a8 a9 a10 a11:Option Slt} (q:aK (s1 / 64) (sz.length:Int)=.val (.int (o:Int))):asg 6 (bin (iI aK) (bin (iI df) (vb 4) (kd (.int 64))) (una aA (vb 2))) (rA ns k sz known s1 a5 a6 a7 a8 a9 a10 a11)=.val (.nx (rA ns k sz known s1 a5 (some (.shr (nD o))) a7 a8 a9 a10 a11)):=by
 rw [fO,xw q];rfl
theorem zC {known:Slt} {s1:Int} {o:Nat} {a5 a6 a7 a8 a9 a10 a11:Option Slt} (q:aK (s1 / 64) (sz.length:Int)=.val (.int (o:Int))):asg 7 (bin (iI aK) (bin (iI df) (vb 4) (kd (.int 64))) (una aA (vb 2))) (rA ns k sz known s1 a5 a6 a7 a8 a9 a10 a11)=.val (.nx (rA ns k sz known s1 a5 a6 (some (.shr (nD o))) a8 a9 a10 a11)):=by
 rw [fO,xw q];rfl
theorem BQ (st:Int) {n:Nat} (h:1<=n):∃ p:Nat,p < n/\aK (st / 64) (n:Int)=.val (.int (p:Int)):=by
 have hm:aK (st / 64) (n:Int)=.val (.int (st / 64 % (n:Int))):=fu (by omega)
 have p0:0<=st / 64 % (n:Int):=Int.emod_nonneg _ (by omega)
 have p1:st / 64 % (n:Int) < (n:Int):=Int.emod_lt_of_pos _ (by omega)
 refine ⟨(st / 64 % (n:Int)).toNat,by omega,?_⟩
 rw [hm,Int.toNat_of_nonneg p0]
theorem yy (hz:sz ∈ szs) {kn:List Arr} (hk:Kn sz kn) (st:Int) (a5 a6 a7 a8 a9 a10 a11:Option Slt) :
  ∃ (kn':List Arr) (st':Int) (b6 b7 b8 b9:Option Slt),sU (rA ns k sz (.own (kn.map aB)) st a5 a6 a7 a8 a9 a10 a11)=.val (.nx (rA ns k sz (.own (kn'.map aB)) st' a5 b6 b7 b8 b9 a10 a11))/\Kn sz kn'/\kn <+: kn':=by
 obtain ⟨l1,l4,l3⟩:=ju sz hz
 have few:=Kn.few hz hk
 obtain ⟨s1,hs1⟩:=kE st
 obtain ⟨o1,ho1,q1⟩:=BQ s1 l1
 obtain ⟨s2,hs2⟩:=kE s1
 obtain ⟨o2,ho2,q2⟩:=BQ s2 l1
 have g3:sz.getD o1 0<=3:=by rw [aZ ho1];exact l3 _ (List.getElem_mem ho1)
 obtain ⟨s3,l,a9',e,hl,hb⟩:=At (ns:=ns) (k:=k) (sz:=sz) (known:=.own (kn.map aB)) (st:=s2) (a5:=a5) (a9:=a9) (a10:=a10) (a11:=a11) ho1 ho2 g3
 have f1:=jC (sz:=sz) ho1
 have f2:=jC (sz:=sz) ho2
 have hr:oO [.int ((sz.getD o1 0:Nat):Int)]=.val (rng 0 (sz.getD o1 0)):=dq (by omega)
 have start:sU (rA ns k sz (.own (kn.map aB)) st a5 a6 a7 a8 a9 a10 a11)=DL.iff (orB (tst (bin feq (bin fix (vb 2) (vb 6)) (kd (.int 0)))) (tst (bin (iI fgt) (bin fix (vb 2) (vb 7)) (kd (.int 0)))))
   (DL.iff (tst (bin (mj true) (eT (aC (vr 6) (aC (vr 7) (aC (una jJ (vb 8)) aN)))) (vb 3)))
   (app 3 (eT (aC (vr 6) (aC (vr 7) (aC (una jJ (vb 8)) aN))))) nxt) nxt (rA ns k sz (.own (kn.map aB)) s3 a5 (some (.shr (nD o1))) (some (.shr (nD o2))) (some (.own (l.map nD))) a9' a10 a11):=by
  have x1:asg 4 (cal 1 aQ (aC (vr 4) aN)) (rA ns k sz (.own (kn.map aB)) st a5 a6 a7 a8 a9 a10 a11)=.val (.nx (rA ns k sz (.own (kn.map aB)) s1 a5 a6 a7 a8 a9 a10 a11)):=xH hs1
  have x2:asg 6 (bin (iI aK) (bin (iI df) (vb 4) (kd (.int 64))) (una aA (vb 2))) (rA ns k sz (.own (kn.map aB)) s1 a5 a6 a7 a8 a9 a10 a11)=.val (.nx (rA ns k sz (.own (kn.map aB)) s1 a5 (some (.shr (nD o1))) a7 a8 a9 a10 a11)):=zD q1
  have x3:asg 4 (cal 1 aQ (aC (vr 4) aN)) (rA ns k sz (.own (kn.map aB)) s1 a5 (some (.shr (nD o1))) a7 a8 a9 a10 a11)=.val (.nx (rA ns k sz (.own (kn.map aB)) s2 a5 (some (.shr (nD o1))) a7 a8 a9 a10 a11)):=xH hs2
  have x4:asg 7 (bin (iI aK) (bin (iI df) (vb 4) (kd (.int 64))) (una aA (vb 2))) (rA ns k sz (.own (kn.map aB)) s2 a5 (some (.shr (nD o1))) a7 a8 a9 a10 a11)=.val (.nx (rA ns k sz (.own (kn.map aB)) s2 a5 (some (.shr (nD o1))) (some (.shr (nD o2))) a8 a9 a10 a11)):=zC q2
  have x5:own 8 (iQ aN) (rA ns k sz (.own (kn.map aB)) s2 a5 (some (.shr (nD o1))) (some (.shr (nD o2))) a8 a9 a10 a11)=.val (.nx (rA ns k sz (.own (kn.map aB)) s2 a5 (some (.shr (nD o1))) (some (.shr (nD o2))) (some (.own [])) a9 a10 a11)):=Eq.trans rfl rfl
  have x6:bB (cP (aC (bin fix (vb 2) (vb 6)) aN)) (tgN 9) w9 (rA ns k sz (.own (kn.map aB)) s2 a5 (some (.shr (nD o1))) (some (.shr (nD o2))) (some (.own [])) a9 a10 a11)=.val (.nx (rA ns k sz (.own (kn.map aB)) s3 a5 (some (.shr (nD o1))) (some (.shr (nD o2))) (some (.own (l.map nD))) a9' a10 a11)):=by
   rw [cw]
   have:cP (aC (bin fix (vb 2) (vb 6)) aN) (rA ns k sz (.own (kn.map aB)) s2 a5 (some (.shr (nD o1))) (some (.shr (nD o2))) (some (.own [])) a9 a10 a11)=.val (rng 0 (sz.getD o1 0)):=by unfold rA;simp [-List.getD_eq_getElem?_getD,f1,hr]
   rw [this,af,e]
  show sq _ _ _=_
  rw [aW,x1,af];dsimp only
  rw [aW,x2,af];dsimp only
  rw [aW,x3,af];dsimp only
  rw [aW,x4,af];dsimp only
  rw [aW,x5,af];dsimp only
  rw [aW,x6,af]
 rw [start]
 have hT:orB (tst (bin feq (bin fix (vb 2) (vb 6)) (kd (.int 0)))) (tst (bin (iI fgt) (bin fix (vb 2) (vb 7)) (kd (.int 0)))) (rA ns k sz (.own (kn.map aB)) s3 a5 (some (.shr (nD o1))) (some (.shr (nD o2))) (some (.own (l.map nD))) a9' a10 a11)=.val (decide (sz.getD o1 0=0\/0 < sz.getD o2 0)):=by
  unfold rA
  by_cases z:sz.getD o1 0=0
  ·simp [-List.getD_eq_getElem?_getD,f1,z]
  ·have z':¬ (((sz.getD o1 0:Nat):Int)=0):=by omega
   simp [-List.getD_eq_getElem?_getD,f1,f2,z,z']
 rw [bW,hT,af]
 by_cases hc:sz.getD o1 0=0\/0 < sz.getD o2 0
 ·rw [decide_eq_true hc,if_pos rfl]
  have hok:Ok sz (o1,o2,l):=by
   refine ⟨sz.getD o1 0,sz.getD o2 0,by rw [aZ ho1];simp [ho1],by rw [aZ ho2];simp [ho2],hl,fun y hy=>?_⟩
   have:=hb y hy
   unfold bnd at this
   have hy0:sz.getD o1 0 ≠ 0:=fun z=>by
    rw [z] at hl
    have:l=[]:=List.length_eq_zero_iff.mp hl
    rw [this] at hy;cases hy
   split at this
   ·rename_i e3
    have:=vX sz hz o1 ho1 o2 ho2 e3
    omega
   ·rcases hc with hc | hc
    ·exact absurd hc hy0
    ·have:max 1 (sz.getD o2 0)=sz.getD o2 0:=by omega
     omega
  have hv:eT (aC (vr 6) (aC (vr 7) (aC (una jJ (vb 8)) aN))) (rA ns k sz (.own (kn.map aB)) s3 a5 (some (.shr (nD o1))) (some (.shr (nD o2))) (some (.own (l.map nD))) a9' a10 a11)=.val (aB (o1,o2,l)):=by
   unfold rA;simp;rfl
  have hn:tst (bin (mj true) (eT (aC (vr 6) (aC (vr 7) (aC (una jJ (vb 8)) aN)))) (vb 3)) (rA ns k sz (.own (kn.map aB)) s3 a5 (some (.shr (nD o1))) (some (.shr (nD o2))) (some (.own (l.map nD))) a9' a10 a11)=.val (!decide ((o1,o2,l) ∈ kn)):=by
   rw [bT,aD,hv,af]
   show ((R.val (D.lst (kn.map aB))).bind fun y=>mj true (aB (o1,o2,l)) y).bind asB=_
   rw [af,yj];rfl
  rw [bW,hn,af]
  refine ⟨o8 kn (o1,o2,l),s3,some (.shr (nD o1)),some (.shr (nD o2)),some (.own (l.map nD)),a9',?_,vQ hk hok,sW _ _⟩
  unfold o8
  by_cases hin:(o1,o2,l) ∈ kn
  ·rw [if_pos hin,decide_eq_true hin];rfl
  ·rw [if_neg hin,decide_eq_false hin]
   rw [if_pos (show (!false)=true from rfl)]
   rw [jo (xs:=kn.map aB) _ rfl hv (by rw [List.length_map];omega)]
   unfold rA
   rw [List.map_append];rfl
 ·rw [decide_eq_false hc]
  exact ⟨kn,s3,_,_,_,_,rfl,hk,List.prefix_refl _⟩
end
section
variable {ns:List Int} {k:Nat} {sz:List Nat}
theorem CP (hz:sz ∈ szs) (a3 a4 a5 a6 a7 a8 a9 a10 a11:Option Slt):bI (cP (aC (una aA (vb 2)) aN)) 1 (tgN 12) tT (eT (aC (vr 12) (aC (vr 12) (aC (jd (aC (bin fix (vb 2) (vb 12)) aN)) aN)))) [some (.shr (.scr ns)),some (.shr (nD k)),some (.shr (aw sz)),a3,a4,a5,a6,a7,a8,a9,a10,a11]=.val (((List.range sz.length).map (idm sz)).map aB):=by
 obtain ⟨l1,l4,l3⟩:=ju sz hz
 have:=gl (src:=cP (aC (una aA (vb 2)) aN)) (m:=sz.length) (n:=1) (i:=12) (e:=eT (aC (vr 12) (aC (vr 12) (aC (jd (aC (bin fix (vb 2) (vb 12)) aN)) aN)))) (g:=fun b=>aB (idm sz b)) (ρ:=[some (.shr (.scr ns)),some (.shr (nD k)),some (.shr (aw sz)),a3,a4,a5,a6,a7,a8,a9,a10,a11]) (by simp;exact dq (by omega)) (by omega) fun b hb=>by
  have f1:=jC (sz:=sz) hb
  have hs:sz.getD b 0<=3:=by rw [aZ hb];exact l3 _ (List.getElem_mem hb)
  have:=uO (n:=sz.getD b 0) (by omega)
  simp [-List.getD_eq_getElem?_getD,f1,this];rfl
 rw [this,List.map_map];rfl
theorem xy {mx:List Arr} {x:Arr} {l:List Arr} (p:Nat) (h:mx.Perm l):(mx.take p ++ x :: mx.drop p).Perm (l ++ [x]):=by
 have h1:(mx.take p ++ x :: mx.drop p).Perm (x :: (mx.take p ++ mx.drop p)):=List.perm_middle
 rw [List.take_append_drop] at h1
 exact h1.trans ((h.cons x).trans (List.perm_append_singleton x l).symm)
abbrev zX:Rho->R Out:=sq (asg 4 (cal 1 aQ (aC (vr 4) aN)))
 (ins 10 (bin (iI aK) (bin (iI df) (vb 4) (kd (.int 64))) (bin aV (una aA (vb 10)) (kd (.int 1)))) (vr 11))
theorem Aw {known:Slt} {st:Int} {mx:List Arr} {x:Arr} (hl:mx.length<=27) (a5 a6 a7 a8 a9:Option Slt) :
  ∃ (st':Int) (p:Nat),zX (rA ns k sz known st a5 a6 a7 a8 a9 (some (.own (mx.map aB))) (some (.shr (aB x))))=.val (.nx (rA ns k sz known st' a5 a6 a7 a8 a9 (some (.own ((mx.take p ++ x :: mx.drop p).map aB))) (some (.shr (aB x))))):=by
 obtain ⟨s1,hs1⟩:=kE st
 obtain ⟨p,hp,q⟩:=BQ s1 (n:=mx.length + 1) (by omega)
 have q':aK (s1 / 64) ((mx.length:Int) + 1)=.val (.int (p:Int)):=q
 refine ⟨s1,p,?_⟩
 have x1:asg 4 (cal 1 aQ (aC (vr 4) aN)) (rA ns k sz known st a5 a6 a7 a8 a9 (some (.own (mx.map aB))) (some (.shr (aB x))))=.val (.nx (rA ns k sz known s1 a5 a6 a7 a8 a9 (some (.own (mx.map aB))) (some (.shr (aB x))))):=by unfold rA;simp [hs1]
 show sq _ _ _=_
 rw [aW,x1,af];dsimp only
 rw [yc (xs:=mx.map aB) (n:=p) (d:=aB x) _ rfl (by unfold rA;simp [d64,q']) rfl (by rw [List.length_map];omega) (by rw [List.length_map];omega)]
 unfold rA
 simp
theorem wB (hz:sz ∈ szs) (ns:List Int) (k:Nat):∃ kn,Good sz kn/\cQ [.scr ns,.int (k:Int),aw sz]=.val (.lst (kn.map aB)):=by
 obtain ⟨l1,l4,l3⟩:=ju sz hz
 obtain ⟨c1,hc1⟩:=kF ns k
 obtain ⟨c2,hc2⟩:=kF ns (k + 1)
 obtain ⟨s0,hs0⟩:=kE (c1 * 1000003 % 2147483647 + 17)
 have hc2':av [.scr ns,.int ((k:Int) + 1)]=.val (.int c2):=hc2
 have m5:aK c2 5=.val (.int (c2 % 5)):=fu (by decide)
 have mm:dM c1 1000003=.val (.int (c1 * 1000003)):=kC (by decide)
 have md:aK (c1 * 1000003) 2147483647=.val (.int (c1 * 1000003 % 2147483647)):=fu (by decide)
 have hr:oO [.int (c2 % 5)]=.val (rng 0 (c2 % 5).toNat):=w_ (by omega) (by omega)
 let kn0:=(List.range sz.length).map (idm sz)
 have hk0:Kn sz kn0:=CC sz
 obtain ⟨ρ1,e1,kn1,st1,a5,a6,a7,a8,a9,rfl,hk1,hp1⟩:=i0 (i:=5) (n:=(c2 % 5).toNat) (F:=sU) (ρ:=rA ns k sz (.own (kn0.map aB)) s0 none none none none none none none) (fun _ ρ=>∃ (kn:List Arr) (st:Int) (a5 a6 a7 a8 a9:Option Slt),ρ=rA ns k sz (.own (kn.map aB)) st a5 a6 a7 a8 a9 none none/\Kn sz kn/\kn0 <+: kn) (fun x ρ hx hI=>by
  obtain ⟨kn,st,a5,a6,a7,a8,a9,rfl,hk,hp⟩:=hI
  obtain ⟨kn',st',b6,b7,b8,b9,e,g1,g2⟩:=yy (ns:=ns) (k:=k) hz hk st (some (.shr (.int (x:Int)))) a6 a7 a8 a9 none none
  exact ⟨_,e,kn',st',_,b6,b7,b8,b9,rfl,g1,hp.trans g2⟩) ⟨kn0,s0,none,none,none,none,none,rfl,hk0,List.prefix_refl _⟩
 obtain ⟨kn2,hcl,hk2,hp2,hcl2⟩:=wA hz hk1
 have few2:=Kn.few hz hk2
 have good:Good sz kn2:=⟨hz,hk2.nd,hk2.ok,fun b hb=>hp2.subset (hp1.subset (List.mem_map.mpr ⟨b,List.mem_range.mpr hb,rfl⟩)),hcl2⟩
 obtain ⟨ρ3,e3,mx,st3,a11,rfl,hperm⟩:=g_ (T:=tgN 11) (F:=zX) (xs:=kn2.map aB) (ρ:=rA ns k sz (.shr (.lst (kn2.map aB))) st1 a5 a6 a7 a8 a9 (some (.own [])) none) (fun i ρ=>∃ (mx:List Arr) (st:Int) (a11:Option Slt),ρ=rA ns k sz (.shr (.lst (kn2.map aB))) st a5 a6 a7 a8 a9 (some (.own (mx.map aB))) a11/\mx.Perm (kn2.take i)) (fun i x ρ hx hI=>by
  obtain ⟨mx,st,a11,rfl,hperm⟩:=hI
  have hi:i < kn2.length:=by have:=(List.getElem?_eq_some_iff.mp hx).1;simpa using this
  have hxe:x=aB kn2[i]:=by
   rw [List.getElem?_map] at hx
   simp [hi] at hx;exact hx.symm
  subst hxe
  have hml:mx.length<=27:=by rw [hperm.length_eq,List.length_take];omega
  obtain ⟨st',p,e⟩:=Aw (ns:=ns) (k:=k) (sz:=sz) (known:=.shr (.lst (kn2.map aB))) (st:=st) (x:=kn2[i]) hml a5 a6 a7 a8 a9
  refine ⟨_,_,rfl,e,_,st',_,rfl,?_⟩
  rw [List.take_succ_eq_append_getElem hi]
  exact xy p hperm) ⟨[],st1,none,rfl,by simp⟩
 rw [List.length_map,List.take_length] at hperm
 refine ⟨mx,good.perm hperm,?_⟩
 simp only [cQ,gu]
 show fin (sq (own 3 _) _ [some (.shr (.scr ns)),some (.shr (nD k)),some (.shr (aw sz)),none,none,none,none,none,none,none,none,none])=_
 rw [aW,B4,CP hz,af,af]
 show fin (sq (asg 4 _) _ [some (.shr (.scr ns)),some (.shr (nD k)),some (.shr (aw sz)),some (.own (kn0.map aB)),none,none,none,none,none,none,none,none])=_
 have x1:asg 4 (cal 1 aQ (aC (bin aV (bin (iI aK) (bin (iI dM) (cal 2 av (aC (vr 0) (aC (vr 1) aN))) (kd (.int 1000003))) (kd (.int 2147483647))) (kd (.int 17))) aN)) [some (.shr (.scr ns)),some (.shr (nD k)),some (.shr (aw sz)),some (.own (kn0.map aB)),none,none,none,none,none,none,none,none]=.val (.nx (rA ns k sz (.own (kn0.map aB)) s0 none none none none none none none)):=by
  unfold rA;simp [hc1,mm,md,hs0]
 rw [aW,x1,af];dsimp only
 have x2:bB (cP (aC (bin (iI aK) (cal 2 av (aC (vr 0) (aC (bin aV (vb 1) (kd (.int 1))) aN))) (kd (.int 5))) aN)) (tgN 5) sU (rA ns k sz (.own (kn0.map aB)) s0 none none none none none none none)=.val (.nx (rA ns k sz (.own (kn1.map aB)) st1 a5 a6 a7 a8 a9 none none)):=by
  rw [cw]
  have:cP (aC (bin (iI aK) (cal 2 av (aC (vr 0) (aC (bin aV (vb 1) (kd (.int 1))) aN))) (kd (.int 5))) aN) (rA ns k sz (.own (kn0.map aB)) s0 none none none none none none none)=.val (rng 0 (c2 % 5).toNat):=by unfold rA;simp [hc2',m5,hr]
  rw [this,af,e1]
 show fin (sq (bB (cP (aC (bin (iI aK) (cal 2 av (aC (vr 0) (aC (bin aV (vb 1) (kd (.int 1))) aN))) (kd (.int 5))) aN)) (tgN 5) sU) _ _)=_
 rw [aW,x2,af];dsimp only
 have x3:zV 3 cR (rA ns k sz (.own (kn1.map aB)) st1 a5 a6 a7 a8 a9 none none)=.val (.nx (rA ns k sz (.shr (.lst (kn2.map aB))) st1 a5 a6 a7 a8 a9 none none)):=by
  show (noex (cR (kn1.map aB))).bind _=_
  rw [hcl];rfl
 rw [aW,x3,af];dsimp only
 have x4:own 10 (iQ aN) (rA ns k sz (.shr (.lst (kn2.map aB))) st1 a5 a6 a7 a8 a9 none none)=.val (.nx (rA ns k sz (.shr (.lst (kn2.map aB))) st1 a5 a6 a7 a8 a9 (some (.own [])) none)):=by unfold rA;simp
 rw [aW,x4,af];dsimp only
 show fin (sq (bB (fIt (vr 3)) (tgN 11) zX) _ (rA ns k sz (.shr (.lst (kn2.map aB))) st1 a5 a6 a7 a8 a9 (some (.own [])) none))=_
 have x5:bB (fIt (vr 3)) (tgN 11) zX (rA ns k sz (.shr (.lst (kn2.map aB))) st1 a5 a6 a7 a8 a9 (some (.own [])) none)=.val (.nx (rA ns k sz (.shr (.lst (kn2.map aB))) st3 a5 a6 a7 a8 a9 (some (.own (mx.map aB))) a11)):=by
  rw [cw]
  show (R.val (kn2.map aB)).bind _=_
  rw [af,e3]
 rw [aW,x5,af]
 rfl
end
def plD:List Arr->Nat->List (KA × D)
 | [],_=>[]
 | x :: r,s=>(hJ x,nD s) :: plD r (s + 1)
theorem xt:∀ (l:List Arr) (s:Nat),(plD l s).length=l.length
 | [],_=>rfl
 | x :: r,s=>by simp [plD,xt r (s + 1)]
theorem xv (x:Arr):∀ (l:List Arr) (s:Nat),((plD l s).any fun p=>decide (p.1=hJ x))=decide (x ∈ l)
 | [],_=>by simp [plD]
 | y :: r,s=>by
  show (decide (hJ y=hJ x) || (plD r (s + 1)).any fun p=>decide (p.1=hJ x))=_
  rw [xv x r (s + 1)]
  by_cases h:y=x
  ·subst h;simp
  ·have:¬ hJ y=hJ x:=fun e=>h (nQ e)
   have h':¬ x=y:=fun e=>h e.symm
   simp [this,h']
theorem xu (x:Arr):∀ (l:List Arr) (s:Nat),plD (l ++ [x]) s=plD l s ++ [(hJ x,nD (s + l.length))]
 | [],s=>rfl
 | y :: r,s=>by
  show (hJ y,nD s) :: plD (r ++ [x]) (s + 1)=_
  rw [xu x r (s + 1)]
  have:s + 1 + r.length=s + (y :: r).length:=by simp;omega
  rw [this];rfl
theorem BP {x:Arr} {l:List Arr} (h:x ∉ l):nP (plD l 0) (hJ x) (nD l.length)=plD (l ++ [x]) 0:=by
 unfold nP
 rw [xv,decide_eq_false h,if_neg (by decide),xu,Nat.zero_add]
theorem tM {x:Arr}:∀ {l:List Arr} (s:Nat),x ∈ l->t6 (plD l s) (hJ x)=some (nD (s + l.idxOf x))
 | [],_,h=>by cases h
 | y :: r,s,h=>by
  unfold t6 plD
  by_cases e:y=x
  ·subst e;simp
  ·have e':¬ hJ y=hJ x:=fun z=>e (nQ z)
   rw [List.find?_cons_of_neg (by simpa using e')]
   have hr:x ∈ r:=by
    rcases List.mem_cons.mp h with q | q
    ·exact absurd q.symm e
    ·exact q
   have ih:=tM (l:=r) (s + 1) hr
   unfold t6 at ih
   rw [ih]
   have:(y :: r).idxOf x=r.idxOf x + 1:=by
    rw [List.idxOf_cons]
    have:(y == x)=false:=by simpa using e
    rw [this];rfl
   rw [this]
   congr 2
   omega
def rP (ns:List Int) (k:Nat) (sz:List Nat) (kn:List Arr) (pl:List (KA × D)) (a5 a6 a7 a8 a9 a10 a11:Option Slt):Rho:=[some (.shr (.scr ns)),some (.shr (nD k)),some (.shr (aw sz)),some (.shr (.lst (kn.map aB))),some (.dic pl),a5,a6,a7,a8,a9,a10,a11]
section
variable {ns:List Int} {k:Nat} {sz:List Nat} {kn:List Arr}
theorem CJ {i:Nat} (h:i < kn.length):fix (.lst (kn.map aB)) (.int (i:Int))=.val (aB kn[i]):=i7 (by simp [h])
theorem yt (g:Good sz kn) (a6 a7 a8 a9 a10 a11:Option Slt):∃ a5,bB (cP (aC (una aA (vb 3)) aN)) (tgN 5) (qJ 4 (bin fix (vb 3) (vb 5)) (vr 5)) (rP ns k sz kn [] none a6 a7 a8 a9 a10 a11)=.val (.nx (rP ns k sz kn (plD kn 0) a5 a6 a7 a8 a9 a10 a11)):=by
 have few:=g.few
 obtain ⟨ρ',e,a5,rfl⟩:=i0 (i:=5) (n:=kn.length) (F:=qJ 4 (bin fix (vb 3) (vb 5)) (vr 5)) (ρ:=rP ns k sz kn [] none a6 a7 a8 a9 a10 a11) (fun i ρ=>∃ a5,ρ=rP ns k sz kn (plD (kn.take i) 0) a5 a6 a7 a8 a9 a10 a11) (fun i ρ hi hI=>by
  obtain ⟨a5,rfl⟩:=hI
  have hx:=CJ hi
  have hl:(kn.take i).length=i:=by rw [List.length_take];omega
  have nin:kn[i] ∉ kn.take i:=fun h=>by
   obtain ⟨j,hj,e⟩:=List.mem_take_iff_getElem.mp h
   exact (List.pairwise_iff_getElem.mp g.nd) j i (by omega) hi (by omega) e
  refine ⟨_,?_,some (.shr (.int (i:Int))),rfl⟩
  show qJ 4 _ _ (rP ns k sz kn (plD (kn.take i) 0) (some (.shr (.int (i:Int)))) a6 a7 a8 a9 a10 a11)=_
  rw [vG (kvs:=plD (kn.take i) 0) (kd:=aB kn[i]) (d:=nD i) _ rfl (by unfold rP;simp [hx]) rfl (hE _) (by rw [xt];omega)]
  have:=BP nin
  rw [hl] at this
  rw [this,<- List.take_succ_eq_append_getElem hi]
  rfl) ⟨none,rfl⟩
 refine ⟨a5,?_⟩
 rw [cw]
 have:cP (aC (una aA (vb 3)) aN) (rP ns k sz kn [] none a6 a7 a8 a9 a10 a11)=.val (rng 0 kn.length):=by
  unfold rP;simp;exact dq (by omega)
 rw [this,af,e,List.take_length]
abbrev CT:Rho->R Out:=sq (asg 10 (una dE (kd (.int 1))))
 (sq (DL.iff (tst (bin feq (bin fix (vb 7) (kd (.int 1))) (bin fix (vb 9) (kd (.int 0)))))
 (asg 10 (qL 4 (eT (aC (bin fix (vb 7) (kd (.int 0))) (aC (bin fix (vb 9) (kd (.int 1))) (aC (una jJ (eLs (bI (fIt (bin fix (vb 7) (kd (.int 2)))) 1 (tgN 12) tT (bin fix (bin fix (vb 9) (kd (.int 2))) (vb 12))))) aN))))))
 nxt)
 (app 8 (vr 10)))
theorem Ay (g:Good sz kn) {x y:Arr} (hx:x ∈ kn) (hy:y ∈ kn) {row:List D} (hl:row.length<=27) (a5 a6 a10 a11:Option Slt) :
  ∃ b10,CT (rP ns k sz kn (plD kn 0) a5 a6 (some (.shr (aB x))) (some (.own row)) (some (.shr (aB y))) a10 a11)=.val (.nx (rP ns k sz kn (plD kn 0) a5 a6 (some (.shr (aB x))) (some (.own (row ++ [.int (mk kn x y)]))) (some (.shr (aB y))) b10 a11)):=by
 have x1:asg 10 (una dE (kd (.int 1))) (rP ns k sz kn (plD kn 0) a5 a6 (some (.shr (aB x))) (some (.own row)) (some (.shr (aB y))) a10 a11)=.val (.nx (rP ns k sz kn (plD kn 0) a5 a6 (some (.shr (aB x))) (some (.own row)) (some (.shr (aB y))) (some (.shr (.int (-1)))) a11)):=by unfold rP;simp
 have last:∀ z:Int,app 8 (vr 10) (rP ns k sz kn (plD kn 0) a5 a6 (some (.shr (aB x))) (some (.own row)) (some (.shr (aB y))) (some (.shr (.int z))) a11)=.val (.nx (rP ns k sz kn (plD kn 0) a5 a6 (some (.shr (aB x))) (some (.own (row ++ [.int z]))) (some (.shr (aB y))) (some (.shr (.int z))) a11)):=fun z=>by
  rw [jo (xs:=row) (d:=.int z) _ rfl rfl (by omega)];rfl
 have hT:tst (bin feq (bin fix (vb 7) (kd (.int 1))) (bin fix (vb 9) (kd (.int 0)))) (rP ns k sz kn (plD kn 0) a5 a6 (some (.shr (aB x))) (some (.own row)) (some (.shr (aB y))) (some (.shr (.int (-1)))) a11)=.val (decide (x.2.1=y.1)):=by
  unfold rP;simp;omega
 show ∃ b10,sq _ _ _=_
 rw [aW,x1,af];dsimp only
 rw [aW,bW,hT,af]
 unfold mk
 by_cases e:x.2.1=y.1
 ·rw [decide_eq_true e,if_pos rfl,if_pos e]
  have hc:=vK g.szm (g.ok x hx) (g.ok y hy) e (src:=fIt (bin fix (vb 7) (kd (.int 2)))) (el:=bin fix (bin fix (vb 9) (kd (.int 2))) (vb 12)) (i:=12) (ρ:=rP ns k sz kn (plD kn 0) a5 a6 (some (.shr (aB x))) (some (.own row)) (some (.shr (aB y))) (some (.shr (.int (-1)))) a11) (by simp [rP]) (fun k=>by simp [rP])
  have hv:eT (aC (bin fix (vb 7) (kd (.int 0))) (aC (bin fix (vb 9) (kd (.int 1))) (aC (una jJ (eLs (bI (fIt (bin fix (vb 7) (kd (.int 2)))) 1 (tgN 12) tT (bin fix (bin fix (vb 9) (kd (.int 2))) (vb 12))))) aN))) (rP ns k sz kn (plD kn 0) a5 a6 (some (.shr (aB x))) (some (.own row)) (some (.shr (aB y))) (some (.shr (.int (-1)))) a11)=.val (aB (comp x y)):=by
   simp only [eR,aI,jP,cr,hc]
   unfold rP;simp;rfl
  have hg:=tM 0 (g.cl x hx y hy e)
  rw [Nat.zero_add] at hg
  rw [fO,vI (kvs:=plD kn 0) _ rfl hv (hE _) hg,af,af];dsimp only
  exact ⟨_,last _⟩
 ·rw [decide_eq_false e,if_neg (by decide),if_neg e]
  exact ⟨_,last _⟩
abbrev zp:Rho->R Out:=sq (own 8 (iQ aN))
 (sq (bB (fIt (vr 3)) (tgN 9) CT)
 (fz 8 (app 6 (vr 8))))
theorem Au (g:Good sz kn) {x:Arr} (hx:x ∈ kn) {tab:List D} (hl:tab.length<=27) (a5 a8 a9 a10 a11:Option Slt) :
  ∃ b8 b9 b10,zp (rP ns k sz kn (plD kn 0) a5 (some (.own tab)) (some (.shr (aB x))) a8 a9 a10 a11)=.val (.nx (rP ns k sz kn (plD kn 0) a5 (some (.own (tab ++ [aL (kn.map fun y=>mk kn x y)]))) (some (.shr (aB x))) b8 b9 b10 a11)):=by
 have few:=g.few
 obtain ⟨ρ',e,a9',a10',rfl⟩:=g_ (T:=tgN 9) (F:=CT) (xs:=kn.map aB) (ρ:=rP ns k sz kn (plD kn 0) a5 (some (.own tab)) (some (.shr (aB x))) (some (.own [])) a9 a10 a11) (fun i ρ=>∃ a9 a10,ρ=rP ns k sz kn (plD kn 0) a5 (some (.own tab)) (some (.shr (aB x))) (some (.own (((kn.take i).map fun y=>mk kn x y).map D.int))) a9 a10 a11) (fun i d ρ hd hI=>by
  obtain ⟨a9,a10,rfl⟩:=hI
  have hi:i < kn.length:=by have:=(List.getElem?_eq_some_iff.mp hd).1;simpa using this
  have hde:d=aB kn[i]:=by
   rw [List.getElem?_map] at hd
   simp [hi] at hd;exact hd.symm
  subst hde
  obtain ⟨b10,e⟩:=Ay (ns:=ns) (k:=k) g hx (List.getElem_mem hi) (row:=((kn.take i).map fun y=>mk kn x y).map D.int) (by simp;omega) a5 (some (.own tab)) a10 a11
  refine ⟨_,_,rfl,e,some (.shr (aB kn[i])),b10,?_⟩
  rw [List.take_succ_eq_append_getElem hi,List.map_append,List.map_append]
  rfl) ⟨a9,a10,rfl⟩
 rw [List.length_map,List.take_length] at e
 refine ⟨some (.shr (aL (kn.map fun y=>mk kn x y))),a9',a10',?_⟩
 show sq _ _ _=_
 have x1:own 8 (iQ aN) (rP ns k sz kn (plD kn 0) a5 (some (.own tab)) (some (.shr (aB x))) a8 a9 a10 a11)=.val (.nx (rP ns k sz kn (plD kn 0) a5 (some (.own tab)) (some (.shr (aB x))) (some (.own [])) a9 a10 a11)):=by unfold rP;simp
 rw [aW,x1,af];dsimp only
 rw [aW,cw]
 show ((((R.val (kn.map aB)).bind _)).bind _)=_
 rw [af,e,af];dsimp only
 rw [A_]
 show app 6 (vr 8) (rP ns k sz kn (plD kn 0) a5 (some (.own tab)) (some (.shr (aB x))) (some (.shr (aL (kn.map fun y=>mk kn x y)))) a9' a10' a11)=_
 rw [jo (xs:=tab) (d:=aL (kn.map fun y=>mk kn x y)) _ rfl rfl (by omega)]
 rfl
theorem yu (ns:List Int) (k:Nat):∃ sz kn,Good sz kn/\dm [.scr ns,.int (k:Int)]=.val (.tup [dv (iS kn),aw (ij sz kn),bC (g8 kn),.lst (kn.map aB),aw sz]):=by
 obtain ⟨sz,hz,hs⟩:=yr ns k
 obtain ⟨l1,l4,l3⟩:=ju sz hz
 obtain ⟨kn,g,ha⟩:=wB hz ns (k + 1)
 have ha':cQ [.scr ns,.int ((k:Int) + 1),aw sz]=.val (.lst (kn.map aB)):=ha
 have few:=g.few
 obtain ⟨a5,ep⟩:=yt (ns:=ns) (k:=k) g none none none none none none
 obtain ⟨ρ',et,a7,a8,a9,a10,rfl⟩:=g_ (T:=tgN 7) (F:=zp) (xs:=kn.map aB) (ρ:=rP ns k sz kn (plD kn 0) a5 (some (.own [])) none none none none none) (fun i ρ=>∃ a7 a8 a9 a10,ρ=rP ns k sz kn (plD kn 0) a5 (some (.own ((kn.take i).map fun x=>aL (kn.map fun y=>mk kn x y)))) a7 a8 a9 a10 none) (fun i d ρ hd hI=>by
  obtain ⟨a7,a8,a9,a10,rfl⟩:=hI
  have hi:i < kn.length:=by have:=(List.getElem?_eq_some_iff.mp hd).1;simpa using this
  have hde:d=aB kn[i]:=by
   rw [List.getElem?_map] at hd
   simp [hi] at hd;exact hd.symm
  subst hde
  obtain ⟨b8,b9,b10,e⟩:=Au (ns:=ns) (k:=k) g (List.getElem_mem hi) (tab:=(kn.take i).map fun x=>aL (kn.map fun y=>mk kn x y)) (by simp;omega) a5 a8 a9 a10 none
  refine ⟨_,_,rfl,e,some (.shr (aB kn[i])),b8,b9,b10,?_⟩
  rw [List.take_succ_eq_append_getElem hi,List.map_append]
  rfl) ⟨none,none,none,none,rfl⟩
 rw [List.length_map,List.take_length] at et
 refine ⟨sz,kn,g,?_⟩
 simp only [dm,gP]
 show fin (sq (asg 2 _) _ [some (.shr (.scr ns)),some (.shr (nD k)),none,none,none,none,none,none,none,none,none,none])=_
 have x1:asg 2 (cal 2 dW (aC (vr 0) (aC (vr 1) aN))) [some (.shr (.scr ns)),some (.shr (nD k)),none,none,none,none,none,none,none,none,none,none]=.val (.nx [some (.shr (.scr ns)),some (.shr (nD k)),some (.shr (aw sz)),none,none,none,none,none,none,none,none,none]):=by simp [hs]
 rw [aW,x1,af];dsimp only
 have x2:asg 3 (cal 3 cQ (aC (vr 0) (aC (bin aV (vb 1) (kd (.int 1))) (aC (vr 2) aN)))) [some (.shr (.scr ns)),some (.shr (nD k)),some (.shr (aw sz)),none,none,none,none,none,none,none,none,none]=.val (.nx [some (.shr (.scr ns)),some (.shr (nD k)),some (.shr (aw sz)),some (.shr (.lst (kn.map aB))),none,none,none,none,none,none,none,none]):=by simp [ha']
 rw [aW,x2,af];dsimp only
 rw [aW,vH,af];dsimp only
 show fin (sq (bB _ (tgN 5) _) _ (rP ns k sz kn [] none none none none none none none))=_
 rw [aW,ep,af];dsimp only
 have x3:own 6 (iQ aN) (rP ns k sz kn (plD kn 0) a5 none none none none none none)=.val (.nx (rP ns k sz kn (plD kn 0) a5 (some (.own [])) none none none none none)):=by unfold rP;simp
 rw [aW,x3,af];dsimp only
 have x4:bB (fIt (vr 3)) (tgN 7) zp (rP ns k sz kn (plD kn 0) a5 (some (.own [])) none none none none none)=.val (.nx (rP ns k sz kn (plD kn 0) a5 (some (.own (kn.map fun x=>aL (kn.map fun y=>mk kn x y)))) a7 a8 a9 a10 none)):=by
  rw [cw]
  show (R.val (kn.map aB)).bind _=_
  rw [af,et]
 show fin (sq (bB (fIt (vr 3)) (tgN 7) zp) _ _)=_
 rw [aW,x4,af];dsimp only
 have hrest:bI (cP (aC (una aA (vb 2)) aN)) 1 (tgN 12) tT (qL 4 (eT (aC (vr 12) (aC (vr 12) (aC (jd (aC (bin fix (vb 2) (vb 12)) aN)) aN))))) (rP ns k sz kn (plD kn 0) a5 (some (.own (kn.map fun x=>aL (kn.map fun y=>mk kn x y)))) a7 a8 a9 a10 none)=.val ((ij sz kn).map nD):=by
  have:=gl (src:=cP (aC (una aA (vb 2)) aN)) (m:=sz.length) (n:=1) (i:=12) (e:=qL 4 (eT (aC (vr 12) (aC (vr 12) (aC (jd (aC (bin fix (vb 2) (vb 12)) aN)) aN))))) (g:=fun b=>nD (kn.idxOf (idm sz b))) (ρ:=rP ns k sz kn (plD kn 0) a5 (some (.own (kn.map fun x=>aL (kn.map fun y=>mk kn x y)))) a7 a8 a9 a10 none) (by unfold rP;simp;exact dq (by omega)) (by omega) fun b hb=>by
   have f1:=jC (sz:=sz) hb
   have hs:sz.getD b 0<=3:=by rw [aZ hb];exact l3 _ (List.getElem_mem hb)
   have hrg:=uO (n:=sz.getD b 0) (by omega)
   have hg:=tM 0 (g.rest b hb)
   rw [Nat.zero_add] at hg
   refine vI (kvs:=plD kn 0) (kd:=aB (idm sz b)) _ rfl ?_ (hE _) hg
   unfold rP
   simp [-List.getD_eq_getElem?_getD,f1,hrg];rfl
  rw [this]
  unfold ij
  rw [List.map_map];rfl
 rw [aW,fO,cr,hrest,af,af,af];dsimp only
 rw [A_]
 have hens:∀ t a7 a8 a9 a10 a11,bI (fIt (vr 3)) 1 (tgN 12) tT (eT (aC (bin fix (vb 12) (kd (.int 0))) (aC (bin fix (vb 12) (kd (.int 1))) aN))) (rP ns k sz kn (plD kn 0) a5 t a7 a8 a9 a10 a11)=.val ((iS kn).map eD):=fun t a7 a8 a9 a10 a11=>by
  rw [gm (f:=aB) (l:=kn) (g:=fun x=>eD (x.1,x.2.1)) rfl (by omega) fun x _=>by unfold rP;simp;rfl]
  unfold iS
  rw [List.map_map];rfl
 have htab:D.lst (kn.map fun x=>aL (kn.map fun y=>mk kn x y))=bC (g8 kn):=by
  unfold bC g8;rw [List.map_map];rfl
 show fin (ret _ (rP ns k sz kn (plD kn 0) a5 (some (.shr (.lst (kn.map fun x=>aL (kn.map fun y=>mk kn x y))))) a7 a8 a9 a10 (some (.shr (aw (ij sz kn))))))=_
 rw [htab,cW,eR,aI,cr,hens,af,af]
 unfold rP
 simp;rfl
theorem Ax {sz kn:List _} (g:Good sz kn) (r:List D):dO [.tup (dv (iS kn) :: aw (ij sz kn) :: bC (g8 kn) :: r)]=.val (.ob (dv (iS kn)) (aw (ij sz kn)) (bC (g8 kn))):=by
 have h:=vk g
 have n1:=h.na40
 have n2:=h.tl
 simp only [dO,iE]
 have hf:bI (fIt (bin fix (vb 0) (kd (.int 2)))) 1 (tgN 1) tT (eLs (fIt (vb 1))) [some (.shr (.tup (dv (iS kn) :: aw (ij sz kn) :: bC (g8 kn) :: r)))]=.val ((g8 kn).map aL):=gm (f:=aL) (by simp;rfl) (by omega) fun r _=>rfl
 have eh:=Az h
 show fin (ret _ [some (.shr (.tup (dv (iS kn) :: aw (ij sz kn) :: bC (g8 kn) :: r)))])=_
 have ha:aC (eLs (fIt (bin fix (vb 0) (kd (.int 0))))) (aC (eLs (fIt (bin fix (vb 0) (kd (.int 1))))) (aC (eLs (bI (fIt (bin fix (vb 0) (kd (.int 2)))) 1 (tgN 1) tT (eLs (fIt (vb 1))))) aN)) [some (.shr (.tup (dv (iS kn) :: aw (ij sz kn) :: bC (g8 kn) :: r)))]=.val [dv (iS kn),aw (ij sz kn),bC (g8 kn)]:=by
  simp only [aI,cr,hf]
  simp;rfl
 rw [cW,Cn,ha,af];dsimp only
 rw [eh];rfl
end
section
variable (ρ:Rho)
@[simp] theorem mP (n:Nat) (den:List D->R D) (a:Rho->R (List D)):iH n den a ρ=(a ρ).bind fun ds=>if ds.length=n then den ds else .bad:=Eq.trans rfl rfl
@[simp] theorem vP (a b:Rho->R D):yV a b ρ=(a ρ).bind fun x=>(asB x).bind fun c=>if c=true then b ρ else .val (.bl false):=Eq.trans rfl rfl
theorem By {c:Nat} {a:Rho->R D} {ρ:Rho} {i:Int} (h:a ρ=.val (.int i)) (hi:i.natAbs < 10 ^ 40):rse c (fS a) ρ=.exc c:=by
 unfold rse fS
 rw [h]
 dsimp only
 rw [if_pos hi]
end
theorem pQ {α:Type} {T:D->Rho->Option Rho} {t:Rho->R Bool} {e:Rho->R D} {f g:α->D} {p:α->Bool} {ρ:Rho}:∀ {l:List α},(∀ a ∈ l,∃ ρ1,T (f a) ρ=some ρ1/\t ρ1=.val (p a)/\e ρ1=.val (g a))->jk T t e (l.map f) ρ=.val ((l.filter p).map g)
 | [],_=>rfl
 | a :: r,h=>by
  obtain ⟨ρ1,h1,h2,h3⟩:=h a (by simp)
  have ih:=pQ (T:=T) (t:=t) (e:=e) (f:=f) (g:=g) (p:=p) (ρ:=ρ) (l:=r) fun b hb=>h b (by simp [hb])
  rw [List.map_cons]
  unfold jk
  rw [h1]
  show (noE (t ρ1)).bind _=_
  rw [h2,List.filter_cons]
  cases q:p a with
  | true=>simp [h3,ih]
  | false=>simp [ih]
theorem jE {α:Type} {src:Rho->R (List D)} {n:Nat} {T:D->Rho->Option Rho} {t:Rho->R Bool} {e:Rho->R D} {f g:α->D} {p:α->Bool} {l:List α} {ρ:Rho} (hs:src ρ=.val (l.map f)) (hl:l.length<=100000)
  (h:∀ a ∈ l,∃ ρ1,T (f a) (ρ ++ List.replicate n none)=some ρ1/\t ρ1=.val (p a)/\e ρ1=.val (g a)):bI src n T t e ρ=.val ((l.filter p).map g):=by
 unfold bI
 rw [hs,af,if_pos (show (l.map f).length<=LIM by rw [List.length_map];exact hl),pQ h]
 rfl
theorem zr (n:Nat):rng 0 n=(List.range n).map nD:=by
 unfold rng nD
 apply List.map_congr_left
 intro k _
 rw [Int.zero_add]
theorem vy:∀ (l:List D) (s:Nat),enu s l=(List.range l.length).map fun i=>.tup [nD (s + i),l.getD i .non]
 | [],s=>rfl
 | x :: r,s=>by
  unfold enu
  rw [vy r (s + 1),List.length_cons,List.range_succ_eq_map,List.map_cons,List.map_map]
  simp only [Nat.add_zero,List.getD_cons_zero]
  congr 1
  apply List.map_congr_left
  intro i _
  simp only [Function.comp,List.getD_cons_succ]
  rw [show s + 1 + i=s + (i + 1) by omega]
theorem jA {α:Type} {T:D->Rho->Option Rho} {F:Rho->R Out} {f g:α->D} {p:α->Bool} (I:Rho->Prop):∀ {l:List α} {ρ:Rho},(∀ a ∈ l,∀ ρ,I ρ->∃ ρ1,T (f a) ρ=some ρ1/\(p a=true->F ρ1=.val (.rt (g a)))/\(p a=false->∃ ρ2,F ρ1=.val (.nx ρ2)/\I ρ2))->I ρ ->
  (∃ a,l.find? p=some a/\bK T F (l.map f) ρ=.val (.rt (g a)))\/(l.find? p=none/\∃ ρ',bK T F (l.map f) ρ=.val (.nx ρ')/\I ρ')
 | [],ρ,_,h=>.inr ⟨rfl,ρ,rfl,h⟩
 | a :: r,ρ,step,h=>by
  obtain ⟨ρ1,h1,h2,h3⟩:=step a (by simp) ρ h
  rw [List.find?_cons,List.map_cons]
  unfold bK
  rw [h1]
  cases q:p a with
  | true=>exact .inl ⟨a,rfl,by dsimp only;rw [h2 q];rfl⟩
  | false =>
   obtain ⟨ρ2,e2,i2⟩:=h3 q
   dsimp only
   rw [e2]
   exact jA (T:=T) (F:=F) (f:=f) (g:=g) (p:=p) I (fun b hb=>step b (by simp [hb])) i2
theorem vo (p q:Nat × Nat):feq (eD p) (eD q)=.val (.bl (decide (p=q))):=by
 by_cases h:p=q
 ·subst h;rw [i8 (iq _)];simp
 ·rw [n8 (iq _) (iq _) (fun z=>h (endD_inj.mp z))];simp [h]
def hlD (en:List (Nat × Nat)) (re:List Nat) (tb:List (List Int)):D:=.ob (dv en) (aw re) (bC tb)
section
variable {en:List (Nat × Nat)} {re:List Nat} {tb:List (List Int)}
@[simp] theorem ET:gB 1 (hlD en re tb)=.val (aw re):=Eq.trans rfl rfl
end
section
variable (ρ:Rho)
end
theorem pU {α:Type} (p:α->Bool):∀ l:List α,gR (l.map fun a=>D.bl (p a))=some (l.map p)
 | []=>rfl
 | a :: r=>by
  rw [List.map_cons,List.map_cons]
  unfold gR
  rw [pU p r];rfl
theorem sD {α:Type} (p:α->Bool) (l:List α):qD (.lst (l.map fun a=>D.bl (p a)))=.val (.bl (l.all p)):=by
 unfold qD
 dsimp only
 rw [pU]
 dsimp only
 rw [List.all_map];rfl
theorem xV {α:Type} {T:D->Rho->Option Rho} {F:Rho->R Out} {f:α->D} {ok:α->Bool} (I:Rho->Prop) {l:List α} {ρ:Rho} (step:∀ a ∈ l,∀ ρ,I ρ->∃ ρ1,T (f a) ρ=some ρ1/\(ok a=false->F ρ1=.val (.rt (.bl false)))/\(ok a=true->∃ ρ2,F ρ1=.val (.nx ρ2)/\I ρ2)) (h:I ρ) :
  (l.all ok=false/\bK T F (l.map f) ρ=.val (.rt (.bl false)))\/(l.all ok=true/\∃ ρ',bK T F (l.map f) ρ=.val (.nx ρ')/\I ρ'):=by
 rcases jA (T:=T) (F:=F) (f:=f) (g:=fun _=>.bl false) (p:=fun a=>!ok a) I (l:=l) (ρ:=ρ) (fun a ha ρ hI=>by
  obtain ⟨ρ1,h1,h2,h3⟩:=step a ha ρ hI
  exact ⟨ρ1,h1,fun q=>h2 (by simpa using q),fun q=>h3 (by simpa using q)⟩) h with ⟨a,e,z⟩ | ⟨e,z⟩
 ·refine .inl ⟨?_,z⟩
  have:=List.find?_some e
  rw [Bool.eq_false_iff]
  intro q
  have q:=List.all_eq_true.mp q a (List.mem_of_find?_eq_some e)
  simp [q] at this
 ·refine .inr ⟨?_,z⟩
  rw [List.all_eq_true]
  intro a ha
  have:=List.find?_eq_none.mp e a ha
  simpa using this
theorem Al {α:Type} {src:Rho->R (List D)} {T:D->Rho->Option Rho} {F:Rho->R Out} {f:α->D} {ok:α->Bool} (I:Rho->Prop) {l:List α} {ρ:Rho} (hs:src ρ=.val (l.map f)) (step:∀ a ∈ l,∀ ρ,I ρ->∃ ρ1,T (f a) ρ=some ρ1/\(ok a=false->F ρ1=.val (.rt (.bl false)))/\(ok a=true->∃ ρ2,F ρ1=.val (.nx ρ2)/\I ρ2)) (h:I ρ) :
  (l.all ok=false/\bB src T F ρ=.val (.rt (.bl false)))\/(l.all ok=true/\∃ ρ',bB src T F ρ=.val (.nx ρ')/\I ρ'):=by
 rw [cw,hs,af]
 exact xV I step h
theorem Ak {α:Type} {src:Rho->R (List D)} {T:D->Rho->Option Rho} {F:Rho->R Out} {f:α->D} {ok:α->Bool} (I:Rho->Prop) {l:List α} {ρ:Rho} (hs:src ρ=.val (l.map f)) (step:∀ a ∈ l,∀ ρ,I ρ->∃ ρ1,T (f a) ρ=some ρ1/\(ok a=false->F ρ1=.val (.rt (.bl false)))/\(ok a=true->∃ ρ2,F ρ1=.val (.nx ρ2)/\I ρ2)) (h:I ρ) :
  fin (sq (bB src T F) (ret (kd (.bl true))) ρ)=.val (.bl (l.all ok)):=by
 rw [aW]
 rcases Al I hs step h with ⟨e,z⟩ | ⟨e,ρ',z,_⟩
 ·rw [z,e];rfl
 ·rw [z,e];rfl
theorem DU {t:Rho->R Bool} {ρ:Rho} {c:Bool} (ht:t ρ=.val (!c)):(c=false->DL.iff t (ret (kd (.bl false))) nxt ρ=.val (.rt (.bl false)))/\(c=true->DL.iff t (ret (kd (.bl false))) nxt ρ=.val (.nx ρ)):=by
 rw [bW,ht]
 exact ⟨fun z=>by rw [z];rfl,fun z=>by rw [z];rfl⟩
theorem uF {F:Rho->R D} {ρ:Rho} {n:Nat} (h:F ρ=.val (.int (n:Int))) (hn:n<=100000):cP (aC F aN) ρ=.val ((List.range n).map nD):=by
 rw [gF,aI,h,af,gJ,af,af,dq hn,zr]
theorem rowD_inj {a b:List Int}:aL a=aL b ↔ a=b:=by
 constructor
 ·intro h
  unfold aL at h
  injection h with h
  exact mG (fun a b e=>by cases e;rfl) h
 ·rintro rfl;rfl
section
variable {en:List (Nat × Nat)} {re:List Nat} {tb:List (List Int)} {r:List D}
def bR (l:List Nat):List Int:=l.map fun (k:Nat)=>(k:Int)
theorem cA (l:List Nat):(bR l).length=l.length:=by unfold bR;simp
def btw (en:List (Nat × Nat)) (a b:Nat):List Nat:=(List.range en.length).filter fun n=>decide (en.getD n (0,0)=(a,b))
theorem qU (a b:Nat):(btw en a b).length<=en.length:=by
 unfold btw
 exact Nat.le_trans (List.length_filter_le _ _) (by rw [List.length_range];exact Nat.le_refl _)
theorem mem_btw {a b n:Nat}:n ∈ btw en a b ↔ n < en.length/\en.getD n (0,0)=(a,b):=by
 unfold btw
 rw [List.mem_filter,List.mem_range,decide_eq_true_iff]
theorem aS {A B:Rho->R Out} {ρ ρ':Rho} (h:A ρ=.val (.nx ρ')):sq A B ρ=B ρ':=by rw [aW,h];rfl
theorem sI (h:bY en re tb) (a b:Nat):bQ [.tup (dv en :: r),nD a,nD b]=.val (aw (btw en a b)):=by
 simp only [bQ,fG]
 show fin (ret _ [some (.shr (.tup (dv en :: r))),some (.shr (nD a)),some (.shr (nD b))])=_
 have n40:=h.na40
 have hc:=jE (src:=cP (aC (una aA (bin fix (vb 0) (kd (.int 0)))) aN)) (n:=1) (T:=tgN 3) (t:=tst (bin feq (bin fix (bin fix (vb 0) (kd (.int 0))) (vb 3)) (eT (aC (vr 1) (aC (vr 2) aN))))) (e:=vr 3) (f:=nD) (g:=nD) (p:=fun n=>decide (en.getD n (0,0)=(a,b))) (l:=List.range en.length) (ρ:=[some (.shr (.tup (dv en :: r))),some (.shr (nD a)),some (.shr (nD b))]) (uF (by simp) (by omega)) (by rw [List.length_range];omega) fun n hn=>⟨_,rfl,by
  have hn:=List.mem_range.mp hn
  have f1:=fW (en:=en) hn
  have q:=vo (en.getD n (0,0)) (a,b)
  simp [-List.getD_eq_getElem?_getD,f1]
  exact congrArg (fun z=>R.bind z asB) q,rfl⟩
 rw [cW,cr,hc];rfl
theorem oj {α:Type} {f:α->D} (l:List α) (d:α):enu 0 (l.map f)=(List.range l.length).map fun i=>.tup [nD i,f (l.getD i d)]:=by
 rw [vy,List.length_map]
 apply List.map_congr_left
 intro i hi
 have hi:=List.mem_range.mp hi
 rw [Nat.zero_add,aZ (show i < (l.map f).length by simpa using hi),aZ hi,List.getElem_map]
theorem D8 {den:List D->R D} {A:Rho->R D} {ρ:Rho} {a x:D} (ha:A ρ=.val a) (h:den [a]=.val x):cal 1 den (aC A aN) ρ=.val x:=by
 simp [ha,h]
theorem qS {den:List D->R D} {A B:Rho->R D} {ρ:Rho} {a b x:D} (ha:A ρ=.val a) (hb:B ρ=.val b) (h:den [a,b]=.val x):cal 2 den (aC A (aC B aN)) ρ=.val x:=by
 simp [ha,hb,h]
theorem qR {den:List D->R D} {A B C:Rho->R D} {ρ:Rho} {a b c x:D} (ha:A ρ=.val a) (hb:B ρ=.val b) (hc:C ρ=.val c) (h:den [a,b,c]=.val x):cal 3 den (aC A (aC B (aC C aN))) ρ=.val x:=by
 simp [ha,hb,hc,h]
theorem ms {den:List D->R D} {A B C E:Rho->R D} {ρ:Rho} {a b c e x:D} (ha:A ρ=.val a) (hb:B ρ=.val b) (hc:C ρ=.val c) (he:E ρ=.val e) (h:den [a,b,c,e]=.val x):cal 4 den (aC A (aC B (aC C (aC E aN)))) ρ=.val x:=by
 simp [ha,hb,hc,he,h]
theorem bH {i:Nat} {e:Rho->R D} {ρ:Rho} {x:D} (h:e ρ=.val x):asg i e ρ=.val (.nx (ρ.set i (some (.shr x)))):=by rw [fO,h];rfl
theorem ln {e:Rho->R D} {ρ:Rho} {x:D} (h:e ρ=.val x):drp e ρ=.val (.nx ρ):=by rw [on,h];rfl
theorem cO {t:Rho->R Bool} {a:Rho->R Out} {ρ:Rho} (h:t ρ=.val false):DL.iff t a nxt ρ=.val (.nx ρ):=by rw [bW,h];rfl
theorem iC {b:Nat} (hb:b < re.length):bv [hlD en re tb,nD b]=.val .non:=by
 simp only [bv,fv]
 show fin (DL.iff _ _ _ [some (.shr (hlD en re tb)),some (.shr (nD b))])=_
 have:=h8 hb
 simp [this]
theorem j0 (h:bY en re tb) {a b:Nat} (ha:a < re.length) (hb:b < re.length):bo [hlD en re tb,nD a,nD b]=.val (aw (btw en a b)):=by
 simp only [bo,jg]
 show fin (sq _ _ [some (.shr (hlD en re tb)),some (.shr (nD a)),some (.shr (nD b))])=_
 have n40:=h.na40
 have e1:drp (cal 2 bv (aC (vr 0) (aC (vr 1) aN))) [some (.shr (hlD en re tb)),some (.shr (nD a)),some (.shr (nD b))]=.val (.nx [some (.shr (hlD en re tb)),some (.shr (nD a)),some (.shr (nD b))]):=ln (qS rfl rfl (iC ha))
 have e2:drp (cal 2 bv (aC (vr 0) (aC (vr 2) aN))) [some (.shr (hlD en re tb)),some (.shr (nD a)),some (.shr (nD b))]=.val (.nx [some (.shr (hlD en re tb)),some (.shr (nD a)),some (.shr (nD b))]):=ln (qS rfl rfl (iC hb))
 rw [aS e1,aS e2]
 have hc:=jE (src:=eQ (aC (una (gB 0) (vb 0)) aN)) (n:=2) (T:=tg2 3 4) (t:=tst (bin feq (vb 4) (eT (aC (vr 1) (aC (vr 2) aN))))) (e:=vr 3) (f:=fun i=>.tup [nD i,eD (en.getD i (0,0))]) (g:=nD) (p:=fun n=>decide (en.getD n (0,0)=(a,b))) (l:=List.range en.length) (ρ:=[some (.shr (hlD en re tb)),some (.shr (nD a)),some (.shr (nD b))]) (by
  rw [<- oj (f:=eD) en (0,0)];rfl) (by rw [List.length_range];omega) fun n hn=>⟨_,rfl,by
  have q:=vo (en.getD n (0,0)) (a,b)
  exact congrArg (fun z=>R.bind z asB) q,rfl⟩
 rw [cW,cr,hc];rfl
end
theorem xU {α:Type} {T:D->Rho->Option Rho} {F:Rho->R Out} {f:α->D} (I:List α->Rho->Prop) (post:List α):∀ (pre:List α) {ρ:Rho},(∀ p a q,pre ++ post=p ++ a :: q->∀ ρ,I p ρ->∃ ρ1 ρ2,T (f a) ρ=some ρ1/\F ρ1=.val (.nx ρ2)/\I (p ++ [a]) ρ2)->I pre ρ->∃ ρ',bK T F (post.map f) ρ=.val (.nx ρ')/\I (pre ++ post) ρ':=by
 induction post with
 | nil=>intro pre ρ _ h;exact ⟨ρ,rfl,by rwa [List.append_nil]⟩
 | cons a r ih =>
  intro pre ρ step h
  obtain ⟨ρ1,ρ2,h1,h2,h3⟩:=step pre a r rfl ρ h
  rw [List.map_cons]
  unfold bK
  rw [h1]
  dsimp only
  rw [h2]
  have:=ih (pre ++ [a]) (ρ:=ρ2) (fun p b q e=>step p b q (by rw [<- e];simp)) h3
  rwa [List.append_assoc] at this
theorem mJ {α:Type} {src:Rho->R (List D)} {T:D->Rho->Option Rho} {F:Rho->R Out} {f:α->D} (I:List α->Rho->Prop) {l:List α} {ρ:Rho} (hs:src ρ=.val (l.map f)) (step:∀ p a q,l=p ++ a :: q->∀ ρ,I p ρ->∃ ρ1 ρ2,T (f a) ρ=some ρ1/\F ρ1=.val (.nx ρ2)/\I (p ++ [a]) ρ2) (h:I [] ρ) :
  ∃ ρ',bB src T F ρ=.val (.nx ρ')/\I l ρ':=by
 rw [cw,hs,af]
 exact xU I l [] step h
abbrev Tie:=Nat × Nat × Nat
def stp (rows:List (List Nat)) (as:List Nat):List (List Nat):=rows.flatMap fun r=>as.map fun a=>r ++ [a]
def kpt (tb:List (List Int)) (row:List Nat) (t:Tie):Bool:=decide ((tb.getD (row.getD t.1 0) []).getD t.2.2 (-1)=((row.getD t.2.1 0:Nat):Int))
theorem uD (rows:List (List Nat)) (as:List Nat):(stp rows as).length=rows.length * as.length:=by
 unfold stp
 induction rows with
 | nil=>simp
 | cons r l ih=>rw [List.flatMap_cons,List.length_append,ih,List.length_map,List.length_cons,Nat.succ_mul,Nat.add_comm]
theorem ze (a b:List (List Nat)) (as:List Nat):stp (a ++ b) as=stp a as ++ stp b as:=by unfold stp;simp
theorem mem_stp {rows:List (List Nat)} {as:List Nat} {x:List Nat}:x ∈ stp rows as ↔ ∃ r ∈ rows,∃ a ∈ as,x=r ++ [a]:=by
 unfold stp
 rw [List.mem_flatMap]
 constructor
 ·rintro ⟨r,hr,hx⟩
  obtain ⟨a,ha,rfl⟩:=List.mem_map.mp hx
  exact ⟨r,hr,a,ha,rfl⟩
 ·rintro ⟨r,hr,a,ha,rfl⟩
  exact ⟨r,hr,List.mem_map.mpr ⟨a,ha,rfl⟩⟩
def rws (B:Nat->List Nat) (pl:List Nat):List (List Nat):=pl.foldl (fun rows p=>stp rows (B p)) [[]]
theorem kq (B:Nat->List Nat) (pl:List Nat) (p:Nat):rws B (pl ++ [p])=stp (rws B pl) (B p):=by unfold rws;rw [List.foldl_append];rfl
def lt (n:Nat) (ts:List Tie):List Tie:=ts.filter fun t=>decide (max t.1 t.2.1 < n)
def du (n:Nat) (ts:List Tie):List Tie:=ts.filter fun t=>decide (max t.1 t.2.1=n)
def kws (tb:List (List Int)) (B:Nat->List Nat) (pl:List Nat) (ts:List Tie):List (List Nat):=(rws B pl).filter fun row=>(lt pl.length ts).all (kpt tb row)
structure Row (N k:Nat) (row:List Nat):Prop where
 len:row.length=k
 bd:∀ a ∈ row,a < N
theorem Row.snoc {N k:Nat} {row:List Nat} {a:Nat} (h:Row N k row) (ha:a < N):Row N (k + 1) (row ++ [a]):=by
 refine ⟨by rw [List.length_append,h.len];rfl,fun b hb=>?_⟩
 rcases List.mem_append.mp hb with hb | hb
 ·exact h.bd b hb
 ·rw [List.mem_singleton.mp hb];exact ha
theorem Row.at {N k:Nat} {row:List Nat} (h:Row N k row) {i:Nat} (hi:i < k):row.getD i 0 < N:=by
 rw [aZ (by rw [h.len];exact hi)];exact h.bd _ (List.getElem_mem _)
theorem uM {N:Nat} {B:Nat->List Nat} (hB:∀ p,∀ a ∈ B p,a < N) (pl:List Nat):∀ n,n<=pl.length->∀ row ∈ rws B (pl.take n),Row N n row:=by
 intro n
 induction n with
 | zero=>intro _ row h;rw [List.take_zero] at h;rw [show row=[] from List.mem_singleton.mp h];exact ⟨rfl,(fun a h=>by cases h)⟩
 | succ n ih =>
  intro hn row h
  rw [List.take_succ_eq_append_getElem (by omega),kq] at h
  obtain ⟨r,hr,a,ha,rfl⟩:=mem_stp.mp h
  exact (ih (by omega) r hr).snoc (hB _ a ha)
theorem rF {N:Nat} {B:Nat->List Nat} (hB:∀ p,∀ a ∈ B p,a < N) (pl:List Nat):∀ row ∈ rws B pl,Row N pl.length row:=by
 have:=uM hB pl pl.length (Nat.le_refl _)
 rwa [List.take_length] at this
theorem x_ {N k:Nat} {tb:List (List Int)} {row:List Nat} {a:Nat} {t:Tie} (h:Row N k row) (ht:max t.1 t.2.1 < k):kpt tb (row ++ [a]) t=kpt tb row t:=by
 have h1:t.1 < row.length:=by rw [h.len];omega
 have h2:t.2.1 < row.length:=by rw [h.len];omega
 unfold kpt
 have e:∀ i,i < row.length->(row ++ [a]).getD i 0=row.getD i 0:=fun i hi=>by
  rw [List.getD_eq_getElem?_getD,List.getD_eq_getElem?_getD,List.getElem?_append_left hi]
 rw [e _ h1,e _ h2]
theorem sC {p:List Nat->Bool} {q s:List Nat->Bool} {as:List Nat}:∀ {rows:List (List Nat)},(∀ r ∈ rows,∀ a ∈ as,s (r ++ [a])=(p r && q (r ++ [a])))->(stp (rows.filter p) as).filter q=(stp rows as).filter s
 | [],_=>rfl
 | r :: l,h=>by
  have ih:=sC (p:=p) (q:=q) (s:=s) (as:=as) (rows:=l) fun x hx=>h x (by simp [hx])
  have hr:=h r (by simp)
  have one:∀ x:List Nat,∀ l:List (List Nat),stp (x :: l) as=(as.map fun a=>x ++ [a]) ++ stp l as:=fun x l=>by unfold stp;rw [List.flatMap_cons]
  rw [one,List.filter_append,List.filter_cons]
  cases e:p r with
  | true =>
   simp only [if_true]
   rw [one,List.filter_append,ih]
   congr 1
   apply List.filter_congr
   intro x hx
   obtain ⟨a,ha,rfl⟩:=List.mem_map.mp hx
   rw [hr a ha,e];rfl
  | false =>
   rw [if_neg (by decide),ih]
   have:List.filter s (as.map fun a=>r ++ [a])=[]:=by
    rw [List.filter_eq_nil_iff]
    intro x hx
    obtain ⟨a,ha,rfl⟩:=List.mem_map.mp hx
    rw [hr a ha,e];simp
   rw [this];rfl
theorem wF (k:Nat) (f:Tie->Bool) (ts:List Tie):(lt (k + 1) ts).all f=((lt k ts).all f && (du k ts).all f):=by
 rw [Bool.eq_iff_iff]
 unfold lt du
 simp only [Bool.and_eq_true,List.all_eq_true,List.mem_filter,decide_eq_true_eq]
 constructor
 ·intro h;exact ⟨fun t ht=>h t ⟨ht.1,by omega⟩,fun t ht=>h t ⟨ht.1,by omega⟩⟩
 ·rintro ⟨h1,h2⟩ t ⟨ht,hm⟩
  by_cases e:max t.1 t.2.1=k
  ·exact h2 t ⟨ht,e⟩
  ·exact h1 t ⟨ht,by omega⟩
theorem xZ {N:Nat} {tb:List (List Int)} {B:Nat->List Nat} (hB:∀ p,∀ a ∈ B p,a < N) (pl:List Nat) (p:Nat) (ts:List Tie) :
  (stp (kws tb B pl ts) (B p)).filter (fun row=>(du pl.length ts).all (kpt tb row))=kws tb B (pl ++ [p]) ts:=by
 unfold kws
 rw [kq]
 apply sC
 intro r hr a ha
 have rr:=rF hB pl r hr
 rw [List.length_append,List.length_singleton,wF]
 congr 1
 rw [Bool.eq_iff_iff,List.all_eq_true,List.all_eq_true]
 have key:∀ t ∈ lt pl.length ts,kpt tb (r ++ [a]) t=kpt tb r t:=fun t ht=>by
  unfold lt at ht
  rw [List.mem_filter,decide_eq_true_eq] at ht
  exact x_ rr ht.2
 exact ⟨fun h t ht=>by rw [<- key t ht];exact h t ht,fun h t ht=>by rw [key t ht];exact h t ht⟩
theorem zn {n:Nat} {B:Nat->List Nat} (hB:∀ p,(B p).length<=n) (hn:1<=n):∀ pl:List Nat,(rws B pl).length<=n ^ pl.length:=by
 intro pl
 suffices ∀ k,k<=pl.length->(rws B (pl.take k)).length<=n ^ k by
  have:=this pl.length (Nat.le_refl _)
  rwa [List.take_length] at this
 intro k
 induction k with
 | zero=>intro _;rw [List.take_zero];exact Nat.le_refl _
 | succ k ih =>
  intro hk
  rw [List.take_succ_eq_append_getElem (by omega),kq,uD,Nat.pow_succ]
  exact Nat.mul_le_mul (ih (by omega)) (hB _)
def fB (t:Tie):D:=.tup [nD t.1,nD t.2.1,nD t.2.2]
def bg (ts:List Tie):D:=.lst (ts.map fB)
def rwD (rows:List (List Nat)):D:=.lst (rows.map aw)
theorem ym (t:Tie):fix (fB t) (.int 0)=.val (nD t.1):=i6 _ _
theorem yl (t:Tie):fix (fB t) (.int 1)=.val (nD t.2.1):=gh _ _ _
theorem CK (t:Tie):fix (fB t) (.int 2)=.val (nD t.2.2):=ud _ _ _ _
theorem mC (l:List Nat):aw l=aL (bR l):=by unfold aw aL bR;rw [List.map_map];rfl
theorem Bx (rows:List (List Nat)):rwD rows=bC (rows.map bR):=by
 unfold rwD bC
 rw [List.map_map]
 congr 1
 apply List.map_congr_left
 intro a _
 exact mC a
structure Pic (en:List (Nat × Nat)) (re:List Nat) (pl:List Nat) (ts:List Tie):Prop where
 l3:pl.length<=3
 l4:ts.length<=4
 pb:∀ i,i < pl.length->pl.getD i 0 < re.length
 tk:∀ t ∈ ts,t.1 < pl.length/\t.2.1 < pl.length/\t.2.2 < en.length/\en.getD t.2.2 (0,0)=(pl.getD t.1 0,pl.getD t.2.1 0)
section
variable {en:List (Nat × Nat)} {re:List Nat} {tb:List (List Int)} {pl:List Nat} {ts:List Tie}
theorem qE (h:bY en re tb) {k:Nat} {row:List Nat} (hr:Row en.length k row) {t:Tie} (h1:t.1 < k) (h2:t.2.1 < k) (h3:t.2.2 < en.length):cb [hlD en re tb,aw row,fB t]=.val (.bl (kpt tb row t)):=by
 simp only [cb,gQ]
 show fin (ret _ [some (.shr (hlD en re tb)),some (.shr (aw row)),some (.shr (fB t))])=_
 have a1:=hr.at h1
 have f0:bin fix (vb 1) (bin fix (vb 2) (kd (.int 0))) [some (.shr (hlD en re tb)),some (.shr (aw row)),some (.shr (fB t))]=.val (nD (row.getD t.1 0)):=by
  show R.bind (fix (fB t) (.int 0)) (fun y=>fix (aw row) y)=_
  rw [ym,af,dS (by rw [hr.len];exact h1)]
 have f1:bin fix (vb 1) (bin fix (vb 2) (kd (.int 1))) [some (.shr (hlD en re tb)),some (.shr (aw row)),some (.shr (fB t))]=.val (nD (row.getD t.2.1 0)):=by
  show R.bind (fix (fB t) (.int 1)) (fun y=>fix (aw row) y)=_
  rw [yl,af,dS (by rw [hr.len];exact h2)]
 have f2:bin fix (vb 2) (kd (.int 2)) [some (.shr (hlD en re tb)),some (.shr (aw row)),some (.shr (fB t))]=.val (nD t.2.2):=CK t
 have f3:una (gB 2) (vb 0) [some (.shr (hlD en re tb)),some (.shr (aw row)),some (.shr (fB t))]=.val (bC tb):=Eq.trans rfl rfl
 have g1:=iw (tb:=tb) (i:=row.getD t.1 0) (by rw [h.tl];exact a1)
 have g2:=iz (r:=tb.getD (row.getD t.1 0) []) (i:=t.2.2) (by rw [h.rl _ a1];exact h3)
 rw [cW,aD,aD,aD,f3,af,f0,af,g1,af,f2,af,g2,af,f1,af,gj]
 rfl
end
theorem nL {α:Type} {T:D->Rho->Option Rho} {F:Rho->R Out} {f:α->D} {ok:α->Bool} {c:Nat} (I:Rho->Prop):∀ {l:List α} {ρ:Rho},(∀ a ∈ l,∀ ρ,I ρ->∃ ρ1,T (f a) ρ=some ρ1/\(ok a=false->F ρ1=.exc c)/\(ok a=true->∃ ρ2,F ρ1=.val (.nx ρ2)/\I ρ2))->I ρ ->
  (l.all ok=false/\bK T F (l.map f) ρ=.exc c)\/(l.all ok=true/\∃ ρ',bK T F (l.map f) ρ=.val (.nx ρ')/\I ρ')
 | [],ρ,_,h=>.inr ⟨rfl,ρ,rfl,h⟩
 | a :: r,ρ,step,h=>by
  obtain ⟨ρ1,h1,h2,h3⟩:=step a (by simp) ρ h
  rw [List.map_cons,List.all_cons]
  unfold bK
  rw [h1]
  dsimp only
  cases q:ok a with
  | false=>exact .inl ⟨rfl,by rw [h2 q];rfl⟩
  | true =>
   obtain ⟨ρ2,e2,i2⟩:=h3 q
   rw [e2,Bool.true_and]
   exact nL I (fun b hb=>step b (by simp [hb])) i2
theorem ck {t:Rho->R Bool} {a b:Rho->R Out} {ρ:Rho} (h:t ρ=.val true):DL.iff t a b ρ=a ρ:=by rw [bW,h];rfl
theorem iV {A B:Rho->R Out} {ρ:Rho} {c:Nat} (h:A ρ=.exc c):sq A B ρ=.exc c:=by rw [aW,h];rfl
theorem Ds {c:Nat} {a:Rho->R D} {ρ:Rho} {i:Int} (h:a ρ=.val (.int i)) (hi:i.natAbs < 10 ^ 40):rse c (fSs a sK) ρ=.exc c:=by
 unfold rse fSs fS
 rw [h]
 dsimp only
 rw [if_pos hi]
 rfl
abbrev Tz:=Int × Int × Int
def tzD (t:Tz):D:=.tup [.int t.1,.int t.2.1,.int t.2.2]
def cF (ts:List Tz):D:=.lst (ts.map tzD)
def tz (t:Tie):Tz:=((t.1:Int),(t.2.1:Int),(t.2.2:Int))
theorem uC (ts:List Tie):bg ts=cF (ts.map tz):=by
 unfold bg cF
 rw [List.map_map]
 rfl
def inB (z:Int) (n:Nat):Bool:=decide (0<=z) && decide (z < (n:Int))
theorem inB_iff {z:Int} {n:Nat}:inB z n=true ↔ 0<=z/\z < (n:Int):=by unfold inB;simp
theorem mH {a n:Nat} (h:a < n):inB (a:Int) n=true:=inB_iff.mpr ⟨by omega,by omega⟩
def okT (en:List (Nat × Nat)) (pz:List Int) (t:Tz):Bool:=inB t.1 pz.length && (inB t.2.1 pz.length && (inB t.2.2 en.length && (decide (((en.getD t.2.2.toNat (0,0)).1:Int)=pz.getD t.1.toNat (-1)) && decide (((en.getD t.2.2.toNat (0,0)).2:Int)=pz.getD t.2.1.toNat (-1)))))
def okP (en:List (Nat × Nat)) (re:List Nat) (pz:List Int) (ts:List Tz):Bool:=decide (pz.length<=3) && (decide (ts.length<=4) && (pz.all (fun p=>inB p re.length) && ts.all (okT en pz)))
section
variable {en:List (Nat × Nat)} {re:List Nat} {tb:List (List Int)}
theorem sA {r:List Int} {x:Int} (h:inB x r.length=true):fix (aL r) (.int x)=.val (.int (r.getD x.toNat (-1))):=by
 obtain ⟨h1,h2⟩:=inB_iff.mp h
 have:=iz (r:=r) (i:=x.toNat) (by omega)
 rwa [Int.toNat_of_nonneg h1] at this
theorem yn {x:Int} (h:inB x en.length=true):fix (dv en) (.int x)=.val (eD (en.getD x.toNat (0,0))):=by
 obtain ⟨h1,h2⟩:=inB_iff.mp h
 have:=fW (en:=en) (i:=x.toNat) (by omega)
 rwa [Int.toNat_of_nonneg h1] at this
theorem wz {pz:List Int} {t:Tz}:fh [hlD en re tb,aL pz,tzD t]=.val (.bl (okT en pz t)):=by
 simp only [fh,j5]
 show fin (sq _ _ [some (.shr (hlD en re tb)),some (.shr (aL pz)),some (.shr (tzD t))])=_
 have v0:bin fix (vb 2) (kd (.int 0)) [some (.shr (hlD en re tb)),some (.shr (aL pz)),some (.shr (tzD t))]=.val (.int t.1):=i6 (.int t.1) [.int t.2.1,.int t.2.2]
 have v1:bin fix (vb 2) (kd (.int 1)) [some (.shr (hlD en re tb)),some (.shr (aL pz)),some (.shr (tzD t))]=.val (.int t.2.1):=gh (.int t.1) (.int t.2.1) [.int t.2.2]
 have v2:bin fix (vb 2) (kd (.int 2)) [some (.shr (hlD en re tb)),some (.shr (aL pz)),some (.shr (tzD t))]=.val (.int t.2.2):=ud (.int t.1) (.int t.2.1) (.int t.2.2) []
 have lp:una aA (vb 1) [some (.shr (hlD en re tb)),some (.shr (aL pz)),some (.shr (tzD t))]=.val (nD pz.length):=sy pz
 have le:una aA (una (gB 0) (vb 0)) [some (.shr (hlD en re tb)),some (.shr (aL pz)),some (.shr (tzD t))]=.val (nD en.length):=nZ en
 have t0:tst (bin fne (una aA (vb 2)) (kd (.int 3))) [some (.shr (hlD en re tb)),some (.shr (aL pz)),some (.shr (tzD t))]=.val false:=by
  show R.bind (fne (.int 3) (.int 3)) asB=_
  rw [ub];rfl
 have b0:tst (cal 2 aR (aC (bin fix (vb 2) (kd (.int 0))) (aC (una aA (vb 1)) aN))) [some (.shr (hlD en re tb)),some (.shr (aL pz)),some (.shr (tzD t))]=.val (inB t.1 pz.length):=by
  rw [bT,qS v0 lp (d9 _ _)];rfl
 have b1:tst (cal 2 aR (aC (bin fix (vb 2) (kd (.int 1))) (aC (una aA (vb 1)) aN))) [some (.shr (hlD en re tb)),some (.shr (aL pz)),some (.shr (tzD t))]=.val (inB t.2.1 pz.length):=by
  rw [bT,qS v1 lp (d9 _ _)];rfl
 have b2:cal 2 aR (aC (bin fix (vb 2) (kd (.int 2))) (aC (una aA (una (gB 0) (vb 0))) aN)) [some (.shr (hlD en re tb)),some (.shr (aL pz)),some (.shr (tzD t))]=.val (.bl (inB t.2.2 en.length)):=qS v2 le (d9 _ _)
 unfold okT
 cases c0:inB t.1 pz.length with
 | false =>
  rw [aW,bW,gL,t0,af,if_neg (by decide),gL,fq,b0,c0];rfl
 | true =>
  cases c1:inB t.2.1 pz.length with
  | false=>rw [aW,bW,gL,t0,af,if_neg (by decide),gL,fq,b0,c0,af,af,if_neg (by decide),fq,b1,c1];rfl
  | true =>
   have s1:DL.iff (orB (tst (bin fne (una aA (vb 2)) (kd (.int 3)))) (orB (iO (tst (cal 2 aR (aC (bin fix (vb 2) (kd (.int 0))) (aC (una aA (vb 1)) aN))))) (iO (tst (cal 2 aR (aC (bin fix (vb 2) (kd (.int 1))) (aC (una aA (vb 1)) aN)))))))
     (ret (kd (.bl false))) nxt [some (.shr (hlD en re tb)),some (.shr (aL pz)),some (.shr (tzD t))]=.val (.nx [some (.shr (hlD en re tb)),some (.shr (aL pz)),some (.shr (tzD t))]):=by
    refine cO ?_
    rw [gL,t0,af,if_neg (by decide),gL,fq,b0,c0,af,af,if_neg (by decide),fq,b1,c1]
    rfl
   rw [aS s1,cW,vP,b2,af,rb,af]
   cases c2:inB t.2.2 en.length with
   | false=>rfl
   | true =>
    have w0:bin fix (una (gB 0) (vb 0)) (bin fix (vb 2) (kd (.int 2))) [some (.shr (hlD en re tb)),some (.shr (aL pz)),some (.shr (tzD t))]=.val (eD (en.getD t.2.2.toNat (0,0))):=by
     rw [aD,v2]
     exact yn c2
    have w1:bin fix (vb 1) (bin fix (vb 2) (kd (.int 0))) [some (.shr (hlD en re tb)),some (.shr (aL pz)),some (.shr (tzD t))]=.val (.int (pz.getD t.1.toNat (-1))):=by
     rw [aD,v0]
     exact sA c0
    have w2:bin fix (vb 1) (bin fix (vb 2) (kd (.int 1))) [some (.shr (hlD en re tb)),some (.shr (aL pz)),some (.shr (tzD t))]=.val (.int (pz.getD t.2.1.toNat (-1))):=by
     rw [aD,v1]
     exact sA c1
    have w3:eT (aC (bin fix (vb 1) (bin fix (vb 2) (kd (.int 0)))) (aC (bin fix (vb 1) (bin fix (vb 2) (kd (.int 1)))) aN)) [some (.shr (hlD en re tb)),some (.shr (aL pz)),some (.shr (tzD t))]=.val (.tup [.int (pz.getD t.1.toNat (-1)),.int (pz.getD t.2.1.toNat (-1))]):=by
     rw [eR,aI,w1,af,aI,w2]
     rfl
    rw [if_pos rfl,aD,w0,af,w3,af]
    generalize en.getD t.2.2.toNat (0,0)=p
    generalize pz.getD t.1.toNat (-1)=x
    generalize pz.getD t.2.1.toNat (-1)=y
    have pl2:pln 9 (.tup [.int x,.int y])=true:=mF (by simp [uV])
    by_cases e:(p.1:Int)=x/\(p.2:Int)=y
    ·obtain ⟨rfl,rfl⟩:=e
     rw [decide_eq_true rfl,decide_eq_true rfl]
     show fin (R.bind (feq (eD p) (eD p)) _)=_
     rw [i8 (iq p)];rfl
    ·rw [n8 (iq p) pl2 (fun z=>e (by
      unfold eD nD at z
      simp only [D.tup.injEq,List.cons.injEq,D.int.injEq,and_true] at z
      exact z))]
     have:(decide ((p.1:Int)=x) && decide ((p.2:Int)=y))=false:=by
      rw [Bool.eq_false_iff]
      intro q
      rw [Bool.and_eq_true,decide_eq_true_eq,decide_eq_true_eq] at q
      exact e q
     rw [this];rfl
theorem ff {pz:List Int} {ts:List Tz}:bz [hlD en re tb,aL pz,cF ts]=if okP en re pz ts=true then .val .non else .exc 3:=by
 simp only [bz,eO]
 show fin (sq _ _ [some (.shr (hlD en re tb)),some (.shr (aL pz)),some (.shr (cF ts)),none,none,none,none])=_
 have a:tst (bin (iI fgt) (una aA (vb 1)) (kd (.int 3))) [some (.shr (hlD en re tb)),some (.shr (aL pz)),some (.shr (cF ts)),none,none,none,none]=.val (decide ((3:Int) < pz.length)):=by
  have v:una aA (vb 1) [some (.shr (hlD en re tb)),some (.shr (aL pz)),some (.shr (cF ts)),none,none,none,none]=.val (nD pz.length):=sy pz
  rw [bT,aD,v];rfl
 have b:tst (bin (iI fgt) (una aA (vb 2)) (kd (.int 4))) [some (.shr (hlD en re tb)),some (.shr (aL pz)),some (.shr (cF ts)),none,none,none,none]=.val (decide ((4:Int) < ts.length)):=by
  have v:una aA (vb 2) [some (.shr (hlD en re tb)),some (.shr (aL pz)),some (.shr (cF ts)),none,none,none,none]=.val (nD ts.length):=by
   show aA (.lst (ts.map tzD))=_
   rw [uc,List.length_map]
  rw [bT,aD,v];rfl
 have rs:rse 3 (fSs (kd (.int 3)) (fSs (kd (.int 4)) sK)) [some (.shr (hlD en re tb)),some (.shr (aL pz)),some (.shr (cF ts)),none,none,none,none]=.exc 3:=by
  unfold rse fSs fS
  simp only [cY]
  rw [if_pos (by decide),if_pos (by decide)]
  rfl
 unfold okP
 by_cases c1:pz.length<=3
 ·by_cases c2:ts.length<=4
  ·rw [decide_eq_true c1,decide_eq_true c2,Bool.true_and,Bool.true_and]
   have s1:DL.iff (orB (tst (bin (iI fgt) (una aA (vb 1)) (kd (.int 3)))) (tst (bin (iI fgt) (una aA (vb 2)) (kd (.int 4))))) (rse 3 (fSs (kd (.int 3)) (fSs (kd (.int 4)) sK))) nxt [some (.shr (hlD en re tb)),some (.shr (aL pz)),some (.shr (cF ts)),none,none,none,none]=.val (.nx [some (.shr (hlD en re tb)),some (.shr (aL pz)),some (.shr (cF ts)),none,none,none,none]) :=
    cO (by rw [gL,a,decide_eq_false (by omega),af,if_neg (by decide),b,decide_eq_false (by omega)])
   rw [aS s1]
   have l1:=nL (T:=tg2 3 4) (F:=DL.iff (iO (tst (cal 2 aR (aC (vr 4) (aC (una aA (una (gB 1) (vb 0))) aN))))) (rse 3 (fSs (vb 3) sK)) nxt) (f:=fun i=>.tup [nD i,.int (pz.getD i (-1))]) (ok:=fun i=>inB (pz.getD i (-1)) re.length) (c:=3) (l:=List.range pz.length) (ρ:=[some (.shr (hlD en re tb)),some (.shr (aL pz)),some (.shr (cF ts)),none,none,none,none])
    (fun ρ=>∃ x3 x4:Option Slt,ρ=[some (.shr (hlD en re tb)),some (.shr (aL pz)),some (.shr (cF ts)),x3,x4,none,none]) (fun i hi ρ hI=>by
     obtain ⟨x3,x4,rfl⟩:=hI
     have hi:=List.mem_range.mp hi
     have tt:tst (cal 2 aR (aC (vr 4) (aC (una aA (una (gB 1) (vb 0))) aN))) [some (.shr (hlD en re tb)),some (.shr (aL pz)),some (.shr (cF ts)),some (.shr (nD i)),some (.shr (.int (pz.getD i (-1)))),none,none]=.val (inB (pz.getD i (-1)) re.length):=by
      rw [bT,qS (a:=.int (pz.getD i (-1))) (b:=nD re.length) rfl (cq re) (d9 _ _)];rfl
     refine ⟨[some (.shr (hlD en re tb)),some (.shr (aL pz)),some (.shr (cF ts)),some (.shr (nD i)),some (.shr (.int (pz.getD i (-1)))),none,none],rfl,fun q=>?_,fun q=>⟨_,cO (by rw [fq,tt,q];rfl),_,_,rfl⟩⟩
     rw [ck (by rw [fq,tt,q];rfl),Ds (i:=(i:Int)) rfl (Nat.lt_of_le_of_lt (show _<=3 by omega) (by decide))]) ⟨none,none,rfl⟩
   have src1:eQ (aC (vr 1) aN) [some (.shr (hlD en re tb)),some (.shr (aL pz)),some (.shr (cF ts)),none,none,none,none]=.val ((List.range pz.length).map fun i=>.tup [nD i,.int (pz.getD i (-1))]):=by
    show R.val (enu 0 (pz.map D.int))=_
    rw [oj pz (-1)]
   have all1:(List.range pz.length).all (fun i=>inB (pz.getD i (-1)) re.length)=pz.all fun p=>inB p re.length:=by
    rw [Bool.eq_iff_iff,List.all_eq_true,List.all_eq_true]
    constructor
    ·intro h p hp
     obtain ⟨i,hi,rfl⟩:=List.mem_iff_getElem.mp hp
     have:=h i (List.mem_range.mpr hi)
     rwa [aZ hi] at this
    ·intro h i hi
     have hi:=List.mem_range.mp hi
     rw [aZ hi]
     exact h _ (List.getElem_mem hi)
   rw [all1] at l1
   rcases l1 with ⟨e,z⟩ | ⟨e,ρ1,z,x3,x4,rfl⟩
   ·rw [iV (by rw [cw,src1];exact z),e];rfl
   ·rw [aS (show bB _ _ _ _=_ by rw [cw,src1];exact z),e,Bool.true_and]
    have l2:=nL (T:=tg2 5 6) (F:=DL.iff (iO (tst (cal 3 fh (aC (vr 0) (aC (vr 1) (aC (vr 6) aN)))))) (rse 3 (fSs (vb 5) sK)) nxt) (f:=fun i=>.tup [nD i,tzD (ts.getD i (0,0,0))]) (ok:=fun i=>okT en pz (ts.getD i (0,0,0))) (c:=3) (l:=List.range ts.length) (ρ:=[some (.shr (hlD en re tb)),some (.shr (aL pz)),some (.shr (cF ts)),x3,x4,none,none])
     (fun ρ=>∃ x5 x6:Option Slt,ρ=[some (.shr (hlD en re tb)),some (.shr (aL pz)),some (.shr (cF ts)),x3,x4,x5,x6]) (fun i hi ρ hI=>by
      obtain ⟨x5,x6,rfl⟩:=hI
      have hi:=List.mem_range.mp hi
      have tt:tst (cal 3 fh (aC (vr 0) (aC (vr 1) (aC (vr 6) aN)))) [some (.shr (hlD en re tb)),some (.shr (aL pz)),some (.shr (cF ts)),x3,x4,some (.shr (nD i)),some (.shr (tzD (ts.getD i (0,0,0))))]=.val (okT en pz (ts.getD i (0,0,0))):=by
       rw [bT,qR (a:=hlD en re tb) (b:=aL pz) (c:=tzD (ts.getD i (0,0,0))) rfl rfl rfl wz];rfl
      refine ⟨[some (.shr (hlD en re tb)),some (.shr (aL pz)),some (.shr (cF ts)),x3,x4,some (.shr (nD i)),some (.shr (tzD (ts.getD i (0,0,0))))],rfl,fun q=>?_,fun q=>⟨_,cO (by rw [fq,tt,q];rfl),_,_,rfl⟩⟩
      rw [ck (by rw [fq,tt,q];rfl),Ds (i:=(i:Int)) rfl (Nat.lt_of_le_of_lt (show _<=4 by omega) (by decide))]) ⟨none,none,rfl⟩
    have tw:eQ (aC (vr 2) aN) [some (.shr (hlD en re tb)),some (.shr (aL pz)),some (.shr (cF ts)),x3,x4,none,none]=.val ((List.range ts.length).map fun i=>.tup [nD i,tzD (ts.getD i (0,0,0))]):=by
     show R.val (enu 0 (ts.map tzD))=_
     rw [oj ts (0,0,0)]
    have all2:(List.range ts.length).all (fun i=>okT en pz (ts.getD i (0,0,0)))=ts.all (okT en pz):=by
     rw [Bool.eq_iff_iff,List.all_eq_true,List.all_eq_true]
     constructor
     ·intro h p hp
      obtain ⟨i,hi,rfl⟩:=List.mem_iff_getElem.mp hp
      have:=h i (List.mem_range.mpr hi)
      rwa [aZ hi] at this
     ·intro h i hi
      have hi:=List.mem_range.mp hi
      rw [aZ hi]
      exact h _ (List.getElem_mem hi)
    rw [all2] at l2
    rw [cw,tw]
    rcases l2 with ⟨e,z⟩ | ⟨e,ρ1,z,_⟩
    ·rw [e]
     refine Eq.trans (congrArg fin z) ?_
     rfl
    ·rw [e]
     refine Eq.trans (congrArg fin z) ?_
     rfl
  ·rw [decide_eq_true c1,decide_eq_false c2,iV (by rw [ck (by rw [gL,a,decide_eq_false (by omega),af,if_neg (by decide),b,decide_eq_true (by omega)]),rs])]
   rfl
 ·rw [decide_eq_false c1,iV (by rw [ck (by rw [gL,a,decide_eq_true (by omega)];rfl),rs])]
  rfl
theorem Pic.ok {pl:List Nat} {ts:List Tie} (g:Pic en re pl ts):okP en re (bR pl) (ts.map tz)=true:=by
 unfold okP
 rw [decide_eq_true (by rw [cA];exact g.l3),decide_eq_true (by rw [List.length_map];exact g.l4),Bool.true_and,Bool.true_and,Bool.and_eq_true,List.all_eq_true,List.all_eq_true]
 have at_:∀ i,i < pl.length->(bR pl).getD i (-1)=((pl.getD i 0:Nat):Int):=fun i hi=>by
  rw [aZ (by rw [cA];exact hi),aZ hi]
  unfold bR
  rw [List.getElem_map]
 constructor
 ·intro p hp
  obtain ⟨i,hi,rfl⟩:=List.mem_iff_getElem.mp hp
  rw [cA] at hi
  have:=g.pb i hi
  have e:=at_ i hi
  rw [aZ (by rw [cA];exact hi)] at e
  rw [e]
  exact mH this
 ·intro z hz
  obtain ⟨t,ht,rfl⟩:=List.mem_map.mp hz
  obtain ⟨h1,h2,h3,h4⟩:=g.tk t ht
  unfold okT tz
  rw [cA,mH h1,mH h2,mH h3,Bool.true_and,Bool.true_and,Bool.true_and,Bool.and_eq_true,decide_eq_true_eq,decide_eq_true_eq]
  show ((en.getD t.2.2 (0,0)).1:Int)=(bR pl).getD t.1 (-1)/\((en.getD t.2.2 (0,0)).2:Int)=(bR pl).getD t.2.1 (-1)
  rw [at_ _ h1,at_ _ h2,h4]
  exact ⟨rfl,rfl⟩
end
section
variable {en:List (Nat × Nat)} {re:List Nat} {tb:List (List Int)} {pl:List Nat} {ts:List Tie}
abbrev rGr (H:D) (beg:List (List Nat)) (as:List Nat) (du:List Tie) (lo:List (List Nat)) (x5 x6 x7:Option Slt):Rho :=
 [some (.shr H),some (.shr (rwD beg)),some (.shr (aw as)),some (.shr (bg du)),some (.own (lo.map aw)),x5,x6,x7]
theorem yw (h:bY en re tb) {k:Nat} {beg:List (List Nat)} {as:List Nat} {du:List Tie} (hb:∀ r ∈ beg,Row en.length k r) (ha:∀ a ∈ as,a < en.length) (hd:∀ t ∈ du,t.1 < k + 1/\t.2.1 < k + 1/\t.2.2 < en.length) (hk:k<=1000) (hl:beg.length * as.length<=64000) (hdl:du.length<=1000) :
  fy [hlD en re tb,rwD beg,aw as,bg du]=.val (rwD ((stp beg as).filter fun row=>du.all (kpt tb row))):=by
 simp only [fy,lq]
 show fin (sq _ _ [some (.shr (hlD en re tb)),some (.shr (rwD beg)),some (.shr (aw as)),some (.shr (bg du)),none,none,none,none])=_
 have s1:own 4 (iQ aN) [some (.shr (hlD en re tb)),some (.shr (rwD beg)),some (.shr (aw as)),some (.shr (bg du)),none,none,none,none]=.val (.nx (rGr (hlD en re tb) beg as du [] none none none)):=Eq.trans rfl rfl
 rw [aS s1]
 obtain ⟨ρ1,e1,x5,x6,x7,rfl⟩:=mJ (src:=fIt (vr 1)) (T:=tgN 5) (F:=bB (fIt (vr 2)) (tgN 6)
   (sq (asg 7 (bin aV (vb 5) (eL (aC (vr 6) aN))))
   (DL.iff (tst (una qD (eLs (bI (fIt (vr 3)) 1 (tgN 8) tT (cal 3 cb (aC (vr 0) (aC (vr 7) (aC (vr 8) aN))))))))
   (app 4 (vr 7))
   nxt))) (f:=aw) (l:=beg) (ρ:=rGr (hlD en re tb) beg as du [] none none none)
  (fun p ρ=>∃ x5 x6 x7:Option Slt,ρ=rGr (hlD en re tb) beg as du ((stp p as).filter fun row=>du.all (kpt tb row)) x5 x6 x7) rfl (fun p r q e ρ hI=>by
   obtain ⟨x5,x6,x7,rfl⟩:=hI
   have hr:Row en.length k r:=hb r (by rw [e];simp)
   have lr:=hr.len
   obtain ⟨ρ2,e2,y6,y7,rfl⟩:=mJ (src:=fIt (vr 2)) (T:=tgN 6) (F:=sq (asg 7 (bin aV (vb 5) (eL (aC (vr 6) aN))))
     (DL.iff (tst (una qD (eLs (bI (fIt (vr 3)) 1 (tgN 8) tT (cal 3 cb (aC (vr 0) (aC (vr 7) (aC (vr 8) aN))))))))
     (app 4 (vr 7))
     nxt)) (f:=nD) (l:=as) (ρ:=rGr (hlD en re tb) beg as du ((stp p as).filter fun row=>du.all (kpt tb row)) (some (.shr (aw r))) x6 x7)
    (fun o ρ=>∃ y6 y7:Option Slt,ρ=rGr (hlD en re tb) beg as du (((stp p as).filter fun row=>du.all (kpt tb row)) ++ ((o.map fun a=>r ++ [a]).filter fun row=>du.all (kpt tb row))) (some (.shr (aw r))) y6 y7) rfl (fun o a u eo ρ hI=>by
     obtain ⟨y6,y7,rfl⟩:=hI
     have aa:a < en.length:=ha a (by rw [eo];simp)
     have hn:Row en.length (k + 1) (r ++ [a]):=hr.snoc aa
     generalize hlo:(((stp p as).filter fun row=>du.all (kpt tb row)) ++ ((o.map fun a=>r ++ [a]).filter fun row=>du.all (kpt tb row)))=lo
     have llo:lo.length < 100000:=by
      rw [<- hlo,List.length_append]
      have l1:=List.length_filter_le (fun row=>du.all (kpt tb row)) (stp p as)
      have l2:=List.length_filter_le (fun row=>du.all (kpt tb row)) (o.map fun a=>r ++ [a])
      rw [uD] at l1
      rw [List.length_map] at l2
      have b1:beg.length=p.length + (q.length + 1):=by rw [e];simp
      have b2:as.length=o.length + (u.length + 1):=by rw [eo];simp
      have b3:(p.length + 1) * as.length<=beg.length * as.length:=Nat.mul_le_mul_right _ (by omega)
      rw [Nat.succ_mul] at b3
      omega
     have s2:asg 7 (bin aV (vb 5) (eL (aC (vr 6) aN))) (rGr (hlD en re tb) beg as du lo (some (.shr (aw r))) (some (.shr (nD a))) y7)=.val (.nx (rGr (hlD en re tb) beg as du lo (some (.shr (aw r))) (some (.shr (nD a))) (some (.shr (aw (r ++ [a])))))):=by
      refine bH ?_
      show aV (.lst (r.map nD)) (.lst [nD a])=_
      refine Eq.trans (if_pos (show (r.map nD).length + 1<=100000 by rw [List.length_map];omega)) ?_
      unfold aw
      rw [List.map_append];rfl
     have tt:tst (una qD (eLs (bI (fIt (vr 3)) 1 (tgN 8) tT (cal 3 cb (aC (vr 0) (aC (vr 7) (aC (vr 8) aN))))))) (rGr (hlD en re tb) beg as du lo (some (.shr (aw r))) (some (.shr (nD a))) (some (.shr (aw (r ++ [a])))))=.val (du.all (kpt tb (r ++ [a]))):=by
      have c:=gm (src:=fIt (vr 3)) (n:=1) (i:=8) (e:=cal 3 cb (aC (vr 0) (aC (vr 7) (aC (vr 8) aN)))) (f:=fB) (g:=fun t=>.bl (kpt tb (r ++ [a]) t)) (l:=du) (ρ:=rGr (hlD en re tb) beg as du lo (some (.shr (aw r))) (some (.shr (nD a))) (some (.shr (aw (r ++ [a]))))) rfl (by omega) (fun t ht=>by
       obtain ⟨d1,d2,d3⟩:=hd t ht
       exact qR (a:=hlD en re tb) (b:=aw (r ++ [a])) (c:=fB t) rfl rfl rfl (qE h hn d1 d2 d3))
      rw [bT,jP,cr,c,af,af,sD];rfl
     refine ⟨rGr (hlD en re tb) beg as du lo (some (.shr (aw r))) (some (.shr (nD a))) y7,?_⟩
     by_cases c:du.all (kpt tb (r ++ [a]))=true
     ·refine ⟨_,rfl,?_,some (.shr (nD a)),some (.shr (aw (r ++ [a]))),rfl⟩
      show sq _ _ (rGr (hlD en re tb) beg as du lo (some (.shr (aw r))) (some (.shr (nD a))) y7)=_
      rw [aS s2,ck (by rw [tt,c]),jo _ (d:=aw (r ++ [a])) (xs:=lo.map aw) rfl rfl (by rw [List.length_map];exact llo)]
      have q:(stp p as).filter (fun row=>du.all (kpt tb row)) ++ ((o ++ [a]).map fun a=>r ++ [a]).filter (fun row=>du.all (kpt tb row))=lo ++ [r ++ [a]]:=by
       rw [<- hlo,List.map_append,List.filter_append,List.append_assoc]
       rw [show List.filter (fun row=>du.all (kpt tb row)) (List.map (fun a=>r ++ [a]) [a])=[r ++ [a]] by rw [List.map_singleton,List.filter_cons,if_pos c];rfl]
      have m:(lo ++ [r ++ [a]]).map aw=lo.map aw ++ [aw (r ++ [a])]:=by rw [List.map_append];rfl
      rw [q]
      show _=R.val (Out.nx [some (.shr (hlD en re tb)),some (.shr (rwD beg)),some (.shr (aw as)),some (.shr (bg du)),some (.own ((lo ++ [r ++ [a]]).map aw)),some (.shr (aw r)),some (.shr (nD a)),some (.shr (aw (r ++ [a])))])
      rw [m]
      rfl
     ·refine ⟨_,rfl,?_,some (.shr (nD a)),some (.shr (aw (r ++ [a]))),rfl⟩
      have c:du.all (kpt tb (r ++ [a]))=false:=by simpa using c
      show sq _ _ (rGr (hlD en re tb) beg as du lo (some (.shr (aw r))) (some (.shr (nD a))) y7)=_
      rw [aS s2,cO (by rw [tt,c]),<- hlo,List.map_append,List.filter_append]
      rw [show List.filter (fun row=>du.all (kpt tb row)) (List.map (fun a=>r ++ [a]) [a])=[] by rw [List.map_singleton,List.filter_cons,if_neg (by rw [c];decide)];rfl,List.append_nil]) ⟨x6,x7,by simp⟩
   refine ⟨_,_,rfl,e2,some (.shr (aw r)),y6,y7,?_⟩
   rw [ze,List.filter_append]
   have:stp [r] as=as.map fun a=>r ++ [a]:=by unfold stp;simp
   rw [this]) ⟨none,none,none,rfl⟩
 rw [aS e1]
 rfl
end
theorem rJ {n i:Nat} {p q:List Nat} (e:List.range n=p ++ i :: q):i=p.length/\i < n:=by
 have h:(List.range n)[p.length]?=some i:=by rw [e];simp
 have hn:p.length < n:=by
  have:=congrArg List.length e
  simp at this;omega
 rw [List.getElem?_range hn] at h
 have:p.length=i:=by simpa using h
 omega
section
variable {en:List (Nat × Nat)} {re:List Nat} {tb:List (List Int)} {pl:List Nat} {ts:List Tie}
theorem oA (b:Nat):∀ p,∀ a ∈ btw en b p,a < en.length:=fun p a h=>(mem_btw.mp h).1
theorem Aa (h:bY en re tb) (b:Nat) (pl:List Nat) (ts:List Tie):(kws tb (btw en b) pl ts).length<=40 ^ pl.length :=
 Nat.le_trans (List.length_filter_le _ _) (zn (fun p=>Nat.le_trans (qU b p) h.na40) (by decide) pl)
theorem vg (b:Nat) (pl:List Nat) (ts:List Tie):∀ r ∈ kws tb (btw en b) pl ts,Row en.length pl.length r:=fun r hr=>rF (oA b) pl r (List.mem_filter.mp hr).1
abbrev rVf (H:D) (pl:List Nat) (ts:List Tie) (b:Nat) (beg:List (List Nat)) (x5 x6 x7:Option Slt):Rho :=
 [some (.shr H),some (.shr (aw pl)),some (.shr (bg ts)),some (.shr (nD b)),some (.shr (rwD beg)),x5,x6,x7]
theorem jM (h:bY en re tb) (g:Pic en re pl ts) {b:Nat} (hb:b < re.length):ce [hlD en re tb,aw pl,bg ts,nD b]=.val (rwD (kws tb (btw en b) pl ts)):=by
 simp only [ce,gq]
 show fin (sq _ _ [some (.shr (hlD en re tb)),some (.shr (aw pl)),some (.shr (bg ts)),some (.shr (nD b)),none,none,none,none])=_
 have s1:asg 4 (eL (aC (eL aN) aN)) [some (.shr (hlD en re tb)),some (.shr (aw pl)),some (.shr (bg ts)),some (.shr (nD b)),none,none,none,none]=.val (.nx (rVf (hlD en re tb) pl ts b [[]] none none none)):=Eq.trans rfl rfl
 rw [aS s1]
 have l3:=g.l3
 have l4:=g.l4
 obtain ⟨ρ1,e1,x5,x6,x7,rfl⟩:=mJ (src:=eQ (aC (vr 1) aN)) (T:=tg2 5 6) (F:=sq (asg 7 (eLs (bI (fIt (vr 2)) 1 (tgN 8) (tst (bin feq (qI (aC (bin fix (vb 8) (kd (.int 0))) (aC (bin fix (vb 8) (kd (.int 1))) aN))) (vb 5))) (vr 8))))
   (asg 4 (cal 4 fy (aC (vr 0) (aC (vr 4) (aC (cal 3 bo (aC (vr 0) (aC (vr 3) (aC (vr 6) aN)))) (aC (vr 7) aN))))))) (f:=fun i=>.tup [nD i,nD (pl.getD i 0)]) (l:=List.range pl.length) (ρ:=rVf (hlD en re tb) pl ts b [[]] none none none)
  (fun p ρ=>∃ x5 x6 x7:Option Slt,ρ=rVf (hlD en re tb) pl ts b (kws tb (btw en b) (pl.take p.length) ts) x5 x6 x7) (by
   show R.val (enu 0 (pl.map nD))=_
   rw [oj pl 0]) (fun p i q e ρ hI=>by
  obtain ⟨x5,x6,x7,rfl⟩:=hI
  obtain ⟨ei,hi⟩:=rJ e
  rw [<- ei]
  generalize hbe:kws tb (btw en b) (pl.take i) ts=beg
  have tl:(pl.take i).length=i:=by rw [List.length_take];omega
  have s2:asg 7 (eLs (bI (fIt (vr 2)) 1 (tgN 8) (tst (bin feq (qI (aC (bin fix (vb 8) (kd (.int 0))) (aC (bin fix (vb 8) (kd (.int 1))) aN))) (vb 5))) (vr 8))) (rVf (hlD en re tb) pl ts b beg (some (.shr (nD i))) (some (.shr (nD (pl.getD i 0)))) x7)=.val (.nx (rVf (hlD en re tb) pl ts b beg (some (.shr (nD i))) (some (.shr (nD (pl.getD i 0)))) (some (.shr (bg (du i ts)))))):=by
   refine bH ?_
   have c:=jE (src:=fIt (vr 2)) (n:=1) (T:=tgN 8) (t:=tst (bin feq (qI (aC (bin fix (vb 8) (kd (.int 0))) (aC (bin fix (vb 8) (kd (.int 1))) aN))) (vb 5))) (e:=vr 8) (f:=fB) (g:=fB) (p:=fun t:Tie=>decide (max t.1 t.2.1=i)) (l:=ts) (ρ:=rVf (hlD en re tb) pl ts b beg (some (.shr (nD i))) (some (.shr (nD (pl.getD i 0)))) x7) rfl (by omega) (fun t _=>by
    refine ⟨_,rfl,?_,rfl⟩
    have v0:bin fix (vb 8) (kd (.int 0)) (rVf (hlD en re tb) pl ts b beg (some (.shr (nD i))) (some (.shr (nD (pl.getD i 0)))) x7 ++ [some (.shr (fB t))])=.val (nD t.1):=ym t
    have v1:bin fix (vb 8) (kd (.int 1)) (rVf (hlD en re tb) pl ts b beg (some (.shr (nD i))) (some (.shr (nD (pl.getD i 0)))) x7 ++ [some (.shr (fB t))])=.val (nD t.2.1):=yl t
    show tst (bin feq (qI (aC (bin fix (vb 8) (kd (.int 0))) (aC (bin fix (vb 8) (kd (.int 1))) aN))) (vb 5)) (rVf (hlD en re tb) pl ts b beg (some (.shr (nD i))) (some (.shr (nD (pl.getD i 0)))) x7 ++ [some (.shr (fB t))])=_
    rw [bT,aD,vF,aI,v0,af,aI,v1,af,gJ,af,af,af,vm,af]
    show R.bind (feq (.int (if (t.2.1:Int) > (t.1:Int) then (t.2.1:Int) else (t.1:Int))) (.int (i:Int))) asB=_
    rw [gj,af,rb]
    congr 1
    rw [Bool.eq_iff_iff,decide_eq_true_eq,decide_eq_true_eq]
    split <;> omega)
   rw [cr,c]
   rfl
  have bt:cal 3 bo (aC (vr 0) (aC (vr 3) (aC (vr 6) aN))) (rVf (hlD en re tb) pl ts b beg (some (.shr (nD i))) (some (.shr (nD (pl.getD i 0)))) (some (.shr (bg (du i ts)))))=.val (aw (btw en b (pl.getD i 0))):=qR (a:=hlD en re tb) (b:=nD b) (c:=nD (pl.getD i 0)) rfl rfl rfl (j0 h hb (g.pb i hi))
  have gr:fy [hlD en re tb,rwD beg,aw (btw en b (pl.getD i 0)),bg (du i ts)]=.val (rwD (kws tb (btw en b) (pl.take (i + 1)) ts)):=by
   have row:∀ r ∈ beg,Row en.length i r:=by rw [<- hbe];have:=vg (tb:=tb) (en:=en) b (pl.take i) ts;rwa [tl] at this
   have len:beg.length<=1600:=by
    rw [<- hbe]
    refine Nat.le_trans (Aa h b _ ts) ?_
    rw [tl]
    exact Nat.le_trans (Nat.pow_le_pow_right (by decide) (show i<=2 by omega)) (by decide)
   have lh:(btw en b (pl.getD i 0)).length<=40:=Nat.le_trans (qU b _) h.na40
   have gg:=yw h (k:=i) (beg:=beg) (as:=btw en b (pl.getD i 0)) (du:=du i ts) row (oA b _) (fun t ht=>by
    obtain ⟨m1,m2⟩:=List.mem_filter.mp ht
    have m2:=of_decide_eq_true m2
    obtain ⟨k1,k2,k3,_⟩:=g.tk t m1
    exact ⟨by omega,by omega,k3⟩) (by omega) (Nat.le_trans (Nat.mul_le_mul len lh) (by decide)) (Nat.le_trans (List.length_filter_le _ _) (by omega))
   rw [gg,List.take_succ_eq_append_getElem hi]
   have kk:=xZ (tb:=tb) (oA (en:=en) b) (pl.take i) pl[i] ts
   rw [tl,hbe] at kk
   rw [<- kk,aZ hi]
  have s3:asg 4 (cal 4 fy (aC (vr 0) (aC (vr 4) (aC (cal 3 bo (aC (vr 0) (aC (vr 3) (aC (vr 6) aN)))) (aC (vr 7) aN))))) (rVf (hlD en re tb) pl ts b beg (some (.shr (nD i))) (some (.shr (nD (pl.getD i 0)))) (some (.shr (bg (du i ts)))))=.val (.nx (rVf (hlD en re tb) pl ts b (kws tb (btw en b) (pl.take (i + 1)) ts) (some (.shr (nD i))) (some (.shr (nD (pl.getD i 0)))) (some (.shr (bg (du i ts)))))):=by
   exact bH (ms (a:=hlD en re tb) (b:=rwD beg) (c:=aw (btw en b (pl.getD i 0))) (e:=bg (du i ts)) rfl rfl bt rfl gr)
  refine ⟨rVf (hlD en re tb) pl ts b beg (some (.shr (nD i))) (some (.shr (nD (pl.getD i 0)))) x7,_,rfl,by rw [aS s2,s3],some (.shr (nD i)),some (.shr (nD (pl.getD i 0))),some (.shr (bg (du i ts))),?_⟩
  rw [List.length_append,<- ei]
  rfl) ⟨none,none,none,by
   have:kws tb (btw en b) (pl.take (List.length ([]:List Nat))) ts=[[]]:=by
    rw [List.length_nil,List.take_zero]
    unfold kws
    have:lt (List.length ([]:List Nat)) ts=[]:=by
     unfold lt
     rw [List.filter_eq_nil_iff]
     intro t _
     simp
    rw [this];rfl
   rw [this]⟩
 rw [aS e1]
 rw [List.length_range,List.take_length]
 rfl
end
theorem lg (a b:Int) (x y:List Int):cX (a :: x) (b :: y)=if a=b then cX x y else decide (a < b):=rfl
theorem wm (x:List Int):∀ {y z:List Int},cX (x ++ y) (x ++ z)=cX y z:=by
 induction x with
 | nil=>intro y z;rfl
 | cons a x ih=>intro y z;rw [List.cons_append,List.cons_append,lg,if_pos rfl];exact ih
theorem pA:∀ {x x' y z:List Int},x.length=x'.length->cX x x'=true->cX (x ++ y) (x' ++ z)=true
 | [],[],_,_,_,h=>by cases h
 | [],_ :: _,_,_,h,_=>by simp at h
 | _ :: _,[],_,_,h,_=>by simp at h
 | a :: x,b :: x',y,z,hl,h=>by
  rw [List.cons_append,List.cons_append]
  rw [lg] at h ⊢
  by_cases e:a=b
  ·rw [if_pos e] at h ⊢
   exact pA (by simpa using hl) h
  ·rw [if_neg e] at h ⊢;exact h
abbrev lx (a b:List Nat):Prop:=cX (bR a) (bR b)=true
theorem jG (a b:List Nat):bR (a ++ b)=bR a ++ bR b:=by unfold bR;rw [List.map_append]
theorem Br {rows:List (List Nat)} {as:List Nat} {k:Nat} (hk:∀ r ∈ rows,r.length=k) (hr:rows.Pairwise lx) (ha:as.Pairwise (· < ·)):(stp rows as).Pairwise lx:=by
 unfold stp
 rw [List.pairwise_flatMap]
 constructor
 ·intro r _
  rw [List.pairwise_map]
  refine ha.imp fun {a b} h=>?_
  show cX (bR (r ++ [a])) (bR (r ++ [b]))=true
  rw [jG,jG,wm]
  unfold bR
  rw [List.map_cons,List.map_cons,lg,if_neg (by omega)]
  exact decide_eq_true (by omega)
 ·rw [List.pairwise_iff_getElem] at hr ⊢
  intro i j hi hj hij x hx y hy
  obtain ⟨a,_,rfl⟩:=List.mem_map.mp hx
  obtain ⟨b,_,rfl⟩:=List.mem_map.mp hy
  show cX (bR (_ ++ [a])) (bR (_ ++ [b]))=true
  rw [jG,jG]
  exact pA (by rw [cA,cA,hk _ (List.getElem_mem hi),hk _ (List.getElem_mem hj)]) (hr i j hi hj hij)
theorem Bw {N:Nat} {B:Nat->List Nat} (hB:∀ p,∀ a ∈ B p,a < N) (hs:∀ p,(B p).Pairwise (· < ·)) (pl:List Nat):(rws B pl).Pairwise lx:=by
 suffices ∀ n,n<=pl.length->(rws B (pl.take n)).Pairwise lx by
  have:=this pl.length (Nat.le_refl _)
  rwa [List.take_length] at this
 intro n
 induction n with
 | zero=>intro _;rw [List.take_zero];exact List.pairwise_singleton _ _
 | succ n ih =>
  intro hn
  rw [List.take_succ_eq_append_getElem (by omega),kq]
  exact Br (fun r hr=>(uM hB pl n (by omega) r hr).len) (ih (by omega)) (hs _)
section
variable {en:List (Nat × Nat)} {re:List Nat} {tb:List (List Int)} {pl:List Nat} {ts:List Tie}
theorem C9 (b p:Nat):(btw en b p).Pairwise (· < ·):=List.pairwise_lt_range.filter _
theorem Cq (b:Nat):(kws tb (btw en b) pl ts).Pairwise lx:=(Bw (oA b) (C9 b) pl).filter _
def vws (en:List (Nat × Nat)) (tb:List (List Int)) (pl:List Nat) (ts:List Tie) (b:Nat):List (List Int):=(kws tb (btw en b) pl ts).map bR
theorem Bf (b:Nat):(vws en tb pl ts b).Pairwise fun x y=>cX x y=true:=by
 unfold vws
 rw [List.pairwise_map]
 exact Cq b
theorem Bg (b:Nat):(vws en tb pl ts b).Pairwise fun x y=>leL x y=true:=(Bf b).imp fun h=>by unfold leL;rw [vf h];rfl
def xK (tb:List (List Int)) (a:Nat) (row:List Nat):List Int:=row.map fun x=>(tb.getD a []).getD x (-1)
def gD (en:List (Nat × Nat)) (tb:List (List Int)) (b c:Nat) (row:List Nat):List (List Int):=(btw en b c).map fun a=>xK tb a row
def isB (en:List (Nat × Nat)) (re:List Nat) (tb:List (List Int)) (pl:List Nat) (ts:List Tie) (c:Nat) (row:List Nat):Bool :=
 (List.range re.length).all fun b=>decide (jH (gD en tb b c row)=vws en tb pl ts b)
theorem srt_iff {b:Nat} {m:List (List Int)}:jH m=vws en tb pl ts b ↔ m.Perm (vws en tb pl ts b):=by
 constructor
 ·intro h;rw [<- h];exact (pj m).symm
 ·intro h;exact jv h.symm (Bg b)
theorem yb {c b:Nat} {row:List Nat} (h:isB en re tb pl ts c row=true) (hb:b < re.length):(gD en tb b c row).Perm (vws en tb pl ts b):=by
 unfold isB at h
 exact srt_iff.mp (of_decide_eq_true (List.all_eq_true.mp h b (List.mem_range.mpr hb)))
end
section
variable {en:List (Nat × Nat)} {re:List Nat} {tb:List (List Int)} {pl:List Nat} {ts:List Tie}
theorem n9 (h:bY en re tb) {a:Nat} {row:List Nat} (ha:a < en.length) (hr:∀ x ∈ row,x < en.length) (hl:row.length<=100000):bG [hlD en re tb,nD a,aw row]=.val (aL (xK tb a row)):=by
 simp only [bG,fE]
 show fin (ret _ [some (.shr (hlD en re tb)),some (.shr (nD a)),some (.shr (aw row))])=_
 have c:=gm (src:=fIt (vr 2)) (n:=1) (i:=3) (e:=bin fix (bin fix (una (gB 2) (vb 0)) (vb 1)) (vb 3)) (f:=nD) (g:=fun x=>.int ((tb.getD a []).getD x (-1))) (l:=row) (ρ:=[some (.shr (hlD en re tb)),some (.shr (nD a)),some (.shr (aw row))]) rfl hl (fun x hx=>by
  have t:=iw (tb:=tb) (i:=a) (by rw [h.tl];exact ha)
  have t2:=iz (r:=tb.getD a []) (i:=x) (by rw [h.rl _ ha];exact hr x hx)
  show R.bind (fix (bC tb) (nD a)) (fun y=>fix y (nD x))=_
  rw [t,af,t2])
 rw [cW,cr,c]
 show R.val (D.lst (row.map fun x=>D.int ((tb.getD a []).getD x (-1))))=_
 unfold aL xK
 rw [List.map_map];rfl
def cB (en:List (Nat × Nat)) (re:List Nat) (tb:List (List Int)) (pl:List Nat) (ts:List Tie):D:=.lst ((List.range re.length).map fun b=>rwD (kws tb (btw en b) pl ts))
theorem oi:enu 0 ((List.range re.length).map fun b=>rwD (kws tb (btw en b) pl ts))=(List.range re.length).map fun b=>.tup [nD b,rwD (kws tb (btw en b) pl ts)]:=by
 rw [oj (List.range re.length) 0,List.length_range]
 apply List.map_congr_left
 intro b hb
 have hb:=List.mem_range.mp hb
 rw [aZ (by rw [List.length_range];exact hb),List.getElem_range]
theorem n_ (h:bY en re tb) {c:Nat} (hc:c < re.length):cv [hlD en re tb,cB en re tb pl ts,nD c]=.val (.bl ((List.range re.length).all fun b=>decide ((btw en b c).length=(kws tb (btw en b) pl ts).length))):=by
 simp only [cv,fH]
 show fin (ret _ [some (.shr (hlD en re tb)),some (.shr (cB en re tb pl ts)),some (.shr (nD c))])=_
 have n6:=h.nb6
 have cm:=jE (src:=eQ (aC (vr 1) aN)) (n:=2) (T:=tg2 3 4) (t:=tT) (e:=bin feq (una aA (cal 3 bo (aC (vr 0) (aC (vr 3) (aC (vr 2) aN))))) (una aA (vb 4))) (f:=fun b=>.tup [nD b,rwD (kws tb (btw en b) pl ts)]) (g:=fun b=>.bl (decide ((btw en b c).length=(kws tb (btw en b) pl ts).length))) (p:=fun _=>true) (l:=List.range re.length) (ρ:=[some (.shr (hlD en re tb)),some (.shr (cB en re tb pl ts)),some (.shr (nD c))]) (by
   show R.val (enu 0 ((List.range re.length).map fun b=>rwD (kws tb (btw en b) pl ts)))=_
   rw [oi]) (by rw [List.length_range];omega) (fun b hb=>by
  have hb:=List.mem_range.mp hb
  refine ⟨[some (.shr (hlD en re tb)),some (.shr (cB en re tb pl ts)),some (.shr (nD c)),some (.shr (nD b)),some (.shr (rwD (kws tb (btw en b) pl ts)))],rfl,rfl,?_⟩
  have v1:cal 3 bo (aC (vr 0) (aC (vr 3) (aC (vr 2) aN))) [some (.shr (hlD en re tb)),some (.shr (cB en re tb pl ts)),some (.shr (nD c)),some (.shr (nD b)),some (.shr (rwD (kws tb (btw en b) pl ts)))]=.val (aw (btw en b c)):=qR rfl rfl rfl (j0 h hb hc)
  have v2:una aA (vb 4) [some (.shr (hlD en re tb)),some (.shr (cB en re tb pl ts)),some (.shr (nD c)),some (.shr (nD b)),some (.shr (rwD (kws tb (btw en b) pl ts)))]=.val (nD (kws tb (btw en b) pl ts).length):=by
   show aA (.lst ((kws tb (btw en b) pl ts).map aw))=_
   rw [uc,List.length_map]
  rw [aD,jP,v1,af,cq,af,v2,af,gj]
  congr 2
  rw [Bool.eq_iff_iff,decide_eq_true_eq,decide_eq_true_eq]
  omega)
 rw [cW,jP,cr,cm,List.filter_eq_self.mpr (fun _ _=>rfl),af,af,sD];rfl
theorem nS:∀ l:List Int,hU (l.map D.int)=some l
 | []=>rfl
 | a :: l=>by rw [List.map_cons];unfold hU;rw [nS l];rfl
theorem m9:∀ ls:List (List Int),lR (ls.map aL)=some ls
 | []=>rfl
 | a :: ls=>by
  rw [List.map_cons]
  unfold lR aL
  dsimp only
  rw [nS]
  dsimp only
  have:=m9 ls
  unfold aL at this
  rw [this];rfl
theorem ww {ls:List (List Int)} (h:ls.length < 64):Aj (.lst (ls.map aL))=.val ((jH ls).map aL):=by
 unfold Aj
 dsimp only
 rw [m9]
 dsimp only
 rw [if_pos h]
 rfl
theorem tab_inj {a b:List (List Int)}:bC a=bC b ↔ a=b:=by
 constructor
 ·intro h
  unfold bC at h
  exact mG (fun x y e=>rowD_inj.mp e) (D.lst.inj h)
 ·intro h;rw [h]
theorem Am (a b:List (List Int)):fne (bC a) (bC b)=.val (.bl (!decide (a=b))):=by
 by_cases e:a=b
 ·subst e;rw [hV (qh _)];simp
 ·rw [sx (qh _) (qh _) (fun z=>e (tab_inj.mp z))];simp [e]
theorem uf (h:bY en re tb) {c:Nat} {row:List Nat} (hc:c < re.length) (hr:∀ x ∈ row,x < en.length) (hl:row.length<=100000):dP [hlD en re tb,cB en re tb pl ts,nD c,aw row]=.val (.bl (isB en re tb pl ts c row)):=by
 simp only [dP,jf]
 show fin (sq _ _ [some (.shr (hlD en re tb)),some (.shr (cB en re tb pl ts)),some (.shr (nD c)),some (.shr (aw row)),none,none,none])=_
 have n40:=h.na40
 have fe:=Ak (src:=eQ (aC (vr 1) aN)) (T:=tg2 4 5) (F:=sq (asg 6 (eLs (bI (fIt (cal 3 bo (aC (vr 0) (aC (vr 4) (aC (vr 2) aN))))) 1 (tgN 7) tT (cal 3 bG (aC (vr 0) (aC (vr 7) (aC (vr 3) aN)))))))
   (DL.iff (tst (bin fne (eLs (yo (vb 6))) (vb 5))) (ret (kd (.bl false))) nxt)) (f:=fun b=>.tup [nD b,rwD (kws tb (btw en b) pl ts)]) (ok:=fun b=>decide (jH (gD en tb b c row)=vws en tb pl ts b)) (l:=List.range re.length) (ρ:=[some (.shr (hlD en re tb)),some (.shr (cB en re tb pl ts)),some (.shr (nD c)),some (.shr (aw row)),none,none,none])
  (fun ρ=>∃ x4 x5 x6:Option Slt,ρ=[some (.shr (hlD en re tb)),some (.shr (cB en re tb pl ts)),some (.shr (nD c)),some (.shr (aw row)),x4,x5,x6]) (by
   show R.val (enu 0 ((List.range re.length).map fun b=>rwD (kws tb (btw en b) pl ts)))=_
   rw [oi]) (fun b hb ρ hI=>by
  obtain ⟨x4,x5,x6,rfl⟩:=hI
  have hb:=List.mem_range.mp hb
  have bl:=qU (en:=en) b c
  have s1:asg 6 (eLs (bI (fIt (cal 3 bo (aC (vr 0) (aC (vr 4) (aC (vr 2) aN))))) 1 (tgN 7) tT (cal 3 bG (aC (vr 0) (aC (vr 7) (aC (vr 3) aN)))))) [some (.shr (hlD en re tb)),some (.shr (cB en re tb pl ts)),some (.shr (nD c)),some (.shr (aw row)),some (.shr (nD b)),some (.shr (rwD (kws tb (btw en b) pl ts))),x6]=.val (.nx [some (.shr (hlD en re tb)),some (.shr (cB en re tb pl ts)),some (.shr (nD c)),some (.shr (aw row)),some (.shr (nD b)),some (.shr (rwD (kws tb (btw en b) pl ts))),some (.shr (bC (gD en tb b c row)))]):=by
   refine bH ?_
   have v1:cal 3 bo (aC (vr 0) (aC (vr 4) (aC (vr 2) aN))) [some (.shr (hlD en re tb)),some (.shr (cB en re tb pl ts)),some (.shr (nD c)),some (.shr (aw row)),some (.shr (nD b)),some (.shr (rwD (kws tb (btw en b) pl ts))),x6]=.val (aw (btw en b c)):=qR rfl rfl rfl (j0 h hb hc)
   have cm:=gm (src:=fIt (cal 3 bo (aC (vr 0) (aC (vr 4) (aC (vr 2) aN))))) (n:=1) (i:=7) (e:=cal 3 bG (aC (vr 0) (aC (vr 7) (aC (vr 3) aN)))) (f:=nD) (g:=fun a=>aL (xK tb a row)) (l:=btw en b c) (ρ:=[some (.shr (hlD en re tb)),some (.shr (cB en re tb pl ts)),some (.shr (nD c)),some (.shr (aw row)),some (.shr (nD b)),some (.shr (rwD (kws tb (btw en b) pl ts))),x6]) (by rw [ue,v1];rfl) (by omega) (fun a ha=>qR rfl rfl rfl (n9 h (oA b c a ha) hr hl))
   rw [cr,cm]
   show R.val (D.lst ((btw en b c).map fun a=>aL (xK tb a row)))=_
   unfold bC gD
   rw [List.map_map];rfl
  have tt:tst (bin fne (eLs (yo (vb 6))) (vb 5)) [some (.shr (hlD en re tb)),some (.shr (cB en re tb pl ts)),some (.shr (nD c)),some (.shr (aw row)),some (.shr (nD b)),some (.shr (rwD (kws tb (btw en b) pl ts))),some (.shr (bC (gD en tb b c row)))]=.val (!decide (jH (gD en tb b c row)=vws en tb pl ts b)):=by
   have sr:yo (vb 6) [some (.shr (hlD en re tb)),some (.shr (cB en re tb pl ts)),some (.shr (nD c)),some (.shr (aw row)),some (.shr (nD b)),some (.shr (rwD (kws tb (btw en b) pl ts))),some (.shr (bC (gD en tb b c row)))]=.val ((jH (gD en tb b c row)).map aL):=ww (by unfold gD;rw [List.length_map];omega)
   rw [bT,aD,cr,sr]
   show R.bind (fne (bC (jH (gD en tb b c row))) (rwD (kws tb (btw en b) pl ts))) asB=_
   rw [Bx]
   show R.bind (fne (bC (jH (gD en tb b c row))) (bC (vws en tb pl ts b))) asB=_
   rw [Am];rfl
  obtain ⟨k1,k2⟩:=DU tt
  refine ⟨_,rfl,fun q=>?_,fun q=>⟨_,?_,some (.shr (nD b)),some (.shr (rwD (kws tb (btw en b) pl ts))),some (.shr (bC (gD en tb b c row))),rfl⟩⟩
  ·refine Eq.trans (aS s1) ?_
   exact k1 q
  ·refine Eq.trans (aS s1) ?_
   exact k2 q) ⟨none,none,none,rfl⟩
 rw [fe]
 rfl
theorem pJ {α β:Type} {F:α->Option β}:∀ {l:List α},(∀ c,l.find? (fun a=>(F a).isSome)=some c->l.findSome? F=F c)/\(l.find? (fun a=>(F a).isSome)=none->l.findSome? F=none)
 | []=>⟨(fun c h=>by cases h),fun _=>rfl⟩
 | a :: l=>by
  rw [List.find?_cons,List.findSome?_cons]
  cases e:F a with
  | some b =>
   refine ⟨fun c h=>?_,fun h=>?_⟩
   ·have:a=c:=by simpa using h
    rw [<- this,e]
   ·simp at h
  | none=>exact pJ (F:=F) (l:=l)
def C_ (en:List (Nat × Nat)) (re:List Nat) (tb:List (List Int)) (pl:List Nat) (ts:List Tie):Option (Nat × List Nat) :=
 (List.range re.length).findSome? fun c=>((kws tb (btw en c) pl ts).find? (isB en re tb pl ts c)).map fun row=>(c,row)
def bD:Option (Nat × List Nat)->D
 | some (c,row)=>.tup [nD c,aw row]
 | none=>.non
theorem AS {c:Nat} {row:List Nat} (h:isB en re tb pl ts c row=true):((List.range re.length).all fun b=>decide ((btw en b c).length=(kws tb (btw en b) pl ts).length))=true:=by
 rw [List.all_eq_true]
 intro b hb
 have p:=(yb h (List.mem_range.mp hb)).length_eq
 unfold gD vws at p
 rw [List.length_map,List.length_map] at p
 exact decide_eq_true p
theorem lW {den:List D->R D} {A B C:Rho->R D} {ρ:Rho} {a b c:D} {x:R D} (ha:A ρ=.val a) (hb:B ρ=.val b) (hc:C ρ=.val c) (h:den [a,b,c]=x):iH 3 den (aC A (aC B (aC C aN))) ρ=x:=by
 rw [mP,aI,ha,af,aI,hb,af,aI,hc,af,gJ]
 simp only [af,h]
 rfl
theorem gN (g:Pic en re pl ts):bz [hlD en re tb,aw pl,bg ts]=.val .non:=by
 rw [mC,uC,ff,if_pos g.ok]
theorem vw (h:bY en re tb) (g:Pic en re pl ts):eM [hlD en re tb,aw pl,bg ts]=.val (bD (C_ en re tb pl ts)):=by
 simp only [eM,kI]
 show fin (sq _ _ [some (.shr (hlD en re tb)),some (.shr (aw pl)),some (.shr (bg ts)),none,none,none,none])=_
 have n6:=h.nb6
 have l3:=g.l3
 have s1:drp (iH 3 bz (aC (vr 0) (aC (vr 1) (aC (vr 2) aN)))) [some (.shr (hlD en re tb)),some (.shr (aw pl)),some (.shr (bg ts)),none,none,none,none]=.val (.nx [some (.shr (hlD en re tb)),some (.shr (aw pl)),some (.shr (bg ts)),none,none,none,none]):=ln (lW rfl rfl rfl (gN g))
 have s2:asg 3 (eLs (bI (cP (aC (una aA (una (gB 1) (vb 0))) aN)) 1 (tgN 7) tT (cal 4 ce (aC (vr 0) (aC (vr 1) (aC (vr 2) (aC (vr 7) aN))))))) [some (.shr (hlD en re tb)),some (.shr (aw pl)),some (.shr (bg ts)),none,none,none,none]=.val (.nx [some (.shr (hlD en re tb)),some (.shr (aw pl)),some (.shr (bg ts)),some (.shr (cB en re tb pl ts)),none,none,none]):=by
  refine bH ?_
  have src:cP (aC (una aA (una (gB 1) (vb 0))) aN) [some (.shr (hlD en re tb)),some (.shr (aw pl)),some (.shr (bg ts)),none,none,none,none]=.val (rng 0 re.length):=by
   have v:una aA (una (gB 1) (vb 0)) [some (.shr (hlD en re tb)),some (.shr (aw pl)),some (.shr (bg ts)),none,none,none,none]=.val (nD re.length):=cq re
   rw [gF,aI,v,af,gJ,af,af,dq (by omega)]
  have cm:=gl (n:=1) (i:=7) (e:=cal 4 ce (aC (vr 0) (aC (vr 1) (aC (vr 2) (aC (vr 7) aN))))) (g:=fun b=>rwD (kws tb (btw en b) pl ts)) src (by omega) (fun b hb=>ms (a:=hlD en re tb) (b:=aw pl) (c:=bg ts) (e:=nD b) rfl rfl rfl rfl (jM h g hb))
  rw [cr,cm];rfl
 rw [aS s1,aS s2]
 have src:eQ (aC (vr 3) aN) [some (.shr (hlD en re tb)),some (.shr (aw pl)),some (.shr (bg ts)),some (.shr (cB en re tb pl ts)),none,none,none]=.val ((List.range re.length).map fun b=>.tup [nD b,rwD (kws tb (btw en b) pl ts)]):=by
  show R.val (enu 0 ((List.range re.length).map fun b=>rwD (kws tb (btw en b) pl ts)))=_
  rw [oi]
 have lf:=jA (T:=tg2 4 5) (F:=DL.iff (tst (cal 3 cv (aC (vr 0) (aC (vr 3) (aC (vr 4) aN)))))
   (bB (fIt (vr 5)) (tgN 6)
   (DL.iff (tst (cal 4 dP (aC (vr 0) (aC (vr 3) (aC (vr 4) (aC (vr 6) aN))))))
   (ret (eT (aC (vr 4) (aC (vr 6) aN))))
   nxt))
   nxt) (f:=fun b=>.tup [nD b,rwD (kws tb (btw en b) pl ts)]) (g:=fun c=>bD (((kws tb (btw en c) pl ts).find? (isB en re tb pl ts c)).map fun row=>(c,row))) (p:=fun c=>(((kws tb (btw en c) pl ts).find? (isB en re tb pl ts c)).map fun row=>(c,row)).isSome)
  (fun ρ=>∃ x4 x5 x6:Option Slt,ρ=[some (.shr (hlD en re tb)),some (.shr (aw pl)),some (.shr (bg ts)),some (.shr (cB en re tb pl ts)),x4,x5,x6]) (l:=List.range re.length) (ρ:=[some (.shr (hlD en re tb)),some (.shr (aw pl)),some (.shr (bg ts)),some (.shr (cB en re tb pl ts)),none,none,none]) (fun c hc ρ hI=>by
   obtain ⟨x4,x5,x6,rfl⟩:=hI
   have hc:=List.mem_range.mp hc
   refine ⟨[some (.shr (hlD en re tb)),some (.shr (aw pl)),some (.shr (bg ts)),some (.shr (cB en re tb pl ts)),some (.shr (nD c)),some (.shr (rwD (kws tb (btw en c) pl ts))),x6],rfl,?_⟩
   have t1:tst (cal 3 cv (aC (vr 0) (aC (vr 3) (aC (vr 4) aN)))) [some (.shr (hlD en re tb)),some (.shr (aw pl)),some (.shr (bg ts)),some (.shr (cB en re tb pl ts)),some (.shr (nD c)),some (.shr (rwD (kws tb (btw en c) pl ts))),x6]=.val ((List.range re.length).all fun b=>decide ((btw en b c).length=(kws tb (btw en b) pl ts).length)):=by
    rw [bT,qR (a:=hlD en re tb) (b:=cB en re tb pl ts) (c:=nD c) rfl rfl rfl (n_ h hc)];rfl
   have inner:=jA (T:=tgN 6) (F:=DL.iff (tst (cal 4 dP (aC (vr 0) (aC (vr 3) (aC (vr 4) (aC (vr 6) aN)))))) (ret (eT (aC (vr 4) (aC (vr 6) aN)))) nxt) (f:=aw) (g:=fun row=>bD (some (c,row))) (p:=isB en re tb pl ts c)
    (fun ρ=>∃ y6:Option Slt,ρ=[some (.shr (hlD en re tb)),some (.shr (aw pl)),some (.shr (bg ts)),some (.shr (cB en re tb pl ts)),some (.shr (nD c)),some (.shr (rwD (kws tb (btw en c) pl ts))),y6]) (l:=kws tb (btw en c) pl ts) (ρ:=[some (.shr (hlD en re tb)),some (.shr (aw pl)),some (.shr (bg ts)),some (.shr (cB en re tb pl ts)),some (.shr (nD c)),some (.shr (rwD (kws tb (btw en c) pl ts))),x6]) (fun row hrow ρ hI=>by
     obtain ⟨y6,rfl⟩:=hI
     have rw_:=vg (tb:=tb) (en:=en) c pl ts row hrow
     have t2:tst (cal 4 dP (aC (vr 0) (aC (vr 3) (aC (vr 4) (aC (vr 6) aN))))) [some (.shr (hlD en re tb)),some (.shr (aw pl)),some (.shr (bg ts)),some (.shr (cB en re tb pl ts)),some (.shr (nD c)),some (.shr (rwD (kws tb (btw en c) pl ts))),some (.shr (aw row))]=.val (isB en re tb pl ts c row):=by
      rw [bT,ms (a:=hlD en re tb) (b:=cB en re tb pl ts) (c:=nD c) (e:=aw row) rfl rfl rfl rfl (uf h hc rw_.bd (by rw [rw_.len];omega))];rfl
     refine ⟨_,rfl,fun q=>?_,fun q=>⟨_,cO (ρ:=[some (.shr (hlD en re tb)),some (.shr (aw pl)),some (.shr (bg ts)),some (.shr (cB en re tb pl ts)),some (.shr (nD c)),some (.shr (rwD (kws tb (btw en c) pl ts))),some (.shr (aw row))]) (by rw [t2,q]),_,rfl⟩⟩
     refine Eq.trans (ck (ρ:=[some (.shr (hlD en re tb)),some (.shr (aw pl)),some (.shr (bg ts)),some (.shr (cB en re tb pl ts)),some (.shr (nD c)),some (.shr (rwD (kws tb (btw en c) pl ts))),some (.shr (aw row))]) (by rw [t2,q])) rfl) ⟨x6,rfl⟩
   rcases inner with ⟨row,e,z⟩ | ⟨e,ρ2,z,y6,rfl⟩
   ·have am:=AS (en:=en) (re:=re) (tb:=tb) (pl:=pl) (ts:=ts) (List.find?_some e)
    rw [e]
    refine ⟨fun _=>?_,fun q=>by cases q⟩
    rw [ck (by rw [t1,am]),cw]
    exact z
   ·rw [e]
    refine ⟨fun q=>(by cases q),fun _=>?_⟩
    by_cases q:((List.range re.length).all fun b=>decide ((btw en b c).length=(kws tb (btw en b) pl ts).length))=true
    ·exact ⟨_,by rw [ck (by rw [t1,q]),cw];exact z,_,_,_,rfl⟩
    ·have q:((List.range re.length).all fun b=>decide ((btw en b c).length=(kws tb (btw en b) pl ts).length))=false:=by simpa using q
     exact ⟨_,cO (by rw [t1,q]),_,_,_,rfl⟩) ⟨none,none,none,rfl⟩
 have fs:=pJ (F:=fun c=>((kws tb (btw en c) pl ts).find? (isB en re tb pl ts c)).map fun row=>(c,row)) (l:=List.range re.length)
 rw [aW,cw,src,af]
 unfold C_
 rcases lf with ⟨c,e,z⟩ | ⟨e,ρ2,z,_⟩
 ·rw [z,fs.1 c e];rfl
 ·rw [z,fs.2 e];rfl
end
theorem yR {den:List D->R D} {A B:Rho->R D} {ρ:Rho} {a b:D} {x:R D} (ha:A ρ=.val a) (hb:B ρ=.val b) (h:den [a,b]=x):iH 2 den (aC A (aC B aN)) ρ=x:=by
 rw [mP,aI,ha,af,aI,hb,af,gJ]
 simp only [af,h]
 rfl
theorem D7 {den:List D->R D} {A B C E:Rho->R D} {ρ:Rho} {a b c e:D} {x:R D} (ha:A ρ=.val a) (hb:B ρ=.val b) (hc:C ρ=.val c) (he:E ρ=.val e) (h:den [a,b,c,e]=x):iH 4 den (aC A (aC B (aC C (aC E aN)))) ρ=x:=by
 rw [mP,aI,ha,af,aI,hb,af,aI,hc,af,aI,he,af,gJ]
 simp only [af,h]
 rfl
theorem D6 {den:List D->R D} {A B C E F:Rho->R D} {ρ:Rho} {a b c e f:D} {x:R D} (ha:A ρ=.val a) (hb:B ρ=.val b) (hc:C ρ=.val c) (he:E ρ=.val e) (hf:F ρ=.val f) (h:den [a,b,c,e,f]=x):iH 5 den (aC A (aC B (aC C (aC E (aC F aN))))) ρ=x:=by
 rw [mP,aI,ha,af,aI,hb,af,aI,hc,af,aI,he,af,aI,hf,af,gJ]
 simp only [af,h]
 rfl
theorem mK {e:Rho->R D} {ρ:Rho} {c:Nat} (h:e ρ=.exc c):drp e ρ=.exc c:=by rw [on,h];rfl
theorem AR {i:Nat} {e:Rho->R D} {ρ:Rho} {c:Nat} (h:e ρ=.exc c):asg i e ρ=.exc c:=by rw [fO,h];rfl
section
variable {en:List (Nat × Nat)} {re:List Nat} {tb:List (List Int)} {pl:List Nat} {ts:List Tie}
theorem pM {z:Int} (h:inB z re.length=false) (hz:z.natAbs < 10 ^ 40):bv [hlD en re tb,.int z]=.exc 2:=by
 simp only [bv,fv]
 show fin (DL.iff _ _ _ [some (.shr (hlD en re tb)),some (.shr (.int z))])=_
 have v:una aA (una (gB 1) (vb 0)) [some (.shr (hlD en re tb)),some (.shr (.int z))]=.val (nD re.length):=cq re
 rw [ck (by rw [fq,bT,qS rfl v (d9 _ _)];exact congrArg (fun b=>R.val (!b)) h),By (i:=z) rfl hz]
 rfl
theorem vU {pz:List Int} {zs:List Tz} {x:D} (h:okP en re pz zs=false):dN [hlD en re tb,aL pz,cF zs,x]=.exc 3:=by
 simp only [dN,hZ]
 show fin (sq _ _ [some (.shr (hlD en re tb)),some (.shr (aL pz)),some (.shr (cF zs)),some (.shr x)])=_
 rw [iV (mK (lW rfl rfl rfl (by rw [ff,if_neg (by rw [h];decide)])))]
 rfl
theorem sV {pz:List Int} {zs:List Tz} (h:okP en re pz zs=false):eM [hlD en re tb,aL pz,cF zs]=.exc 3:=by
 simp only [eM,kI]
 show fin (sq _ _ [some (.shr (hlD en re tb)),some (.shr (aL pz)),some (.shr (cF zs)),none,none,none,none])=_
 rw [iV (mK (lW rfl rfl rfl (by rw [ff,if_neg (by rw [h];decide)])))]
 rfl
theorem y_ {pz:List Int} {zs:List Tz} {x y:D} (h:okP en re pz zs=false):dl [hlD en re tb,aL pz,cF zs,x,y]=.exc 3:=by
 simp only [dl,gG]
 show fin (sq _ _ [some (.shr (hlD en re tb)),some (.shr (aL pz)),some (.shr (cF zs)),some (.shr x),some (.shr y),none,none])=_
 rw [iV (AR (lW rfl rfl rfl (sV h)))]
 rfl
theorem vT (g:Pic en re pl ts) {z:Int} (h:inB z re.length=false) (hz:z.natAbs < 10 ^ 40):dN [hlD en re tb,aw pl,bg ts,.int z]=.exc 2:=by
 simp only [dN,hZ]
 show fin (sq _ _ [some (.shr (hlD en re tb)),some (.shr (aw pl)),some (.shr (bg ts)),some (.shr (.int z))])=_
 rw [aS (ln (lW rfl rfl rfl (gN g))),iV (mK (yR rfl rfl (pM h hz)))]
 rfl
theorem wP (h:bY en re tb) (g:Pic en re pl ts) {b:Nat} (hb:b < re.length):∃ d,dN [hlD en re tb,aw pl,bg ts,nD b]=.val d:=by
 simp only [dN,hZ]
 show ∃ d,fin (sq _ _ [some (.shr (hlD en re tb)),some (.shr (aw pl)),some (.shr (bg ts)),some (.shr (nD b))])=_
 rw [aS (ln (lW rfl rfl rfl (gN g))),aS (ln (yR rfl rfl (iC hb))),cW,ms rfl rfl rfl rfl (jM h g hb)]
 exact ⟨_,rfl⟩
theorem y9 (h:bY en re tb) (g:Pic en re pl ts) {z:Int} {y:D} (hz0:inB z re.length=false) (hz:z.natAbs < 10 ^ 40):dl [hlD en re tb,aw pl,bg ts,.int z,y]=.exc 2:=by
 simp only [dl,gG]
 show fin (sq _ _ [some (.shr (hlD en re tb)),some (.shr (aw pl)),some (.shr (bg ts)),some (.shr (.int z)),some (.shr y),none,none])=_
 have s1:asg 5 (iH 3 eM (aC (vr 0) (aC (vr 1) (aC (vr 2) aN)))) [some (.shr (hlD en re tb)),some (.shr (aw pl)),some (.shr (bg ts)),some (.shr (.int z)),some (.shr y),none,none]=.val (.nx [some (.shr (hlD en re tb)),some (.shr (aw pl)),some (.shr (bg ts)),some (.shr (.int z)),some (.shr y),some (.shr (bD (C_ en re tb pl ts))),none]):=bH (lW rfl rfl rfl (vw h g))
 rw [aS s1,iV (mK (yR rfl rfl (pM hz0 hz)))]
 rfl
end
theorem yq {c:Nat} (h:c=2\/c=3):cE [.exn c]=.val (nD c):=by
 rcases h with rfl | rfl
 ·exact Eq.trans rfl rfl
 ·exact Eq.trans rfl rfl
abbrev oK:Rho->R Out:=DL.iff (tst (bin feq (vb 1) (kd (.int 0))))
 (drp (iH 4 dN (aC (vr 0) (aC (eLs (fIt (bin fix (vb 2) (kd (.int 0))))) (aC (eLs (fIt (bin fix (vb 2) (kd (.int 1))))) (aC (vr 3) aN))))))
 (DL.iff (tst (bin feq (vb 1) (kd (.int 1))))
 (drp (iH 5 dl (aC (vr 0) (aC (eLs (fIt (bin fix (vb 2) (kd (.int 0))))) (aC (eLs (fIt (bin fix (vb 2) (kd (.int 1))))) (aC (vr 3) (aC (eL (aC (kd (.int 0)) aN)) aN)))))))
 (drp (iH 3 eM (aC (vr 0) (aC (eLs (fIt (bin fix (vb 2) (kd (.int 0))))) (aC (eLs (fIt (bin fix (vb 2) (kd (.int 1))))) aN))))))
abbrev rMt (H:D) (w:Nat) (p t:List D) (x:D):Rho:=[some (.shr H),some (.shr (nD w)),some (.shr (.tup [.lst p,.lst t])),some (.shr x),some (.shr (.int (-1))),none]
section
variable {H x:D} {w:Nat} {p t:List D}
theorem ky {c:Nat} (hc:c=2\/c=3) (h:oK (rMt H w p t x)=.exc c):aP [H,nD w,.tup [.lst p,.lst t],x]=.val (nD c):=by
 simp only [aP,gH]
 show fin (sq _ _ [some (.shr H),some (.shr (nD w)),some (.shr (.tup [.lst p,.lst t])),some (.shr x),none,none])=_
 have s1:asg 4 (una dE (kd (.int 1))) [some (.shr H),some (.shr (nD w)),some (.shr (.tup [.lst p,.lst t])),some (.shr x),none,none]=.val (.nx (rMt H w p t x)):=Eq.trans rfl rfl
 have s2:tm [2,3] 5 oK (asg 4 (cal 1 cE (aC (vr 5) aN))) (rMt H w p t x)=.val (.nx [some (.shr H),some (.shr (nD w)),some (.shr (.tup [.lst p,.lst t])),some (.shr x),some (.shr (nD c)),none]):=by
  unfold tm
  rw [h]
  dsimp only
  have hm:c ∈ [2,3]:=by rcases hc with rfl | rfl <;> decide
  rw [if_pos hm]
  have a:asg 4 (cal 1 cE (aC (vr 5) aN)) [some (.shr H),some (.shr (nD w)),some (.shr (.tup [.lst p,.lst t])),some (.shr x),some (.shr (.int (-1))),some (.shr (.exn c))]=.val (.nx [some (.shr H),some (.shr (nD w)),some (.shr (.tup [.lst p,.lst t])),some (.shr x),some (.shr (nD c)),some (.shr (.exn c))]):=bH (D8 rfl (yq hc))
  show (match asg 4 (cal 1 cE (aC (vr 5) aN)) [some (.shr H),some (.shr (nD w)),some (.shr (.tup [.lst p,.lst t])),some (.shr x),some (.shr (.int (-1))),some (.shr (.exn c))] with | .val (.nx ρ')=>R.val (Out.nx (ρ'.set 5 none)) | _=>.bad)=_
  rw [a]
  rfl
 rw [aS s1,aS s2]
 rfl
theorem u7 (h:oK (rMt H w p t x)=.val (.nx (rMt H w p t x))):aP [H,nD w,.tup [.lst p,.lst t],x]=.val (.int (-1)):=by
 simp only [aP,gH]
 show fin (sq _ _ [some (.shr H),some (.shr (nD w)),some (.shr (.tup [.lst p,.lst t])),some (.shr x),none,none])=_
 have s1:asg 4 (una dE (kd (.int 1))) [some (.shr H),some (.shr (nD w)),some (.shr (.tup [.lst p,.lst t])),some (.shr x),none,none]=.val (.nx (rMt H w p t x)):=Eq.trans rfl rfl
 have s2:tm [2,3] 5 oK (asg 4 (cal 1 cE (aC (vr 5) aN))) (rMt H w p t x)=.val (.nx (rMt H w p t x)):=by
  unfold tm
  rw [h]
 rw [aS s1,aS s2]
 rfl
theorem wO (k:Int) {y:Int}:tst (bin feq (vb 1) (kd (.int k))) (rMt H w p t x)=.val (decide ((w:Int)=k)):=by
 show R.bind (feq (.int (w:Int)) (.int k)) asB=_
 rw [gj];rfl
theorem CH:bin fix (vb 2) (kd (.int 0)) (rMt H w p t x)=.val (.lst p):=i6 (.lst p) [.lst t]
theorem CG:bin fix (vb 2) (kd (.int 1)) (rMt H w p t x)=.val (.lst t):=gh (.lst p) (.lst t) []
theorem xT:eLs (fIt (bin fix (vb 2) (kd (.int 0)))) (rMt H w p t x)=.val (.lst p):=by rw [cr,ue,CH];rfl
theorem xS:eLs (fIt (bin fix (vb 2) (kd (.int 1)))) (rMt H w p t x)=.val (.lst t):=by rw [cr,ue,CG];rfl
end
section
variable {H x:D} {p t:List D} {y:R D}
theorem Bl (h:dN [H,.lst p,.lst t,x]=y):oK (rMt H 0 p t x)=(y.bind fun _=>.val (.nx (rMt H 0 p t x))):=by
 rw [oK,ck (by rw [wO (y:=0)];rfl),on,D7 (a:=H) (b:=.lst p) (c:=.lst t) (e:=x) rfl xT xS rfl h]
theorem Dj (h:dl [H,.lst p,.lst t,x,.lst [.int 0]]=y):oK (rMt H 1 p t x)=(y.bind fun _=>.val (.nx (rMt H 1 p t x))):=by
 rw [oK,bW,wO (y:=0),af,if_neg (by decide),ck (by rw [wO (y:=0)];rfl),on,D6 (a:=H) (b:=.lst p) (c:=.lst t) (e:=x) (f:=.lst [.int 0]) rfl xT xS rfl rfl h]
theorem Di (h:eM [H,.lst p,.lst t]=y):oK (rMt H 2 p t x)=(y.bind fun _=>.val (.nx (rMt H 2 p t x))):=by
 rw [oK,bW,wO (y:=0),af,if_neg (by decide),bW,wO (y:=0),af,if_neg (by decide),on,lW (a:=H) (b:=.lst p) (c:=.lst t) rfl xT xS h]
end
section
variable {en:List (Nat × Nat)} {re:List Nat} {tb:List (List Int)} {pl:List Nat} {ts:List Tie}
theorem zZ {pz:List Int} {zs:List Tz} {x:D} (h:okP en re pz zs=false):∀ w,w < 3->aP [hlD en re tb,nD w,.tup [aL pz,cF zs],x]=.val (nD 3)
 | 0,_=>ky (.inr rfl) (Bl (vU h))
 | 1,_=>ky (.inr rfl) (Dj (y_ h))
 | 2,_=>ky (.inr rfl) (Di (sV h))
theorem zY (h:bY en re tb) (g:Pic en re pl ts) {b:Nat} (hb:b < re.length):aP [hlD en re tb,nD 0,.tup [aw pl,bg ts],nD b]=.val (.int (-1)):=by
 obtain ⟨d,e⟩:=wP h g hb
 exact u7 (Bl e)
theorem u9 (h:bY en re tb) (g:Pic en re pl ts) {x:D}:aP [hlD en re tb,nD 2,.tup [aw pl,bg ts],x]=.val (.int (-1)):=u7 (Di (vw h g))
theorem xP (g:Pic en re pl ts) {z:Int} (hz0:inB z re.length=false) (hz:z.natAbs < 10 ^ 40):aP [hlD en re tb,nD 0,.tup [aw pl,bg ts],.int z]=.val (nD 2):=ky (.inl rfl) (Bl (vT g hz0 hz))
theorem xO (h:bY en re tb) (g:Pic en re pl ts) {z:Int} (hz0:inB z re.length=false) (hz:z.natAbs < 10 ^ 40):aP [hlD en re tb,nD 1,.tup [aw pl,bg ts],.int z]=.val (nD 2):=ky (.inl rfl) (Dj (y9 h g hz0 hz))
end
theorem vp {xs ys:List D} (h:xs.length + ys.length<=100000):aV (.lst xs) (.lst ys)=.val (.lst (xs ++ ys)):=if_pos h
abbrev paD (en:List (Nat × Nat)) (re:List Nat) (tb:List (List Int)) (r:List D):D:=.tup (dv en :: aw re :: bC tb :: r)
def cf (ns:List Int) (k:Nat):Int:=(kF ns k).choose
theorem D5 (ns:List Int) (k:Nat):av [.scr ns,.int (k:Int)]=.val (.int (cf ns k)):=(kF ns k).choose_spec
theorem jl {ns:List Int} {k:Nat} {A B:Rho->R D} {ρ:Rho} {z:Int} (ha:A ρ=.val (.scr ns)) (hb:B ρ=.val (.int z)) (hz:z=(k:Int)):cal 2 av (aC A (aC B aN)) ρ=.val (.int (cf ns k)):=qS ha hb (by rw [hz];exact D5 ns k)
theorem cT (c:Int) {m:Nat} (h:0 < m):(c % (m:Int)).toNat < m/\aK c (m:Int)=.val (nD (c % (m:Int)).toNat):=by
 obtain ⟨i,hi,e⟩:=ja c m h
 rw [fu (by omega),e]
 exact ⟨by simpa using hi,by simp⟩
section
variable {en:List (Nat × Nat)} {re:List Nat} {tb:List (List Int)} {r:List D} {ns:List Int} {k:Nat}
abbrev rPi (ns:List Int) (k:Nat) (P:D) (pl:List Nat) (ts:List Tie) (x5 x6 x7 x8:Option Slt):Rho :=
 [some (.shr (.scr ns)),some (.shr (nD k)),some (.shr P),some (.shr (aw pl)),some (.own (ts.map fB)),x5,x6,x7,x8]
theorem As (h:bY en re tb) {pl:List Nat} {ts:List Tie} (hp:0 < pl.length) (pb:∀ i,i < pl.length->pl.getD i 0 < re.length) {j:Nat} (hj:j<=5) (hl:ts.length<=5) (x6 x7 x8:Option Slt) :
  ∃ (ts':List Tie) (y6 y7 y8:Option Slt),(sq (asg 6 (bin (iI aK) (cal 2 av (aC (vr 0) (aC (bin aV (bin aV (vb 1) (kd (.int 5))) (bin (iI dM) (kd (.int 3)) (vb 5))) aN))) (una aA (vb 3))))
 (sq (asg 7 (bin (iI aK) (cal 2 av (aC (vr 0) (aC (bin aV (bin aV (vb 1) (kd (.int 6))) (bin (iI dM) (kd (.int 3)) (vb 5))) aN))) (una aA (vb 3))))
 (sq (asg 8 (cal 3 bQ (aC (vr 2) (aC (bin fix (vb 3) (vb 6)) (aC (bin fix (vb 3) (vb 7)) aN)))))
 (DL.iff (tst (bin (iI fgt) (una aA (vb 8)) (kd (.int 0))))
 (app 4 (eT (aC (vr 6) (aC (vr 7) (aC (bin fix (vb 8) (bin (iI aK) (cal 2 av (aC (vr 0) (aC (bin aV (bin aV (vb 1) (kd (.int 7))) (bin (iI dM) (kd (.int 3)) (vb 5))) aN))) (una aA (vb 8)))) aN)))))
 nxt)))) (rPi ns k (paD en re tb r) pl ts (some (.shr (nD j))) x6 x7 x8)=.val (.nx (rPi ns k (paD en re tb r) pl ts' (some (.shr (nD j))) y6 y7 y8))/\(ts'=ts\/∃ t:Tie,ts'=ts ++ [t]/\t.1 < pl.length/\t.2.1 < pl.length/\t.2.2 < en.length/\en.getD t.2.2 (0,0)=(pl.getD t.1 0,pl.getD t.2.1 0)):=by
 have ix:∀ (n:Nat) (ρ:Rho),vb 1 ρ=.val (nD k)->vb 5 ρ=.val (nD j)->bin aV (bin aV (vb 1) (kd (.int (n:Int)))) (bin (iI dM) (kd (.int 3)) (vb 5)) ρ=.val (.int ((k + n + 3 * j:Nat):Int)):=fun n ρ h1 h5=>by
  rw [aD,aD,h1,af,cY,af,jD,af,aD,cY,af,h5,af,dX,kC (by constructor <;> omega),af,jD]
  congr 2
 have cl:∀ (n:Nat) (ρ:Rho),vr 0 ρ=.val (.scr ns)->vb 1 ρ=.val (nD k)->vb 5 ρ=.val (nD j)->cal 2 av (aC (vr 0) (aC (bin aV (bin aV (vb 1) (kd (.int (n:Int)))) (bin (iI dM) (kd (.int 3)) (vb 5))) aN)) ρ=.val (.int (cf ns (k + n + 3 * j))):=fun n ρ h0 h1 h5=>jl h0 (ix n ρ h1 h5) rfl
 obtain ⟨a1,a2⟩:=cT (cf ns (k + 5 + 3 * j)) hp
 obtain ⟨b1,b2⟩:=cT (cf ns (k + 6 + 3 * j)) hp
 generalize (cf ns (k + 5 + 3 * j) % (pl.length:Int)).toNat=a at a1 a2
 generalize (cf ns (k + 6 + 3 * j) % (pl.length:Int)).toNat=b at b1 b2
 have s1:asg 6 (bin (iI aK) (cal 2 av (aC (vr 0) (aC (bin aV (bin aV (vb 1) (kd (.int 5))) (bin (iI dM) (kd (.int 3)) (vb 5))) aN))) (una aA (vb 3))) (rPi ns k (paD en re tb r) pl ts (some (.shr (nD j))) x6 x7 x8)=.val (.nx (rPi ns k (paD en re tb r) pl ts (some (.shr (nD j))) (some (.shr (nD a))) x7 x8)):=by
  refine bH ?_
  have v:una aA (vb 3) (rPi ns k (paD en re tb r) pl ts (some (.shr (nD j))) x6 x7 x8)=.val (nD pl.length):=cq pl
  have c:=cl 5 (rPi ns k (paD en re tb r) pl ts (some (.shr (nD j))) x6 x7 x8) rfl rfl rfl
  rw [aD]
  refine Eq.trans (congrArg (fun z=>R.bind z _) c) ?_
  rw [af,v,af,dX,a2]
 have s2:asg 7 (bin (iI aK) (cal 2 av (aC (vr 0) (aC (bin aV (bin aV (vb 1) (kd (.int 6))) (bin (iI dM) (kd (.int 3)) (vb 5))) aN))) (una aA (vb 3))) (rPi ns k (paD en re tb r) pl ts (some (.shr (nD j))) (some (.shr (nD a))) x7 x8)=.val (.nx (rPi ns k (paD en re tb r) pl ts (some (.shr (nD j))) (some (.shr (nD a))) (some (.shr (nD b))) x8)):=by
  refine bH ?_
  have v:una aA (vb 3) (rPi ns k (paD en re tb r) pl ts (some (.shr (nD j))) (some (.shr (nD a))) x7 x8)=.val (nD pl.length):=cq pl
  have c:=cl 6 (rPi ns k (paD en re tb r) pl ts (some (.shr (nD j))) (some (.shr (nD a))) x7 x8) rfl rfl rfl
  rw [aD]
  refine Eq.trans (congrArg (fun z=>R.bind z _) c) ?_
  rw [af,v,af,dX,b2]
 have s3:asg 8 (cal 3 bQ (aC (vr 2) (aC (bin fix (vb 3) (vb 6)) (aC (bin fix (vb 3) (vb 7)) aN)))) (rPi ns k (paD en re tb r) pl ts (some (.shr (nD j))) (some (.shr (nD a))) (some (.shr (nD b))) x8)=.val (.nx (rPi ns k (paD en re tb r) pl ts (some (.shr (nD j))) (some (.shr (nD a))) (some (.shr (nD b))) (some (.shr (aw (btw en (pl.getD a 0) (pl.getD b 0))))))) :=
  bH (qR (a:=paD en re tb r) (b:=nD (pl.getD a 0)) (c:=nD (pl.getD b 0)) rfl (dS a1) (dS b1) (sI h _ _))
 have bi:=fun x=>mem_btw (en:=en) (a:=pl.getD a 0) (b:=pl.getD b 0) (n:=x)
 generalize btw en (pl.getD a 0) (pl.getD b 0)=bt at s3 bi
 have v8:una aA (vb 8) (rPi ns k (paD en re tb r) pl ts (some (.shr (nD j))) (some (.shr (nD a))) (some (.shr (nD b))) (some (.shr (aw bt))))=.val (nD bt.length):=cq bt
 have tt:tst (bin (iI fgt) (una aA (vb 8)) (kd (.int 0))) (rPi ns k (paD en re tb r) pl ts (some (.shr (nD j))) (some (.shr (nD a))) (some (.shr (nD b))) (some (.shr (aw bt))))=.val (decide ((0:Int) < bt.length)):=by
  rw [bT,aD,v8];rfl
 rw [aS s1,aS s2,aS s3]
 by_cases c:0 < bt.length
 ·obtain ⟨c1,c2⟩:=cT (cf ns (k + 7 + 3 * j)) c
  generalize (cf ns (k + 7 + 3 * j) % (bt.length:Int)).toNat=y at c1 c2
  have at8:bin fix (vb 8) (bin (iI aK) (cal 2 av (aC (vr 0) (aC (bin aV (bin aV (vb 1) (kd (.int 7))) (bin (iI dM) (kd (.int 3)) (vb 5))) aN))) (una aA (vb 8))) (rPi ns k (paD en re tb r) pl ts (some (.shr (nD j))) (some (.shr (nD a))) (some (.shr (nD b))) (some (.shr (aw bt))))=.val (nD (bt.getD y 0)):=by
   have cc:=cl 7 (rPi ns k (paD en re tb r) pl ts (some (.shr (nD j))) (some (.shr (nD a))) (some (.shr (nD b))) (some (.shr (aw bt)))) rfl rfl rfl
   have m:bin (iI aK) (cal 2 av (aC (vr 0) (aC (bin aV (bin aV (vb 1) (kd (.int 7))) (bin (iI dM) (kd (.int 3)) (vb 5))) aN))) (una aA (vb 8)) (rPi ns k (paD en re tb r) pl ts (some (.shr (nD j))) (some (.shr (nD a))) (some (.shr (nD b))) (some (.shr (aw bt))))=.val (nD y):=by
    rw [aD]
    refine Eq.trans (congrArg (fun z=>R.bind z _) cc) ?_
    rw [af,v8,af,dX,c2]
   rw [aD,m]
   exact dS c1
  have et:eT (aC (vr 6) (aC (vr 7) (aC (bin fix (vb 8) (bin (iI aK) (cal 2 av (aC (vr 0) (aC (bin aV (bin aV (vb 1) (kd (.int 7))) (bin (iI dM) (kd (.int 3)) (vb 5))) aN))) (una aA (vb 8)))) aN))) (rPi ns k (paD en re tb r) pl ts (some (.shr (nD j))) (some (.shr (nD a))) (some (.shr (nD b))) (some (.shr (aw bt))))=.val (fB (a,b,bt.getD y 0)):=by
   rw [eR,aI,aI,aI,at8];rfl
  refine ⟨ts ++ [(a,b,bt.getD y 0)],some (.shr (nD a)),some (.shr (nD b)),some (.shr (aw bt)),?_,.inr ⟨_,rfl,a1,b1,?_⟩⟩
  ·rw [ck (by rw [tt,decide_eq_true (by omega)]),jo _ (d:=fB (a,b,bt.getD y 0)) (xs:=ts.map fB) rfl et (by rw [List.length_map];omega)]
   unfold rPi
   rw [List.map_append];rfl
  ·have:=(bi (bt.getD y 0)).mp (by rw [aZ c1];exact List.getElem_mem c1)
   exact this
 ·exact ⟨ts,_,_,_,cO (by rw [tt,decide_eq_false (by omega)]),.inl rfl⟩
theorem sH (h:bY en re tb) (ns:List Int) (k:Nat):∃ pl ts,Pic en re pl ts/\cu [.scr ns,nD k,paD en re tb r]=.val (.tup [aw pl,bg ts]):=by
 simp only [cu,fF]
 show ∃ pl ts,_/\fin (sq _ _ [some (.shr (.scr ns)),some (.shr (nD k)),some (.shr (paD en re tb r)),none,none,none,none,none,none])=_
 obtain ⟨m1,m2⟩:=cT (cf ns k) (m:=4) (by decide)
 obtain ⟨q1,q2⟩:=cT (cf ns k / 4) (m:=5) (by decide)
 generalize (cf ns k % ((4:Nat):Int)).toNat=m at m1 m2
 generalize (cf ns k / 4 % ((5:Nat):Int)).toNat=q at q1 q2
 have n1:=h.nb1
 have s1:asg 3 (eLs (bI (cP (aC (bin (iI aK) (cal 2 av (aC (vr 0) (aC (vr 1) aN))) (kd (.int 4))) aN)) 1 (tgN 9) tT (bin (iI aK) (cal 2 av (aC (vr 0) (aC (bin aV (bin aV (vb 1) (kd (.int 1))) (vb 9)) aN))) (una aA (bin fix (vb 2) (kd (.int 1))))))) [some (.shr (.scr ns)),some (.shr (nD k)),some (.shr (paD en re tb r)),none,none,none,none,none,none]
   =.val (.nx [some (.shr (.scr ns)),some (.shr (nD k)),some (.shr (paD en re tb r)),some (.shr (aw ((List.range m).map fun j=>(cf ns (k + 1 + j) % (re.length:Int)).toNat))),none,none,none,none,none]):=by
  refine bH ?_
  have c:=gl (src:=cP (aC (bin (iI aK) (cal 2 av (aC (vr 0) (aC (vr 1) aN))) (kd (.int 4))) aN)) (n:=1) (i:=9) (m:=m) (e:=bin (iI aK) (cal 2 av (aC (vr 0) (aC (bin aV (bin aV (vb 1) (kd (.int 1))) (vb 9)) aN))) (una aA (bin fix (vb 2) (kd (.int 1))))) (g:=fun j=>nD (cf ns (k + 1 + j) % (re.length:Int)).toNat) (ρ:=[some (.shr (.scr ns)),some (.shr (nD k)),some (.shr (paD en re tb r)),none,none,none,none,none,none]) (by
   rw [gF,aI,aD,jl (k:=k) rfl rfl rfl,af,cY,af,dX]
   refine Eq.trans (congrArg (fun z=>R.bind (R.bind z _) _) m2) ?_
   rw [af,gJ,af,af,dq (by omega)]) (by omega) (fun j _=>by
   have hc:cal 2 av (aC (vr 0) (aC (bin aV (bin aV (vb 1) (kd (.int 1))) (vb 9)) aN)) (List.set ([some (.shr (.scr ns)),some (.shr (nD k)),some (.shr (paD en re tb r)),none,none,none,none,none,none] ++ List.replicate 1 none) 9 (some (.shr (nD j))))=.val (.int (cf ns (k + 1 + j))):=jl (z:=(k:Int) + 1 + (j:Int)) rfl rfl (by omega)
   have hv:una aA (bin fix (vb 2) (kd (.int 1))) (List.set ([some (.shr (.scr ns)),some (.shr (nD k)),some (.shr (paD en re tb r)),none,none,none,none,none,none] ++ List.replicate 1 none) 9 (some (.shr (nD j))))=.val (nD re.length):=by
    show R.bind (fix (paD en re tb r) (.int 1)) aA=_
    rw [paD,gh,af,cq]
   rw [aD,hc,af,hv,af,dX,(cT _ (by omega)).2])
  rw [cr,c]
  unfold aw
  rw [List.map_map]
  rfl
 rw [aS s1]
 have lp:((List.range m).map fun j=>(cf ns (k + 1 + j) % (re.length:Int)).toNat).length=m:=by simp
 have pb:∀ i,i < ((List.range m).map fun j=>(cf ns (k + 1 + j) % (re.length:Int)).toNat).length->((List.range m).map fun j=>(cf ns (k + 1 + j) % (re.length:Int)).toNat).getD i 0 < re.length:=fun i hi=>by
  rw [aZ hi,List.getElem_map]
  exact (cT _ (by omega)).1
 generalize ((List.range m).map fun j=>(cf ns (k + 1 + j) % (re.length:Int)).toNat)=pl at lp pb
 have s2:own 4 (iQ aN) [some (.shr (.scr ns)),some (.shr (nD k)),some (.shr (paD en re tb r)),some (.shr (aw pl)),none,none,none,none,none]=.val (.nx (rPi ns k (paD en re tb r) pl [] none none none none)):=Eq.trans rfl rfl
 rw [aS s2]
 have tt:tst (bin (iI fgt) (una aA (vb 3)) (kd (.int 0))) (rPi ns k (paD en re tb r) pl [] none none none none)=.val (decide ((0:Int) < pl.length)):=by
  have v:una aA (vb 3) (rPi ns k (paD en re tb r) pl [] none none none none)=.val (nD pl.length):=cq pl
  rw [bT,aD,v];rfl
 by_cases c:0 < pl.length
 ·obtain ⟨ρ1,e1,ts,x5,x6,x7,x8,tl,tk,rfl⟩:=i0 (i:=5) (n:=q) (F:=sq (asg 6 (bin (iI aK) (cal 2 av (aC (vr 0) (aC (bin aV (bin aV (vb 1) (kd (.int 5))) (bin (iI dM) (kd (.int 3)) (vb 5))) aN))) (una aA (vb 3))))
    (sq (asg 7 (bin (iI aK) (cal 2 av (aC (vr 0) (aC (bin aV (bin aV (vb 1) (kd (.int 6))) (bin (iI dM) (kd (.int 3)) (vb 5))) aN))) (una aA (vb 3))))
    (sq (asg 8 (cal 3 bQ (aC (vr 2) (aC (bin fix (vb 3) (vb 6)) (aC (bin fix (vb 3) (vb 7)) aN)))))
    (DL.iff (tst (bin (iI fgt) (una aA (vb 8)) (kd (.int 0))))
    (app 4 (eT (aC (vr 6) (aC (vr 7) (aC (bin fix (vb 8) (bin (iI aK) (cal 2 av (aC (vr 0) (aC (bin aV (bin aV (vb 1) (kd (.int 7))) (bin (iI dM) (kd (.int 3)) (vb 5))) aN))) (una aA (vb 8)))) aN)))))
    nxt)))) (ρ:=rPi ns k (paD en re tb r) pl [] none none none none)
   (fun j ρ=>∃ (ts:List Tie) (x5 x6 x7 x8:Option Slt),ts.length<=j/\(∀ t ∈ ts,t.1 < pl.length/\t.2.1 < pl.length/\t.2.2 < en.length/\en.getD t.2.2 (0,0)=(pl.getD t.1 0,pl.getD t.2.1 0))/\ρ=rPi ns k (paD en re tb r) pl ts x5 x6 x7 x8) (fun j ρ hj hI=>by
    obtain ⟨ts,x5,x6,x7,x8,l1,l2,rfl⟩:=hI
    obtain ⟨ts',y6,y7,y8,e,hh⟩:=As (ns:=ns) (k:=k) (r:=r) h c pb (j:=j) (by omega) (ts:=ts) (by omega) x6 x7 x8
    refine ⟨_,e,ts',_,_,_,_,?_,?_,rfl⟩
    ·rcases hh with rfl | ⟨t,rfl,_⟩
     ·omega
     ·rw [List.length_append];show _ + 1<=_;omega
    ·rcases hh with rfl | ⟨t,rfl,ht⟩
     ·exact l2
     ·intro u hu
      rcases List.mem_append.mp hu with hu | hu
      ·exact l2 u hu
      ·rw [List.mem_singleton.mp hu];exact ht) ⟨[],_,_,_,_,Nat.le_refl _,(fun t ht=>by cases ht),rfl⟩
  refine ⟨pl,ts,⟨by omega,by omega,pb,tk⟩,?_⟩
  have src:cP (aC (bin (iI aK) (bin (iI df) (cal 2 av (aC (vr 0) (aC (vr 1) aN))) (kd (.int 4))) (kd (.int 5))) aN) (rPi ns k (paD en re tb r) pl [] none none none none)=.val (rng 0 q):=by
   rw [gF,aI,aD,aD,jl (k:=k) rfl rfl rfl,af,cY,af,dX,kD (by decide),af,cY,af,dX]
   refine Eq.trans (congrArg (fun z=>R.bind (R.bind z _) _) q2) ?_
   rw [af,gJ,af,af,dq (by omega)]
  rw [aW,ck (by rw [tt,decide_eq_true (by omega)]),cw,src,af,e1]
  rfl
 ·refine ⟨pl,[],⟨by omega,by simp,pb,(fun t ht=>by cases ht)⟩,?_⟩
  rw [aS (cO (by rw [tt,decide_eq_false (by omega)]))]
  rfl
end
theorem sN {α:Type} (f:α->D) (l:List α) (n:Nat):o3 (l.map f) none (some (n:Int))=(l.take n).map f:=by
 have e:HT.sIx (l.map f).length (l.map f).length (some (n:Int))=min n l.length:=by
  unfold HT.sIx
  dsimp only
  rw [if_neg (by omega),Int.toNat_natCast,List.length_map]
 have e0:HT.sIx (l.map f).length 0 none=0:=rfl
 unfold o3
 rw [e,e0,List.drop_zero,Nat.sub_zero,<- List.map_take]
 congr 1
 by_cases h:n<=l.length
 ·rw [Nat.min_eq_left h]
 ·rw [Nat.min_eq_right (by omega),List.take_length,List.take_of_length_le (by omega)]
theorem yp {α:Type} {f:α->D} {l:List α} {F:Rho->R D} {ρ:Rho} (n:Nat) (h:F ρ=.val (.lst (l.map f))):fSl F oN (oS (kd (.int (n:Int)))) ρ=.val ((l.take n).map f):=by
 unfold fSl
 rw [h]
 show R.val (o3 (l.map f) none (some (n:Int)))=_
 rw [sN]
theorem yJ {α:Type} (f:α->D) (l:List α) {n:Nat} (hn:n<=l.length):o3 (l.map f) (some (n:Int)) none=(l.drop n).map f:=by
 have e:HT.sIx (l.map f).length 0 (some (n:Int))=n:=by
  unfold HT.sIx
  dsimp only
  rw [if_neg (by omega),Int.toNat_natCast,List.length_map]
  omega
 have e0:HT.sIx (l.map f).length (l.map f).length none=(l.map f).length:=rfl
 unfold o3
 rw [e,e0,<- List.map_drop,List.take_of_length_le (by simp)]
theorem wV {α:Type} {f:α->D} {l:List α} {x:α} {Fi X:Rho->R D} {j n:Nat} {ρ:Rho} (hi:Fi ρ=.val (.lst (l.map f))) (hj:vr j ρ=.val (nD n)) (hn:n<=l.length) (hx:X ρ=.val (f x)) (hl:l.length<=1000) :
  bin aV (bin aV (eLs (fSl Fi oN (oS (vr j)))) (eL (aC X aN))) (eLs (fSl Fi (oS (vr j)) oN)) ρ=.val (.lst ((l.take n ++ x :: l.drop n).map f)):=by
 have a:eLs (fSl Fi oN (oS (vr j))) ρ=.val (.lst ((l.take n).map f)):=by
  rw [cr]
  unfold fSl oS
  rw [hi,hj]
  show R.val (D.lst (o3 (l.map f) none (some (n:Int))))=_
  rw [sN]
 have b:eLs (fSl Fi (oS (vr j)) oN) ρ=.val (.lst ((l.drop n).map f)):=by
  rw [cr]
  unfold fSl oS
  rw [hi,hj]
  show R.val (D.lst (o3 (l.map f) (some (n:Int)) none))=_
  rw [yJ f l hn]
 have c:eL (aC X aN) ρ=.val (.lst [f x]):=by rw [om,aI,hx];rfl
 rw [aD,aD,a,af,c,af,vp (by rw [List.length_map,List.length_take];show _ + 1<=_;omega),af,b,af,vp (by
  rw [List.length_append,List.length_map,List.length_map,List.length_take,List.length_drop]
  show _ + 1 + _<=_
  omega)]
 rw [List.map_append,List.map_cons,List.append_assoc]
 rfl
theorem tO {F G:Rho->R D} {ρ:Rho} {n:Nat} {c:Int} (hn:n<=100) (hF:F ρ=.val (nD n)) (hG:G ρ=.val (.int c)):∃ z:Int,bin fix (eL (aC (una dE (kd (.int 1))) (aC F (aC (bin (iI jX) (kd (.int 10)) (kd (.int 29))) aN)))) (bin (iI aK) G (kd (.int 3))) ρ=.val (.int z)/\inB z n=false/\z.natAbs < 10 ^ 40:=by
 obtain ⟨m1,m2⟩:=cT c (m:=3) (by decide)
 generalize (c % ((3:Nat):Int)).toNat=y at m1 m2
 have p:bin (iI jX) (kd (.int 10)) (kd (.int 29)) ρ=.val (.int (10 ^ 29)):=by
  rw [aD,cY,af,cY,af,dX]
  unfold jX
  rw [if_pos (by decide)];rfl
 have el:eL (aC (una dE (kd (.int 1))) (aC F (aC (bin (iI jX) (kd (.int 10)) (kd (.int 29))) aN))) ρ=.val (.lst [.int (-1),nD n,.int (10 ^ 29)]):=by
  rw [om,aI,aI,hF,aI,p]
  rfl
 have ix:bin (iI aK) G (kd (.int 3)) ρ=.val (nD y):=by
  rw [aD,hG,af,cY,af,dX]
  exact m2
 obtain ⟨z,hz,h1,h2⟩:∃ z:Int,([.int (-1),nD n,.int (10 ^ 29)]:List D)[y]?=some (.int z)/\inB z n=false/\z.natAbs < 10 ^ 40:=match y,m1 with
  | 0,_=>⟨-1,rfl,rfl,by decide⟩
  | 1,_=>⟨(n:Int),rfl,by unfold inB;rw [decide_eq_false (p:=(n:Int) < (n:Int)) (by omega),Bool.and_false],by
    have:((n:Int)).natAbs<=100:=by omega
    exact Nat.lt_of_le_of_lt this (by decide)⟩
  | 2,_=>⟨10 ^ 29,rfl,by
    unfold inB
    rw [decide_eq_false (p:=(10 ^ 29:Int) < (n:Int)) (by
     have h:(n:Int)<=100:=by omega
     have:(100:Int)<=10 ^ 29:=by decide
     omega),Bool.and_false],by decide⟩
 exact ⟨z,by rw [aD,el,af,ix,af,i7 hz],h1,h2⟩
theorem CN (a b c d:Bool):feq (.lst [.bl a,.bl b]) (.lst [.bl c,.bl d])=.val (.bl (decide (a=c) && decide (b=d))):=by
 cases a <;> cases b <;> cases c <;> cases d <;> rfl
section
variable {en:List (Nat × Nat)} {re:List Nat} {tb:List (List Int)} {pl:List Nat} {r:List D} {ns:List Int}
def otD:Option Tie->D
 | some t=>fB t
 | none=>.non
abbrev rEl (ns:List Int) (pl:List Nat) (P:D) (w a b:Nat) (so:List Nat) (x7 x8:Option Slt):Rho:=[some (.shr (.scr ns)),some (.shr (aw pl)),some (.shr P),some (.shr (nD w)),some (.shr (nD a)),some (.shr (nD b)),some (.own (so.map nD)),x7,x8]
theorem qF (h:bY en re tb) (hp:0 < pl.length) {w:Nat} (hw:5 < w):∃ o:Option Tie,bJ [.scr ns,aw pl,paD en re tb r,nD w]=.val (otD o)/\∀ t,o=some t->t.1 < pl.length/\t.2.1 < pl.length/\t.2.2 < en.length/\en.getD t.2.2 (0,0) ≠ (pl.getD t.1 0,pl.getD t.2.1 0):=by
 simp only [bJ,eN]
 show ∃ o,fin (sq _ _ [some (.shr (.scr ns)),some (.shr (aw pl)),some (.shr (paD en re tb r)),some (.shr (nD w)),none,none,none,none,none])=_/\_
 have n40:=h.na40
 obtain ⟨a1,a2⟩:=cT (cf ns 34) hp
 obtain ⟨b1,b2⟩:=cT (cf ns 35) hp
 generalize (cf ns 34 % (pl.length:Int)).toNat=a at a1 a2
 generalize (cf ns 35 % (pl.length:Int)).toNat=b at b1 b2
 have s1:asg 4 (bin (iI aK) (cal 2 av (aC (vr 0) (aC (kd (.int 34)) aN))) (una aA (vb 1))) [some (.shr (.scr ns)),some (.shr (aw pl)),some (.shr (paD en re tb r)),some (.shr (nD w)),none,none,none,none,none]=.val (.nx [some (.shr (.scr ns)),some (.shr (aw pl)),some (.shr (paD en re tb r)),some (.shr (nD w)),some (.shr (nD a)),none,none,none,none]):=by
  refine bH ?_
  have v:una aA (vb 1) [some (.shr (.scr ns)),some (.shr (aw pl)),some (.shr (paD en re tb r)),some (.shr (nD w)),none,none,none,none,none]=.val (nD pl.length):=cq pl
  rw [aD,jl (k:=34) rfl rfl rfl,af,v,af,dX,a2]
 have s2:asg 5 (bin (iI aK) (cal 2 av (aC (vr 0) (aC (kd (.int 35)) aN))) (una aA (vb 1))) [some (.shr (.scr ns)),some (.shr (aw pl)),some (.shr (paD en re tb r)),some (.shr (nD w)),some (.shr (nD a)),none,none,none,none]=.val (.nx [some (.shr (.scr ns)),some (.shr (aw pl)),some (.shr (paD en re tb r)),some (.shr (nD w)),some (.shr (nD a)),some (.shr (nD b)),none,none,none]):=by
  refine bH ?_
  have v:una aA (vb 1) [some (.shr (.scr ns)),some (.shr (aw pl)),some (.shr (paD en re tb r)),some (.shr (nD w)),some (.shr (nD a)),none,none,none,none]=.val (nD pl.length):=cq pl
  rw [aD,jl (k:=35) rfl rfl rfl,af,v,af,dX,b2]
 have s3:own 6 (iQ aN) [some (.shr (.scr ns)),some (.shr (aw pl)),some (.shr (paD en re tb r)),some (.shr (nD w)),some (.shr (nD a)),some (.shr (nD b)),none,none,none]=.val (.nx (rEl ns pl (paD en re tb r) w a b [] none none)):=Eq.trans rfl rfl
 have src:cP (aC (una aA (bin fix (vb 2) (kd (.int 0)))) aN) (rEl ns pl (paD en re tb r) w a b [] none none)=.val ((List.range en.length).map nD):=by
  refine uF ?_ (by omega)
  show R.bind (fix (paD en re tb r) (.int 0)) aA=_
  rw [paD,i6,af,nZ]
 rw [aS s1,aS s2,aS s3]
 obtain ⟨ρ1,e1,so,x7,x8,sl,sm,rfl⟩:=mJ (T:=tgN 7) (F:=sq (asg 8 (eL (aC (bin feq (bin fix (bin fix (bin fix (vb 2) (kd (.int 0))) (vb 7)) (kd (.int 0))) (bin fix (vb 1) (vb 4))) (aC (bin feq (bin fix (bin fix (bin fix (vb 2) (kd (.int 0))) (vb 7)) (kd (.int 1))) (bin fix (vb 1) (vb 5))) aN))))
   (DL.iff (tst (bin feq (vb 8) (eL (aC (bin feq (vb 3) (kd (.int 7))) (aC (bin feq (vb 3) (kd (.int 8))) aN))))) (app 6 (vr 7)) nxt)) (fun p ρ=>∃ (so:List Nat) (x7 x8:Option Slt),so.length<=p.length/\(∀ t ∈ so,t < en.length/\en.getD t (0,0) ≠ (pl.getD a 0,pl.getD b 0))/\ρ=rEl ns pl (paD en re tb r) w a b so x7 x8) src (fun p y q e ρ hI=>by
  obtain ⟨so,x7,x8,sl,sm,rfl⟩:=hI
  have hy:y < en.length:=List.mem_range.mp (by rw [e];simp)
  have lp:p.length<=40:=by have:=congrArg List.length e;simp at this;omega
  have ends:bin fix (bin fix (vb 2) (kd (.int 0))) (vb 7) (rEl ns pl (paD en re tb r) w a b so (some (.shr (nD y))) x8)=.val (eD (en.getD y (0,0))):=by
   show R.bind (fix (paD en re tb r) (.int 0)) (fun z=>fix z (nD y))=_
   rw [paD,i6,af,fW hy]
  have e0:bin feq (bin fix (bin fix (bin fix (vb 2) (kd (.int 0))) (vb 7)) (kd (.int 0))) (bin fix (vb 1) (vb 4)) (rEl ns pl (paD en re tb r) w a b so (some (.shr (nD y))) x8)=.val (.bl (decide ((en.getD y (0,0)).1=pl.getD a 0))):=by
   have f:bin fix (vb 1) (vb 4) (rEl ns pl (paD en re tb r) w a b so (some (.shr (nD y))) x8)=.val (nD (pl.getD a 0)):=dS a1
   rw [aD,aD,ends,af,cY,af,CM,af,f,af,gj]
   congr 2
   rw [Bool.eq_iff_iff,decide_eq_true_eq,decide_eq_true_eq];omega
  have e1:bin feq (bin fix (bin fix (bin fix (vb 2) (kd (.int 0))) (vb 7)) (kd (.int 1))) (bin fix (vb 1) (vb 5)) (rEl ns pl (paD en re tb r) w a b so (some (.shr (nD y))) x8)=.val (.bl (decide ((en.getD y (0,0)).2=pl.getD b 0))):=by
   have f:bin fix (vb 1) (vb 5) (rEl ns pl (paD en re tb r) w a b so (some (.shr (nD y))) x8)=.val (nD (pl.getD b 0)):=dS b1
   rw [aD,aD,ends,af,cY,af,CL,af,f,af,gj]
   congr 2
   rw [Bool.eq_iff_iff,decide_eq_true_eq,decide_eq_true_eq];omega
  have s4:asg 8 (eL (aC (bin feq (bin fix (bin fix (bin fix (vb 2) (kd (.int 0))) (vb 7)) (kd (.int 0))) (bin fix (vb 1) (vb 4))) (aC (bin feq (bin fix (bin fix (bin fix (vb 2) (kd (.int 0))) (vb 7)) (kd (.int 1))) (bin fix (vb 1) (vb 5))) aN))) (rEl ns pl (paD en re tb r) w a b so (some (.shr (nD y))) x8)=.val (.nx (rEl ns pl (paD en re tb r) w a b so (some (.shr (nD y))) (some (.shr (.lst [.bl (decide ((en.getD y (0,0)).1=pl.getD a 0)),.bl (decide ((en.getD y (0,0)).2=pl.getD b 0))]))))):=by
   refine bH ?_
   rw [om,aI,e0,af,aI,e1];rfl
  have tt:tst (bin feq (vb 8) (eL (aC (bin feq (vb 3) (kd (.int 7))) (aC (bin feq (vb 3) (kd (.int 8))) aN)))) (rEl ns pl (paD en re tb r) w a b so (some (.shr (nD y))) (some (.shr (.lst [.bl (decide ((en.getD y (0,0)).1=pl.getD a 0)),.bl (decide ((en.getD y (0,0)).2=pl.getD b 0))]))))=.val (decide (decide ((en.getD y (0,0)).1=pl.getD a 0)=decide ((w:Int)=7)) && decide (decide ((en.getD y (0,0)).2=pl.getD b 0)=decide ((w:Int)=8))):=by
   have w7:bin feq (vb 3) (kd (.int 7)) (rEl ns pl (paD en re tb r) w a b so (some (.shr (nD y))) (some (.shr (.lst [.bl (decide ((en.getD y (0,0)).1=pl.getD a 0)),.bl (decide ((en.getD y (0,0)).2=pl.getD b 0))]))))=.val (.bl (decide ((w:Int)=7))):=gj _ _
   have w8:bin feq (vb 3) (kd (.int 8)) (rEl ns pl (paD en re tb r) w a b so (some (.shr (nD y))) (some (.shr (.lst [.bl (decide ((en.getD y (0,0)).1=pl.getD a 0)),.bl (decide ((en.getD y (0,0)).2=pl.getD b 0))]))))=.val (.bl (decide ((w:Int)=8))):=gj _ _
   rw [bT,aD,om,aI,w7,af,aI,w8]
   show R.bind (feq (.lst [.bl (decide ((en.getD y (0,0)).1=pl.getD a 0)),.bl (decide ((en.getD y (0,0)).2=pl.getD b 0))]) (.lst [.bl (decide ((w:Int)=7)),.bl (decide ((w:Int)=8))])) asB=_
   rw [CN];rfl
  refine ⟨rEl ns pl (paD en re tb r) w a b so (some (.shr (nD y))) x8,?_⟩
  cases cc:(decide (decide ((en.getD y (0,0)).1=pl.getD a 0)=decide ((w:Int)=7)) && decide (decide ((en.getD y (0,0)).2=pl.getD b 0)=decide ((w:Int)=8))) with
  | true =>
   rw [cc] at tt
   refine ⟨_,rfl,by rw [aS s4,ck tt,jo _ (d:=nD y) (xs:=so.map nD) rfl rfl (by rw [List.length_map];omega)],so ++ [y],some (.shr (nD y)),some (.shr (.lst [.bl (decide ((en.getD y (0,0)).1=pl.getD a 0)),.bl (decide ((en.getD y (0,0)).2=pl.getD b 0))])),?_,fun t ht=>?_,?_⟩
   ·rw [List.length_append,List.length_append];show _ + 1<=_ + 1;omega
   ·rcases List.mem_append.mp ht with ht | ht
    ·exact sm t ht
    ·rw [List.mem_singleton.mp ht]
     refine ⟨hy,fun z=>?_⟩
     rw [Bool.and_eq_true,decide_eq_true_eq,decide_eq_true_eq] at cc
     rw [z] at cc
     obtain ⟨c1,c2⟩:=cc
     have d1:(w:Int)=7:=of_decide_eq_true (by rw [<- c1];exact decide_eq_true rfl)
     have d2:(w:Int)=8:=of_decide_eq_true (by rw [<- c2];exact decide_eq_true rfl)
     omega
   ·show _=rEl ns pl (paD en re tb r) w a b (so ++ [y]) _ _
    unfold rEl
    rw [List.map_append];rfl
  | false =>
   rw [cc] at tt
   refine ⟨_,rfl,by rw [aS s4,cO tt],so,_,_,?_,sm,rfl⟩
   rw [List.length_append];omega) ⟨[],none,none,Nat.le_refl _,(fun t ht=>by cases ht),rfl⟩
 rw [aS e1]
 have v6:una aA (vb 6) (rEl ns pl (paD en re tb r) w a b so x7 x8)=.val (nD so.length):=cq so
 have tl:tst (bin feq (una aA (vb 6)) (kd (.int 0))) (rEl ns pl (paD en re tb r) w a b so x7 x8)=.val (decide ((so.length:Int)=0)):=by
  rw [bT,aD,v6,af,cY,af,gj];rfl
 by_cases c:so.length=0
 ·refine ⟨none,?_,(fun t h=>by cases h)⟩
  rw [aW,ck (by rw [tl,decide_eq_true (by omega)])]
  rfl
 ·obtain ⟨c1,c2⟩:=cT (cf ns 36) (m:=so.length) (by omega)
  generalize (cf ns 36 % (so.length:Int)).toNat=y at c1 c2
  have hm:=sm (so.getD y 0) (by rw [aZ c1];exact List.getElem_mem c1)
  refine ⟨some (a,b,so.getD y 0),?_,fun t h=>by cases h;exact ⟨a1,b1,hm⟩⟩
  have at6:bin fix (vb 6) (bin (iI aK) (cal 2 av (aC (vr 0) (aC (kd (.int 36)) aN))) (una aA (vb 6))) (rEl ns pl (paD en re tb r) w a b so x7 x8)=.val (nD (so.getD y 0)):=by
   have m:bin (iI aK) (cal 2 av (aC (vr 0) (aC (kd (.int 36)) aN))) (una aA (vb 6)) (rEl ns pl (paD en re tb r) w a b so x7 x8)=.val (nD y):=by
    rw [aD,jl (k:=36) rfl rfl rfl,af,v6,af,dX,c2]
   rw [aD,m]
   exact dS c1
  rw [aS (cO (by rw [tl,decide_eq_false (by omega)])),cW,eR,aI,aI,aI,at6]
  rfl
end
section
variable {en:List (Nat × Nat)} {re:List Nat} {tb:List (List Int)} {pl:List Nat} {ts:List Tie} {r:List D} {ns:List Int}
theorem wE {pz:List Int} {zs:List Tz} {z:Int} (hm:z ∈ pz) (hz:inB z re.length=false):okP en re pz zs=false:=by
 rw [Bool.eq_false_iff]
 intro q
 unfold okP at q
 rw [Bool.and_eq_true,Bool.and_eq_true,Bool.and_eq_true,List.all_eq_true] at q
 have:=q.2.2.1 z hm
 rw [hz] at this;cases this
theorem vO {pz:List Int} {zs:List Tz} {t:Tz} (hm:t ∈ zs) (ht:okT en pz t=false):okP en re pz zs=false:=by
 rw [Bool.eq_false_iff]
 intro q
 unfold okP at q
 rw [Bool.and_eq_true,Bool.and_eq_true,Bool.and_eq_true,List.all_eq_true,List.all_eq_true] at q
 have:=q.2.2.2 t hm
 rw [ht] at this;cases this
theorem A6 (n:Nat):inB (n:Int) n=false:=by unfold inB;rw [decide_eq_false (p:=(n:Int) < (n:Int)) (by omega),Bool.and_false]
abbrev rBd (ns:List Int) (pl:List Nat) (zs:List Tz) (P:D) (x4 x5 x6 x7 x8 x9:Option Slt):Rho:=[some (.shr (.scr ns)),some (.shr (aw pl)),some (.shr (cF zs)),some (.shr P),x4,x5,x6,x7,x8,x9]
theorem iB {zs:List Tz} {wr:Tz} {sp:Nat} {x4 x5 x6 x7:Option Slt} (hs:sp<=zs.length) (hl:zs.length<=100) :
  ret (eT (aC (vr 1) (aC (bin aV (bin aV (eLs (fSl (vb 2) oN (oS (vr 8)))) (eL (aC (vr 9) aN))) (eLs (fSl (vb 2) (oS (vr 8)) oN))) aN))) (rBd ns pl zs (paD en re tb r) x4 x5 x6 x7 (some (.shr (nD sp))) (some (.shr (tzD wr))))=.val (.rt (.tup [aw pl,cF (zs.take sp ++ wr :: zs.drop sp)])):=by
 have q:=wV (f:=tzD) (l:=zs) (x:=wr) (Fi:=vb 2) (X:=vr 9) (j:=8) (n:=sp) (ρ:=rBd ns pl zs (paD en re tb r) x4 x5 x6 x7 (some (.shr (nD sp))) (some (.shr (tzD wr)))) rfl rfl hs rfl (by omega)
 rw [cW,eR,aI,aI,q]
 rfl
theorem CQ (h:bY en re tb) (g:Pic en re pl ts):∃ (pz:List Int) (zs:List Tz),okP en re pz zs=false/\fg [.scr ns,aw pl,bg ts,paD en re tb r]=.val (.tup [aL pz,cF zs]):=by
 have l3:=g.l3
 have l4:=g.l4
 have n40:=h.na40
 have n6:=h.nb6
 have n1:=h.nb1
 rw [uC]
 have lz:(ts.map tz).length<=4:=by rw [List.length_map];exact l4
 generalize ts.map tz=z0 at lz
 simp only [fg,je]
 show ∃ pz zs,_/\fin (sq _ _ (rBd ns pl z0 (paD en re tb r) none none none none none none))=_
 obtain ⟨w1,w2⟩:=cT (cf ns 30) (m:=9) (by decide)
 generalize (cf ns 30 % ((9:Nat):Int)).toNat=w at w1 w2
 have s1:asg 4 (bin (iI aK) (cal 2 av (aC (vr 0) (aC (kd (.int 30)) aN))) (kd (.int 9))) (rBd ns pl z0 (paD en re tb r) none none none none none none)=.val (.nx (rBd ns pl z0 (paD en re tb r) (some (.shr (nD w))) none none none none none)):=by
  refine bH ?_
  rw [aD,jl (k:=30) rfl rfl rfl,af,cY,af,dX]
  exact w2
 have s2:asg 5 (cal 2 av (aC (vr 0) (aC (kd (.int 31)) aN))) (rBd ns pl z0 (paD en re tb r) (some (.shr (nD w))) none none none none none)=.val (.nx (rBd ns pl z0 (paD en re tb r) (some (.shr (nD w))) (some (.shr (.int (cf ns 31)))) none none none none)):=bH (jl (k:=31) rfl rfl rfl)
 generalize cf ns 31=num at s2
 have lenR:∀ (zs:List Tz) (x4 x5 x6 x7 x8 x9:Option Slt),una aA (bin fix (vb 3) (kd (.int 1))) (rBd ns pl zs (paD en re tb r) x4 x5 x6 x7 x8 x9)=.val (nD re.length):=fun zs x4 x5 x6 x7 x8 x9=>by
  show R.bind (fix (paD en re tb r) (.int 1)) aA=_
  rw [paD,gh,af,cq]
 have lenE:∀ (zs:List Tz) (x4 x5 x6 x7 x8 x9:Option Slt),una aA (bin fix (vb 3) (kd (.int 0))) (rBd ns pl zs (paD en re tb r) x4 x5 x6 x7 x8 x9)=.val (nD en.length):=fun zs x4 x5 x6 x7 x8 x9=>by
  show R.bind (fix (paD en re tb r) (.int 0)) aA=_
  rw [paD,i6,af,nZ]
 have lenP:∀ (zs:List Tz) (x4 x5 x6 x7 x8 x9:Option Slt),una aA (vb 1) (rBd ns pl zs (paD en re tb r) x4 x5 x6 x7 x8 x9)=.val (nD pl.length):=fun zs x4 x5 x6 x7 x8 x9=>cq pl
 obtain ⟨off,s3,ho,_⟩:=tO (F:=una aA (bin fix (vb 3) (kd (.int 1)))) (G:=vb 5) (ρ:=rBd ns pl z0 (paD en re tb r) (some (.shr (nD w))) (some (.shr (.int num))) none none none none) (n:=re.length) (c:=num) (by omega) (lenR _ _ _ _ _ _ _) rfl
 have s3:asg 6 (bin fix (eL (aC (una dE (kd (.int 1))) (aC (una aA (bin fix (vb 3) (kd (.int 1)))) (aC (bin (iI jX) (kd (.int 10)) (kd (.int 29))) aN)))) (bin (iI aK) (vb 5) (kd (.int 3)))) (rBd ns pl z0 (paD en re tb r) (some (.shr (nD w))) (some (.shr (.int num))) none none none none)=.val (.nx (rBd ns pl z0 (paD en re tb r) (some (.shr (nD w))) (some (.shr (.int num))) (some (.shr (.int off))) none none none)):=bH s3
 obtain ⟨a1,a2⟩:=cT (num / 4) (m:=pl.length + 1) (by omega)
 generalize (num / 4 % ((pl.length + 1:Nat):Int)).toNat=at_ at a1 a2
 have s4:asg 7 (bin (iI aK) (bin (iI df) (vb 5) (kd (.int 4))) (bin aV (una aA (vb 1)) (kd (.int 1)))) (rBd ns pl z0 (paD en re tb r) (some (.shr (nD w))) (some (.shr (.int num))) (some (.shr (.int off))) none none none)=.val (.nx (rBd ns pl z0 (paD en re tb r) (some (.shr (nD w))) (some (.shr (.int num))) (some (.shr (.int off))) (some (.shr (nD at_))) none none)):=by
  refine bH ?_
  have v:bin (iI df) (vb 5) (kd (.int 4)) (rBd ns pl z0 (paD en re tb r) (some (.shr (nD w))) (some (.shr (.int num))) (some (.shr (.int off))) none none none)=.val (.int (num / 4)):=by
   show df num 4=_
   exact kD (by decide)
  rw [aD,v,af,aD,lenP,af,cY,af,jD,af,dX]
  exact a2
 rw [aS s1,aS s2,aS s3,aS s4]
 have is_:∀ (k:Int) (zs:List Tz) (x7 x8 x9:Option Slt),tst (bin feq (vb 4) (kd (.int k))) (rBd ns pl zs (paD en re tb r) (some (.shr (nD w))) (some (.shr (.int num))) (some (.shr (.int off))) x7 x8 x9)=.val (decide ((w:Int)=k)):=fun k zs x7 x8 x9=>by
  show R.bind (feq (.int (w:Int)) (.int k)) asB=_
  rw [gj];rfl
 have pos:∀ (zs:List Tz) (x7 x8 x9:Option Slt),tst (bin (iI fgt) (una aA (vb 1)) (kd (.int 0))) (rBd ns pl zs (paD en re tb r) (some (.shr (nD w))) (some (.shr (.int num))) (some (.shr (.int off))) x7 x8 x9)=.val (decide ((0:Int) < pl.length)):=fun zs x7 x8 x9=>by
  rw [bT,aD,lenP];rfl
 by_cases k0:w=0/\pl.length < 3
 ·refine ⟨(bR pl).take at_ ++ off :: (bR pl).drop at_,[],wE (z:=off) (by simp) ho,?_⟩
  have t1:tst (bin (iI flt) (una aA (vb 1)) (kd (.int 3))) (rBd ns pl z0 (paD en re tb r) (some (.shr (nD w))) (some (.shr (.int num))) (some (.shr (.int off))) (some (.shr (nD at_))) none none)=.val (decide ((pl.length:Int) < 3)):=by
   rw [bT,aD,lenP];rfl
  have q:=wV (f:=D.int) (l:=bR pl) (x:=off) (Fi:=vb 1) (X:=vr 6) (j:=7) (n:=at_) (ρ:=rBd ns pl z0 (paD en re tb r) (some (.shr (nD w))) (some (.shr (.int num))) (some (.shr (.int off))) (some (.shr (nD at_))) none none) (by
   show R.val (aw pl)=_
   rw [mC];rfl) rfl (by rw [cA];omega) rfl (by rw [cA];omega)
  rw [aW,ck (by rw [gI,is_,decide_eq_true (by omega),af,if_pos rfl,t1,decide_eq_true (by omega)]),cW,eR,aI,q]
  rfl
 ·have t1:tst (bin (iI flt) (una aA (vb 1)) (kd (.int 3))) (rBd ns pl z0 (paD en re tb r) (some (.shr (nD w))) (some (.shr (.int num))) (some (.shr (.int off))) (some (.shr (nD at_))) none none)=.val (decide ((pl.length:Int) < 3)):=by
   rw [bT,aD,lenP];rfl
  have n0:lI (tst (bin feq (vb 4) (kd (.int 0)))) (tst (bin (iI flt) (una aA (vb 1)) (kd (.int 3)))) (rBd ns pl z0 (paD en re tb r) (some (.shr (nD w))) (some (.shr (.int num))) (some (.shr (.int off))) (some (.shr (nD at_))) none none)=.val false:=by
   rw [gI,is_,af]
   by_cases e:w=0
   ·rw [decide_eq_true (by omega),if_pos rfl,t1,decide_eq_false (by omega)]
   ·rw [decide_eq_false (by omega)];rfl
  rw [aS (cO n0)]
  have s5:asg 2 (eLs (fSl (vb 2) oN (oS (kd (.int 3))))) (rBd ns pl z0 (paD en re tb r) (some (.shr (nD w))) (some (.shr (.int num))) (some (.shr (.int off))) (some (.shr (nD at_))) none none)=.val (.nx (rBd ns pl (z0.take 3) (paD en re tb r) (some (.shr (nD w))) (some (.shr (.int num))) (some (.shr (.int off))) (some (.shr (nD at_))) none none)):=by
   refine bH ?_
   rw [cr]
   have:=yp (f:=tzD) (l:=z0) (F:=vb 2) (ρ:=rBd ns pl z0 (paD en re tb r) (some (.shr (nD w))) (some (.shr (.int num))) (some (.shr (.int off))) (some (.shr (nD at_))) none none) 3 rfl
   exact congrArg (fun z=>R.bind z _) this
  have l3z:(z0.take 3).length<=3:=by rw [List.length_take];omega
  generalize z0.take 3=zs at s5 l3z
  obtain ⟨b1,b2⟩:=cT (num / 64) (m:=zs.length + 1) (by omega)
  generalize (num / 64 % ((zs.length + 1:Nat):Int)).toNat=sp at b1 b2
  have s6:asg 8 (bin (iI aK) (bin (iI df) (vb 5) (kd (.int 64))) (bin aV (una aA (vb 2)) (kd (.int 1)))) (rBd ns pl zs (paD en re tb r) (some (.shr (nD w))) (some (.shr (.int num))) (some (.shr (.int off))) (some (.shr (nD at_))) none none)=.val (.nx (rBd ns pl zs (paD en re tb r) (some (.shr (nD w))) (some (.shr (.int num))) (some (.shr (.int off))) (some (.shr (nD at_))) (some (.shr (nD sp))) none)):=by
   refine bH ?_
   have v:bin (iI df) (vb 5) (kd (.int 64)) (rBd ns pl zs (paD en re tb r) (some (.shr (nD w))) (some (.shr (.int num))) (some (.shr (.int off))) (some (.shr (nD at_))) none none)=.val (.int (num / 64)):=by
    show df num 64=_
    exact kD (by decide)
   have v2:una aA (vb 2) (rBd ns pl zs (paD en re tb r) (some (.shr (nD w))) (some (.shr (.int num))) (some (.shr (.int off))) (some (.shr (nD at_))) none none)=.val (nD zs.length):=by
    show aA (.lst (zs.map tzD))=_
    rw [uc,List.length_map]
   rw [aD,v,af,aD,v2,af,cY,af,jD,af,dX]
   exact b2
  rw [aS s5,aS s6]
  have fin_:∀ wr:Tz,okT en (bR pl) wr=false->∃ (pz:List Int) (us:List Tz),okP en re pz us=false/\fin (ret (eT (aC (vr 1) (aC (bin aV (bin aV (eLs (fSl (vb 2) oN (oS (vr 8)))) (eL (aC (vr 9) aN))) (eLs (fSl (vb 2) (oS (vr 8)) oN))) aN))) (rBd ns pl zs (paD en re tb r) (some (.shr (nD w))) (some (.shr (.int num))) (some (.shr (.int off))) (some (.shr (nD at_))) (some (.shr (nD sp))) (some (.shr (tzD wr)))))=.val (.tup [aL pz,cF us]):=fun wr hw =>
   ⟨bR pl,zs.take sp ++ wr :: zs.drop sp,vO (t:=wr) (by simp) hw,by rw [iB (by omega) (by omega),mC];rfl⟩
  by_cases k1:w=1/\0 < pl.length
  ·obtain ⟨c1,c2⟩:=cT num (m:=4) (by decide)
   generalize (num % ((4:Nat):Int)).toNat=y at c1 c2
   obtain ⟨wr,hy,hw⟩:∃ wr:Tz,([.tup [nD pl.length,.int 0,.int 0],.tup [.int 0,nD pl.length,.int 0],.tup [.int (-1),.int 0,.int 0],.tup [.int 0,.int (-1),.int 0]]:List D)[y]?=some (tzD wr)/\okT en (bR pl) wr=false:=match y,c1 with
    | 0,_=>⟨((pl.length:Int),0,0),rfl,by unfold okT;rw [cA,A6];rfl⟩
    | 1,_=>⟨(0,(pl.length:Int),0),rfl,by unfold okT;rw [cA,A6,Bool.false_and,Bool.and_false]⟩
    | 2,_=>⟨(-1,0,0),rfl,rfl⟩
    | 3,_=>⟨(0,-1,0),rfl,by unfold okT;rw [show inB (0,(-1:Int),(0:Int)).2.1 (bR pl).length=false from rfl,Bool.false_and,Bool.and_false]⟩
   have el:eL (aC (eT (aC (una aA (vb 1)) (aC (kd (.int 0)) (aC (kd (.int 0)) aN)))) (aC (eT (aC (kd (.int 0)) (aC (una aA (vb 1)) (aC (kd (.int 0)) aN)))) (aC (eT (aC (una dE (kd (.int 1))) (aC (kd (.int 0)) (aC (kd (.int 0)) aN)))) (aC (eT (aC (kd (.int 0)) (aC (una dE (kd (.int 1))) (aC (kd (.int 0)) aN)))) aN)))) (rBd ns pl zs (paD en re tb r) (some (.shr (nD w))) (some (.shr (.int num))) (some (.shr (.int off))) (some (.shr (nD at_))) (some (.shr (nD sp))) none)=.val (.lst [.tup [nD pl.length,.int 0,.int 0],.tup [.int 0,nD pl.length,.int 0],.tup [.int (-1),.int 0,.int 0],.tup [.int 0,.int (-1),.int 0]]):=by
    have q1:eT (aC (una aA (vb 1)) (aC (kd (.int 0)) (aC (kd (.int 0)) aN))) (rBd ns pl zs (paD en re tb r) (some (.shr (nD w))) (some (.shr (.int num))) (some (.shr (.int off))) (some (.shr (nD at_))) (some (.shr (nD sp))) none)=.val (.tup [nD pl.length,.int 0,.int 0]):=by rw [eR,aI,lenP];rfl
    have q2:eT (aC (kd (.int 0)) (aC (una aA (vb 1)) (aC (kd (.int 0)) aN))) (rBd ns pl zs (paD en re tb r) (some (.shr (nD w))) (some (.shr (.int num))) (some (.shr (.int off))) (some (.shr (nD at_))) (some (.shr (nD sp))) none)=.val (.tup [.int 0,nD pl.length,.int 0]):=by rw [eR,aI,aI,lenP];rfl
    rw [om,aI,q1,af,aI,q2]
    rfl
   have ix:bin (iI aK) (vb 5) (kd (.int 4)) (rBd ns pl zs (paD en re tb r) (some (.shr (nD w))) (some (.shr (.int num))) (some (.shr (.int off))) (some (.shr (nD at_))) (some (.shr (nD sp))) none)=.val (nD y):=Eq.trans rfl c2
   have s7:asg 9 (bin fix (eL (aC (eT (aC (una aA (vb 1)) (aC (kd (.int 0)) (aC (kd (.int 0)) aN)))) (aC (eT (aC (kd (.int 0)) (aC (una aA (vb 1)) (aC (kd (.int 0)) aN)))) (aC (eT (aC (una dE (kd (.int 1))) (aC (kd (.int 0)) (aC (kd (.int 0)) aN)))) (aC (eT (aC (kd (.int 0)) (aC (una dE (kd (.int 1))) (aC (kd (.int 0)) aN)))) aN))))) (bin (iI aK) (vb 5) (kd (.int 4)))) (rBd ns pl zs (paD en re tb r) (some (.shr (nD w))) (some (.shr (.int num))) (some (.shr (.int off))) (some (.shr (nD at_))) (some (.shr (nD sp))) none)=.val (.nx (rBd ns pl zs (paD en re tb r) (some (.shr (nD w))) (some (.shr (.int num))) (some (.shr (.int off))) (some (.shr (nD at_))) (some (.shr (nD sp))) (some (.shr (tzD wr))))):=bH (by rw [aD,el,af,ix,af,i7 hy])
   obtain ⟨pz,us,h1,h2⟩:=fin_ wr hw
   refine ⟨pz,us,h1,?_⟩
   rw [aW,ck (by rw [gI,is_,decide_eq_true (by omega),af,if_pos rfl,pos,decide_eq_true (by omega)]),aS s7]
   have e:=iB (en:=en) (re:=re) (tb:=tb) (r:=r) (ns:=ns) (pl:=pl) (zs:=zs) (wr:=wr) (sp:=sp) (x4:=some (.shr (nD w))) (x5:=some (.shr (.int num))) (x6:=some (.shr (.int off))) (x7:=some (.shr (nD at_))) (by omega) (by omega)
   rw [e] at h2 ⊢
   exact h2
  ·have n1_:lI (tst (bin feq (vb 4) (kd (.int 1)))) (tst (bin (iI fgt) (una aA (vb 1)) (kd (.int 0)))) (rBd ns pl zs (paD en re tb r) (some (.shr (nD w))) (some (.shr (.int num))) (some (.shr (.int off))) (some (.shr (nD at_))) (some (.shr (nD sp))) none)=.val false:=by
    rw [gI,is_,af]
    by_cases e:w=1
    ·rw [decide_eq_true (by omega),if_pos rfl,pos,decide_eq_false (by omega)]
    ·rw [decide_eq_false (by omega)];rfl
   rw [aS (cO n1_)]
   by_cases k2:w=2/\0 < pl.length
   ·obtain ⟨z,e1,hz,_⟩:=tO (F:=una aA (bin fix (vb 3) (kd (.int 0)))) (G:=vb 5) (ρ:=rBd ns pl zs (paD en re tb r) (some (.shr (nD w))) (some (.shr (.int num))) (some (.shr (.int off))) (some (.shr (nD at_))) (some (.shr (nD sp))) none) (n:=en.length) (c:=num) (by omega) (lenE _ _ _ _ _ _ _) rfl
    have s7:asg 9 (eT (aC (kd (.int 0)) (aC (kd (.int 0)) (aC (bin fix (eL (aC (una dE (kd (.int 1))) (aC (una aA (bin fix (vb 3) (kd (.int 0)))) (aC (bin (iI jX) (kd (.int 10)) (kd (.int 29))) aN)))) (bin (iI aK) (vb 5) (kd (.int 3)))) aN)))) (rBd ns pl zs (paD en re tb r) (some (.shr (nD w))) (some (.shr (.int num))) (some (.shr (.int off))) (some (.shr (nD at_))) (some (.shr (nD sp))) none)=.val (.nx (rBd ns pl zs (paD en re tb r) (some (.shr (nD w))) (some (.shr (.int num))) (some (.shr (.int off))) (some (.shr (nD at_))) (some (.shr (nD sp))) (some (.shr (tzD (0,0,z)))))):=bH (by rw [eR,aI,aI,aI,e1];rfl)
    have hw:okT en (bR pl) (0,0,z)=false:=by unfold okT;rw [show inB (0,(0:Int),z).2.2 en.length=false from hz,Bool.false_and,Bool.and_false,Bool.and_false]
    obtain ⟨pz,us,h1,h2⟩:=fin_ (0,0,z) hw
    refine ⟨pz,us,h1,?_⟩
    rw [aW,ck (by rw [gI,is_,decide_eq_true (by omega),af,if_pos rfl,pos,decide_eq_true (by omega)]),aS s7]
    have e:=iB (en:=en) (re:=re) (tb:=tb) (r:=r) (ns:=ns) (pl:=pl) (zs:=zs) (wr:=(0,0,z)) (sp:=sp) (x4:=some (.shr (nD w))) (x5:=some (.shr (.int num))) (x6:=some (.shr (.int off))) (x7:=some (.shr (nD at_))) (by omega) (by omega)
    rw [e] at h2 ⊢
    exact h2
   ·have n2_:lI (tst (bin feq (vb 4) (kd (.int 2)))) (tst (bin (iI fgt) (una aA (vb 1)) (kd (.int 0)))) (rBd ns pl zs (paD en re tb r) (some (.shr (nD w))) (some (.shr (.int num))) (some (.shr (.int off))) (some (.shr (nD at_))) (some (.shr (nD sp))) none)=.val false:=by
     rw [gI,is_,af]
     by_cases e:w=2
     ·rw [decide_eq_true (by omega),if_pos rfl,pos,decide_eq_false (by omega)]
     ·rw [decide_eq_false (by omega)];rfl
    rw [aS (cO n2_)]
    have more:tst (bin (iI fgt) (vb 4) (kd (.int 5))) (rBd ns pl zs (paD en re tb r) (some (.shr (nD w))) (some (.shr (.int num))) (some (.shr (.int off))) (some (.shr (nD at_))) (some (.shr (nD sp))) none)=.val (decide ((5:Int) < w)):=Eq.trans rfl rfl
    have tail:∀ x9:Option Slt,∃ (pz:List Int) (us:List Tz),okP en re pz us=false/\fin ((sq (DL.iff (tst (bin feq (vb 4) (kd (.int 3)))) (ret (eT (aC (eL (aC (kd (.int 0)) (aC (kd (.int 0)) (aC (kd (.int 0)) (aC (kd (.int 0)) aN))))) (aC (eL aN) aN)))) nxt) (sq (DL.iff (tst (bin feq (vb 4) (kd (.int 4)))) (ret (eT (aC (eL (aC (kd (.int 0)) aN)) (aC (eLs (bI (cP (aC (kd (.int 5)) aN)) 1 (tgN 10) tT (eT (aC (kd (.int 0)) (aC (kd (.int 0)) (aC (bin fix (bin fix (vb 3) (kd (.int 1))) (kd (.int 0))) aN)))))) aN)))) nxt) (ret (eT (aC (eL (aC (kd (.int 0)) (aC (bin (iI wv) (una aA (bin fix (vb 3) (kd (.int 1)))) (kd (.int 1))) aN))) (aC (eL (aC (eT (aC (kd (.int 0)) (aC (kd (.int 1)) (aC (bin fix (bin fix (vb 3) (kd (.int 1))) (kd (.int 0))) aN)))) (aC (eT (aC (kd (.int 1)) (aC (kd (.int 0)) (aC (bin fix (bin fix (vb 3) (kd (.int 1))) (una dE (kd (.int 1)))) aN)))) (aC (eT (aC (kd (.int 2)) (aC (kd (.int 0)) (aC (kd (.int 0)) aN)))) aN)))) aN)))))) (rBd ns pl zs (paD en re tb r) (some (.shr (nD w))) (some (.shr (.int num))) (some (.shr (.int off))) (some (.shr (nD at_))) (some (.shr (nD sp))) x9))=.val (.tup [aL pz,cF us]):=fun x9=>by
     have r0:bin fix (bin fix (vb 3) (kd (.int 1))) (kd (.int 0)) (rBd ns pl zs (paD en re tb r) (some (.shr (nD w))) (some (.shr (.int num))) (some (.shr (.int off))) (some (.shr (nD at_))) (some (.shr (nD sp))) x9)=.val (nD (re.getD 0 0)):=by
      show R.bind (fix (paD en re tb r) (.int 1)) (fun z=>fix z (.int 0))=_
      rw [paD,gh,af]
      exact dS (i:=0) (by omega)
     by_cases k3:w=3
     ·refine ⟨[0,0,0,0],[],rfl,?_⟩
      rw [aW,ck (by rw [is_,decide_eq_true (by omega)])]
      rfl
     ·rw [aS (cO (by rw [is_,decide_eq_false (by omega)]))]
      by_cases k4:w=4
      ·have c:=gl (src:=cP (aC (kd (.int 5)) aN)) (n:=1) (i:=10) (m:=5) (e:=eT (aC (kd (.int 0)) (aC (kd (.int 0)) (aC (bin fix (bin fix (vb 3) (kd (.int 1))) (kd (.int 0))) aN)))) (g:=fun _=>tzD (0,0,(re.getD 0 0:Nat))) (ρ:=rBd ns pl zs (paD en re tb r) (some (.shr (nD w))) (some (.shr (.int num))) (some (.shr (.int off))) (some (.shr (nD at_))) (some (.shr (nD sp))) x9) (by
        rw [gF,aI,cY,af,gJ,af,af]
        exact dq (n:=5) (by omega)) (by omega) (fun k _=>by
        have q:bin fix (bin fix (vb 3) (kd (.int 1))) (kd (.int 0)) (List.set (rBd ns pl zs (paD en re tb r) (some (.shr (nD w))) (some (.shr (.int num))) (some (.shr (.int off))) (some (.shr (nD at_))) (some (.shr (nD sp))) x9 ++ List.replicate 1 none) 10 (some (.shr (.int (k:Int)))))=.val (nD (re.getD 0 0)):=r0
        rw [eR,aI,aI,aI,q]
        rfl)
       refine ⟨[0],(List.range 5).map fun _=>(0,0,((re.getD 0 0:Nat):Int)),by unfold okP;rfl,?_⟩
       rw [aW,ck (by rw [is_,decide_eq_true (by omega)]),cW,eR,aI,aI,cr,c]
       rfl
      ·rw [aS (cO (by rw [is_,decide_eq_false (by omega)]))]
       have r1:bin fix (bin fix (vb 3) (kd (.int 1))) (una dE (kd (.int 1))) (rBd ns pl zs (paD en re tb r) (some (.shr (nD w))) (some (.shr (.int num))) (some (.shr (.int off))) (some (.shr (nD at_))) (some (.shr (nD sp))) x9)=.val (nD (re.getD (re.length - 1) 0)):=by
        show R.bind (fix (paD en re tb r) (.int 1)) (fun z=>fix z (.int (-1)))=_
        rw [paD,gh,af]
        have xn:atI (re.map nD) (-1)=some (nD (re.getD (re.length - 1) 0)):=by
         unfold atI ixN
         rw [if_neg (by decide),if_pos (by rw [List.length_map];omega),List.length_map]
         have:((-1:Int) + (re.length:Int)).toNat=re.length - 1:=by omega
         rw [this]
         exact fD (d:=0) (by omega)
        show (match atI (re.map nD) (-1) with | some d=>R.val d | none=>.bad)=_
        rw [xn]
       have sb:bin (iI wv) (una aA (bin fix (vb 3) (kd (.int 1)))) (kd (.int 1)) (rBd ns pl zs (paD en re tb r) (some (.shr (nD w))) (some (.shr (.int num))) (some (.shr (.int off))) (some (.shr (nD at_))) (some (.shr (nD sp))) x9)=.val (.int ((re.length:Int) - 1)):=by
        rw [aD,lenR];rfl
       refine ⟨[0,(re.length:Int) - 1],[(0,1,((re.getD 0 0:Nat):Int)),(1,0,((re.getD (re.length - 1) 0:Nat):Int)),(2,0,0)],vO (t:=(2,0,0)) (by simp) rfl,?_⟩
       rw [cW,eR,aI,om,aI,aI,sb,aI,om,aI,eR,aI,aI,aI,r0,aI,eR,aI,aI,aI,r1]
       rfl
    by_cases k6:5 < w/\0 < pl.length
    ·obtain ⟨o,eo,ho⟩:=qF (r:=r) (ns:=ns) h k6.2 k6.1
     have s7:asg 9 (cal 4 bJ (aC (vr 0) (aC (vr 1) (aC (vr 3) (aC (vr 4) aN))))) (rBd ns pl zs (paD en re tb r) (some (.shr (nD w))) (some (.shr (.int num))) (some (.shr (.int off))) (some (.shr (nD at_))) (some (.shr (nD sp))) none)=.val (.nx (rBd ns pl zs (paD en re tb r) (some (.shr (nD w))) (some (.shr (.int num))) (some (.shr (.int off))) (some (.shr (nD at_))) (some (.shr (nD sp))) (some (.shr (otD o))))):=bH (ms rfl rfl rfl rfl eo)
     have go:lI (tst (bin (iI fgt) (vb 4) (kd (.int 5)))) (tst (bin (iI fgt) (una aA (vb 1)) (kd (.int 0)))) (rBd ns pl zs (paD en re tb r) (some (.shr (nD w))) (some (.shr (.int num))) (some (.shr (.int off))) (some (.shr (nD at_))) (some (.shr (nD sp))) none)=.val true:=by
      rw [gI,more,decide_eq_true (by omega),af,if_pos rfl,pos,decide_eq_true (by omega)]
     cases o with
     | none =>
      obtain ⟨pz,us,h1,h2⟩:=tail (some (.shr .non))
      refine ⟨pz,us,h1,?_⟩
      have s8:DL.iff (lI (tst (bin (iI fgt) (vb 4) (kd (.int 5)))) (tst (bin (iI fgt) (una aA (vb 1)) (kd (.int 0))))) (sq (asg 9 (cal 4 bJ (aC (vr 0) (aC (vr 1) (aC (vr 3) (aC (vr 4) aN)))))) (DL.iff (tst (una (fun d=>.val (gi d)) (vb 9))) (ret (eT (aC (vr 1) (aC (bin aV (bin aV (eLs (fSl (vb 2) oN (oS (vr 8)))) (eL (aC (vr 9) aN))) (eLs (fSl (vb 2) (oS (vr 8)) oN))) aN)))) nxt)) nxt (rBd ns pl zs (paD en re tb r) (some (.shr (nD w))) (some (.shr (.int num))) (some (.shr (.int off))) (some (.shr (nD at_))) (some (.shr (nD sp))) none)=.val (.nx (rBd ns pl zs (paD en re tb r) (some (.shr (nD w))) (some (.shr (.int num))) (some (.shr (.int off))) (some (.shr (nD at_))) (some (.shr (nD sp))) (some (.shr .non)))):=by
       rw [ck go,aS s7]
       exact cO rfl
      rw [aS s8]
      exact h2
     | some t =>
      obtain ⟨g1,g2,g3,g4⟩:=ho t rfl
      have hw:okT en (bR pl) (tz t)=false:=by
       rw [Bool.eq_false_iff]
       intro q
       unfold okT tz at q
       rw [Bool.and_eq_true,Bool.and_eq_true,Bool.and_eq_true,Bool.and_eq_true,decide_eq_true_eq,decide_eq_true_eq] at q
       have q1:((en.getD t.2.2 (0,0)).1:Int)=(bR pl).getD t.1 (-1):=q.2.2.2.1
       have q2:((en.getD t.2.2 (0,0)).2:Int)=(bR pl).getD t.2.1 (-1):=q.2.2.2.2
       have at2:∀ i,i < pl.length->(bR pl).getD i (-1)=((pl.getD i 0:Nat):Int):=fun i hi=>by
        rw [aZ (by rw [cA];exact hi),aZ hi]
        unfold bR
        rw [List.getElem_map]
       rw [at2 _ g1] at q1
       rw [at2 _ g2] at q2
       apply g4
       have e1:(en.getD t.2.2 (0,0)).1=pl.getD t.1 0:=by omega
       have e2:(en.getD t.2.2 (0,0)).2=pl.getD t.2.1 0:=by omega
       rw [<- e1,<- e2]
      obtain ⟨pz,us,h1,h2⟩:=fin_ (tz t) hw
      refine ⟨pz,us,h1,?_⟩
      have e:=iB (en:=en) (re:=re) (tb:=tb) (r:=r) (ns:=ns) (pl:=pl) (zs:=zs) (wr:=tz t) (sp:=sp) (x4:=some (.shr (nD w))) (x5:=some (.shr (.int num))) (x6:=some (.shr (.int off))) (x7:=some (.shr (nD at_))) (by omega) (by omega)
      rw [e] at h2
      rw [aW,ck go,aS s7]
      have fN:tst (una (fun d=>.val (gi d)) (vb 9)) (rBd ns pl zs (paD en re tb r) (some (.shr (nD w))) (some (.shr (.int num))) (some (.shr (.int off))) (some (.shr (nD at_))) (some (.shr (nD sp))) (some (.shr (otD (some t)))))=.val true:=Eq.trans rfl rfl
      rw [ck fN]
      refine Eq.trans (congrArg (fun z=>fin (R.bind z _)) e) ?_
      exact h2
    ·have n6_:lI (tst (bin (iI fgt) (vb 4) (kd (.int 5)))) (tst (bin (iI fgt) (una aA (vb 1)) (kd (.int 0)))) (rBd ns pl zs (paD en re tb r) (some (.shr (nD w))) (some (.shr (.int num))) (some (.shr (.int off))) (some (.shr (nD at_))) (some (.shr (nD sp))) none)=.val false:=by
      rw [gI,more,af]
      by_cases e:5 < w
      ·rw [decide_eq_true (by omega),if_pos rfl,pos,decide_eq_false (by omega)]
      ·rw [decide_eq_false (by omega)];rfl
     obtain ⟨pz,us,h1,h2⟩:=tail none
     refine ⟨pz,us,h1,?_⟩
     rw [aS (cO n6_)]
     exact h2
end
abbrev rLa (ns:List Int) (P H:D) (pl:List Nat) (ts:List Tie) (x5 x6 x7 x8 x9:Option Slt):Rho:=[some (.shr (.scr ns)),some (.shr P),some (.shr H),some (.shr (aw pl)),some (.shr (bg ts)),x5,x6,x7,x8,x9]
def frT (re:List Nat):List Tie:=(List.range 4).map fun _=>(0,0,re.getD 0 0)
theorem yh {en:List (Nat × Nat)} {re:List Nat} {tb:List (List Int)} (h:bY en re tb):Pic en re [0] (frT re):=by
 have n1:=h.nb1
 obtain ⟨r1,r2⟩:=h.rs 0 (by omega)
 refine ⟨by decide,by unfold frT;simp,fun i hi=>?_,fun t ht=>?_⟩
 ·have:i=0:=by simpa using hi
  subst this
  exact n1
 ·unfold frT at ht
  obtain ⟨_,_,rfl⟩:=List.mem_map.mp ht
  exact ⟨Nat.one_pos,Nat.one_pos,r1,r2⟩
theorem law_val (ns:List Int) (hl:ns.length<=63):oo [.scr ns]=.val (.bl true):=by
 simp only [oo,qM]
 show fin (sq _ _ [some (.shr (.scr ns)),none,none,none,none,none,none,none,none,none])=_
 obtain ⟨sz,kn,g,hp⟩:=yu ns 0
 have h:=vk g
 have hh:dO [paD (iS kn) (ij sz kn) (g8 kn) [.lst (kn.map aB),aw sz]]=.val (hlD (iS kn) (ij sz kn) (g8 kn)):=Ax g _
 have hp:dm [.scr ns,.int 0]=.val (paD (iS kn) (ij sz kn) (g8 kn) [.lst (kn.map aB),aw sz]):=hp
 generalize [D.lst (kn.map aB),aw sz]=r at hh hp
 generalize iS kn=en at h hh hp
 generalize ij sz kn=re at h hh hp
 generalize g8 kn=tb at h hh hp
 obtain ⟨pl,ts,gp,pic⟩:=sH (r:=r) h ns 4
 have pic:cu [.scr ns,.int 4,paD en re tb r]=.val (.tup [aw pl,bg ts]):=pic
 have n6:=h.nb6
 have n1:=h.nb1
 have s1:asg 1 (cal 2 dm (aC (vr 0) (aC (kd (.int 0)) aN))) [some (.shr (.scr ns)),none,none,none,none,none,none,none,none,none]=.val (.nx [some (.shr (.scr ns)),some (.shr (paD en re tb r)),none,none,none,none,none,none,none,none]):=bH (qS rfl rfl hp)
 have s2:asg 2 (cal 1 dO (aC (vr 1) aN)) [some (.shr (.scr ns)),some (.shr (paD en re tb r)),none,none,none,none,none,none,none,none]=.val (.nx [some (.shr (.scr ns)),some (.shr (paD en re tb r)),some (.shr (hlD en re tb)),none,none,none,none,none,none,none]):=bH (D8 rfl hh)
 have s3:asT (tg2 3 4) (cal 3 cu (aC (vr 0) (aC (kd (.int 4)) (aC (vr 1) aN)))) [some (.shr (.scr ns)),some (.shr (paD en re tb r)),some (.shr (hlD en re tb)),none,none,none,none,none,none,none]=.val (.nx (rLa ns (paD en re tb r) (hlD en re tb) pl ts none none none none none)):=by
  unfold asT
  rw [qR rfl rfl rfl pic];rfl
 have lenR:∀ x5 x6 x7 x8 x9:Option Slt,una aA (bin fix (vb 1) (kd (.int 1))) (rLa ns (paD en re tb r) (hlD en re tb) pl ts x5 x6 x7 x8 x9)=.val (nD re.length):=fun x5 x6 x7 x8 x9=>by
  show R.bind (fix (paD en re tb r) (.int 1)) aA=_
  rw [paD,gh,af,cq]
 obtain ⟨off,s4,ho,hof⟩:=tO (F:=una aA (bin fix (vb 1) (kd (.int 1)))) (G:=cal 2 av (aC (vr 0) (aC (kd (.int 32)) aN))) (ρ:=rLa ns (paD en re tb r) (hlD en re tb) pl ts none none none none none) (n:=re.length) (c:=cf ns 32) (by omega) (lenR _ _ _ _ _) (jl (k:=32) rfl rfl rfl)
 have s4:asg 5 (bin fix (eL (aC (una dE (kd (.int 1))) (aC (una aA (bin fix (vb 1) (kd (.int 1)))) (aC (bin (iI jX) (kd (.int 10)) (kd (.int 29))) aN)))) (bin (iI aK) (cal 2 av (aC (vr 0) (aC (kd (.int 32)) aN))) (kd (.int 3)))) (rLa ns (paD en re tb r) (hlD en re tb) pl ts none none none none none)=.val (.nx (rLa ns (paD en re tb r) (hlD en re tb) pl ts (some (.shr (.int off))) none none none none)):=bH s4
 obtain ⟨bx,s5⟩:∃ bx:Int,asg 6 (bin fix (eL (aC (kd (.int 0)) (aC (vr 5) aN))) (bin (iI aK) (cal 2 av (aC (vr 0) (aC (kd (.int 33)) aN))) (kd (.int 2)))) (rLa ns (paD en re tb r) (hlD en re tb) pl ts (some (.shr (.int off))) none none none none)=.val (.nx (rLa ns (paD en re tb r) (hlD en re tb) pl ts (some (.shr (.int off))) (some (.shr (.int bx))) none none none)):=by
  obtain ⟨m1,m2⟩:=cT (cf ns 33) (m:=2) (by decide)
  generalize (cf ns 33 % ((2:Nat):Int)).toNat=y at m1 m2
  obtain ⟨z,hz⟩:∃ z:Int,([.int 0,.int off]:List D)[y]?=some (.int z):=match y,m1 with
   | 0,_=>⟨0,rfl⟩
   | 1,_=>⟨off,rfl⟩
  refine ⟨z,bH ?_⟩
  have ix:bin (iI aK) (cal 2 av (aC (vr 0) (aC (kd (.int 33)) aN))) (kd (.int 2)) (rLa ns (paD en re tb r) (hlD en re tb) pl ts (some (.shr (.int off))) none none none none)=.val (nD y):=by
   rw [aD,jl (k:=33) rfl rfl rfl,af,cY,af,dX]
   exact m2
  have el:eL (aC (kd (.int 0)) (aC (vr 5) aN)) (rLa ns (paD en re tb r) (hlD en re tb) pl ts (some (.shr (.int off))) none none none none)=.val (.lst [.int 0,.int off]):=Eq.trans rfl rfl
  rw [aD,el,af,ix,af,i7 hz]
 have s6:asg 7 (eT (aC (eL (aC (kd (.int 0)) aN)) (aC (eLs (bI (cP (aC (kd (.int 4)) aN)) 1 (tgN 10) tT (eT (aC (kd (.int 0)) (aC (kd (.int 0)) (aC (bin fix (bin fix (vb 1) (kd (.int 1))) (kd (.int 0))) aN)))))) aN))) (rLa ns (paD en re tb r) (hlD en re tb) pl ts (some (.shr (.int off))) (some (.shr (.int bx))) none none none)=.val (.nx (rLa ns (paD en re tb r) (hlD en re tb) pl ts (some (.shr (.int off))) (some (.shr (.int bx))) (some (.shr (.tup [aw [0],bg (frT re)]))) none none)):=by
  refine bH ?_
  have c:=gl (src:=cP (aC (kd (.int 4)) aN)) (n:=1) (i:=10) (m:=4) (e:=eT (aC (kd (.int 0)) (aC (kd (.int 0)) (aC (bin fix (bin fix (vb 1) (kd (.int 1))) (kd (.int 0))) aN)))) (g:=fun _=>fB (0,0,re.getD 0 0)) (ρ:=rLa ns (paD en re tb r) (hlD en re tb) pl ts (some (.shr (.int off))) (some (.shr (.int bx))) none none none) (by
   rw [gF,aI,cY,af,gJ,af,af]
   exact dq (n:=4) (by omega)) (by omega) (fun k _=>by
   have q:bin fix (bin fix (vb 1) (kd (.int 1))) (kd (.int 0)) (List.set (rLa ns (paD en re tb r) (hlD en re tb) pl ts (some (.shr (.int off))) (some (.shr (.int bx))) none none none ++ List.replicate 1 none) 10 (some (.shr (.int (k:Int)))))=.val (nD (re.getD 0 0)):=by
    show R.bind (fix (paD en re tb r) (.int 1)) (fun z=>fix z (.int 0))=_
    rw [paD,gh,af]
    exact dS (i:=0) (by omega)
   rw [eR,aI,aI,aI,q]
   rfl)
  rw [eR,aI,aI,cr,c]
  rfl
 have g4:=yh h
 have m0:=zY h g4 (b:=0) (by omega)
 have m2:=u9 h g4 (x:=nD 0)
 have mr:una dE (kd (.int 1)) (rLa ns (paD en re tb r) (hlD en re tb) pl ts (some (.shr (.int off))) (some (.shr (.int bx))) (some (.shr (.tup [aw [0],bg (frT re)]))) none none)=.val (.int (-1)):=Eq.trans rfl rfl
 have s7:DL.iff (orB (tst (bin fne (cal 4 aP (aC (vr 2) (aC (kd (.int 0)) (aC (vr 7) (aC (kd (.int 0)) aN))))) (una dE (kd (.int 1))))) (tst (bin fne (cal 4 aP (aC (vr 2) (aC (kd (.int 2)) (aC (vr 7) (aC (kd (.int 0)) aN))))) (una dE (kd (.int 1)))))) (ret (kd (.bl false))) nxt (rLa ns (paD en re tb r) (hlD en re tb) pl ts (some (.shr (.int off))) (some (.shr (.int bx))) (some (.shr (.tup [aw [0],bg (frT re)]))) none none)=.val (.nx (rLa ns (paD en re tb r) (hlD en re tb) pl ts (some (.shr (.int off))) (some (.shr (.int bx))) (some (.shr (.tup [aw [0],bg (frT re)]))) none none)):=by
  refine cO ?_
  rw [gL,bT,aD,ms (a:=hlD en re tb) (b:=nD 0) (c:=.tup [aw [0],bg (frT re)]) (e:=nD 0) rfl rfl rfl rfl m0,af,mr,af,hV (uV _),af,rb,af,if_neg (by decide),bT,aD,ms (a:=hlD en re tb) (b:=nD 2) (c:=.tup [aw [0],bg (frT re)]) (e:=nD 0) rfl rfl rfl rfl m2,af,mr,af,hV (uV _)]
  rfl
 obtain ⟨pz,zs,hb,eb⟩:=CQ (r:=r) (ns:=ns) h gp
 have s8:asg 8 (cal 4 fg (aC (vr 0) (aC (vr 3) (aC (vr 4) (aC (vr 1) aN))))) (rLa ns (paD en re tb r) (hlD en re tb) pl ts (some (.shr (.int off))) (some (.shr (.int bx))) (some (.shr (.tup [aw [0],bg (frT re)]))) none none)=.val (.nx (rLa ns (paD en re tb r) (hlD en re tb) pl ts (some (.shr (.int off))) (some (.shr (.int bx))) (some (.shr (.tup [aw [0],bg (frT re)]))) (some (.shr (.tup [aL pz,cF zs]))) none)):=bH (ms rfl rfl rfl rfl eb)
 rw [aS s1,aS s2,aS s3,aS s4,aS s5,aS s6,aS s7,aS s8]
 have src:cP (aC (kd (.int 3)) aN) (rLa ns (paD en re tb r) (hlD en re tb) pl ts (some (.shr (.int off))) (some (.shr (.int bx))) (some (.shr (.tup [aw [0],bg (frT re)]))) (some (.shr (.tup [aL pz,cF zs]))) none)=.val (rng 0 3):=by
  rw [gF,aI,cY,af,gJ,af,af]
  exact dq (n:=3) (by omega)
 obtain ⟨ρ1,e1,x9,rfl⟩:=i0 (i:=9) (n:=3) (F:=DL.iff (tst (bin fne (cal 4 aP (aC (vr 2) (aC (vr 9) (aC (vr 8) (aC (vr 6) aN))))) (kd (.int 3)))) (ret (kd (.bl false))) nxt) (ρ:=rLa ns (paD en re tb r) (hlD en re tb) pl ts (some (.shr (.int off))) (some (.shr (.int bx))) (some (.shr (.tup [aw [0],bg (frT re)]))) (some (.shr (.tup [aL pz,cF zs]))) none)
  (fun _ ρ=>∃ x9:Option Slt,ρ=rLa ns (paD en re tb r) (hlD en re tb) pl ts (some (.shr (.int off))) (some (.shr (.int bx))) (some (.shr (.tup [aw [0],bg (frT re)]))) (some (.shr (.tup [aL pz,cF zs]))) x9) (fun w ρ hw hI=>by
   obtain ⟨x9,rfl⟩:=hI
   refine ⟨_,cO (ρ:=rLa ns (paD en re tb r) (hlD en re tb) pl ts (some (.shr (.int off))) (some (.shr (.int bx))) (some (.shr (.tup [aw [0],bg (frT re)]))) (some (.shr (.tup [aL pz,cF zs]))) (some (.shr (nD w)))) ?_,some (.shr (nD w)),rfl⟩
   rw [bT,aD,ms (a:=hlD en re tb) (b:=nD w) (c:=.tup [aL pz,cF zs]) (e:=.int bx) rfl rfl rfl rfl (zZ hb w hw)]
   show R.bind (fne (.int 3) (.int 3)) asB=_
   rw [ub];rfl) ⟨none,rfl⟩
 have pt:eT (aC (vr 3) (aC (vr 4) aN)) (rLa ns (paD en re tb r) (hlD en re tb) pl ts (some (.shr (.int off))) (some (.shr (.int bx))) (some (.shr (.tup [aw [0],bg (frT re)]))) (some (.shr (.tup [aL pz,cF zs]))) x9)=.val (.tup [aw pl,bg ts]):=Eq.trans rfl rfl
 have s10:DL.iff (tst (bin fne (cal 4 aP (aC (vr 2) (aC (kd (.int 2)) (aC (eT (aC (vr 3) (aC (vr 4) aN))) (aC (kd (.int 0)) aN))))) (una dE (kd (.int 1))))) (ret (kd (.bl false))) nxt (rLa ns (paD en re tb r) (hlD en re tb) pl ts (some (.shr (.int off))) (some (.shr (.int bx))) (some (.shr (.tup [aw [0],bg (frT re)]))) (some (.shr (.tup [aL pz,cF zs]))) x9)=.val (.nx (rLa ns (paD en re tb r) (hlD en re tb) pl ts (some (.shr (.int off))) (some (.shr (.int bx))) (some (.shr (.tup [aw [0],bg (frT re)]))) (some (.shr (.tup [aL pz,cF zs]))) x9)):=by
  refine cO ?_
  rw [bT,aD,ms (a:=hlD en re tb) (b:=nD 2) (c:=.tup [aw pl,bg ts]) (e:=nD 0) rfl rfl pt rfl (u9 h gp)]
  show R.bind (fne (.int (-1)) (.int (-1))) asB=_
  rw [ub];rfl
 rw [aW,cw,src,af,e1]
 show fin (sq (DL.iff (tst (bin fne (cal 4 aP (aC (vr 2) (aC (kd (.int 2)) (aC (eT (aC (vr 3) (aC (vr 4) aN))) (aC (kd (.int 0)) aN))))) (una dE (kd (.int 1))))) (ret (kd (.bl false))) nxt) (ret (yV (bin feq (cal 4 aP (aC (vr 2) (aC (kd (.int 0)) (aC (eT (aC (vr 3) (aC (vr 4) aN))) (aC (vr 5) aN))))) (kd (.int 2))) (bin feq (cal 4 aP (aC (vr 2) (aC (kd (.int 1)) (aC (eT (aC (vr 3) (aC (vr 4) aN))) (aC (vr 5) aN))))) (kd (.int 2))))) (rLa ns (paD en re tb r) (hlD en re tb) pl ts (some (.shr (.int off))) (some (.shr (.int bx))) (some (.shr (.tup [aw [0],bg (frT re)]))) (some (.shr (.tup [aL pz,cF zs]))) x9))=_
 rw [aS s10,cW,vP,aD,ms (a:=hlD en re tb) (b:=nD 0) (c:=.tup [aw pl,bg ts]) (e:=.int off) rfl rfl pt rfl (xP gp ho hof),af,cY,af,show feq (nD 2) (.int 2)=.val (.bl true) from i8 (rN 2),af,rb,af,if_pos rfl,aD,ms (a:=hlD en re tb) (b:=nD 1) (c:=.tup [aw pl,bg ts]) (e:=.int off) rfl rfl pt rfl (xO h gp ho hof),af,cY,af,show feq (nD 2) (.int 2)=.val (.bl true) from i8 (rN 2)]
 rfl
end DL
namespace DL
open PySem PySem.Spec PyProof.Rows L2
theorem xW {n:Nat} {us:List Value} (h:us.length=n + 1):∃ y l,us=y :: l/\l.length=n:=by
 cases us with
 | nil=>cases h
 | cons y l=>exact ⟨y,l,rfl,Nat.succ.inj h⟩
theorem tZ {us:List Value} (h:us.length=1):∃ y0,us=[y0]:=by
 obtain ⟨y,l,e,h⟩:=xW h
 exact ⟨y,by rw [e,List.eq_nil_of_length_eq_zero h]⟩
theorem lh {us:List Value} (h:us.length=2):∃ y0 y1,us=[y0,y1]:=by
 obtain ⟨y,l,rfl,g⟩:=xW h
 obtain ⟨y1,rfl⟩:=tZ g
 exact ⟨y,y1,rfl⟩
theorem mh {us:List Value} (h:us.length=3):∃ y0 y1 y2,us=[y0,y1,y2]:=by
 obtain ⟨y,l,rfl,g⟩:=xW h
 obtain ⟨y1,y2,rfl⟩:=lh g
 exact ⟨y,y1,y2,rfl⟩
theorem nO {us:List Value} (h:us.length=4):∃ y0 y1 y2 y3,us=[y0,y1,y2,y3]:=by
 obtain ⟨y,l,rfl,g⟩:=xW h
 obtain ⟨y1,y2,y3,rfl⟩:=mh g
 exact ⟨y,y1,y2,y3,rfl⟩
theorem Ey {us:List Value} (h:us.length=5):∃ y0 y1 y2 y3 y4,us=[y0,y1,y2,y3,y4]:=by
 obtain ⟨y,l,rfl,g⟩:=xW h
 obtain ⟨y1,y2,y3,y4,rfl⟩:=nO g
 exact ⟨y,y1,y2,y3,y4,rfl⟩
def uG (K:Frag):Sp:=fun vs H Q _=>∃ (a:Addr) (ns:List Int),vs=[.ref a]/\SqL K H a (ns.map V.int)/\ns.length<=63/\∀ H',Q (.bl true) H'
theorem z_ {P:Program} {w:World} {K:Frag} {mg:Str->Option Value} {base:Heap} {C:Addr} {k:Nat} {f:Addr} {fd:FuncData} (hval:∀ ns:List Int,ns.length<=63->oo [.scr ns]=.val (.bl true)) (F:FnOk P w K mg base CX0 k f fd ["script"] (spD K C 1 oo)):FnOk P w K mg base CX0 k f fd ["script"] (uG K) :=
 F.imp fun vs H Q E ⟨a,ns,e,hS,hl,q⟩=>by
  subst e
  refine ⟨rfl,[.scr ns],.cons (.scr hS) .nil,?_⟩
  rw [hval ns hl]
  intro v H' _ hv
  cases hv
  exact q H'
abbrev NI (K:Frag) (x:Str) (f:Addr):Prop:=nsIn K mainGlobals x=some (some (.ref f))
abbrev NN (K:Frag) (x:Str):Prop:=nsIn K mainGlobals x=some none
abbrev LK (K:Frag) (f:Addr) (n q:Str) (s:Stmt) (oc:Value) (od:Option Addr) (kV dc pm:Value) (an:Option Addr) (cd ct:Value) (sl:Array (Option Value)):Prop:=K.lookup f=some ⟨oc,od,.func (fnOf n q (jF s) (aF s) (ak s) .none kV dc pm an cd ct),sl⟩
abbrev CI (K:Frag) (c:Value) (n:Str):Prop:=codeIn K c n=true
abbrev KP (K:Frag) (f:Addr):Prop:=keepIn K (.ref f)=true
abbrev KO (K:Frag) (a b:Value) (c:Bool):Prop:=kitOne K a b=some c
set_option autoImplicit true in
theorem all_mk {l : PySem.W.OpenLaw} {w : World} {K : Frag} {h : Heap} {mg : Str -> Option Value} {fa C f1 f2 f3 f4 f5 f6 f7 f8 f9 f10 f11 f12 f13 f14 f15 f16 f17 f18 f19 f20 f21 f22 f23 f24 f25 f26 f27 f28 f29 f30 f31 f32 f33 f34 f35 f36 f37 f38 C0 C1 C2 C3 C4 C5 C6 CA : Addr} {tb ta tMOST_PLACES tMOST_TIES : Tok} (hval : ∀ ns : List Int, ns.length <= 63 -> oo [.scr ns] = .val (.bl true)) (X : K.In h) (G : h.Ns mainGlobals mg) (hfa : mg "law" = some (.ref fa))
    (aC : NI K "Hall" C)
    (a1 : NI K "_law_cell" f1) (l1 : LK K f1 "_law_cell" "_law_cell" d6 oc1 od1 kV1 dc1 pm1 an1 cd1 ct1 sl1) (c1 : CI K cd1 "_law_cell") (k1 : KP K f1)
    (a2 : NI K "_law_sizes" f2) (l2 : LK K f2 "_law_sizes" "_law_sizes" dH oc2 od2 kV2 dc2 pm2 an2 cd2 ct2 sl2) (c2 : CI K cd2 "_law_sizes") (k2 : KP K f2)
    (a3 : NI K "_law_next" f3) (l3 : LK K f3 "_law_next" "_law_next" d0 oc3 od3 kV3 dc3 pm3 an3 cd3 ct3 sl3) (c3 : CI K cd3 "_law_next") (k3 : KP K f3)
    (a4 : NI K "_law_closed" f4) (l4 : LK K f4 "_law_closed" "_law_closed" dh oc4 od4 kV4 dc4 pm4 an4 cd4 ct4 sl4) (c4 : CI K cd4 "_law_closed") (k4 : KP K f4)
    (a5 : NI K "_law_arrows" f5) (l5 : LK K f5 "_law_arrows" "_law_arrows" di oc5 od5 kV5 dc5 pm5 an5 cd5 ct5 sl5) (c5 : CI K cd5 "_law_arrows") (k5 : KP K f5)
    (a6 : NI K "_law_parts" f6) (l6 : LK K f6 "_law_parts" "_law_parts" dI oc6 od6 kV6 dc6 pm6 an6 cd6 ct6 sl6) (c6 : CI K cd6 "_law_parts") (k6 : KP K f6)
    (a7 : NI K "check_counts" f7) (l7 : LK K f7 "check_counts" "check_counts" cj oc7 od7 kV7 dc7 pm7 an7 cd7 ct7 sl7) (c7 : CI K cd7 "check_counts") (k7 : KP K f7)
    (a8 : NI K "is_below" f8) (l8 : LK K f8 "is_below" "is_below" d7 oc8 od8 kV8 dc8 pm8 an8 cd8 ct8 sl8) (c8 : CI K cd8 "is_below") (k8 : KP K f8)
    (a9 : NI K "check_ends" f9) (l9 : LK K f9 "check_ends" "check_ends" dk oc9 od9 kV9 dc9 pm9 an9 cd9 ct9 sl9) (c9 : CI K cd9 "check_ends") (k9 : KP K f9)
    (a10 : NI K "check_rests" f10) (l10 : LK K f10 "check_rests" "check_rests" cL oc10 od10 kV10 dc10 pm10 an10 cd10 ct10 sl10) (c10 : CI K cd10 "check_rests") (k10 : KP K f10)
    (a11 : NI K "check_form" f11) (l11 : LK K f11 "check_form" "check_form" dj oc11 od11 kV11 dc11 pm11 an11 cd11 ct11 sl11) (c11 : CI K cd11 "check_form") (k11 : KP K f11)
    (a12 : NI K "check_entry" f12) (l12 : LK K f12 "check_entry" "check_entry" cM oc12 od12 kV12 dc12 pm12 an12 cd12 ct12 sl12) (c12 : CI K cd12 "check_entry") (k12 : KP K f12)
    (a13 : NI K "check_table" f13) (l13 : LK K f13 "check_table" "check_table" cK oc13 od13 kV13 dc13 pm13 an13 cd13 ct13 sl13) (c13 : CI K cd13 "check_table") (k13 : KP K f13)
    (a14 : NI K "check_beside_rests" f14) (l14 : LK K f14 "check_beside_rests" "check_beside_rests" bn oc14 od14 kV14 dc14 pm14 an14 cd14 ct14 sl14) (c14 : CI K cd14 "check_beside_rests") (k14 : KP K f14)
    (a15 : NI K "check_thirds" f15) (l15 : LK K f15 "check_thirds" "check_thirds" ci oc15 od15 kV15 dc15 pm15 an15 cd15 ct15 sl15) (c15 : CI K cd15 "check_thirds") (k15 : KP K f15)
    (a16 : NI K "check_threes" f16) (l16 : LK K f16 "check_threes" "check_threes" cg oc16 od16 kV16 dc16 pm16 an16 cd16 ct16 sl16) (c16 : CI K cd16 "check_threes") (k16 : KP K f16)
    (a17 : findIn K (.ref C) "__init__" = some (some (.ref f17))) (i17 : PySem.W.isFn K (.ref f17) = true) (l17 : LK K f17 "__init__" "Hall.__init__" bM oc17 od17 kV17 dc17 pm17 an17 cd17 ct17 sl17) (c17 : CI K cd17 "Hall.__init__") (k17 : KP K f17)
    (a18 : NI K "_law_hall" f18) (l18 : LK K f18 "_law_hall" "_law_hall" d5 oc18 od18 kV18 dc18 pm18 an18 cd18 ct18 sl18) (c18 : CI K cd18 "_law_hall") (k18 : KP K f18)
    (a19 : NI K "_law_between" f19) (l19 : LK K f19 "_law_between" "_law_between" cI oc19 od19 kV19 dc19 pm19 an19 cd19 ct19 sl19) (c19 : CI K cd19 "_law_between") (k19 : KP K f19)
    (a20 : NI K "_law_picture" f20) (l20 : LK K f20 "_law_picture" "_law_picture" cH oc20 od20 kV20 dc20 pm20 an20 cd20 ct20 sl20) (c20 : CI K cd20 "_law_picture") (k20 : KP K f20)
    (a21 : NI K "_law_elsewhere" f21) (l21 : LK K f21 "_law_elsewhere" "_law_elsewhere" bU oc21 od21 kV21 dc21 pm21 an21 cd21 ct21 sl21) (c21 : CI K cd21 "_law_elsewhere") (k21 : KP K f21)
    (a22 : NI K "_law_bad" f22) (l22 : LK K f22 "_law_bad" "_law_bad" eX oc22 od22 kV22 dc22 pm22 an22 cd22 ct22 sl22) (c22 : CI K cd22 "_law_bad") (k22 : KP K f22)
    (a23 : NI K "is_tie" f23) (l23 : LK K f23 "is_tie" "is_tie" f_ oc23 od23 kV23 dc23 pm23 an23 cd23 ct23 sl23) (c23 : CI K cd23 "is_tie") (k23 : KP K f23)
    (a24 : NI K "check_picture" f24) (l24 : LK K f24 "check_picture" "check_picture" bV oc24 od24 kV24 dc24 pm24 an24 cd24 ct24 sl24) (c24 : CI K cd24 "check_picture") (k24 : KP K f24)
    (a25 : NI K "check_box" f25) (l25 : LK K f25 "check_box" "check_box" dL oc25 od25 kV25 dc25 pm25 an25 cd25 ct25 sl25) (c25 : CI K cd25 "check_box") (k25 : KP K f25)
    (a26 : NI K "keeps_tie" f26) (l26 : LK K f26 "keeps_tie" "keeps_tie" dJ oc26 od26 kV26 dc26 pm26 an26 cd26 ct26 sl26) (c26 : CI K cd26 "keeps_tie") (k26 : KP K f26)
    (a27 : NI K "grown" f27) (l27 : LK K f27 "grown" "grown" ig oc27 od27 kV27 dc27 pm27 an27 cd27 ct27 sl27) (c27 : CI K cd27 "grown") (k27 : KP K f27)
    (a28 : NI K "between" f28) (l28 : LK K f28 "between" "between" e7 oc28 od28 kV28 dc28 pm28 an28 cd28 ct28 sl28) (c28 : CI K cd28 "between") (k28 : KP K f28)
    (a29 : NI K "views_from" f29) (l29 : LK K f29 "views_from" "views_from" dg oc29 od29 kV29 dc29 pm29 an29 cd29 ct29 sl29) (c29 : CI K cd29 "views_from") (k29 : KP K f29)
    (a30 : NI K "views" f30) (l30 : LK K f30 "views" "views" ib oc30 od30 kV30 dc30 pm30 an30 cd30 ct30 sl30) (c30 : CI K cd30 "views") (k30 : KP K f30)
    (a31 : NI K "_law_which" f31) (l31 : LK K f31 "_law_which" "_law_which" dG oc31 od31 kV31 dc31 pm31 an31 cd31 ct31 sl31) (c31 : CI K cd31 "_law_which") (k31 : KP K f31)
    (a32 : NI K "has_as_many" f32) (l32 : LK K f32 "has_as_many" "has_as_many" cJ oc32 od32 kV32 dc32 pm32 an32 cd32 ct32 sl32) (c32 : CI K cd32 "has_as_many") (k32 : KP K f32)
    (a33 : NI K "made_behind" f33) (l33 : LK K f33 "made_behind" "made_behind" cG oc33 od33 kV33 dc33 pm33 an33 cd33 ct33 sl33) (c33 : CI K cd33 "made_behind") (k33 : KP K f33)
    (a34 : NI K "is_best" f34) (l34 : LK K f34 "is_best" "is_best" eZ oc34 od34 kV34 dc34 pm34 an34 cd34 ct34 sl34) (c34 : CI K cd34 "is_best") (k34 : KP K f34)
    (a35 : NI K "best" f35) (l35 : LK K f35 "best" "best" jT oc35 od35 kV35 dc35 pm35 an35 cd35 ct35 sl35) (c35 : CI K cd35 "best") (k35 : KP K f35)
    (a36 : NI K "through" f36) (l36 : LK K f36 "through" "through" eV oc36 od36 kV36 dc36 pm36 an36 cd36 ct36 sl36) (c36 : CI K cd36 "through") (k36 : KP K f36)
    (a37 : NI K "_law_met" f37) (l37 : LK K f37 "_law_met" "_law_met" eW oc37 od37 kV37 dc37 pm37 an37 cd37 ct37 sl37) (c37 : CI K cd37 "_law_met") (k37 : KP K f37)
    (a38 : NI K "law" f38) (l38 : LK K f38 "law" "law" ko oc38 od38 kV38 dc38 pm38 an38 cd38 ct38 sl38) (c38 : CI K cd38 "law") (k38 : KP K f38)
    (pg : plainGet K C Str.empty = true) (hd : hasDictIn K C = true) (po : PySem.W.plainOver K C = true) (sa : findIn K (.ref C) "__setattr__" = some (some (.builtin "object.__setattr__"))) (mk : PySem.W.makesIn K C = true) (kc : keepIn K (.ref C) = true)
    (nE : findIn K (.ref C) "ends" = some none) (nR : findIn K (.ref C) "rests" = some none) (nT : findIn K (.ref C) "table" = some none)
    (z_len : NN K "len")
    (z_list : NN K "list")
    (z_tuple : NN K "tuple")
    (z_range : NN K "range")
    (z_enumerate : NN K "enumerate")
    (z_max : NN K "max")
    (z_isinstance : NN K "isinstance")
    (z_all : NN K "all")
    (z_sorted : NN K "sorted")
    (z_min : NN K "min")
    (z_int : NN K "int")
    (z_bool : NN K "bool")
    (z_ValueError : NN K "ValueError")
    (mb : nsIn K mainGlobals "MOST_BOXES" = some (some (.int 6 tb))) (ma : nsIn K mainGlobals "MOST_ARROWS" = some (some (.int 40 ta))) (mMOST_PLACES : nsIn K mainGlobals "MOST_PLACES" = some (some (.int 3 tMOST_PLACES))) (mMOST_TIES : nsIn K mainGlobals "MOST_TIES" = some (some (.int 4 tMOST_TIES)))
    (ih1 : findIn K (.ref C) "__class__" = some (some (.builtin "object.__class__"))) (ih2 : PySem.W.specialIn K (.builtin "object.__class__") "__get__" = some (some (.builtin "getset_descriptor.__get__"))) (ih3 : PySem.W.takesIn K (.builtin "object.__class__") = some true)
    (ih4 : mroIn K C (.type "object") = some true)
    (e0 : NI K "NoHall" C0)
    (e1 : NI K "NoArrow" C1)
    (e2 : NI K "NoBox" C2)
    (e3 : NI K "NoPicture" C3)
    (e4 : NI K "NoReading" C4)
    (e5 : NI K "NoThing" C5)
    (e6 : NI K "NoSending" C6)
    (eA : NI K "ArrowError" CA)
    (x2a : excIn K C2 [.type "ValueError", .type "Exception", .type "BaseException", .type "object"] "ValueError.__new__" = true) (x2b : findIn K (.ref C2) "__getattribute__" = some (some (.builtin "BaseException.__getattribute__"))) (x2c : findIn K (.ref C2) "__getattr__" = some none) (x2d : findIn K (.ref C2) "__class__" = some (some (.builtin "object.__class__"))) (x2e : mroIn K C2 (.type "object") = some true)
    (q20 : KO K (.ref C2) (.ref C0) false)    (q21 : KO K (.ref C2) (.ref C1) false)    (q22 : KO K (.ref C2) (.ref C2) true)    (q23 : KO K (.ref C2) (.ref C3) false)    (q24 : KO K (.ref C2) (.ref C4) false)    (q25 : KO K (.ref C2) (.ref C5) false)    (q26 : KO K (.ref C2) (.ref C6) false)    (v2 : KO K (.ref C2) (.type "ValueError") true) (u2 : KO K (.ref C2) (.ref CA) true) (n2 : C2 ≠ CA)
    (x3a : excIn K C3 [.type "ValueError", .type "Exception", .type "BaseException", .type "object"] "ValueError.__new__" = true) (x3b : findIn K (.ref C3) "__getattribute__" = some (some (.builtin "BaseException.__getattribute__"))) (x3c : findIn K (.ref C3) "__getattr__" = some none) (x3d : findIn K (.ref C3) "__class__" = some (some (.builtin "object.__class__"))) (x3e : mroIn K C3 (.type "object") = some true)
    (q30 : KO K (.ref C3) (.ref C0) false)    (q31 : KO K (.ref C3) (.ref C1) false)    (q32 : KO K (.ref C3) (.ref C2) false)    (q33 : KO K (.ref C3) (.ref C3) true)    (q34 : KO K (.ref C3) (.ref C4) false)    (q35 : KO K (.ref C3) (.ref C5) false)    (q36 : KO K (.ref C3) (.ref C6) false)    (v3 : KO K (.ref C3) (.type "ValueError") true) (u3 : KO K (.ref C3) (.ref CA) true) (n3 : C3 ≠ CA)
    (be : KO K (.ref CA) (.type "BaseException") true)
    (kii : KO K (.type "int") (.type "int") true)
    (kbi : KO K (.type "bool") (.type "int") true)
    (kNi : KO K (.type "NoneType") (.type "int") false)
    (kli : KO K (.type "list") (.type "int") false)
    (kti : KO K (.type "tuple") (.type "int") false)
    (kib : KO K (.type "int") (.type "bool") false)
    (kbb : KO K (.type "bool") (.type "bool") true)
    (kNb : KO K (.type "NoneType") (.type "bool") false)
    (klb : KO K (.type "list") (.type "bool") false)
    (ktb : KO K (.type "tuple") (.type "bool") false)
    (kil : KO K (.type "int") (.type "list") false)
    (kbl : KO K (.type "bool") (.type "list") false)
    (kNl : KO K (.type "NoneType") (.type "list") false)
    (kll : KO K (.type "list") (.type "list") true)
    (ktl : KO K (.type "tuple") (.type "list") false)
 :
    ∃ fd : FuncData, (∀ (s : Shared) (v : Value), BindsTo s fd ⟨[v], []⟩ [("script", v)]) /\ ∀ base : Heap, K.In base -> base.Ns mainGlobals mg -> FnOk l.prog w K mg base CX0 8 fa fd ["script"] (uG K) := by
  have e := hfa.symm.trans (mg_of X G a38)
  cases e
  have cl : Cls K C := ⟨pg, hd, po, sa⟩
  have mem : ∀ c, c ∈ [2, 3] -> c = 2 \/ c = 3 := fun c hc => by simpa using hc
  have xa : ux K mg [2, 3] := by
    refine ⟨fun k hk => ?_, fun c hc Cc h => ?_, fun c hc k hk Cc Ck h1 h2 => ?_, fun c hc Cc h => ?_⟩
    · match k, hk with
      | 0, _ => exact ⟨C0, e0, mg_of X G e0⟩
      | 1, _ => exact ⟨C1, e1, mg_of X G e1⟩
      | 2, _ => exact ⟨C2, e2, mg_of X G e2⟩
      | 3, _ => exact ⟨C3, e3, mg_of X G e3⟩
      | 4, _ => exact ⟨C4, e4, mg_of X G e4⟩
      | 5, _ => exact ⟨C5, e5, mg_of X G e5⟩
      | 6, _ => exact ⟨C6, e6, mg_of X G e6⟩
    · rcases mem c hc with rfl | rfl
      · cases e2.symm.trans h; exact ⟨x2a, x2b, x2c, x2d, ih2, ih3, x2e⟩
      · cases e3.symm.trans h; exact ⟨x3a, x3b, x3c, x3d, ih2, ih3, x3e⟩
    · rcases mem c hc with rfl | rfl
      · cases e2.symm.trans h1
        match k, hk with
        | 0, _ => cases e0.symm.trans h2; exact q20
        | 1, _ => cases e1.symm.trans h2; exact q21
        | 2, _ => cases e2.symm.trans h2; exact q22
        | 3, _ => cases e3.symm.trans h2; exact q23
        | 4, _ => cases e4.symm.trans h2; exact q24
        | 5, _ => cases e5.symm.trans h2; exact q25
        | 6, _ => cases e6.symm.trans h2; exact q26
      · cases e3.symm.trans h1
        match k, hk with
        | 0, _ => cases e0.symm.trans h2; exact q30
        | 1, _ => cases e1.symm.trans h2; exact q31
        | 2, _ => cases e2.symm.trans h2; exact q32
        | 3, _ => cases e3.symm.trans h2; exact q33
        | 4, _ => cases e4.symm.trans h2; exact q34
        | 5, _ => cases e5.symm.trans h2; exact q35
        | 6, _ => cases e6.symm.trans h2; exact q36
    · rcases mem c hc with rfl | rfl
      · cases e2.symm.trans h; exact v2
      · cases e3.symm.trans h; exact v3
  have xb : XB K mg [2, 3] CA := by
    refine ⟨mg_of X G eA, be, fun c hc Cc h => ?_⟩
    rcases mem c hc with rfl | rfl
    · cases e2.symm.trans h; exact ⟨u2, n2⟩
    · cases e3.symm.trans h; exact ⟨u3, n3⟩
  have T : Txt K mg C := ⟨cl, nE, nR, nT, mg_none_of X G z_len, mg_none_of X G z_list, mg_none_of X G z_tuple, mg_none_of X G z_range, mg_none_of X G z_enumerate, mg_none_of X G z_max, mg_none_of X G z_isinstance, mg_none_of X G z_all, mg_none_of X G z_sorted, mg_none_of X G z_min, mg_none_of X G z_int, mg_none_of X G z_bool, mg_none_of X G z_ValueError, ⟨cl, ih1, ih2, ih3, ih4⟩, mg_of X G aC, ⟨tb, mg_of X G mb⟩, ⟨ta, mg_of X G ma⟩, ⟨tMOST_PLACES, mg_of X G mMOST_PLACES⟩, ⟨tMOST_TIES, mg_of X G mMOST_TIES⟩, ⟨C2, mg_of X G e2, x2a⟩, ⟨C3, mg_of X G e3, x3a⟩, xa, ⟨CA, xb⟩, ⟨kii, kbi, kNi, kli, kti⟩, ⟨kib, kbb, kNb, klb, ktb⟩, ⟨kil, kbl, kNl, kll, ktl⟩⟩
  have F1 := bf (st := d6) l1 c1 k1
  have b1 := F1.binds (ps := ["script", "k"]) fun _ _ _ _ _ _ us hl => by obtain ⟨y0, y1, rfl⟩ := lh hl; rfl
  have F2 := bf (st := dH) l2 c2 k2
  have b2 := F2.binds (ps := ["script", "k"]) fun _ _ _ _ _ _ us hl => by obtain ⟨y0, y1, rfl⟩ := lh hl; rfl
  have F3 := bf (st := d0) l3 c3 k3
  have b3 := F3.binds (ps := ["step"]) fun _ _ _ _ _ _ us hl => by obtain ⟨y0, rfl⟩ := tZ hl; rfl
  have F4 := bf (st := dh) l4 c4 k4
  have b4 := F4.binds (ps := ["known"]) fun _ _ _ _ _ _ us hl => by obtain ⟨y0, rfl⟩ := tZ hl; rfl
  have F5 := bf (st := di) l5 c5 k5
  have b5 := F5.binds (ps := ["script", "k", "sizes"]) fun _ _ _ _ _ _ us hl => by obtain ⟨y0, y1, y2, rfl⟩ := mh hl; rfl
  have F6 := bf (st := dI) l6 c6 k6
  have b6 := F6.binds (ps := ["script", "k"]) fun _ _ _ _ _ _ us hl => by obtain ⟨y0, y1, rfl⟩ := lh hl; rfl
  have F7 := bf (st := cj) l7 c7 k7
  have b7 := F7.binds (ps := ["ends", "rests"]) fun _ _ _ _ _ _ us hl => by obtain ⟨y0, y1, rfl⟩ := lh hl; rfl
  have F8 := bf (st := d7) l8 c8 k8
  have b8 := F8.binds (ps := ["number", "count"]) fun _ _ _ _ _ _ us hl => by obtain ⟨y0, y1, rfl⟩ := lh hl; rfl
  have F9 := bf (st := dk) l9 c9 k9
  have b9 := F9.binds (ps := ["ends", "boxes"]) fun _ _ _ _ _ _ us hl => by obtain ⟨y0, y1, rfl⟩ := lh hl; rfl
  have F10 := bf (st := cL) l10 c10 k10
  have b10 := F10.binds (ps := ["ends", "rests"]) fun _ _ _ _ _ _ us hl => by obtain ⟨y0, y1, rfl⟩ := lh hl; rfl
  have F11 := bf (st := dj) l11 c11 k11
  have b11 := F11.binds (ps := ["table", "arrows"]) fun _ _ _ _ _ _ us hl => by obtain ⟨y0, y1, rfl⟩ := lh hl; rfl
  have F12 := bf (st := cM) l12 c12 k12
  have b12 := F12.binds (ps := ["ends", "one", "other", "made"]) fun _ _ _ _ _ _ us hl => by obtain ⟨y0, y1, y2, y3, rfl⟩ := nO hl; rfl
  have F13 := bf (st := cK) l13 c13 k13
  have b13 := F13.binds (ps := ["ends", "table"]) fun _ _ _ _ _ _ us hl => by obtain ⟨y0, y1, rfl⟩ := lh hl; rfl
  have F14 := bf (st := bn) l14 c14 k14
  have b14 := F14.binds (ps := ["ends", "rests", "table"]) fun _ _ _ _ _ _ us hl => by obtain ⟨y0, y1, y2, rfl⟩ := mh hl; rfl
  have F15 := bf (st := ci) l15 c15 k15
  have b15 := F15.binds (ps := ["table", "one", "other", "made"]) fun _ _ _ _ _ _ us hl => by obtain ⟨y0, y1, y2, y3, rfl⟩ := nO hl; rfl
  have F16 := bf (st := cg) l16 c16 k16
  have b16 := F16.binds (ps := ["table"]) fun _ _ _ _ _ _ us hl => by obtain ⟨y0, rfl⟩ := tZ hl; rfl
  have F17 := bf (st := bM) l17 c17 k17
  have b17 := F17.binds (ps := ["self", "ends", "rests", "table"]) fun _ _ _ _ _ _ us hl => by obtain ⟨y0, y1, y2, y3, rfl⟩ := nO hl; rfl
  have F18 := bf (st := d5) l18 c18 k18
  have b18 := F18.binds (ps := ["parts"]) fun _ _ _ _ _ _ us hl => by obtain ⟨y0, rfl⟩ := tZ hl; rfl
  have F19 := bf (st := cI) l19 c19 k19
  have b19 := F19.binds (ps := ["parts", "box", "other"]) fun _ _ _ _ _ _ us hl => by obtain ⟨y0, y1, y2, rfl⟩ := mh hl; rfl
  have F20 := bf (st := cH) l20 c20 k20
  have b20 := F20.binds (ps := ["script", "k", "parts"]) fun _ _ _ _ _ _ us hl => by obtain ⟨y0, y1, y2, rfl⟩ := mh hl; rfl
  have F21 := bf (st := bU) l21 c21 k21
  have b21 := F21.binds (ps := ["script", "places", "parts", "way"]) fun _ _ _ _ _ _ us hl => by obtain ⟨y0, y1, y2, y3, rfl⟩ := nO hl; rfl
  have F22 := bf (st := eX) l22 c22 k22
  have b22 := F22.binds (ps := ["script", "places", "ties", "parts"]) fun _ _ _ _ _ _ us hl => by obtain ⟨y0, y1, y2, y3, rfl⟩ := nO hl; rfl
  have F23 := bf (st := f_) l23 c23 k23
  have b23 := F23.binds (ps := ["hall", "places", "tie"]) fun _ _ _ _ _ _ us hl => by obtain ⟨y0, y1, y2, rfl⟩ := mh hl; rfl
  have F24 := bf (st := bV) l24 c24 k24
  have b24 := F24.binds (ps := ["hall", "places", "ties"]) fun _ _ _ _ _ _ us hl => by obtain ⟨y0, y1, y2, rfl⟩ := mh hl; rfl
  have F25 := bf (st := dL) l25 c25 k25
  have b25 := F25.binds (ps := ["hall", "box"]) fun _ _ _ _ _ _ us hl => by obtain ⟨y0, y1, rfl⟩ := lh hl; rfl
  have F26 := bf (st := dJ) l26 c26 k26
  have b26 := F26.binds (ps := ["hall", "arrows", "tie"]) fun _ _ _ _ _ _ us hl => by obtain ⟨y0, y1, y2, rfl⟩ := mh hl; rfl
  have F27 := bf (st := ig) l27 c27 k27
  have b27 := F27.binds (ps := ["hall", "begun", "arrows", "due"]) fun _ _ _ _ _ _ us hl => by obtain ⟨y0, y1, y2, y3, rfl⟩ := nO hl; rfl
  have F28 := bf (st := e7) l28 c28 k28
  have b28 := F28.binds (ps := ["hall", "box", "other"]) fun _ _ _ _ _ _ us hl => by obtain ⟨y0, y1, y2, rfl⟩ := mh hl; rfl
  have F29 := bf (st := dg) l29 c29 k29
  have b29 := F29.binds (ps := ["hall", "places", "ties", "box"]) fun _ _ _ _ _ _ us hl => by obtain ⟨y0, y1, y2, y3, rfl⟩ := nO hl; rfl
  have F30 := bf (st := ib) l30 c30 k30
  have b30 := F30.binds (ps := ["hall", "places", "ties", "box"]) fun _ _ _ _ _ _ us hl => by obtain ⟨y0, y1, y2, y3, rfl⟩ := nO hl; rfl
  have F31 := bf (st := dG) l31 c31 k31
  have b31 := F31.binds (ps := ["e"]) fun _ _ _ _ _ _ us hl => by obtain ⟨y0, rfl⟩ := tZ hl; rfl
  have F32 := bf (st := cJ) l32 c32 k32
  have b32 := F32.binds (ps := ["hall", "seen", "box"]) fun _ _ _ _ _ _ us hl => by obtain ⟨y0, y1, y2, rfl⟩ := mh hl; rfl
  have F33 := bf (st := cG) l33 c33 k33
  have b33 := F33.binds (ps := ["hall", "arrow", "arrows"]) fun _ _ _ _ _ _ us hl => by obtain ⟨y0, y1, y2, rfl⟩ := mh hl; rfl
  have F34 := bf (st := eZ) l34 c34 k34
  have b34 := F34.binds (ps := ["hall", "seen", "box", "arrows"]) fun _ _ _ _ _ _ us hl => by obtain ⟨y0, y1, y2, y3, rfl⟩ := nO hl; rfl
  have F35 := bf (st := jT) l35 c35 k35
  have b35 := F35.binds (ps := ["hall", "places", "ties"]) fun _ _ _ _ _ _ us hl => by obtain ⟨y0, y1, y2, rfl⟩ := mh hl; rfl
  have F36 := bf (st := eV) l36 c36 k36
  have b36 := F36.binds (ps := ["hall", "places", "ties", "box", "arrows"]) fun _ _ _ _ _ _ us hl => by obtain ⟨y0, y1, y2, y3, y4, rfl⟩ := Ey hl; rfl
  have F37 := bf (st := eW) l37 c37 k37
  have b37 := F37.binds (ps := ["hall", "way", "picture", "box"]) fun _ _ _ _ _ _ us hl => by obtain ⟨y0, y1, y2, y3, rfl⟩ := nO hl; rfl
  have F38 := bf (st := ko) l38 c38 k38
  have b38 := F38.binds (ps := ["script"]) fun _ _ _ _ _ _ us hl => by obtain ⟨y0, rfl⟩ := tZ hl; rfl
  refine ⟨fnOf "law" "law" (jF ko) (aF ko) (ak ko) .none kV38 dc38 pm38 an38 cd38 ct38, fun s v => .of_eq rfl, fun base _ _ => ?_⟩
  have r1 := rY (P := l.prog) (w := w) (base := base) T F1 (mg_of X G a1) b1
  have r2 := qp T r1 F2 (mg_of X G a2) b2
  have r3 := rW (P := l.prog) (w := w) (base := base) T F3 (mg_of X G a3) b3
  have r4 := oR (P := l.prog) (w := w) (base := base) T F4 (mg_of X G a4) b4
  have r5 := oU T r1 r4 r3 F5 (mg_of X G a5) b5
  have r6 := qr T r5 r2 F6 (mg_of X G a6) b6
  have r7 := mf (P := l.prog) (w := w) (base := base) T F7 (mg_of X G a7) b7
  have r8 := rZ (P := l.prog) (w := w) (base := base) T F8 (mg_of X G a8) b8
  have r9 := oW T r8 F9 (mg_of X G a9) b9
  have r10 := nH T r8 F10 (mg_of X G a10) b10
  have r11 := oV (P := l.prog) (w := w) (base := base) T F11 (mg_of X G a11) b11
  have r12 := nI T r8 F12 (mg_of X G a12) b12
  have r13 := nG T r12 F13 (mg_of X G a13) b13
  have r14 := iP (P := l.prog) (w := w) (base := base) T F14 (mg_of X G a14) b14
  have r15 := me (P := l.prog) (w := w) (base := base) T F15 (mg_of X G a15) b15
  have r16 := l_ T r15 F16 (mg_of X G a16) b16
  have r17 := nJ T r14 r7 r9 r11 r10 r13 r16 F17 ⟨mk, a17, i17, kc⟩ b17
  have r18 := rX T r17 F18 (mg_of X G a18) b18
  have r19 := nC (P := l.prog) (w := w) (base := base) T F19 (mg_of X G a19) b19
  have r20 := nB T r1 r19 F20 (mg_of X G a20) b20
  have r21 := k_ T r1 F21 (mg_of X G a21) b21
  have r22 := tU T r1 r21 F22 (mg_of X G a22) b22
  have r23 := wg T r8 F23 (mg_of X G a23) b23
  have r24 := ld T r8 r23 F24 (mg_of X G a24) b24
  have r25 := qt T r8 F25 (mg_of X G a25) b25
  have r26 := qs (P := l.prog) (w := w) (base := base) T F26 (mg_of X G a26) b26
  have r27 := xN T r26 F27 (mg_of X G a27) b27
  have r28 := tW T r25 F28 (mg_of X G a28) b28
  have r29 := oQ T r28 r27 F29 (mg_of X G a29) b29
  have r30 := xL T r25 r24 r29 F30 (mg_of X G a30) b30
  have r31 := qo (P := l.prog) (w := w) (base := base) T F31 (mg_of X G a31) b31
  have r32 := nF T r28 F32 (mg_of X G a32) b32
  have r33 := nA (P := l.prog) (w := w) (base := base) T F33 (mg_of X G a33) b33
  have r34 := tV T r28 r33 F34 (mg_of X G a34) b34
  have r35 := zW T r24 r29 r32 r34 F35 (mg_of X G a35) b35
  have r36 := tR T r25 r28 r33 r35 F36 (mg_of X G a36) b36
  have r37 := tS T r35 r31 r36 r30 F37 (mg_of X G a37) b37
  exact z_ hval (bA (C := C) F38 sc_law (fun cdv A outer s H E hr => yS cdv A outer s H E T r1 r22 r18 r37 r6 r20 hr))
theorem walk {l:PySem.W.OpenLaw} {q:Program} {loose:List Str} {XP:(Str->Option Value)->Heap->Prop} {YP:World->Heap->Prop} {d:DefRec} {K:Params->Frag} (hn:l.most=some 63) (hdf:d.params.defaults=[])
  (hY:∀ (w:World) (h:Heap),YP w h->(K w.params).In h)
  (F:∀ (w:World) (mg:Str->Option Value) (fa:Addr) (h:Heap),(K w.params).In h->h.Ns mainGlobals mg->mg d.name=some (.ref fa) ->
   ∃ fd:FuncData,(∀ (s:Shared) (u:Value),BindsTo s fd ⟨[u],[]⟩ [("script",u)])/\∀ base:Heap,(K w.params).In base->base.Ns mainGlobals mg->FnOk l.prog w (K w.params) mg base CX0 8 fa fd ["script"] (uG (K w.params))) :
  PySem.W.WalkO q loose XP YP l.row.toRowW d [] (fun f vs=>PySem.call f vs) :=
 L2.walk_of (n:=63) (k:=8) (x:="script") (CX:=fun _=>CX0) (sp:=fun w=>uG (K w.params)) hn (by decide) hdf ⟨rfl,by decide,by decide⟩ hY F (fun _ _ a ns hl _ hS=>⟨a,ns,rfl,hS,hl,fun _=>rfl⟩) fun _ _ _ _ _ z=>z
end DL
namespace PySem.W.Fast
def tw9593255151959830624:=0
def tw17337252046625521760:=0
def tw9866422189982624960:=0
def tw10116423854749139232:=0
def tw2396708107401728320:=0
def tw6576549069934585216:=0
def tw3886025508548796096:=0
def tw14767603681685465824:=0
def tw7424244805574593280:=0
def tw9449452522220916480:=0
def tw15061995306465637184:=0
def tw8794302991295346496:=0
def tw9501260787261509472:=0
def tw7061565441598294944:=0
def tw11535653111357289440:=0
def tw4679059833215295489:=0
def tw5420448535836303457:=0
def tw15577744341191292097:=0
def tw6166963277986225441:=0
def tw6696103497085439297:=0
def tw15735203993181739425:=0
def tw576738628858697217:=0
def tw14029249203323641409:=0
def tw17654966821601794689:=0
def tw6240458464365526657:=0
def tw9667479316969612961:=0
def tw4588862551272824513:=0
def tw6121506205306001089:=0
def tw16222248560616018657:=0
def tw17218100343862348577:=0
def tw9906173741020296001:=0
def tw12224673537376752513:=0
def tw3968527084428820385:=0
def tw15189347486986596321:=0
def tw6709004588843733026:=0
def tw3110936506787955778:=0
def tw17003085870527429698:=0
def tw10113518142693533858:=0
def tw9409303287654041762:=0
def tw3419235031288375490:=0
def tw9392120973169283298:=0
def tw1320309048941791586:=0
def tw9086026651834200546:=0
def tw7592500020112148962:=0
def tw9850239394237855202:=0
def tw5131037415301398050:=0
def tw8018683286286567970:=0
def tw1848620267259386434:=0
def tw14311318482636834498:=0
def tw15070318132111110850:=0
def tw4456545023006994178:=0
def tw17926191279500278530:=0
def tw3540783702509476610:=0
def tw11330792621380485954:=0
def tw18081578864819500866:=0
def tw14410890552606956418:=0
def tw910929887847627682:=0
def tw3486280434669088738:=0
def tw4063906075772700675:=0
def tw872872477588186179:=0
def tw8032555042853151843:=0
def tw7164671420202520739:=0
def tw16283367447281362115:=0
def tw13047753843148153155:=0
def tw17785272878895655299:=0
def tw2270512052510698051:=0
def tw16301192665645214307:=0
def tw10986465845562846851:=0
def tw6156166202671413891:=0
def tw2125510557513356035:=0
def tw12113352860502120259:=0
def tw4278132193800457059:=0
def tw8822304010961799075:=0
def tw17579883117836978147:=0
def tw18167249963033720036:=0
def tw14864992325517067620:=0
def tw3034848672733682116:=0
def tw5480212168659890692:=0
def tw3240044916226545284:=0
def tw17681591933236198148:=0
def tw4638814242700308356:=0
def tw10905850327678263204:=0
def tw11628337288575721637:=0
def tw17916184912410564933:=0
def tw1767667399907721637:=0
def tw5289525391640723877:=0
def tw736806240438896165:=0
def tw3912483820626126661:=0
def tw15496904817169251237:=0
def tw818826795246144485:=0
def tw1267583202012783686:=0
def tw1569901911193848902:=0
def tw12012004870291046534:=0
def tw11856975261772059046:=0
def tw10580744349658745382:=0
def tw4266246670187904614:=0
def tw2821316671212353350:=0
def tw10838276259767440326:=0
def tw12440994798681001063:=0
def tw8975759935693831271:=0
def tw12012447224936763495:=0
def tw13744881791235540135:=0
def tw969790735172725927:=0
def tw18037139465181392071:=0
def tw4968555629322012103:=0
def tw7149045204573773287:=0
def tw11197395132916165127:=0
def tw6423223796781405799:=0
def tw4009402152167894663:=0
def tw5987162933329231623:=0
def tw7733684414372903719:=0
def tw10123975164426499112:=0
def tw3841326745057766536:=0
def tw6731163377459742952:=0
def tw15411120989664091592:=0
def tw11199384872160469480:=0
def tw12125429241599793800:=0
def tw9478068960239618696:=0
def tw14875104490181764776:=0
def tw1427802401924934408:=0
def tw4766565835883521896:=0
def tw2228982254886888360:=0
def tw16900705609116800009:=0
def tw7304874497391710281:=0
def tw15901256105339444329:=0
def tw8720594937045271689:=0
def tw1884340242682861865:=0
def tw9867812850116854313:=0
def tw14671993617202147913:=0
def tw7424659199677905833:=0
def tw14875576978838912969:=0
def tw17658426157416645706:=0
def tw6256550727843482698:=0
def tw7902524548336710762:=0
def tw8338240987828628618:=0
def tw18304397661624956074:=0
def tw801553223335879882:=0
def tw10376019275900912874:=0
def tw663729914634894666:=0
def tw13842168193039494602:=0
def tw312495335333745162:=0
def tw341320087920459370:=0
def tw10807143323518041706:=0
def tw11560555945208965770:=0
def tw6919400968806732426:=0
def tw2276230710027781802:=0
def tw1968215356687739690:=0
def tw15669498813887859530:=0
def tw9196504293518630923:=0
def tw16762110331965405259:=0
def tw10182605092983662667:=0
def tw5363010858659335371:=0
def tw5068945555707579659:=0
def tw13354247567781910827:=0
def tw11745492462355889483:=0
def tw5837951866054182347:=0
def tw1063973926786351595:=0
def tw14425642402059728395:=0
def tw11705429288456032843:=0
def tw11710411185183777451:=0
def tw12812202407716630187:=0
def tw12128131073365632811:=0
def tw13229525010809973579:=0
def tw4328317041064613803:=0
def tw11656449692202530828:=0
def tw10553621052410125420:=0
def tw16214210089001170092:=0
def tw16527701131821966604:=0
def tw16596773447117720044:=0
def tw6030275994038555308:=0
def tw7004147637911068364:=0
def tw6730234113751769804:=0
def tw2843584856094988012:=0
def tw6923403552467052364:=0
def tw4605084551670438764:=0
def tw16756995490220804044:=0
def tw5440281516002101357:=0
def tw13208396765937287533:=0
def tw151483139871060365:=0
def tw11547758627200866957:=0
def tw17269099594807489197:=0
def tw9464221552649902797:=0
def tw5208150099471983341:=0
def tw336070567354197965:=0
def tw10120342993405633517:=0
def tw387889616473124974:=0
def tw11482895651731857902:=0
def tw1860905000079387566:=0
def tw1907916327031657422:=0
def tw9279306114088736750:=0
def tw9895497527652194415:=0
def tw11091841183142632783:=0
def tw15889687928422036879:=0
def tw9504873867683419535:=0
def tw7101361774416523727:=0
def tw7431724853105146479:=0
def tw14643354370224419567:=0
def tw13522755126248292111:=0
def tw12314115067591222063:=0
def tw6621617643431693199:=0
def tw1468504349872730095:=0
def tw3501963550648425455:=0
def tw3623255517781105776:=0
def tw4455121435521759344:=0
def tw5860942360679328880:=0
def tw15933388515163754768:=0
def tw10612345244592184688:=0
def tw6817398664821450224:=0
def tw475060222526822160:=0
def tw5153903903678580624:=0
def tw10300806356878826384:=0
def tw15245168621044178896:=0
def tw11061307328398291025:=0
def tw4400276298506480753:=0
def tw5236066482753194129:=0
def tw1283584509910115697:=0
def tw7363410063434138065:=0
def tw11721543446961165937:=0
def tw6928952499013261009:=0
def tw7610886373334087409:=0
def tw1713225180722880305:=0
def tw6238813225032219505:=0
def tw6263881535602117650:=0
def tw13503498934635040850:=0
def tw7783437080241966258:=0
def tw13889544840162734322:=0
def tw6365138821586780530:=0
def tw15423341995122470290:=0
def tw313868775252651602:=0
def tw10992000028736604754:=0
def tw4996614217003969202:=0
def tw5542503367738788626:=0
def tw17865231024381713234:=0
def tw1303190162086304754:=0
def tw10841467796459485203:=0
def tw3954256042006806547:=0
def tw477717822013149267:=0
def tw11391456744395879667:=0
def tw5573291076220216627:=0
def tw11476151587778279795:=0
def tw3786514000734711155:=0
def tw16448061167550288275:=0
def tw13486900481153785363:=0
def tw13190703665467161107:=0
def tw9092939825233156755:=0
def tw6318440653384601267:=0
def tw5875938256486607635:=0
def tw1469783640784264979:=0
def tw16887393762394395539:=0
def tw8012631908777144243:=0
def tw11444800973497073748:=0
def tw7972196762309539956:=0
def tw7221987671879731540:=0
def tw13555629731630341556:=0
def tw582702219407001076:=0
def tw9787967031734136436:=0
def tw13889091223662444148:=0
def tw15428013900810201812:=0
def tw1381875549378553620:=0
def tw18239044022751536980:=0
def tw16440425895604555700:=0
def tw13255902678834555828:=0
def tw10979255474210994164:=0
def tw6602249249446811669:=0
def tw18299551500269116437:=0
def tw9946543124439110709:=0
def tw9541928791874766069:=0
def tw5330186716349756693:=0
def tw8101066691327193493:=0
def tw10117125493335946709:=0
def tw4974962393095620117:=0
def tw10396044304205454197:=0
def tw14558744093684653973:=0
def tw9083624309559418837:=0
def tw6830863155242925013:=0
def tw5179629987980023990:=0
def tw6264225346510625974:=0
def tw11105149023628964054:=0
def tw6763303126269169078:=0
def tw11784060106364729814:=0
def tw15909323853771795926:=0
def tw9187126541593302486:=0
def tw15460528427797252598:=0
def tw355949463065257462:=0
def tw468585848851235382:=0
def tw18318823884758930070:=0
def tw15494961780783205014:=0
def tw6074918594966714038:=0
def tw2801280963281539798:=0
def tw8339001050477809430:=0
def tw13129274121243596630:=0
def tw4202944422547899222:=0
def tw17026975667701335894:=0
def tw3624638164125191126:=0
def tw17845327945807065078:=0
def tw15211830273508704311:=0
def tw13732430486454679639:=0
def tw13437574658911156375:=0
def tw13035536715140587735:=0
def tw12245488909500710167:=0
def tw12209302941830915383:=0
def tw7789690270565255543:=0
def tw2461818512104449399:=0
def tw15471989936143108503:=0
def tw14097010100766947767:=0
def tw7591609455409879575:=0
def tw10332019816067115607:=0
def tw3761608418550050519:=0
def tw2470276894091576055:=0
def tw4805687019646874455:=0
def tw11411891956815957208:=0
def tw13898332337941156152:=0
def tw9339383575813558776:=0
def tw15160227361417210392:=0
def tw9802234449599040152:=0
def tw1673290507016065880:=0
def tw10281306282885790648:=0
def tw2739181319044591544:=0
def tw7394008449219056697:=0
def tw10558484219818256441:=0
def tw2182459548843261017:=0
def tw1981376701264048249:=0
def tw702445453973659801:=0
def tw16338495001417833721:=0
def tw10022920941220185369:=0
def tw16776620027761958297:=0
def tw2747206172406574489:=0
def tw9273668693100372569:=0
def tw2981589409964152537:=0
def tw10195631960697299897:=0
def tw6582871751531802714:=0
def tw9483550802534236250:=0
def tw16446321256383042778:=0
def tw4803502018491714810:=0
def tw8310467553858868506:=0
def tw6769181239286876442:=0
def tw17745173635075367354:=0
def tw9547347587783766522:=0
def tw11628213254117446202:=0
def tw17616239814210690746:=0
def tw2415055531882878682:=0
def tw5560031583550883642:=0
def tw10497063468211874714:=0
def tw1206423015535392795:=0
def tw2019850434643058779:=0
def tw10360293134688007355:=0
def tw2698913786801127643:=0
def tw16925250527590235419:=0
def tw10570807287407944059:=0
def tw16967816636764709371:=0
def tw10129209081582697051:=0
def tw7392647648422727323:=0
def tw6776473085221113531:=0
def tw9646564716338842427:=0
def tw3274553748039153499:=0
def tw10127812871989504859:=0
def tw3995080839472929659:=0
def tw1951749037376901148:=0
def tw5350270370539008060:=0
def tw13180602682471551068:=0
def tw15698890102571104412:=0
def tw8747257355894709468:=0
def tw8491624312338446652:=0
def tw7784926988085961116:=0
def tw6865989331329453532:=0
def tw2420004547235536380:=0
def tw8365339082871149084:=0
def tw13068237891971139100:=0
def tw5114312663037895260:=0
def tw4259243138758242908:=0
def tw14991933321492441756:=0
def tw14079632462121285308:=0
def tw17791945538074717884:=0
def tw8211989983881096924:=0
def tw17088978554918416156:=0
def tw17915082598140908380:=0
def tw14712726597302606748:=0
def tw16466534739580680124:=0
def tw218411041403790300:=0
def tw6900379801538903133:=0
def tw4257388954817313949:=0
def tw8775130287237704061:=0
def tw5985849322756026781:=0
def tw18139113245796209085:=0
def tw13626258699669802461:=0
def tw11516159272581110333:=0
def tw15160838338777131581:=0
def tw1606868461922627165:=0
def tw8265990579388078717:=0
def tw5871883196603662973:=0
def tw2528060828903190237:=0
def tw16900867300771084061:=0
def tw9424237428142509150:=0
def tw16700893510344565854:=0
def tw14103420824785778014:=0
def tw583986664717638014:=0
def tw11390757008859255198:=0
def tw2261830992871760286:=0
def tw5207361926293566910:=0
def tw15689969552472190462:=0
def tw14718606903552505630:=0
def tw5473745157017596798:=0
def tw684070136034044894:=0
def tw4958468296624144415:=0
def tw7989743907765486687:=0
def tw10475123730455034015:=0
def tw17769226057221044575:=0
def tw17073461662888456639:=0
def tw6070140799417863775:=0
def tw5215489431030627999:=0
def tw10726695103063160511:=0
def tw3719861644849626815:=0
def tw6549501386861479807:=0
end PySem.W.Fast
open PySem PySem.W PyProof.Rows
set_option maxRecDepth 100000 in
set_option maxHeartbeats 0 in
theorem PySem.Challenge.cw_arrowhall_k06_no_picture_holds : PySem.Challenge.rw_arrowhall_k06_no_picture.Holds := by
 w_on;o_law;k_head;(case hw=>w_witness2)
 k_fill
 refine DL.walk (l:=PySem.Challenge.rw_arrowhall_k06_no_picture) rfl rfl (fun w h Y=>PySem.W.kIn_of Y) ?F
 case F =>
  intro w mg fa h KX G hmg
  refine' DL.all_mk DL.law_val KX G hmg ?aC ?a1 ?l1 ?c1 ?k1 ?a2 ?l2 ?c2 ?k2 ?a3 ?l3 ?c3 ?k3 ?a4 ?l4 ?c4 ?k4 ?a5 ?l5 ?c5 ?k5 ?a6 ?l6 ?c6 ?k6 ?a7 ?l7 ?c7 ?k7 ?a8 ?l8 ?c8 ?k8 ?a9 ?l9 ?c9 ?k9 ?a10 ?l10 ?c10 ?k10 ?a11 ?l11 ?c11 ?k11 ?a12 ?l12 ?c12 ?k12 ?a13 ?l13 ?c13 ?k13 ?a14 ?l14 ?c14 ?k14 ?a15 ?l15 ?c15 ?k15 ?a16 ?l16 ?c16 ?k16 ?a17 ?i17 ?l17 ?c17 ?k17 ?a18 ?l18 ?c18 ?k18 ?a19 ?l19 ?c19 ?k19 ?a20 ?l20 ?c20 ?k20 ?a21 ?l21 ?c21 ?k21 ?a22 ?l22 ?c22 ?k22 ?a23 ?l23 ?c23 ?k23 ?a24 ?l24 ?c24 ?k24 ?a25 ?l25 ?c25 ?k25 ?a26 ?l26 ?c26 ?k26 ?a27 ?l27 ?c27 ?k27 ?a28 ?l28 ?c28 ?k28 ?a29 ?l29 ?c29 ?k29 ?a30 ?l30 ?c30 ?k30 ?a31 ?l31 ?c31 ?k31 ?a32 ?l32 ?c32 ?k32 ?a33 ?l33 ?c33 ?k33 ?a34 ?l34 ?c34 ?k34 ?a35 ?l35 ?c35 ?k35 ?a36 ?l36 ?c36 ?k36 ?a37 ?l37 ?c37 ?k37 ?a38 ?l38 ?c38 ?k38 ?pg ?hd ?po ?sa ?mk ?kc ?nE ?nR ?nT ?z_len ?z_list ?z_tuple ?z_range ?z_enumerate ?z_max ?z_isinstance ?z_all ?z_sorted ?z_min ?z_int ?z_bool ?z_ValueError ?mb ?ma ?mMOST_PLACES ?mMOST_TIES ?ih1 ?ih2 ?ih3 ?ih4 ?e0 ?e1 ?e2 ?e3 ?e4 ?e5 ?e6 ?eA ?x2a ?x2b ?x2c ?x2d ?x2e ?q20 ?q21 ?q22 ?q23 ?q24 ?q25 ?q26 ?v2 ?u2 ?n2 ?x3a ?x3b ?x3c ?x3d ?x3e ?q30 ?q31 ?q32 ?q33 ?q34 ?q35 ?q36 ?v3 ?u3 ?n3 ?be ?kii ?kbi ?kNi ?kli ?kti ?kib ?kbb ?kNb ?klb ?ktb ?kil ?kbl ?kNl ?kll ?ktl
  all_goals try unfold DL.NI
  all_goals try unfold DL.NN
  all_goals try unfold DL.LK
  all_goals try unfold DL.CI
  all_goals try unfold DL.KP
  all_goals try unfold DL.KO
  all_goals try first | k_is | kit_is | k_exc
  all_goals first | decide | exact (fun h=>by cases h)
