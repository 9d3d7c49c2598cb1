import PyProof.Rows.All
import Wide.All
import OpenK.AllK
import Wide.FinOn
import Lean
import PyProof.EqAt
import PyProof.EqKinds
import PyProof.TupleCall
import PyProof.NeKinds
import PyProof.ListRange
import PyProof.TupleOfGen
import PyProof.DictRoadsH
import PyProof.Rows.FStr
import PyProof.ExcBaseAll.ValueError
import PyProof.ExcClass2
import PyProof.ExcArgsOwn
import PyProof.ExcAttrAll.ValueError
import KE.KIsAll
import PyProof.RulesAs
import PyProof.NsDelKeeps
import PyProof.ConsumeWalk
import PyProof.ZipIter
import PyProof.Rows.ZipGen
import PyProof.Rows.SeqGen
import PyProof.Rows.FactsT2
import PyProof.WalkInts
import PyProof.Rows.MinMaxN
import PySem.Challenge.RW_arrowhall_k05_views
set_option Elab.async false
set_option linter.all false
set_option maxRecDepth 100000
set_option maxHeartbeats 4000000
namespace L2
open PySem PySem.Spec PyProof.Rows
noncomputable abbrev Key:=Sum Int Str
noncomputable def w8:Key->Value->Bool
 | .inl k,v=>Value.isInt k v
 | .inr x,v=>Value.isStrOf x v
noncomputable def Ao (w:World):Key->Int
 | .inl k=>hashInt k
 | .inr x=>hashStr w x
theorem cF:∀ {k:Key} {v:Value},w8 k v=true->(∃ i t,k=Sum.inl i/\v=Value.int i t)\/(∃ x t,k=Sum.inr x/\v=Value.str x t)
 | .inl i,v,h=>by
  obtain ⟨t,e⟩:=Value.isInt_shape (k:=i) (v:=v) h
  exact .inl ⟨i,t,rfl,e⟩
 | .inr x,v,h=>by
  obtain ⟨t,e⟩:=Value.isStrOf_shape (x:=x) (v:=v) h
  exact .inr ⟨x,t,rfl,e⟩
theorem yq (a b:Int):decide ((Sum.inl a:Key)=Sum.inl b)=(a == b):=by
 by_cases e:a=b
 ·subst e;simp
 ·have h:¬ (Sum.inl a:Key)=Sum.inl b:=fun q=>e (Sum.inl.inj q)
  rw [decide_eq_false h]
  exact (beq_eq_false_iff_ne.mpr e).symm
theorem yn (a b:Str):decide ((Sum.inr a:Key)=Sum.inr b)=decide (a=b):=by
 by_cases e:a=b
 ·subst e;simp
 ·have h:¬ (Sum.inr a:Key)=Sum.inr b:=fun q=>e (Sum.inr.inj q)
  rw [decide_eq_false h,decide_eq_false e]
theorem yp (a:Int) (b:Str):decide ((Sum.inl a:Key)=Sum.inr b)=false:=decide_eq_false (fun q=>nomatch q)
theorem yo (a:Str) (b:Int):decide ((Sum.inr a:Key)=Sum.inl b)=false:=decide_eq_false (fun q=>nomatch q)
noncomputable def qU (prog:Program) (w:World):PySem.KeyKind prog w Key where
 is:=w8
 hash:=Ao w
 inj:=fun v a b ha hb=>by
  rcases cF ha with ⟨i,t,rfl,rfl⟩ | ⟨x,t,rfl,rfl⟩
  ·rcases cF hb with ⟨j,u,rfl,e⟩ | ⟨y,u,rfl,e⟩
   ·injection e with e1 _;rw [e1]
   ·exact nomatch e
  ·rcases cF hb with ⟨j,u,rfl,e⟩ | ⟨y,u,rfl,e⟩
   ·exact nomatch e
   ·injection e with e1 _;rw [e1]
 byValue:=fun k v h=>by
  rcases cF h with ⟨i,t,rfl,rfl⟩ | ⟨x,t,rfl,rfl⟩ <;> rfl
 pyHash:=fun hv h=>by
  rcases cF hv with ⟨i,t,rfl,rfl⟩ | ⟨x,t,rfl,rfl⟩
  ·exact wpAny_pyHash_int h
  ·exact wpAny_pyHash_str h
 eqBool:=fun hu hv h=>by
  rcases cF hu with ⟨i,t,rfl,rfl⟩ | ⟨x,t,rfl,rfl⟩
  ·rcases cF hv with ⟨j,u,rfl,rfl⟩ | ⟨y,u,rfl,rfl⟩
   ·rw [yq] at h;exact wpAny_eqBool_int h
   ·rw [yp] at h;exact SeqAt.EqAt.int_str i t y u _ _ _ _ h
  ·rcases cF hv with ⟨j,u,rfl,rfl⟩ | ⟨y,u,rfl,rfl⟩
   ·rw [yo] at h;exact SeqAt.EqAt.str_int x t j u _ _ _ _ h
   ·rw [yn] at h;exact wpAny_eqBool_str h
 «strs»:=fun k x t v h=>by
  rcases cF h with ⟨i,u,rfl,e⟩ | ⟨y,u,rfl,e⟩
  ·exact nomatch e
  ·injection e with e1 _
   subst e1
   cases v <;> rfl
end L2
namespace L2
open PySem PySem.Spec PyProof.Rows
inductive V where
 | non | bl (b:Bool) | int (i:Int) | str (x:Str) | byt (b:Array UInt8) | flt (b:UInt64) | ref (a:Addr) | ty (n:String)
 deriving DecidableEq
noncomputable def RelV:V->Value->Prop
 | .non,u=>u=Value.none
 | .bl b,u=>u=Value.bool b
 | .int i,u=>∃ t,u=Value.int i t
 | .str x,u=>∃ t,u=Value.str x t
 | .byt b,u=>∃ t,u=Value.bytes b t
 | .flt b,u=>∃ t,u=Value.float b t
 | .ref a,u=>u=Value.ref a
 | .ty n,u=>u=Value.type n
noncomputable abbrev Vals:List V->List Value->Prop:=Paired RelV
theorem Vals.length {xs:List V} {us:List Value} (r:Vals xs us):xs.length=us.length:=Paired.length r
theorem Vals.get:∀ {xs:List V} {us:List Value} {i:Nat} {x:V},Vals xs us->xs[i]?=some x->∃ u,us[i]?=some u/\RelV x u
 | _,_,_,_,.nil,e=>by simp at e
 | _,_,0,_,.cons r _,e=>by simp at e;subst e;exact ⟨_,rfl,r⟩
 | _,_,i + 1,x,.cons _ t,e=>by
  obtain ⟨u,h1,h2⟩:=Vals.get (i:=i) (x:=x) t (by simpa using e)
  exact ⟨u,by simpa using h1,h2⟩
theorem Vals.append:∀ {xs ys:List V} {us ws:List Value},Vals xs us->Vals ys ws->Vals (xs ++ ys) (us ++ ws)
 | _,_,_,_,.nil,s=>s
 | _,_,_,_,.cons r t,s=>.cons r (Vals.append t s)
theorem Vals.take:∀ {xs:List V} {us:List Value} (n:Nat),Vals xs us->Vals (xs.take n) (us.take n)
 | _,_,0,_=>.nil
 | _,_,_ + 1,.nil=>.nil
 | _,_,n + 1,.cons r t=>.cons r (Vals.take n t)
theorem Vals.drop:∀ {xs:List V} {us:List Value} (n:Nat),Vals xs us->Vals (xs.drop n) (us.drop n)
 | _,_,0,r=>r
 | _,_,_ + 1,.nil=>.nil
 | _,_,n + 1,.cons _ t=>Vals.drop n t
noncomputable def RelO:Option V->Option Value->Prop
 | some v,some u=>RelV v u
 | none,none=>True
 | _,_=>False
noncomputable def KV {κ:Type}:List (κ × V)->List (κ × Value)->Prop:=Paired fun (p:κ × V) (q:κ × Value)=>p.1=q.1/\RelV p.2 q.2
noncomputable def kV:Key->V
 | .inl i=>.int i
 | .inr x=>.str x
inductive HO where
  | lst (xs:List V)
  | tup (xs:List V)
  | dK (kvs:List (Key × V)) | dT (kvs:List (List Key × V))
  | set (S:Int->Bool) (n:Nat)
  | ins (C dx:Addr) (fs:List (Str × V))
  | own (x:Addr)
  | xd (fs:List (Str × V))
  | met (f x:Addr)
  | rng (lo hi:Int)
  | frz (o:Obj) (u:HO)
  | tbl (ps:Array Value)
  | ext (φ:Heap->Prop)
noncomputable abbrev Hp:=Addr->Option HO
noncomputable def upd (H:Hp) (a:Addr) (o:HO):Hp:=fun b=>if b=a then some o else H b
theorem aU {H:Hp} {a:Addr} {o:HO}:upd H a o a=some o:=by unfold upd;rw [if_pos rfl]
theorem aE {H:Hp} {a b:Addr} {o:HO} (h:b ≠ a):upd H a o b=H b:=by unfold upd;rw [if_neg h]
theorem a_ {H:Hp} {a b:Addr} {o:HO} (h:H a=some o) (h':H b=none):a ≠ b:=by
 intro e;subst e;rw [h] at h';cases h'
section
variable (P:Program) (w:World)
noncomputable def ObjOk (H:Hp) (h:Heap) (a:Addr):HO->Prop
 | .lst xs=>xs.length<=sizeLine/\∃ (its:List Value) (n:Nat),Vals xs its/\h.get? a=some { cls:=.type "list",data:=.seq its.toArray n }
 | .tup xs=>xs.length<=sizeLine/\∃ its:List Value,Vals xs its/\IsTup h a its.toArray
 | .dK kvs=>kvs.length<=sizeLine/\(a == sysModules)=false/\∃ vs,KV kvs vs/\h.DictOf (qU P w) a vs
 | .dT kvs=>kvs.length<=sizeLine/\(a == sysModules)=false/\∃ xs:List (List Key × Addr × Value),
   Paired (fun (p:List Key × V) (q:List Key × Addr × Value)=>p.1=q.1/\H q.2.1=some (.tup (p.1.map kV))/\RelV p.2 q.2.2) kvs xs /\
   ∃ o es ep,h.get? a=some o/\o.ExactDict/\o.data=.dict es ep/\es.toList=xs.map (entryOfKey (tupleKind (qU P w)))/\(xs.map (·.1)).Nodup
 | .set S n=>h.SetOf (intKind P w) a S n
 | .ins C dx fs=>H dx=some (.own a)/\fs.length<=1000/\dx ≠ a/\h.get? a=some (PySem.W.instObj C dx) /\
   ∃ mA,h.Ns1 dx mA/\(∀ f,RelO (fs.lookup f) (mA f))/\PySem.Within mA (fs.map (·.1))
 | .own _=>∃ o,h.get? a=some o
 | .xd fs=>∃ mA,h.Ns1 a mA/\∀ f,RelO (fs.lookup f) (mA f)
 | .rng lo hi=>∃ t u v,h.get? a=some { cls:=.type "range",data:=.fields #[.int lo t,.int hi u,.int 1 v] }
 | .frz o u=>h.get? a=some o/\ObjOk H h a u
 | .tbl ps=>h.get? a=some { cls:=.none,data:=.fields ps }
 | .met f x=>h.get? a=some (PySem.W.methodObj (.ref f) (.ref x))
 | .ext φ=>φ h/\(∃ o,h.get? a=some o)/\∀ h1 h2:Heap,φ h1->(∀ o,h1.get? a=some o->h2.get? a=some o)->φ h2
noncomputable def HOk (H:Hp) (h:Heap):Prop:=∀ a o,H a=some o->ObjOk P w H h a o
end
section
variable {P:Program} {w:World} {H H':Hp} {h h':Heap} {a:Addr} {o:HO}
theorem ObjOk.lt (x:ObjOk P w H h a o):a < h.objs.size:=by
 cases o with
 | lst xs=>obtain ⟨_,_,_,_,e⟩:=x;exact Heap.lt_size e
 | tup xs=>obtain ⟨_,_,_,p⟩:=x;exact p.lt
 | dK kvs=>obtain ⟨_,_,_,_,o,_,_,e,_⟩:=x;exact Heap.lt_size e
 | dT kvs=>obtain ⟨_,_,_,_,o,_,_,e,_⟩:=x;exact Heap.lt_size e
 | set S n=>obtain ⟨o,_,_,_,e,_⟩:=x;exact Heap.lt_size e
 | ins C dx fs=>obtain ⟨_,_,_,e,_⟩:=x;exact Heap.lt_size e
 | own y=>obtain ⟨_,e⟩:=x;exact Heap.lt_size e
 | xd fs=>obtain ⟨_,⟨_,_,_,e,_⟩,_⟩:=x;exact Heap.lt_size e
 | rng lo hi=>obtain ⟨_,_,_,e⟩:=x;exact Heap.lt_size e
 | frz ob u=>obtain ⟨e,_⟩:=x;exact Heap.lt_size e
 | tbl ps=>exact Heap.lt_size (show h.get? a=some _ from x)
 | met f y=>exact Heap.lt_size (show h.get? a=some _ from x)
 | ext φ=>obtain ⟨_,⟨_,e⟩,_⟩:=x;exact Heap.lt_size e
theorem Paired.mapP {α β:Type} {F G:α->β->Prop}:∀ {l₁:List α} {l₂:List β},Paired F l₁ l₂->(∀ a b,F a b->G a b)->Paired G l₁ l₂
 | _,_,.nil,_=>.nil
 | _,_,.cons r t,f=>.cons (f _ _ r) (Paired.mapP t f)
theorem ObjOk.stay (x:ObjOk P w H h a o) (k:∀ b u,(b=a\/H b=some (.own a))->h.get? b=some u->h'.get? b=some u)
  (ho:∀ b,H b=some (.own a)->H' b=some (.own a)) (ht:∀ b xs,H b=some (.tup xs)->H' b=some (.tup xs)):ObjOk P w H' h' a o:=by
 induction o with
 | lst xs=>obtain ⟨z,its,n,r,e⟩:=x;exact ⟨z,its,n,r,k _ _ (.inl rfl) e⟩
 | tup xs=>obtain ⟨z,its,r,ob,e,c⟩:=x;exact ⟨z,its,r,ob,k _ _ (.inl rfl) e,c⟩
 | dK kvs=>obtain ⟨z,y,vs,r,ob,es,ep,e,c⟩:=x;exact ⟨z,y,vs,r,ob,es,ep,k _ _ (.inl rfl) e,c⟩
 | dT kvs =>
  obtain ⟨z,y,xs,r,ob,es,ep,e,c⟩:=x
  exact ⟨z,y,xs,Paired.mapP r fun p q z=>⟨z.1,ht _ _ z.2.1,z.2.2⟩,ob,es,ep,k _ _ (.inl rfl) e,c⟩
 | set S n=>obtain ⟨ob,es,ep,t,e,c⟩:=x;exact ⟨ob,es,ep,t,k _ _ (.inl rfl) e,c⟩
 | ins C dx fs =>
  obtain ⟨d,z,ne,e,mA,⟨od,es,ep,e2,c⟩,r⟩:=x
  exact ⟨ho _ d,z,ne,k _ _ (.inl rfl) e,mA,⟨od,es,ep,k _ _ (.inr d) e2,c⟩,r⟩
 | own y=>obtain ⟨ob,e⟩:=x;exact ⟨ob,k _ _ (.inl rfl) e⟩
 | xd fs=>obtain ⟨mA,⟨od,es,ep,e,c⟩,r⟩:=x;exact ⟨mA,⟨od,es,ep,k _ _ (.inl rfl) e,c⟩,r⟩
 | rng lo hi=>obtain ⟨t,u,v,e⟩:=x;exact ⟨t,u,v,k _ _ (.inl rfl) e⟩
 | frz ob u ih=>obtain ⟨e,q⟩:=x;exact ⟨k _ _ (.inl rfl) e,ih q⟩
 | tbl ps =>
  have e:h.get? a=some { cls:=.none,data:=.fields ps }:=x
  show h'.get? a=some { cls:=.none,data:=.fields ps }
  exact k a _ (.inl rfl) e
 | met f y =>
  have e:h.get? a=some (PySem.W.methodObj (.ref f) (.ref y)):=x
  show h'.get? a=some (PySem.W.methodObj (.ref f) (.ref y))
  exact k a _ (.inl rfl) e
 | ext φ=>obtain ⟨p,⟨o,e⟩,st⟩:=x;exact ⟨st _ _ p fun o q=>k _ _ (.inl rfl) q,⟨o,k _ _ (.inl rfl) e⟩,st⟩
theorem HOk.lt (x:HOk P w H h) (e:H a=some o):a < h.objs.size:=(x a o e).lt
theorem HOk.fresh (x:HOk P w H h) (e:h.objs.size<=a):H a=none:=by
 cases q:H a with
 | none=>rfl
 | some u=>exact absurd (Nat.lt_of_lt_of_le (x.lt q) e) (Nat.lt_irrefl _)
theorem HOk.kept (x:HOk P w H h) (k:∀ b u,h.get? b=some u->h'.get? b=some u):HOk P w H h':=fun a o e =>
 (x a o e).stay (fun b u _ q=>k b u q) (fun _ q=>q) fun _ _ q=>q
theorem HOk.laid (x:HOk P w H h) (k:∀ b u,h.get? b=some u->h'.get? b=some u) (hp:h.objs.size<=a) (new:ObjOk P w (upd H a o) h' a o):HOk P w (upd H a o) h':=fun b u e=>by
 have hn:=x.fresh hp
 by_cases hb:b=a
 ·subst hb;rw [aU] at e;cases e;exact new
 ·rw [aE hb] at e
  exact (x b u e).stay (fun c v _ q=>k c v q) (fun c q=>by rw [aE (a_ q hn)];exact q) fun c xs q=>by rw [aE (a_ q hn)];exact q
end
noncomputable def Rd (H:Hp) (a:Addr) (u:HO):Prop:=H a=some u\/∃ o,H a=some (.frz o u)
theorem Rd.ok {P:Program} {w:World} {H:Hp} {h:Heap} {a:Addr} {u:HO} (r:Rd H a u) (x:HOk P w H h):ObjOk P w H h a u:=by
 rcases r with r | ⟨o,r⟩
 ·exact x a u r
 ·obtain ⟨_,q⟩:=x a _ r
  exact q
noncomputable def Mut:Option HO->Prop
 | some (.lst _)=>True
 | some (.dK _)=>True
 | some (.dT _)=>True
 | some (.set _ _)=>True
 | some (.ins _ _ _)=>True
 | some (.ext _)=>True
 | _=>False
section
variable {P:Program} {w:World} {H:Hp} {h h':Heap} {x e:Addr} {o':HO}
theorem HOk.write (ok:HOk P w H h) (mu:Mut (H x)) (he:e=x\/H e=some (.own x)) (k:∀ b u,b ≠ e->h.get? b=some u->h'.get? b=some u) (heo:∃ u,h'.get? e=some u)
  (new:ObjOk P w (upd H x o') h' x o'):HOk P w (upd H x o') h':=fun b u q=>by
 have nown:∀ c y,H c=some (.own y)->c ≠ x:=fun c y r z=>by subst z;rw [r] at mu;exact mu
 have ntup:∀ c xs,H c=some (.tup xs)->c ≠ x:=fun c xs r z=>by subst z;rw [r] at mu;exact mu
 by_cases hb:b=x
 ·subst hb;rw [aU] at q;cases q;exact new
 ·rw [aE hb] at q
  by_cases hbe:b=e
  ·have q':H b=some (.own x):=by
    rcases he with z | z
    ·exact absurd (hbe.trans z) hb
    ·rw [hbe];exact z
   rw [q] at q';cases q'
   obtain ⟨v,hv⟩:=heo
   exact ⟨v,by rw [hbe];exact hv⟩
  ·refine (ok b u q).stay (fun c v hc r=>k c v ?_ r) (fun c r=>by rw [aE (nown c b r)];exact r) fun c xs r=>by rw [aE (ntup c xs r)];exact r
   rcases hc with rfl | hc
   ·exact hbe
   ·rintro rfl
    rcases he with z | z
    ·exact nown c b hc z
    ·rw [hc] at z;cases z;exact hb rfl
end
structure Un (fs ex:List Addr) (H H':Hp) (h h':Heap):Prop where
 keep:∀ b o,h.get? b=some o->H b=none->b ∉ fs->b ∉ ex->h'.get? b=some o
 slot:∀ b o,h.get? b=some o->H b=none->b ∈ fs->b ∉ ex->∃ sl,h'.get? b=some { o with slots:=sl }
 free:∀ b o,h.get? b=some o->H b=none->b ∉ ex->H' b=none
 there:∀ b o,h.get? b=some o->b ∉ ex->∃ o',h'.get? b=some o'
 tups:∀ b xs,H b=some (.tup xs)->H' b=some (.tup xs)
 frzs:∀ b o u,H b=some (.frz o u)->H' b=some (.frz o u)
 tbls:∀ b ps,H b=some (.tbl ps)->∃ more,H' b=some (.tbl (ps ++ more))
section
variable {fs fs' ex ex':List Addr} {H H1 H2:Hp} {h h1 h2 h':Heap} {a x e:Addr} {o:HO}
theorem Un.any (u:Un fs ex H H1 h h1) {b:Addr} {ob:Obj} (q:h.get? b=some ob) (n:H b=none) (hx:b ∉ ex):∃ sl,h1.get? b=some { ob with slots:=sl }:=by
 by_cases hb:b ∈ fs
 ·exact u.slot b ob q n hb hx
 ·exact ⟨ob.slots,u.keep b ob q n hb hx⟩
theorem Un.kept (k:∀ b u,h.get? b=some u->h'.get? b=some u):Un fs ex H H h h' :=
 ⟨fun b ob q _ _ _=>k b ob q,fun b ob q _ _ _=>⟨ob.slots,k b ob q⟩,fun _ _ _ n _=>n,fun b ob q _=>⟨ob,k b ob q⟩,fun _ _ q=>q,fun _ _ _ q=>q,fun _ ps q=>⟨#[],by rw [q];simp⟩⟩
theorem Un.refl:Un fs ex H H h h:=Un.kept fun _ _ q=>q
theorem Un.laid (k:∀ b u,h.get? b=some u->h'.get? b=some u) (hp:h.objs.size<=a) (hn:H a=none):Un fs ex H (upd H a o) h h' where
 keep:=fun b u q _ _ _=>k b u q
 slot:=fun b u q _ _ _=>⟨u.slots,k b u q⟩
 free:=fun b u q n _=>by rw [aE (Nat.ne_of_lt (Nat.lt_of_lt_of_le (Heap.lt_size q) hp))];exact n
 there:=fun b u q _=>⟨u,k b u q⟩
 tups:=fun b xs q=>by rw [aE (a_ q hn)];exact q
 frzs:=fun b u xs q=>by rw [aE (a_ q hn)];exact q
 tbls:=fun b ps q=>⟨#[],by rw [aE (a_ q hn),q];simp⟩
theorem Un.write (mu:Mut (H x)) (he:e=x\/H e=some (.own x)) (k:∀ b u,b ≠ e->h.get? b=some u->h'.get? b=some u) (heo:∃ u,h'.get? e=some u):Un fs ex H (upd H x o) h h':=by
 have hx:∀ b,H b=none->b ≠ x:=fun b n z=>by subst z;rw [n] at mu;exact mu
 have hb:∀ b,H b=none->b ≠ e:=fun b n z=>by
  subst z
  rcases he with r | r
  ·exact hx b n r
  ·rw [n] at r;cases r
 have hm:∀ b u,H b=some u->¬ Mut (some u)->b ≠ x:=fun b u q nm z=>by subst z;rw [q] at mu;exact nm mu
 refine ⟨fun b u q n _ _=>k b u (hb b n) q,fun b u q n _ _=>⟨u.slots,k b u (hb b n) q⟩,fun b u q n _=>by rw [aE (hx b n)];exact n,fun b u q _=>?_,
  fun b xs q=>by rw [aE (hm b _ q fun z=>z)];exact q,fun b u xs q=>by rw [aE (hm b _ q fun z=>z)];exact q,fun b ps q=>⟨#[],by rw [aE (hm b _ q fun z=>z),q];simp⟩⟩
 by_cases hbe:b=e
 ·subst hbe;exact heo
 ·exact ⟨u,k b u hbe q⟩
end
noncomputable def trk (h:Heap) (H:Hp):List Addr:=(List.range h.objs.size).filter fun a=>(H a).isSome
noncomputable def nC (h:Heap) (H:Hp):Heap:=PySem.W.hideAll h (trk h H)
theorem sy (h:Heap) (H:Hp):(nC h H).objs.size=h.objs.size:=PySem.W.hideAll_size _ _
theorem uB {h:Heap} {H:Hp} {b:Addr} {o:Obj} (e:h.get? b=some o) (n:H b=none):(nC h H).get? b=some o :=
 PySem.W.hideAll_get _ e fun hm=>by
  have q:(H b).isSome=true:=(List.mem_filter.mp hm).2
  rw [n] at q;simp at q
theorem v6 {h:Heap} {H:Hp} {b:Addr} {o:Obj} (e:(nC h H).get? b=some o):h.get? b=some o/\H b=none:=by
 have e':h.get? b=some o:=PySem.W.of_hideAll (trk h H) e
 refine ⟨e',?_⟩
 cases q:H b with
 | none=>rfl
 | some x =>
  have hm:b ∈ trk h H:=List.mem_filter.mpr ⟨List.mem_range.mpr (Heap.lt_size e'),by simp [q]⟩
  have z:(nC h H).get? b=none:=PySem.W.hideAll_none (trk h H) hm
  rw [z] at e;cases e
end L2
namespace L2
open PySem PySem.Spec PyProof.Rows
structure Mod (K:PySem.W.Frag) (mg:Str->Option Value) (base:Heap):Prop where
 kin:K.In base
 glob:base.Ns mainGlobals mg
 blt:∃ mb,base.Ns builtinsNs mb/\∀ x:Str,x ≠ "__name__"->mb x=bootBuiltins x
 nolimit:base.NoLimit
structure Cx where
 prog:Program
 w:World
 K:PySem.W.Frag
 mg:Str->Option Value
 base:Heap
 A:Around
 N:List Str
 s₀:Shared
 H₀:Hp
 env:Env
 outer:List Env
 stack:List Env
 ex:List Addr
 fn:Str->Bool
 calm:Bool
 pn:List (Addr × Obj)
 xe:Value->Shared->Prop
noncomputable def frs (l:List Env):List Addr:=l.filterMap (·.frame)
noncomputable abbrev Cx.fs (X:Cx):List Addr:=frs X.outer
noncomputable def Vis (sc:Scope) (x:Str):Prop:=sc.names.lookup x=some .local\/sc.names.lookup x=some .cell\/sc.names.lookup x=some .free
noncomputable def Loc (sc:Scope) (x:Str):Prop:=sc.names.lookup x=some .local\/sc.names.lookup x=some .cell
noncomputable def AJ (env:Env) (h:Heap) (m:Str->Option Value) (x:Str) (u:Value):Prop :=
 (env.kindOf x=some .local/\m x=some u)\/((env.kindOf x=some .cell\/env.kindOf x=some .free)/\∃ c,env.cells.lookup x=some c/\h.IsCell c (some u))
structure Cx.Ok (X:Cx):Prop where
 mod:Mod X.K X.mg X.base
 kind:X.env.scope.kind=.function
 glob:X.env.globals=mainGlobals
 blt:X.env.builtins=builtinsNs
 above:X.s₀.heap.objs.size<=X.env.locals
 inj:∀ x y c,X.env.cells.lookup x=some c->X.env.cells.lookup y=some c->x=y
 has:∀ x,(X.env.kindOf x=some .cell\/X.env.kindOf x=some .free)->∃ c,X.env.cells.lookup x=some c
 cab:∀ x c,X.fn x=true->X.env.cells.lookup x=some c->X.s₀.heap.objs.size<=c
 hd:X.calm=true->X.A.handled=none
 frames:X.A.frames=some X.stack
 stk:X.stack=X.outer\/(X.stack=X.env :: X.outer/\X.env.frame=some X.env.locals)
 exf:∀ b ∈ X.ex,b ≠ X.env.locals/\∀ x c,X.env.cells.lookup x=some c->c ≠ b
 bs:∀ b o,X.base.get? b=some o->X.s₀.heap.get? b=some o/\X.H₀ b=none
 bsz:X.base.objs.size<=X.s₀.heap.objs.size
 noex:∀ b o,X.base.get? b=some o->b ∉ X.ex
 exfs:∀ b ∈ X.ex,b ∉ X.fs
 funs:X.s₀.heap.FunFrames X.base X.outer
 frf:∀ b ∈ X.fs,X.H₀ b=none
structure Inv (X:Cx) (pins:List (Addr × Obj)) (σ:List (Option V)) (H:Hp) (s:Shared):Prop where
 ok:X.Ok
 os:s.os=X.s₀.os
 bare:AllBare s.gens
 base:Un X.fs X.ex X.H₀ H X.s₀.heap s.heap
 loc:∃ m,s.heap.Ns X.env.locals m/\∀ (i:Nat) (x:Str) (v:V),X.N[i]?=some x->σ[i]?=some (some v)->Vis X.env.scope x->∃ u,RelV v u/\AJ X.env s.heap m x u
 cell:∀ x c,X.env.cells.lookup x=some c->∃ v,s.heap.IsCell c v
 free:H X.env.locals=none
 freeC:∀ x c,X.env.cells.lookup x=some c->H c=none
 pin:∀ p ∈ X.pn ++ pins,s.heap.get? p.1=some p.2/\H p.1=none/\p.1 ≠ X.env.locals/\p.1 ∉ X.fs/\∀ v,p.2.data ≠ .cell v
 hok:HOk X.prog X.w H s.heap
 len:σ.length=X.N.length
section
variable {X:Cx} {pins:List (Addr × Obj)} {σ:List (Option V)} {H H':Hp} {s:Shared} {h':Heap}
theorem Cx.Ok.nofr (ok:X.Ok) {b:Addr} {o:Obj} (e:X.base.get? b=some o):b ∉ X.fs:=fun hb=>by
 have:=(ok.funs.mem hb).1
 rw [e] at this;cases this
theorem Inv.bs (I:Inv X pins σ H s):∀ b o,X.base.get? b=some o->s.heap.get? b=some o/\H b=none:=fun b o e =>
 ⟨I.base.keep b o (I.ok.bs b o e).1 (I.ok.bs b o e).2 (I.ok.nofr e) (I.ok.noex b o e),I.base.free b o (I.ok.bs b o e).1 (I.ok.bs b o e).2 (I.ok.noex b o e)⟩
theorem Inv.bk (I:Inv X pins σ H s):∀ b o,X.base.get? b=some o->s.heap.get? b=some o:=fun b o e=>(I.bs b o e).1
theorem Inv.mod (I:Inv X pins σ H s):Mod X.K X.mg X.base:=I.ok.mod
theorem Inv.kIn (I:Inv X pins σ H s):X.K.In s.heap:=I.ok.mod.kin.keeps I.bk
theorem Inv.lt (I:Inv X pins σ H s):X.env.locals < s.heap.objs.size:=let ⟨_,hn,_⟩:=I.loc;hn.lt
theorem Inv.sz (I:Inv X pins σ H s):X.s₀.heap.objs.size<=s.heap.objs.size:=Nat.le_trans I.ok.above (Nat.le_of_lt I.lt)
theorem Inv.nofs (I:Inv X pins σ H s) {a:Addr} (h:s.heap.objs.size<=a):a ∉ X.fs:=fun hb=>by
 obtain ⟨_,o,ho,_⟩:=I.ok.funs.mem hb
 exact absurd (Nat.lt_of_lt_of_le (Heap.lt_size ho) (Nat.le_trans I.sz h)) (Nat.lt_irrefl _)
theorem Inv.cne (I:Inv X pins σ H s):∀ x c,X.env.cells.lookup x=some c->c ≠ X.env.locals:=fun x c e z=>by
 obtain ⟨v,o,ho,hd⟩:=I.cell x c e
 obtain ⟨m,⟨o',es,ep,ho',hd',_⟩,_⟩:=I.loc
 rw [z,ho'] at ho;cases ho;rw [hd'] at hd;cases hd
theorem Inv.funs (I:Inv X pins σ H s):s.heap.FunFrames X.base X.outer:=by
 have all:∀ (l:List Env),(∀ b ∈ frs l,b ∈ X.fs)->X.s₀.heap.FunFrames X.base l->s.heap.FunFrames X.base l:=by
  intro l
  induction l with
  | nil=>intro _ _;trivial
  | cons env r ih =>
   intro hs hl
   obtain ⟨hk,⟨L,o,hf,hn,ho,hd⟩,hr⟩:=hl
   have hL:L ∈ X.fs:=hs L (by unfold frs;rw [List.filterMap_cons,hf];exact List.mem_cons_self)
   obtain ⟨sl,e⟩:=I.base.slot L o ho (I.ok.frf L hL) hL fun z=>I.ok.exfs L z hL
   exact ⟨hk,⟨L,_,hf,hn,e,hd⟩,ih (fun b hb=>hs b (by unfold frs;rw [List.filterMap_cons,hf];exact List.mem_cons_of_mem _ hb)) hr⟩
 exact all X.outer (fun _ hb=>hb) I.ok.funs
theorem Inv.stack (I:Inv X pins σ H s):s.heap.FunFrames X.base X.stack:=by
 rcases I.ok.stk with e | ⟨e,hf⟩
 ·rw [e];exact I.funs
 ·rw [e]
  obtain ⟨m,hn,_⟩:=I.loc
  refine .cons (by rw [I.ok.kind];decide) hf hn ?_ I.funs
  exact Heap.get?_none_of_le (Nat.le_trans I.ok.bsz I.ok.above)
theorem Inv.stkSub (I:Inv X pins σ H s):∀ b ∈ frs X.stack,b ∈ X.env.locals :: X.fs:=fun b hb=>by
 rcases I.ok.stk with e | ⟨e,hf⟩
 ·rw [e] at hb;exact List.mem_cons_of_mem _ hb
 ·rw [e] at hb
  unfold frs at hb
  rw [List.filterMap_cons,hf] at hb
  exact hb
theorem Inv.stkFree (I:Inv X pins σ H s):∀ b ∈ frs X.stack,H b=none:=fun b hb=>by
 rcases List.mem_cons.mp (I.stkSub b hb) with e | hb
 ·rw [e];exact I.free
 ·obtain ⟨_,o,ho,_⟩:=I.ok.funs.mem hb
  exact I.base.free b o ho (I.ok.frf b hb) fun z=>I.ok.exfs b z hb
theorem Inv.step {g':Array GenState} {t':Nat} {d':Drawn} {ch:List Addr} (I:Inv X pins σ H s)
  (hch:∀ b ∈ ch,(b ∈ X.ex\/X.s₀.heap.objs.size<=b)/\b ≠ X.env.locals/\(∀ x c,X.env.cells.lookup x=some c->c ≠ b)/\∀ p ∈ X.pn ++ pins,p.1 ≠ b)
  (keep:∀ b o,b ≠ X.env.locals->b ∉ X.fs->b ∉ ch->s.heap.get? b=some o->H b=none->h'.get? b=some o)
  (slot:∀ b o,b ≠ X.env.locals->b ∈ X.fs->b ∉ ch->s.heap.get? b=some o->H b=none->∃ sl,h'.get? b=some { o with slots:=sl }) (free:∀ b o,b ∉ ch->s.heap.get? b=some o->H b=none->H' b=none)
  (there:∀ b o,b ∉ ch->s.heap.get? b=some o->∃ o',h'.get? b=some o')
  (tups:∀ b xs,H b=some (.tup xs)->H' b=some (.tup xs)) (frzs:∀ b o u,H b=some (.frz o u)->H' b=some (.frz o u)) (tbls:∀ b ps,H b=some (.tbl ps)->∃ more,H' b=some (.tbl (ps ++ more)))
  (ns:∀ m,s.heap.Ns X.env.locals m->h'.Ns X.env.locals m) (hok:HOk X.prog X.w H' h') (hg:AllBare g') :
  Inv X pins σ H' { s with heap:=h',gens:=g',drawn:=d',toks:=t' }:=by
 have neL:∀ b o,X.s₀.heap.get? b=some o->b ≠ X.env.locals:=fun b o e=>Nat.ne_of_lt (Nat.lt_of_lt_of_le (Heap.lt_size e) I.ok.above)
 have neC:∀ b o,X.s₀.heap.get? b=some o->b ∉ X.ex->b ∉ ch:=fun b o e hx hb=>by
  rcases (hch b hb).1 with z | z
  ·exact hx z
  ·exact absurd (Nat.lt_of_lt_of_le (Heap.lt_size e) z) (Nat.lt_irrefl _)
 have cellK:∀ x c,X.env.cells.lookup x=some c->∀ v,s.heap.IsCell c v->h'.IsCell c v:=fun x c e v ⟨o,ho,hd⟩=>by
  have nch:c ∉ ch:=fun z=>(hch c z).2.2.1 x c e rfl
  by_cases hc:c ∈ X.fs
  ·obtain ⟨sl,q⟩:=slot c o (I.cne x c e) hc nch ho (I.freeC x c e)
   exact ⟨_,q,hd⟩
  ·exact ⟨o,keep c o (I.cne x c e) hc nch ho (I.freeC x c e),hd⟩
 refine ⟨I.ok,I.os,hg,⟨fun b o e n hb hx=>?_,fun b o e n hb hx=>?_,fun b o e n hx=>?_,fun b o e hx=>?_,fun b xs e=>tups b xs (I.base.tups b xs e),fun b o xs e=>frzs b o xs (I.base.frzs b o xs e),fun b ps e=>?_⟩,?_,fun x c e=>?_,?_,fun x c e=>?_,fun p hp=>?_,hok,I.len⟩
 ·exact keep b o (neL b o e) hb (neC b o e hx) (I.base.keep b o e n hb hx) (I.base.free b o e n hx)
 ·obtain ⟨sl,e1⟩:=I.base.slot b o e n hb hx
  obtain ⟨sl',e2⟩:=slot b _ (neL b o e) hb (neC b o e hx) e1 (I.base.free b o e n hx)
  exact ⟨sl',e2⟩
 ·obtain ⟨o',e1⟩:=I.base.there b o e hx
  exact free b o' (neC b o e hx) e1 (I.base.free b o e n hx)
 ·obtain ⟨o',e1⟩:=I.base.there b o e hx
  exact there b o' (neC b o e hx) e1
 ·obtain ⟨m1,e1⟩:=I.base.tbls b ps e
  obtain ⟨m2,e2⟩:=tbls b _ e1
  exact ⟨m1 ++ m2,by rw [e2,Array.append_assoc]⟩
 ·obtain ⟨m,hn,hl⟩:=I.loc
  refine ⟨m,ns m hn,fun i x v e1 e2 e3=>?_⟩
  obtain ⟨u,r,l⟩:=hl i x v e1 e2 e3
  refine ⟨u,r,?_⟩
  rcases l with l | ⟨k,c,e,z⟩
  ·exact .inl l
  ·exact .inr ⟨k,c,e,cellK x c e _ z⟩
 ·obtain ⟨v,z⟩:=I.cell x c e
  exact ⟨v,cellK x c e v z⟩
 ·obtain ⟨m,⟨o,_,_,ho,_⟩,_⟩:=I.loc
  exact free _ o (fun z=>(hch _ z).2.1 rfl) ho I.free
 ·obtain ⟨v,o,ho,hd⟩:=I.cell x c e
  exact free c o (fun z=>(hch c z).2.2.1 x c e rfl) ho (I.freeC x c e)
 ·obtain ⟨e,n,ne,nf,d⟩:=I.pin p hp
  have nch:p.1 ∉ ch:=fun z=>(hch p.1 z).2.2.2 p hp rfl
  exact ⟨keep p.1 p.2 ne nf nch e n,free p.1 p.2 nch e n,ne,nf,d⟩
theorem Inv.un {t':Nat} (I:Inv X pins σ H s) (u:Un X.fs [] H H' s.heap h') (hok:HOk X.prog X.w H' h'):Inv X pins σ H' { s with heap:=h',toks:=t' }:=by
 obtain ⟨m,⟨o,es,ep,ho,r⟩,_⟩:=id I.loc
 obtain ⟨sl,hL⟩:=u.any ho I.free (by simp)
 exact I.step (g':=s.gens) (d':=s.drawn) (ch:=[]) (fun _ z=>nomatch z) (fun b o _ hb _ e n=>u.keep b o e n hb (by simp)) (fun b o _ hb _ e n=>u.slot b o e n hb (by simp)) (fun b o _ e n=>u.free b o e n (by simp)) (fun b o _ e=>u.there b o e (by simp)) u.tups u.frzs u.tbls (fun m' hm=>by
  obtain ⟨o',es',ep',ho',r'⟩:=hm
  rw [ho] at ho';cases ho'
  exact ⟨_,es',ep',hL,r'⟩) hok I.bare
theorem Inv.call {g':Array GenState} {t':Nat} {d':Drawn} {ch:List Addr} (I:Inv X pins σ H s) (u:Un (frs X.stack) ch H H' s.heap h') (hok:HOk X.prog X.w H' h') (hg:AllBare g')
  (hch:∀ b ∈ ch,(b ∈ X.ex\/X.s₀.heap.objs.size<=b)/\b ≠ X.env.locals/\(∀ x c,X.env.cells.lookup x=some c->c ≠ b)/\∀ p ∈ X.pn ++ pins,p.1 ≠ b) :
  Inv X pins σ H' { s with heap:=h',gens:=g',drawn:=d',toks:=t' }:=by
 obtain ⟨m,⟨o,es,ep,ho,r⟩,_⟩:=id I.loc
 obtain ⟨sl,hL⟩:=u.any ho I.free fun z=>(hch _ z).2.1 rfl
 exact I.step (ch:=ch) hch (fun b o hL hb hc e n=>u.keep b o e n (fun z=>(List.mem_cons.mp (I.stkSub b z)).elim hL hb) hc) (fun b o _ _ hc e n=>u.any e n hc) (fun b o hc e n=>u.free b o e n hc) (fun b o hc e=>u.there b o e hc) u.tups u.frzs u.tbls (fun m' hm=>by
  obtain ⟨o',es',ep',ho',r'⟩:=hm
  rw [ho] at ho';cases ho'
  exact ⟨_,es',ep',hL,r'⟩) hok hg
theorem Inv.turned {t':Nat} {it:Addr} (I:Inv X pins σ H s) (k:∀ b o,b ≠ it->s.heap.get? b=some o->h'.get? b=some o) (hn:H it=none) (hL:it ≠ X.env.locals)
  (h1:it ∈ X.ex\/X.s₀.heap.objs.size<=it) (h2:∀ x c,X.env.cells.lookup x=some c->c ≠ it) (h3:∀ p ∈ X.pn ++ pins,p.1 ≠ it):Inv X pins σ H { s with heap:=h',toks:=t' }:=by
 have nit:∀ b u,H b=some u->b ≠ it:=fun b u e z=>by rw [z,hn] at e;cases e
 refine I.step (g':=s.gens) (d':=s.drawn) (ch:=[it]) (fun b hb=>?_) (fun b o _ _ hc e _=>k b o (fun z=>hc (by simp [z])) e) (fun b o _ _ hc e _=>⟨o.slots,k b o (fun z=>hc (by simp [z])) e⟩) (fun _ _ _ _ n=>n)
  (fun b o hc e=>⟨o,k b o (fun z=>hc (by simp [z])) e⟩) (fun _ _ e=>e) (fun _ _ _ e=>e) (fun b ps e=>⟨#[],by rw [e];simp⟩) (fun m hm=>?_) (fun b u e=>?_) I.bare
 ·have e:b=it:=by simpa using hb
  subst e
  exact ⟨h1,hL,h2,h3⟩
 ·obtain ⟨o,es,ep,ho,r⟩:=hm
  exact ⟨o,es,ep,k _ o (Ne.symm hL) ho,r⟩
 ·refine (I.hok b u e).stay (fun c v hc q=>k c v ?_ q) (fun _ q=>q) fun _ _ q=>q
  rcases hc with z | z
  ·rw [z];exact nit b u e
  ·exact nit c _ z
theorem Inv.tok (I:Inv X pins σ H s) (t:Nat):Inv X pins σ H { s with toks:=t }:=I.un (h':=s.heap) (t':=t) Un.refl I.hok
theorem Inv.kept {t':Nat} (I:Inv X pins σ H s) (k:∀ b u,s.heap.get? b=some u->h'.get? b=some u):Inv X pins σ H { s with heap:=h',toks:=t' }:=I.un (Un.kept k) (I.hok.kept k)
theorem Inv.laid {a:Addr} {o:HO} {t':Nat} (I:Inv X pins σ H s) (k:∀ b u,s.heap.get? b=some u->h'.get? b=some u) (hp:s.heap.objs.size<=a) (new:ObjOk X.prog X.w (upd H a o) h' a o) :
  Inv X pins σ (upd H a o) { s with heap:=h',toks:=t' }:=I.un (Un.laid k hp (I.hok.fresh hp)) (I.hok.laid k hp new)
theorem Inv.write {x e:Addr} {o:HO} {t':Nat} (I:Inv X pins σ H s) (mu:Mut (H x)) (he:e=x\/H e=some (.own x)) (k:∀ b u,b ≠ e->s.heap.get? b=some u->h'.get? b=some u) (heo:∃ u,h'.get? e=some u)
  (new:ObjOk X.prog X.w (upd H x o) h' x o):Inv X pins σ (upd H x o) { s with heap:=h',toks:=t' }:=I.un (Un.write mu he k heo) (I.hok.write mu he k heo new)
theorem Inv.pins_of {pins':List (Addr × Obj)} (I:Inv X pins σ H s) (h:∀ p ∈ pins',s.heap.get? p.1=some p.2/\H p.1=none/\p.1 ≠ X.env.locals/\p.1 ∉ X.fs/\∀ v,p.2.data ≠ .cell v):Inv X pins' σ H s :=
 ⟨I.ok,I.os,I.bare,I.base,I.loc,I.cell,I.free,I.freeC,fun p hp=>(List.mem_append.mp hp).elim (fun z=>I.pin p (List.mem_append_left _ z)) (h p),I.hok,I.len⟩
theorem oP {N:List Str} (hN:N.Nodup) {i j:Nat} {x:Str} (a:N[i]?=some x) (b:N[j]?=some x):i=j:=by
 obtain ⟨h1,e1⟩:=List.getElem?_eq_some_iff.mp a
 obtain ⟨h2,e2⟩:=List.getElem?_eq_some_iff.mp b
 exact (List.getElem_inj hN).mp (e1.trans e2.symm)
theorem rY {M:Model} {A:Around} {E:Value->Shared->Prop} {i:Nat} {x:Str} {v:V} {u:Value} {Q:Unit->Shared->Prop} (I:Inv X pins σ H s) (hN:X.N.Nodup) (hi:X.N[i]?=some x) (hx:Loc X.env.scope x) (r:RelV v u)
  (h:∀ s',Inv X pins (σ.set i (some v)) H s'->(∃ a,Heap.SameBut a s.heap s'.heap/\(a=X.env.locals\/X.env.cells.lookup x=some a))->Q () s') (hf:X.fn x=true\/X.env.scope.names.lookup x=some .local:=by first | exact .inl rfl | exact .inr rfl | assumption):wpAny M A (storeName X.env x u) Q E s:=by
 obtain ⟨m,hn,hl⟩:=id I.loc
 have hcls:(X.env.scope.kind == .class || (X.env.scope.kind == .module && X.env.locals != X.env.globals))=false:=by rw [I.ok.kind];rfl
 have hiσ:i < σ.length:=by rw [I.len];exact (List.getElem?_eq_some_iff.mp hi).1
 have cne:=I.cne
 have tracked:∀ {a:Addr} {h':Heap},(∃ o,s.heap.get? a=some o/\H a=none)->Heap.SameBut a s.heap h'->HOk X.prog X.w H h':=fun {a h'} ha hs b ob e=>by
  obtain ⟨_,_,hfree⟩:=ha
  refine (I.hok b ob e).stay (fun c w' hc q=>(hs.2 c ?_).trans q) (fun _ q=>q) fun _ _ q=>q
  rintro rfl
  rcases hc with rfl | hc
  ·rw [hfree] at e;cases e
  ·rw [hfree] at hc;cases hc
 rcases hx with hk | hk
 ·refine wpAny_storeName_local hk hn (fun h' hn' hs=>?_) hcls
  obtain ⟨oL,_,_,hoL,_⟩:=id hn
  refine h _ ⟨I.ok,I.os,I.bare,⟨fun b o e n hb hx=>?_,fun b o e n hb hx=>?_,I.base.free,fun b o e hx=>?_,I.base.tups,I.base.frzs,I.base.tbls⟩,⟨_,hn',fun j y v' e1 e2 e3=>?_⟩,fun y c e=>?_,I.free,I.freeC,fun p hp=>?_,tracked ⟨oL,hoL,I.free⟩ hs,by simpa using I.len⟩ ⟨_,hs,.inl rfl⟩
  ·exact (hs.2 b (Nat.ne_of_lt (Nat.lt_of_lt_of_le (Heap.lt_size e) I.ok.above))).trans (I.base.keep b o e n hb hx)
  ·obtain ⟨sl,e1⟩:=I.base.slot b o e n hb hx
   exact ⟨sl,(hs.2 b (Nat.ne_of_lt (Nat.lt_of_lt_of_le (Heap.lt_size e) I.ok.above))).trans e1⟩
  ·obtain ⟨o',e1⟩:=I.base.there b o e hx
   exact ⟨o',(hs.2 b (Nat.ne_of_lt (Nat.lt_of_lt_of_le (Heap.lt_size e) I.ok.above))).trans e1⟩
  ·by_cases hj:j=i
   ·subst hj
    rw [hi] at e1;cases e1
    rw [List.getElem?_set_self hiσ] at e2
    cases e2
    exact ⟨u,r,.inl ⟨hk,by simp⟩⟩
   ·rw [List.getElem?_set_ne (Ne.symm hj)] at e2
    obtain ⟨u',r',q⟩:=hl j y v' e1 e2 e3
    refine ⟨u',r',?_⟩
    rcases q with ⟨k,e⟩ | ⟨k,c,e,z⟩
    ·refine .inl ⟨k,?_⟩
     have:y ≠ x:=fun e=>hj (oP hN e1 (e ▸ hi))
     simp [this,e]
    ·exact .inr ⟨k,c,e,z.sameBut hs (cne y c e)⟩
  ·obtain ⟨w',z⟩:=I.cell y c e
   exact ⟨w',z.sameBut hs (cne y c e)⟩
  ·obtain ⟨e,n,ne,nf,d⟩:=I.pin p hp
   exact ⟨(hs.2 p.1 ne).trans e,n,ne,nf,d⟩
 ·have hfn:X.fn x=true:=by
   rcases hf with z | z
   ·exact z
   ·rw [z] at hk;cases hk
  obtain ⟨c,hc⟩:=I.ok.has x (.inl hk)
  obtain ⟨w',z⟩:=I.cell x c hc
  refine wpAny_storeName_cell I.ok.kind hk hc z (fun h' hc' hs=>?_)
  obtain ⟨oc,hoc,hocd⟩:=id z
  refine h { s with heap:=h' } ⟨I.ok,I.os,I.bare,⟨fun b o e n hb hx=>?_,fun b o e n hb hx=>?_,I.base.free,fun b o e hx=>?_,I.base.tups,I.base.frzs,I.base.tbls⟩,⟨m,hn.sameBut hs (Ne.symm (cne x c hc)),fun j y v' e1 e2 e3=>?_⟩,fun y c' e=>?_,I.free,I.freeC,fun p hp=>?_,tracked ⟨oc,hoc,I.freeC x c hc⟩ hs,by simpa using I.len⟩ ⟨c,hs,.inr hc⟩
  ·exact (hs.2 b (Nat.ne_of_lt (Nat.lt_of_lt_of_le (Heap.lt_size e) (I.ok.cab x c hfn hc)))).trans (I.base.keep b o e n hb hx)
  ·obtain ⟨sl,e1⟩:=I.base.slot b o e n hb hx
   exact ⟨sl,(hs.2 b (Nat.ne_of_lt (Nat.lt_of_lt_of_le (Heap.lt_size e) (I.ok.cab x c hfn hc)))).trans e1⟩
  ·obtain ⟨o',e1⟩:=I.base.there b o e hx
   exact ⟨o',(hs.2 b (Nat.ne_of_lt (Nat.lt_of_lt_of_le (Heap.lt_size e) (I.ok.cab x c hfn hc)))).trans e1⟩
  ·by_cases hj:j=i
   ·subst hj
    rw [hi] at e1;cases e1
    rw [List.getElem?_set_self hiσ] at e2
    cases e2
    exact ⟨u,r,.inr ⟨.inl hk,c,hc,hc'⟩⟩
   ·rw [List.getElem?_set_ne (Ne.symm hj)] at e2
    obtain ⟨u',r',q⟩:=hl j y v' e1 e2 e3
    refine ⟨u',r',?_⟩
    rcases q with q | ⟨k,c',e,z'⟩
    ·exact .inl q
    ·refine .inr ⟨k,c',e,z'.sameBut hs ?_⟩
     rintro rfl
     exact hj (oP hN e1 (I.ok.inj _ _ _ e hc ▸ hi))
  ·by_cases hcc:c'=c
   ·subst hcc;exact ⟨_,hc'⟩
   ·obtain ⟨w2,z2⟩:=I.cell y c' e
    exact ⟨w2,z2.sameBut hs hcc⟩
  ·obtain ⟨e,n,ne,nf,d⟩:=I.pin p hp
   refine ⟨(hs.2 p.1 ?_).trans e,n,ne,nf,d⟩
   intro q
   rw [q,hoc] at e
   have q':oc=p.2:=Option.some.inj e
   exact d w' (by rw [<- q'];exact hocd)
theorem oz {M:Model} {A:Around} {E:Value->Shared->Prop} {i:Nat} {x:Str} {v:V} {u:Value} {Q:Unit->Shared->Prop} (I:Inv X pins σ H s) (hN:X.N.Nodup) (hi:X.N[i]?=some x) (hx:Loc X.env.scope x) (r:RelV v u)
  (h:∀ s',Inv X pins (σ.set i (some v)) H s'->Q () s') (hf:X.fn x=true\/X.env.scope.names.lookup x=some .local:=by first | exact .inl rfl | exact .inr rfl | assumption):wpAny M A (storeName X.env x u) Q E s :=
 rY I hN hi hx r (fun s' I' _=>h s' I') hf
theorem Inv.call' {s':Shared} {ch:List Addr} (I:Inv X pins σ H s) (ho:s'.os=s.os) (u:Un (frs X.stack) ch H H' s.heap s'.heap) (hok:HOk X.prog X.w H' s'.heap) (hg:AllBare s'.gens)
  (hch:∀ b ∈ ch,(b ∈ X.ex\/X.s₀.heap.objs.size<=b)/\b ≠ X.env.locals/\(∀ x c,X.env.cells.lookup x=some c->c ≠ b)/\∀ p ∈ X.pn ++ pins,p.1 ≠ b):Inv X pins σ H' s':=by
 obtain ⟨h',g',d',t',o'⟩:=s'
 have e:o'=s.os:=ho
 subst e
 exact I.call (g':=g') (t':=t') (d':=d') u hok hg hch
end
noncomputable abbrev XK:=Value->Option Addr->Hp->Prop
noncomputable abbrev St:=List (Option V)
noncomputable abbrev VK:=V->Hp->Prop
noncomputable abbrev TE:=St->Hp->VK->Prop
noncomputable abbrev TT:=St->Hp->(Bool->Hp->Prop)->Prop
noncomputable abbrev TA:=St->Hp->(List V->Hp->Prop)->Prop
structure je where
 nx:St->Hp->Prop
 rt:VK
 bk:St->Hp->Prop:=fun _ _=>False
 ct:St->Hp->Prop:=fun _ _=>False
noncomputable abbrev TS:=je->St->Hp->Prop
noncomputable def EP (X:Cx) (pins:List (Addr × Obj)) (σ:St) (Q:VK) (u:Value) (s':Shared):Prop:=∃ v H',Inv X pins σ H' s'/\RelV v u/\Q v H'
noncomputable def TP (X:Cx) (pins:List (Addr × Obj)) (σ:St) (Q:Bool->Hp->Prop) (b:Bool) (s':Shared):Prop:=∃ H',Inv X pins σ H' s'/\Q b H'
noncomputable def AP (X:Cx) (pins:List (Addr × Obj)) (σ:St) (Q:List V->Hp->Prop) (us:List Value) (s':Shared):Prop:=∃ vs H',Inv X pins σ H' s'/\Vals vs us/\Q vs H'
noncomputable def SP (X:Cx) (pins:List (Addr × Obj)) (D:je) (f:Flow) (s':Shared):Prop :=
 match f with
 | .next=>∃ σ' H',Inv X pins σ' H' s'/\D.nx σ' H'
 | .brk=>∃ σ' H',Inv X pins σ' H' s'/\D.bk σ' H'
 | .cont=>∃ σ' H',Inv X pins σ' H' s'/\D.ct σ' H'
 | .ret u=>∃ v σ' H',Inv X pins σ' H' s'/\RelV v u/\D.rt v H'
noncomputable def PE (X:Cx) (e:Expr) (t:TE):Prop :=
 ∀ (pins:List (Addr × Obj)) (s:Shared) (σ:St) (H:Hp) (Q:VK),Inv X pins σ H s->t σ H Q->wpAny (model X.prog X.w) X.A (eval e X.env) (EP X pins σ Q) X.xe s
noncomputable def PT (X:Cx) (e:Expr) (t:TT):Prop :=
 ∀ (pins:List (Addr × Obj)) (s:Shared) (σ:St) (H:Hp) (Q:Bool->Hp->Prop),Inv X pins σ H s->t σ H Q->wpAny (model X.prog X.w) X.A (isTrue e X.env (eval e X.env)) (TP X pins σ Q) X.xe s
noncomputable def PW (X:Cx) (e:Expr) (t:TT):Prop :=
 ∀ (whole:Sem Value) (pins:List (Addr × Obj)) (s:Shared) (σ:St) (H:Hp) (Q:Bool->Hp->Prop),Inv X pins σ H s->t σ H Q->wpAny (model X.prog X.w) X.A (isTrue e X.env whole) (TP X pins σ Q) X.xe s
theorem PW.pt {X:Cx} {e:Expr} {t:TT} (h:PW X e t):PT X e t:=h _
noncomputable def PA (X:Cx) (es:List Expr) (t:TA):Prop :=
 ∀ (pos:Pos) (pins:List (Addr × Obj)) (s:Shared) (σ:St) (H:Hp) (Q:List V->Hp->Prop),Inv X pins σ H s->t σ H Q->wpAny (model X.prog X.w) X.A (spliced (backTo pos (starEach es X.env))) (AP X pins σ Q) X.xe s
noncomputable def PS (X:Cx) (st:Stmt) (t:TS):Prop :=
 ∀ (pins:List (Addr × Obj)) (s:Shared) (σ:St) (H:Hp) (D:je),Inv X pins σ H s->t D σ H->wpAny (model X.prog X.w) X.A (exec st X.env) (SP X pins D) X.xe s
noncomputable def PSs (X:Cx) (st:List Stmt) (t:TS):Prop :=
 ∀ (pins:List (Addr × Obj)) (s:Shared) (σ:St) (H:Hp) (D:je),Inv X pins σ H s->t D σ H->wpAny (model X.prog X.w) X.A (execs st X.env) (SP X pins D) X.xe s
theorem thn {α:Type} {t:Sem α} {Q Q':α->Shared->Prop} {M:Model} {A:Around} {E:Value->Shared->Prop} {s:Shared} (h:wpAny M A t Q E s) (hQ:∀ a s,Q a s->Q' a s):wpAny M A t Q' E s:=wpAny_mono h hQ fun _ _ x=>x
end L2
namespace L2
open PySem PySem.Spec PyProof.Rows
section
variable {X:Cx}
noncomputable def d9 (i:Nat):TE:=fun σ H Q=>∃ v,σ[i]?=some (some v)/\Q v H
noncomputable def tC (v:V):TE:=fun _ H Q=>Q v H
theorem xQ {i:Nat} {x:Str} {pos:Pos} (hN:X.N[i]?=some x) (hv:Vis X.env.scope x) (hd:(x == ("__debug__":Str))=false:=by decide) (hcd:(x == ("__classdict__":Str))=false:=by decide):PE X (.Name x pos) (d9 i):=by
 intro pins s σ H Q I h
 obtain ⟨v,e,h⟩:=h
 obtain ⟨m,hn,hl⟩:=I.loc
 obtain ⟨u,r,l⟩:=hl i x v hN e hv
 have fin:EP X pins σ Q u s:=⟨v,H,I,r,h⟩
 rcases l with ⟨hk,hm⟩ | ⟨hk,c,hc,hcell⟩
 ·exact wpAny_Name (wpAny_loadName_local I.ok.kind hk hn hm fin) hd
 ·rcases hk with hk | hk
  ·exact wpAny_Name (wpAny_loadName_cell I.ok.kind hk hc hcell fin) hd
  ·exact wpAny_Name (wpAny_loadName_free I.ok.kind hk hc hcell fin hcd) hd
theorem xV {i j pos}:PE X (.Constant (.int i) j pos) (tC (.int i)):=fun _ _ _ H _ I h=>wpAny_Constant_int ⟨.int i,H,I.tok _,⟨_,rfl⟩,h⟩
theorem w5 {b j pos}:PE X (.Constant (.bool b) j pos) (tC (.bl b)):=fun _ _ _ H _ I h=>Constant_bool ⟨.bl b,H,I,rfl,h⟩
noncomputable def Gl (X:Cx) (x:Str):Prop:=X.env.kindOf x=some .globalImplicit
theorem gq {E:Value->Shared->Prop} {pins:List (Addr × Obj)} {s:Shared} {σ:St} {H:Hp} {x:Str} {u:Value} {pos:Pos} {Q:Value->Shared->Prop} (I:Inv X pins σ H s) (hg:Gl X x) (hm:X.mg x=some u) (h:Q u s)
  (hd:(x == ("__debug__":Str))=false:=by decide):wpAny (model X.prog X.w) X.A (eval (.Name x pos) X.env) Q E s :=
 Calls.Name_function_global I.ok.kind hg (Calls.loadGlobal_global (by rw [I.ok.glob];exact I.mod.glob.keeps I.bk) hm h) hd
theorem gS {E:Value->Shared->Prop} {pins:List (Addr × Obj)} {s:Shared} {σ:St} {H:Hp} {x:Str} {u:Value} {pos:Pos} {Q:Value->Shared->Prop} (I:Inv X pins σ H s) (hg:Gl X x) (hm:X.mg x=none) (hv:bootBuiltins x=some u) (h:Q u s)
  (hn:x ≠ "__name__":=by decide) (hd:(x == ("__debug__":Str))=false:=by decide):wpAny (model X.prog X.w) X.A (eval (.Name x pos) X.env) Q E s:=by
 obtain ⟨mb,h1,h2⟩:=I.mod.blt
 exact Calls.Name_function_global I.ok.kind hg (Calls.loadGlobal_builtin (by rw [I.ok.glob];exact I.mod.glob.keeps I.bk) hm (by rw [I.ok.blt];exact h1.keeps I.bk) ((h2 x hn).trans hv) h) hd
theorem vR {x:Str} {v:V} {u:Value} {pos:Pos} (hg:Gl X x) (hm:X.mg x=some u) (r:RelV v u) (hd:(x == ("__debug__":Str))=false:=by decide):PE X (.Name x pos) (tC v) :=
 fun _ _ _ H _ I h=>gq I hg hm ⟨v,H,I,r,h⟩ hd
variable {a b:Expr} {ta tb:TE} {pos:Pos}
noncomputable def tB (t:TE):TT:=fun σ H Q=>t σ H fun x H1=>∃ c,x=.bl c/\Q c H1
theorem xI {e:Expr} {t:TE} (h:PE X e t) (he:∀ whole,isTrue e X.env whole=(do let v <- whole;standAt e.pos;holding [v] (truthy v)):=by intro _;rfl):PT X e (tB t):=by
 intro pins s σ H Q I hw
 refine isTrue_plain (thn (h pins s σ H _ I hw) fun v s1 ⟨x,H1,I1,r1,q1⟩=>?_) (he _)
 obtain ⟨d,rfl,q⟩:=q1
 cases r1
 exact wpAny_truthy_bool ⟨H1,I1,q⟩
variable {tA tB':TT} {rest:List Expr}
noncomputable def Aj (t u:TT):TT:=fun σ H Q=>t σ H fun c H1=>if c=true then u σ H1 Q else Q false H1
noncomputable def tOr (t u:TT):TT:=fun σ H Q=>t σ H fun c H1=>if c=true then Q true H1 else u σ H1 Q
noncomputable def Ae (t:TT):TT:=fun σ H Q=>t σ H fun c H1=>Q (!c) H1
theorem vH (ha:PT X a tA):PW X (.BoolOp .And [a] pos) tA:=by
 intro wh pins s σ H Q I h
 refine isTrue_and (thn (ha pins s σ H Q I h) fun c s1 e=>?_)
 cases c with
 | true=>exact isTrue_and_nil e
 | false=>exact e
theorem xA (ha:PT X a tA):PW X (.BoolOp .Or [a] pos) tA:=by
 intro wh pins s σ H Q I h
 refine isTrue_or (thn (ha pins s σ H Q I h) fun c s1 e=>?_)
 cases c with
 | false=>exact isTrue_or_nil e
 | true=>exact e
theorem xB (ha:PT X a tA) (hb:PW X (.BoolOp .And (b :: rest) pos) tB'):PW X (.BoolOp .And (a :: b :: rest) pos) (Aj tA tB'):=by
 intro wh pins s σ H Q I h
 refine isTrue_and (thn (ha pins s σ H _ I h) fun c s1 ⟨H1,I1,q1⟩=>?_)
 cases c with
 | true=>exact hb wh pins s1 σ H1 Q I1 q1
 | false=>exact ⟨H1,I1,q1⟩
theorem zt (ha:PT X a tA) (hb:PW X (.BoolOp .Or (b :: rest) pos) tB'):PW X (.BoolOp .Or (a :: b :: rest) pos) (tOr tA tB'):=by
 intro wh pins s σ H Q I h
 refine isTrue_or (thn (ha pins s σ H _ I h) fun c s1 ⟨H1,I1,q1⟩=>?_)
 cases c with
 | true=>exact ⟨H1,I1,q1⟩
 | false=>exact hb wh pins s1 σ H1 Q I1 q1
theorem xJ (ha:PT X a tA):PT X (.UnaryOp .Not a pos) (Ae tA):=by
 intro pins s σ H Q I h
 exact isTrue_not (ha pins s σ H (fun c H1=>Q (!c) H1) I h)
noncomputable def zj (ta tb:TE):TE:=fun σ H Q=>ta σ H fun x H1=>∃ c,x=.bl c/\if c=true then tb σ H1 Q else Q (.bl false) H1
theorem xT {op} {t:TE} (h:PE X a t):PE X (.BoolOp op [a] pos) t:=fun pins s σ H Q I hw=>BoolOp_one (h pins s σ H Q I hw)
theorem xX (ha:PE X a ta) (hb:PE X (.BoolOp .And (b :: rest) pos) tb):PE X (.BoolOp .And (a :: b :: rest) pos) (zj ta tb):=by
 intro pins s σ H Q I h
 refine BoolOp_and (thn (ha pins s σ H _ I h) fun v s1 ⟨x,H1,I1,r1,q1⟩=>?_)
 obtain ⟨c,rfl,q1⟩:=q1
 cases r1
 refine wpAny_truthy_bool ?_
 cases c with
 | true=>exact hb pins s1 σ H1 Q I1 q1
 | false=>exact ⟨.bl false,H1,I1,rfl,q1⟩
end
end L2
namespace L2
open PySem PySem.Spec PyProof.Rows
noncomputable def SqL (K:PySem.W.Frag) (H:Hp) (a:Addr) (xs:List V):Prop :=
 Rd H a (.lst xs) \/
  ∃ (o:Obj) (its:Array Value) (n:Nat),K.lookup a=some o/\o.cls=.type "list"/\o.dict=none/\o.data=.seq its n/\its.size<=sizeLine/\Vals xs its.toList
noncomputable def SqT (K:PySem.W.Frag) (H:Hp) (a:Addr) (xs:List V):Prop :=
 Rd H a (.tup xs) \/
  ∃ (o:Obj) (its:Array Value) (n:Nat),K.lookup a=some o/\o.cls=.type "tuple"/\o.data=.seq its n/\its.size<=sizeLine/\Vals xs its.toList
noncomputable def AI:Value->Option V
 | .none=>some .non
 | .bool b=>some (.bl b)
 | .int i _=>some (.int i)
 | .str x _=>some (.str x)
 | .bytes b _=>some (.byt b)
 | .float b _=>some (.flt b)
 | .ref a=>some (.ref a)
 | .type n=>some (.ty n)
 | _=>none
theorem RelV.abs {x:V} {u:Value} (r:RelV x u):AI u=some x:=by
 cases x with
 | non=>cases r;rfl
 | bl _=>cases r;rfl
 | int _=>obtain ⟨t,rfl⟩:=r;rfl
 | str _=>obtain ⟨t,rfl⟩:=r;rfl
 | byt _=>obtain ⟨t,rfl⟩:=r;rfl
 | flt _=>obtain ⟨t,rfl⟩:=r;rfl
 | ref _=>cases r;rfl
 | ty _=>cases r;rfl
theorem RelV.inj {x y:V} {u:Value} (r:RelV x u) (q:RelV y u):x=y:=Option.some.inj (r.abs.symm.trans q.abs)
theorem Vals.inj:∀ {xs ys:List V} {us:List Value},Vals xs us->Vals ys us->xs=ys
 | _,_,_,.nil,.nil=>rfl
 | _,_,_,.cons r t,.cons r' t'=>by rw [r.inj r',Vals.inj t t']
section
variable {X:Cx} {pins:List (Addr × Obj)} {σ:St} {H:Hp} {s:Shared} {a:Addr} {xs ys:List V}
theorem SqL.of {K:PySem.W.Frag} (h:H a=some (.lst xs)):SqL K H a xs:=.inl (.inl h)
theorem SqT.of {K:PySem.W.Frag} (h:H a=some (.tup xs)):SqT K H a xs:=.inl (.inl h)
theorem Inv.list (I:Inv X pins σ H s) (h:SqL X.K H a xs):∃ its:List Value,Vals xs its/\PlainL s.heap a its.toArray/\xs.length<=sizeLine:=by
 rcases h with h | ⟨o,its,n,hk,hc,hd,hs,hz,r⟩
 ·obtain ⟨z,its,n,r,e⟩:=h.ok I.hok
  exact ⟨its,r,⟨_,n,e,rfl,rfl,rfl⟩,z⟩
 ·refine ⟨its.toList,r,⟨o,n,I.kIn a o hk,hc,hd,by simpa using hs⟩,?_⟩
  have e:=r.length
  simp only [Array.length_toList] at e
  omega
theorem Inv.tuple (I:Inv X pins σ H s) (h:SqT X.K H a xs):∃ its:List Value,Vals xs its/\IsTup s.heap a its.toArray/\xs.length<=sizeLine:=by
 rcases h with h | ⟨o,its,n,hk,hc,hs,hz,r⟩
 ·obtain ⟨z,its,r,p⟩:=h.ok I.hok
  exact ⟨its,r,p,z⟩
 ·refine ⟨its.toList,r,⟨o,I.kIn a o hk,hc,n,by simpa using hs⟩,?_⟩
  have e:=r.length
  simp only [Array.length_toList] at e
  omega
theorem Inv.list_inj (I:Inv X pins σ H s) (h:SqL X.K H a xs) (h':SqL X.K H a ys):xs=ys:=by
 obtain ⟨its,r,⟨o,n,e,_,_,d⟩,_⟩:=I.list h
 obtain ⟨its',r',⟨o',n',e',_,_,d'⟩,_⟩:=I.list h'
 rw [e] at e';cases e'
 rw [d] at d'
 injection d' with d1 _
 have:its=its':=by simpa using congrArg Array.toList d1
 subst this
 exact r.inj r'
theorem Inv.tuple_inj (I:Inv X pins σ H s) (h:SqT X.K H a xs) (h':SqT X.K H a ys):xs=ys:=by
 obtain ⟨its,r,⟨o,e,_,n,d⟩,_⟩:=I.tuple h
 obtain ⟨its',r',⟨o',e',_,n',d'⟩,_⟩:=I.tuple h'
 rw [e] at e';cases e'
 rw [d] at d'
 injection d' with d1 _
 have:its=its':=by simpa using congrArg Array.toList d1
 subst this
 exact r.inj r'
end
noncomputable abbrev Cx.wish (X:Cx) (E:Value->Shared->Prop):Cx:={ X with xe:=E }
noncomputable abbrev Cx.nox (X:Cx):Cx:=X.wish fun _ _=>False
theorem Cx.Ok.wish {X:Cx} (ok:X.Ok) (E:Value->Shared->Prop):(X.wish E).Ok :=
 ⟨ok.mod,ok.kind,ok.glob,ok.blt,ok.above,ok.inj,ok.has,ok.cab,ok.hd,ok.frames,ok.stk,ok.exf,ok.bs,ok.bsz,ok.noex,ok.exfs,ok.funs,ok.frf⟩
theorem Cx.Ok.unwish {X:Cx} {E:Value->Shared->Prop} (ok:(X.wish E).Ok):X.Ok :=
 ⟨ok.mod,ok.kind,ok.glob,ok.blt,ok.above,ok.inj,ok.has,ok.cab,ok.hd,ok.frames,ok.stk,ok.exf,ok.bs,ok.bsz,ok.noex,ok.exfs,ok.funs,ok.frf⟩
section
variable {X:Cx} {pins:List (Addr × Obj)} {σ:St} {H:Hp} {s:Shared} {E:Value->Shared->Prop}
theorem Inv.wish (I:Inv X pins σ H s) (E:Value->Shared->Prop):Inv (X.wish E) pins σ H s:=⟨I.ok.wish E,I.os,I.bare,I.base,I.loc,I.cell,I.free,I.freeC,I.pin,I.hok,I.len⟩
theorem Inv.unwish (I:Inv (X.wish E) pins σ H s):Inv X pins σ H s:=⟨I.ok.unwish,I.os,I.bare,I.base,I.loc,I.cell,I.free,I.freeC,I.pin,I.hok,I.len⟩
theorem SP.unwish {D:je} {f:Flow} {s':Shared} (h:SP (X.wish E) pins D f s'):SP X pins D f s':=by
 cases f with
 | next=>obtain ⟨σ',H',I,q⟩:=h;exact ⟨σ',H',I.unwish,q⟩
 | brk=>obtain ⟨σ',H',I,q⟩:=h;exact ⟨σ',H',I.unwish,q⟩
 | cont=>obtain ⟨σ',H',I,q⟩:=h;exact ⟨σ',H',I.unwish,q⟩
 | ret u=>obtain ⟨v,σ',H',I,r,q⟩:=h;exact ⟨v,σ',H',I.unwish,r,q⟩
theorem PSs.nox {st:List Stmt} {t:TS} (h:PSs X.nox st t):PSs X st t:=fun pins s σ H D I hw =>
 wpAny_mono (h pins s σ H D (I.wish _) hw) (fun _ _ q=>q.unwish) fun _ _ z=>False.elim z
end
section
variable {X:Cx} {st:Stmt} {rest:List Stmt} {t u:TS} {e:Expr} {te:TE} {pos:Pos}
noncomputable def zf:TS:=fun D σ H=>D.nx σ H
noncomputable def vp (t u:TS):TS:=fun D σ H=>t { D with nx:=u D } σ H
theorem vI:PSs X [] zf:=fun _ _ σ H _ I h=>wpAny_execs_nil ⟨σ,H,I,h⟩
theorem gN (h1:PS X st t) (h2:PSs X rest u):PSs X (st :: rest) (vp t u):=by
 intro pins s σ H D I h
 refine wpAny_execs_cons (thn (h1 pins s σ H { D with nx:=u D } I h) fun f s1 q=>?_)
 cases f with
 | next =>
  obtain ⟨σ',H',I',q⟩:=q
  exact h2 pins s1 σ' H' D I' q
 | ret v=>exact q
 | brk=>exact q
 | cont=>exact q
theorem iN (h1:PS X st t):PSs X [st] t:=by
 intro pins s σ H D I h
 refine wpAny_execs_cons (thn (h1 pins s σ H D I h) fun f s1 q=>?_)
 cases f with
 | next=>exact wpAny_execs_nil q
 | ret v=>exact q
 | brk=>exact q
 | cont=>exact q
theorem Inv.quiet {pins:List (Addr × Obj)} {σ:St} {H:Hp} {s:Shared} (I:Inv X pins σ H s):interactive X.env=false:=by simp [interactive,I.ok.kind]
noncomputable def jK (te:TE):TS:=fun D σ H=>te σ H fun _ H1=>D.nx σ H1
theorem h8 (he:PE X e te) (hs:swapsWith e none pos.line X.env=pure false:=by rfl):PS X (.Expr e pos) (jK te):=by
 intro pins s σ H D I h
 exact wpAny_Expr_any (thn (he pins s σ H _ I h) fun v s1 ⟨x,H1,I1,r1,q1⟩=>⟨σ,H1,I1,q1⟩) I.quiet hs
noncomputable def Ad (te:TE):TS:=fun D σ H=>te σ H D.rt
theorem p5 (he:PE X e te):PS X (.Return (some e) pos) (Ad te):=by
 intro pins s σ H D I h
 exact wpAny_Return_some (thn (he pins s σ H _ I h) fun v s1 ⟨x,H1,I1,r1,q1⟩=>⟨x,σ,H1,I1,r1,q1⟩)
noncomputable def Ah (c:TT) (t u:TS):TS:=fun D σ H=>c σ H fun b H1=>if b=true then t D σ H1 else u D σ H1
theorem zA {c:Expr} {a b:List Stmt} {tc:TT} (hc:PT X c tc) (ha:PSs X a t) (hb:PSs X b u):PS X (.If c a b pos) (Ah tc t u):=by
 intro pins s σ H D I h
 refine wpAny_If (thn (hc pins s σ H _ I h) fun d s1 ⟨H1,I1,q1⟩=>?_)
 cases d with
 | true=>exact ha pins s1 σ H1 D I1 q1
 | false=>exact hb pins s1 σ H1 D I1 q1
noncomputable def xt:TS:=fun _ _ _=>False
theorem tL:PS X st xt:=fun _ _ _ _ _ _ h=>h.elim
end
noncomputable abbrev TG:=V->St->Hp->(St->Hp->Prop)->Prop
noncomputable abbrev TGs:=List V->St->Hp->(St->Hp->Prop)->Prop
noncomputable def PG (X:Cx) (target:Expr) (t:TG):Prop :=
 ∀ (pins:List (Addr × Obj)) (s:Shared) (σ:St) (H:Hp) (v:V) (u:Value) (Q:St->Hp->Prop),Inv X pins σ H s->RelV v u->t v σ H Q ->
  wpAny (model X.prog X.w) X.A (assign target X.env u) (fun _ s'=>∃ σ' H',Inv X pins σ' H' s'/\Q σ' H') X.xe s
noncomputable def PGs (X:Cx) (ts:List Expr) (t:TGs):Prop :=
 ∀ (pins:List (Addr × Obj)) (s:Shared) (σ:St) (H:Hp) (vs:List V) (us:List Value) (Q:St->Hp->Prop),Inv X pins σ H s->Vals vs us->t vs σ H Q ->
  wpAny (model X.prog X.w) X.A (assignInOrder ((assignEach ts X.env).map (·.2)) us) (fun _ s'=>∃ σ' H',Inv X pins σ' H' s'/\Q σ' H') X.xe s
noncomputable abbrev wV:=V->V->V->Hp->(Hp->Prop)->Prop
noncomputable def zY (X:Cx) (t:wV):Prop :=
 ∀ (pins:List (Addr × Obj)) (s:Shared) (σ:St) (H:Hp) (o i v:V) (ov iv u:Value) (Q:Hp->Prop),Inv X pins σ H s->RelV o ov->RelV i iv->RelV v u->t o i v H Q ->
  wpAny (model X.prog X.w) X.A (setItem ov iv u) (fun _ s'=>∃ H',Inv X pins σ H' s'/\Q H') X.xe s
section
variable {X:Cx} {pos:Pos}
noncomputable def gT (i:Nat):TG:=fun v σ H Q=>Q (σ.set i (some v)) H
theorem aQ {i:Nat} {x:Str} (hN:X.N.Nodup) (hi:X.N[i]?=some x) (hx:Loc X.env.scope x) (hf:X.fn x=true\/X.env.scope.names.lookup x=some .local:=by first | exact .inl rfl | exact .inr rfl | assumption):PG X (.Name x pos) (gT i):=by
 intro pins s σ H v u Q I r h
 exact wpAny_assign_Name (oz I hN hi hx r (fun s' I'=>⟨_,H,I',h⟩) hf)
noncomputable def At:TGs:=fun vs σ H Q=>vs=[]/\Q σ H
noncomputable def zM (t:TG) (u:TGs):TGs:=fun vs σ H Q=>∃ v r,vs=v :: r/\t v σ H fun σ' H'=>u r σ' H' Q
theorem vP:PGs X [] At:=by
 intro pins s σ H vs us Q I r h
 obtain ⟨e,h⟩:=h
 subst e
 cases r
 exact assignInOrder_nil ⟨σ,H,I,h⟩
theorem oM {e:Expr} {es:List Expr} {t:TG} {u:TGs} (h1:PG X e t) (h2:PGs X es u)
  (hs:(assignEach (e :: es) X.env).map (·.2)=assign e X.env :: (assignEach es X.env).map (·.2):=by rfl):PGs X (e :: es) (zM t u):=by
 intro pins s σ H vs us Q I r h
 obtain ⟨v,vr,e1,h⟩:=h
 subst e1
 cases r with
 | cons r rr =>
  rw [hs]
  refine assignInOrder_cons (thn (h1 pins s σ H _ _ _ I r h) fun _ s1 ⟨σ1,H1,I1,q1⟩=>?_)
  exact h2 pins s1 σ1 H1 _ _ Q I1 rr q1
noncomputable def Aq (K:PySem.W.Frag) (n:Nat) (t:TGs):TG:=fun v σ H Q=>∃ a xs,v=.ref a/\SqT K H a xs/\xs.length=n/\t xs σ H Q
theorem xP {es:List Expr} {k:Nat} {t:TGs} {n:Nat} (hc:X.calm=true) (h:PGs X es t)
  (hn:(assignEach es X.env).length=n:=by rfl) (hst:(assignEach es X.env).findIdx? (·.1)=none:=by rfl):PG X (.Tuple es k pos) (Aq X.K n t):=by
 intro pins s σ H v u Q I r hw
 obtain ⟨a,xs,e1,hq,hl,hw⟩:=hw
 subst e1
 cases r
 obtain ⟨its,rv,ht,hz⟩:=I.tuple hq
 refine assign_Tuple_tuple (I.ok.hd hc) ht (by simp [hn,<- hl,rv.length]) hst fun h' hx=>?_
 have I1:Inv X pins σ H { s with heap:=h' }:=I.kept (t':=s.toks) fun b o e=>hx b o (Nat.ne_of_lt (Heap.lt_size e)) e
 exact h pins _ σ H xs _ Q I1 (by simpa using rv) hw
noncomputable def As (to ti:TE) (t:wV):TG:=fun v σ H Q=>to σ H fun o H1=>ti σ H1 fun i H2=>t o i v H2 fun H3=>Q σ H3
theorem tR {o i:Expr} {to ti:TE} {t:wV} (ho:PE X o to) (hi:PE X i ti) (hs:zY X t)
  (ha:∀ v,assign (.Subscript o i pos) X.env v=(do
   let ov <- holding [v] (eval o X.env)
   let iv <- holding [v,ov] (eval i X.env)
   standAt pos
   holding [v,ov,iv] (setItem ov iv v)
   release [v,ov,iv] []):=by intro _;rfl):PG X (.Subscript o i pos) (As to ti t):=by
 intro pins s σ H v u Q I r h
 rw [ha]
 refine wpAny_bind (wpAny_holding (thn (ho pins s σ H _ I h) fun ov s1 ⟨x,H1,I1,r1,q1⟩=>?_))
 refine wpAny_bind (wpAny_holding (thn (hi pins s1 σ H1 _ I1 q1) fun iv s2 ⟨y,H2,I2,r2,q2⟩=>?_))
 refine wpAny_bind (wpAny_standAt (wpAny_bind (wpAny_holding (thn (hs pins s2 σ H2 x y v ov iv u _ I2 r1 r2 r q2) fun _ s3 ⟨H3,I3,q3⟩=>?_))))
 exact wpAny_release ⟨σ,H3,I3,q3⟩
noncomputable def rW (te:TE) (g:TG):TS:=fun D σ H=>te σ H fun x H1=>g x σ H1 D.nx
theorem p7 {tg e:Expr} {te:TE} {g:TG} (he:PE X e te) (hg:PG X tg g) (hs:swapsWithSole [tg] e pos.line X.env=pure false:=by rfl) (hw:swappedStores [tg] e X.env=pure none:=by rfl)
  (h1:(assignEach [tg] X.env).map (·.2)=[assign tg X.env]:=by rfl):PS X (.Assign [tg] e pos) (rW te g):=by
 intro pins s σ H D I h
 refine wpAny_Assign_stores (thn (he pins s σ H _ I h) fun v s1 ⟨x,H1,I1,r1,q1⟩=>?_) hs hw
 rw [h1]
 exact thn (hg pins s1 σ H1 x v _ I1 r1 q1) fun _ s2 q=>q
theorem kO {i:Nat} {x:Str} {e:Expr} {te:TE} {pos':Pos} (hN:X.N.Nodup) (hi:X.N[i]?=some x) (hx:Loc X.env.scope x) (he:PE X e te) (hs:swapsWith e (some (.Name x pos')) pos.line X.env=pure false:=by rfl) (hf:X.fn x=true\/X.env.scope.names.lookup x=some .local:=by first | exact .inl rfl | exact .inr rfl | assumption) :
  PS X (.Assign [.Name x pos'] e pos) (rW te (gT i)):=by
 intro pins s σ H D I h
 refine wpAny_Assign_Name (thn (he pins s σ H _ I h) fun v s1 ⟨y,H1,I1,r1,q1⟩=>?_) hs
 exact oz I1 hN hi hx r1 (fun s2 I2=>⟨_,H1,I2,q1⟩) hf
end
section
variable {X:Cx} {pos:Pos}
noncomputable def xr (c:TT) (tb:TS):TS:=fun D σ H=>∃ W:Nat->St->Hp->Prop,(∃ m,W m σ H)/\∀ m σ H,W m σ H ->
 c σ H fun b H1=>if b=true then ∃ N:St->Hp->Prop,(∀ σ' H',N σ' H'->∃ m',m' < m/\W m' σ' H')/\tb { D with nx:=N,ct:=N,bk:=D.nx } σ H1 else D.nx σ H1
theorem tJ {c:Expr} {body:List Stmt} {tc:TT} {tb:TS} (hp:PassesOwn (model X.prog X.w) X.A X.env X.xe) (hc:PT X c tc) (hb:PSs X body tb):PS X (.While c body [] pos) (xr tc tb):=by
 intro pins s σ H D I h
 obtain ⟨W,⟨m0,w0⟩,jg⟩:=h
 refine wpAny_While (codeAny_whileLoop (fun n s'=>∃ σ' H',Inv X pins σ' H' s'/\W n σ' H') ?_ m0 ⟨σ,H,I,w0⟩)
 rintro n s1 ⟨σ1,H1,I1,w1⟩
 refine wpAny_passesOwn hp (thn (hc pins s1 σ1 H1 _ I1 (jg n σ1 H1 w1)) fun b s2 ⟨H2,I2,q2⟩=>?_)
 cases b with
 | true =>
  obtain ⟨N,hN,q2⟩:=q2
  rw [if_pos rfl]
  refine wpAny_passesOwn hp (thn (hb pins s2 σ1 H2 _ I2 q2) fun f s3 q3=>?_)
  cases f with
  | next =>
   obtain ⟨σ3,H3,I3,n3⟩:=q3
   obtain ⟨m',hm,w3⟩:=hN σ3 H3 n3
   exact ⟨m',hm,σ3,H3,I3,w3⟩
  | cont =>
   obtain ⟨σ3,H3,I3,n3⟩:=q3
   obtain ⟨m',hm,w3⟩:=hN σ3 H3 n3
   exact ⟨m',hm,σ3,H3,I3,w3⟩
  | brk=>exact q3
  | ret v=>exact q3
 | false =>
  rw [if_neg Bool.false_ne_true]
  exact wpAny_execs_nil ⟨σ1,H2,I2,q2⟩
end
structure It where
 go:Nat->Hp->Prop
 yld:Nat->Hp->V->Hp->Prop
 stop:Nat->Hp->Prop
noncomputable def mt (X:Cx) (pins:List (Addr × Obj)) (H:Hp) (b:Addr):Prop :=
 H b=none/\b ≠ X.env.locals/\b ∉ X.fs/\(b ∈ X.ex\/X.s₀.heap.objs.size<=b)/\(∀ x c,X.env.cells.lookup x=some c->c ≠ b)/\∀ p ∈ X.pn ++ pins,p.1 ≠ b
theorem Inv.fpOk {X:Cx} {pins:List (Addr × Obj)} {σ:St} {H H':Hp} {s:Shared} {b:Addr} (I:Inv X pins σ H s) (hb:s.heap.objs.size<=b) (hn:H' b=none):mt X pins H' b:=by
 refine ⟨hn,Nat.ne_of_gt (Nat.lt_of_lt_of_le I.lt hb),I.nofs hb,.inr (Nat.le_trans I.sz hb),fun x c e z=>?_,fun p hp z=>?_⟩
 ·obtain ⟨v,q⟩:=I.cell x c e
  exact absurd (Nat.lt_of_lt_of_le q.lt (by rw [z];exact hb)) (Nat.lt_irrefl _)
 ·exact absurd (Nat.lt_of_lt_of_le (Heap.lt_size (I.pin p hp).1) (by rw [z];exact hb)) (Nat.lt_irrefl _)
structure qA (P:Program) (w:World) (K:PySem.W.Frag) (tg:Expr) (J:It) (fp:List Addr) (it:Addr) (tn:Nat->Heap->Prop):Prop where
 mem:it ∈ fp
 obj:∀ i h,tn i h->∀ b ∈ fp,∃ o,h.get? b=some o/\∀ v,o.data ≠ .cell v
 keep:∀ i h h',tn i h->(∀ b ∈ fp,∀ o,h.get? b=some o->h'.get? b=some o)->tn i h'
 item:∀ (X:Cx),X.prog=P->X.w=w->X.K=K->X.calm=true->∀ (i:Nat) (pins:List (Addr × Obj)) (s:Shared) (σ:St) (H:Hp) (E:Value->Shared->Prop),Inv X pins σ H s->(∀ b ∈ fp,mt X pins H b)->tn i s.heap->J.go i H ->
  wpAny (model P w) X.A (pyNext (.ref it)) (fun r s1=>∃ u,r=some u /\
   wpAny (model P w) X.A (letOwnedTupleGo tg (.ref it) u) (fun _ s2=>∃ x H',Inv X pins σ H' s2/\RelV x u/\J.yld i H x H'/\tn (i + 1) s2.heap/\∀ b ∈ fp,H' b=none) E s1) E s
 done:∀ (X:Cx),X.prog=P->X.w=w->X.K=K->X.calm=true->∀ (i:Nat) (pins:List (Addr × Obj)) (s:Shared) (σ:St) (H:Hp) (E:Value->Shared->Prop),Inv X pins σ H s->(∀ b ∈ fp,mt X pins H b)->tn i s.heap->J.stop i H ->
  wpAny (model P w) X.A (pyNext (.ref it)) (fun r s1=>r=none/\Inv X pins σ H s1) E s
 self:∀ (A:Around) (i:Nat) (s:Shared) (Q:Value->Shared->Prop) (E:Value->Shared->Prop),tn i s.heap->Q (.ref it) s->wpAny (model P w) A (pyIter (.ref it)) Q E s
noncomputable abbrev TI:=St->Hp->(It->Hp->Prop)->Prop
noncomputable def PIE (X:Cx) (pins:List (Addr × Obj)) (σ:St) (tg:Expr) (R:It->Hp->Prop) (itv:Value) (s2:Shared):Prop :=
 ∃ (it:Addr) (fp:List Addr) (tn:Nat->Heap->Prop) (J:It) (H':Hp),itv=.ref it/\Inv X pins σ H' s2/\qA X.prog X.w X.K tg J fp it tn/\tn 0 s2.heap/\(∀ b ∈ fp,mt X pins H' b)/\R J H'
noncomputable def PI (X:Cx) (tg iter:Expr) (wi:TI):Prop :=
 ∀ (pins:List (Addr × Obj)) (s:Shared) (σ:St) (H:Hp) (R:It->Hp->Prop),Inv X pins σ H s->wi σ H R ->
  wpAny (model X.prog X.w) X.A (eval iter X.env) (fun v s1=>wpAny (model X.prog X.w) X.A (pyIter v) (PIE X pins σ tg R) X.xe s1) X.xe s
theorem uD {M : Model} {A : Around} {E : Value -> Shared -> Prop} {s : Shared} {tg : Expr} {it : Addr} {u : Value} {o : Obj} {n : String} {vs : Array Value} {Q : Unit -> Shared -> Prop} (ho : s.heap.get? it = some o) (hc : o.cls = .type n) (hd : o.data = .fields vs)
    (hn : ["enumerate", "zip", "dict_itemiterator", "dict_reverseitemiterator", "odict_iterator", "itertools.zip_longest", "itertools.pairwise"].contains n = false) (hQ : Q () s) : wpAny M A (letOwnedTupleGo tg (.ref it) u) Q E s := by
  unfold letOwnedTupleGo
  cases tg <;> first
    | exact wpAny_pure hQ
    | (cases u <;> first
        | exact wpAny_pure hQ
        | (refine wpAny_bind (wpAny_load ho ?_)
           rw [hc, hd]
           show wpAny M A (if (["enumerate", "zip", "dict_itemiterator", "dict_reverseitemiterator", "odict_iterator", "itertools.zip_longest", "itertools.pairwise"].contains n && vs[0]? == some (rawInt _)) = true then _ else _) Q E s
           rw [if_neg (by intro h; rw [hn, Bool.false_and] at h; cases h)]
           exact wpAny_pure hQ))
noncomputable def Itl (K:PySem.W.Frag) (a:Addr):It :=
 ⟨fun i H=>∃ xs x,SqL K H a xs/\xs[i]?=some x,fun i H x H'=>H'=H/\∀ xs,SqL K H a xs->xs[i]?=some x,fun i H=>∃ xs,SqL K H a xs/\xs.length<=i⟩
noncomputable def Itt (K:PySem.W.Frag) (a:Addr):It :=
 ⟨fun i H=>∃ xs x,SqT K H a xs/\xs[i]?=some x,fun i H x H'=>H'=H/\∀ xs,SqT K H a xs->xs[i]?=some x,fun i H=>∃ xs,SqT K H a xs/\xs.length<=i⟩
noncomputable def Itr (lo:Int) (n:Nat):It:=⟨fun i _=>i < n,fun i H x H'=>H'=H/\x=.int (lo + i),fun i _=>n<=i⟩
theorem mw {P:Program} {w:World} {K:PySem.W.Frag} {tg:Expr} (a it:Addr):qA P w K tg (Itl K a) [it] it (fun i h=>h.IsListIter it a i) where
 mem:=by simp
 obj:=fun i h st b hb=>by
  have e:b=it:=by simpa using hb
  subst e
  obtain ⟨o,e,c,d⟩:=st
  exact ⟨o,e,fun v z=>by rw [d] at z;cases z⟩
 keep:=fun i h h' st k=>st.at fun o e=>k it (by simp) o e
 item:=by
  intro X hP hw hK hc i pins s σ H E I hf st hg
  subst hP hw hK
  obtain ⟨xs,x,hq,hx⟩:=hg
  obtain ⟨its,rv,p,hz⟩:=I.list hq
  obtain ⟨u,hu,ru⟩:=rv.get hx
  obtain ⟨f0,f1,f2,f3,f4,f5⟩:=hf it (by simp)
  refine wpAny_pyNext_list_item st p.isList (x:=u) (by simpa using hu) fun h' st' sb=>?_
  have I1:Inv X pins σ H { s with heap:=h' }:=I.turned (t':=s.toks) (fun b o hb e=>(sb.2 b hb).trans e) f0 f1 f3 f4 f5
  obtain ⟨o,e,c,d⟩:=id st'
  exact ⟨u,rfl,uD (s:={ s with heap:=h' }) e c d (by decide) ⟨x,H,I1,ru,⟨rfl,fun ys hy=>by rw [I.list_inj hy hq];exact hx⟩,st',fun b hb=>(hf b hb).1⟩⟩
 done:=by
  intro X hP hw hK hc i pins s σ H E I hf st hg
  subst hP hw hK
  obtain ⟨xs,hq,hx⟩:=hg
  obtain ⟨its,rv,p,hz⟩:=I.list hq
  obtain ⟨f0,f1,f2,f3,f4,f5⟩:=hf it (by simp)
  have hl:=rv.length
  exact wpAny_pyNext_list_end (I.ok.hd hc) st p.isList (by simp;omega) fun h' eb=>⟨rfl,I.turned (t':=s.toks) (fun b o hb e=>eb b o hb e) f0 f1 f3 f4 f5⟩
 self:=fun _ _ _ _ _ st h=>wpAny_pyIter_listiter st h
theorem pO {P:Program} {w:World} {K:PySem.W.Frag} {tg:Expr} (a it:Addr):qA P w K tg (Itt K a) [it] it (fun i h=>h.IsTupleIter it a i) where
 mem:=by simp
 obj:=fun i h st b hb=>by
  have e:b=it:=by simpa using hb
  subst e
  obtain ⟨o,e,c,d⟩:=st
  exact ⟨o,e,fun v z=>by rw [d] at z;cases z⟩
 keep:=fun i h h' st k=>st.at fun o e=>k it (by simp) o e
 item:=by
  intro X hP hw hK hc i pins s σ H E I hf st hg
  subst hP hw hK
  obtain ⟨xs,x,hq,hx⟩:=hg
  obtain ⟨its,rv,p,hz⟩:=I.tuple hq
  obtain ⟨u,hu,ru⟩:=rv.get hx
  obtain ⟨f0,f1,f2,f3,f4,f5⟩:=hf it (by simp)
  refine wpAny_pyNext_tuple_item st (show s.heap.IsTuple a its.toArray from p) (x:=u) (by simpa using hu) fun h' st' sb=>?_
  have I1:Inv X pins σ H { s with heap:=h' }:=I.turned (t':=s.toks) (fun b o hb e=>(sb.2 b hb).trans e) f0 f1 f3 f4 f5
  obtain ⟨o,e,c,d⟩:=id st'
  exact ⟨u,rfl,uD (s:={ s with heap:=h' }) e c d (by decide) ⟨x,H,I1,ru,⟨rfl,fun ys hy=>by rw [I.tuple_inj hy hq];exact hx⟩,st',fun b hb=>(hf b hb).1⟩⟩
 done:=by
  intro X hP hw hK hc i pins s σ H E I hf st hg
  subst hP hw hK
  obtain ⟨xs,hq,hx⟩:=hg
  obtain ⟨its,rv,p,hz⟩:=I.tuple hq
  obtain ⟨f0,f1,f2,f3,f4,f5⟩:=hf it (by simp)
  have hl:=rv.length
  exact wpAny_pyNext_tuple_end (I.ok.hd hc) st (show s.heap.IsTuple a its.toArray from p) (by simp;omega) fun h' eb=>⟨rfl,I.turned (t':=s.toks) (fun b o hb e=>eb b o hb e) f0 f1 f3 f4 f5⟩
 self:=fun _ _ _ _ _ st h=>wpAny_pyIter_tupleiter st h
theorem pP {P:Program} {w:World} {K:PySem.W.Frag} {tg:Expr} (it:Addr) (lo:Int) (n:Nat):qA P w K tg (Itr lo n) [it] it (fun i h=>IsRangeIter h it (lo + (i:Nat) * 1) ((n:Int) - (i:Nat)) 1) where
 mem:=by simp
 obj:=fun i h st b hb=>by
  have e:b=it:=by simpa using hb
  subst e
  exact ⟨_,st,fun v z=>by
   have z':Data.fields _=Data.cell v:=z
   cases z'⟩
 keep:=fun i h h' st k=>k it (by simp) _ st
 item:=by
  intro X hP hw hK hc i pins s σ H E I hf st hg
  subst hP hw hK
  obtain ⟨f0,f1,f2,f3,f4,f5⟩:=hf it (by simp)
  have W:=Walks.range (prog:=X.prog) (w:=X.w) (I.ok.hd hc) it lo 1 n
  refine W.item i s _ _ hg st fun v h' tk hv st' kk=>?_
  obtain ⟨t,rfl⟩:=hv
  have I1:Inv X pins σ H { s with heap:=h',toks:=tk }:=I.turned (fun b o hb e=>kk b o (by simpa using hb) e) f0 f1 f3 f4 f5
  refine ⟨_,rfl,uD (s:={ s with heap:=h',toks:=tk }) (n:="range_iterator") st' rfl rfl (by decide) ⟨.int (lo + i),H,I1,⟨t,?_⟩,⟨rfl,rfl⟩,st',fun b hb=>(hf b hb).1⟩⟩
  rw [Int.mul_one]
 done:=by
  intro X hP hw hK hc i pins s σ H E I hf st hg
  subst hP hw hK
  obtain ⟨f0,f1,f2,f3,f4,f5⟩:=hf it (by simp)
  exact wpAny_pyNext_range_end (I.ok.hd hc) st (by have:n<=i:=hg;omega) fun h' eb=>⟨rfl,I.turned (t':=s.toks) (fun b o hb e=>eb b o hb e) f0 f1 f3 f4 f5⟩
 self:=fun _ _ _ _ _ st h=>wpAny_pyIter_rangeiter st h
end L2
namespace L2
open PySem PySem.Spec PyProof.Rows
section
variable {X:Cx} {tg:Expr}
noncomputable def zL (K:PySem.W.Frag) (tl:TE):TI:=fun σ H R=>tl σ H fun x H1=>∃ a,x=.ref a/\(∃ xs,SqL K H1 a xs)/\R (Itl K a) H1
theorem vN {l:Expr} {tl:TE} (hl:PE X l tl):PI X tg l (zL X.K tl):=by
 intro pins s σ H R I h
 refine thn (hl pins s σ H _ I h) fun v s1 ⟨x,H1,I1,r1,q1⟩=>?_
 obtain ⟨a,e,⟨xs,hq⟩,q⟩:=q1
 subst e
 cases r1
 obtain ⟨its,rv,p,hz⟩:=I1.list hq
 refine wpAny_pyIter_list p.isList ?_
 refine ⟨s1.heap.objs.size,[s1.heap.objs.size],_,_,H1,rfl,I1.kept (t':=s1.toks) fun b o e=>Heap.get?_push_of_some _ e,mw a _,⟨_,Heap.get?_push_size _ rfl,rfl,rfl⟩,fun b hb=>?_,q⟩
 have e:b=s1.heap.objs.size:=by simpa using hb
 subst e
 exact I1.fpOk (Nat.le_refl _) (I1.hok.fresh (Nat.le_refl _))
theorem tF {pins:List (Addr × Obj)} {σ:St} {H:Hp} {s:Shared} {R:It->Hp->Prop} {E:Value->Shared->Prop} {lo hi:Int} {t u v:Tok} {tk:Nat} (I:Inv X pins σ H s) (h1:-(2 ^ 62)<=lo) (h2:lo < 2 ^ 62) (h3:-(2 ^ 62)<=hi) (h4:hi < 2 ^ 62)
  (q:R (Itr lo (hi - lo).toNat) H):wpAny (model X.prog X.w) X.A (pyIter (.ref s.heap.objs.size)) (PIE X pins σ tg R) E { s with heap:=s.heap.push { cls:=.type "range",data:=.fields #[.int lo t,.int hi u,.int 1 v] },toks:=tk }:=by
 refine wpAny_pyIter_range (IsRange.new ..) (small_one h1 h2 h3 h4) ?_
 have I1:Inv X pins σ H { s with heap:=s.heap.push { cls:=.type "range",data:=.fields #[.int lo t,.int hi u,.int 1 v] },toks:=tk }:=I.kept fun b o e=>Heap.get?_push_of_some _ e
 refine ⟨(s.heap.push { cls:=.type "range",data:=.fields #[.int lo t,.int hi u,.int 1 v] }).objs.size,[(s.heap.push { cls:=.type "range",data:=.fields #[.int lo t,.int hi u,.int 1 v] }).objs.size],_,_,H,rfl,
  I1.kept (t':=tk) fun b o e=>Heap.get?_push_of_some _ e,pP _ lo (hi - lo).toNat,?_,fun b hb=>?_,q⟩
 ·have e1:lo + ((0:Nat):Int) * 1=lo:=by simp
  have e2:(((hi - lo).toNat:Nat):Int) - ((0:Nat):Int)=Builtin.Range.rangeSize lo hi 1:=by rw [rangeSize_one];split <;> omega
  show IsRangeIter _ _ (lo + ((0:Nat):Int) * 1) ((((hi - lo).toNat:Nat):Int) - ((0:Nat):Int)) 1
  rw [e1,e2]
  exact Heap.get?_push_size _ rfl
 ·have e:b=(s.heap.push { cls:=.type "range",data:=.fields #[.int lo t,.int hi u,.int 1 v] }).objs.size:=by simpa using hb
  subst e
  exact I1.fpOk (Nat.le_refl _) (I1.hok.fresh (Nat.le_refl _))
noncomputable def zK (ta:TA):TI:=fun σ H R=>ta σ H fun vs H1=>∃ j:Int,vs=[.int j]/\-(2 ^ 62)<=j/\j < 2 ^ 62/\R (Itr 0 j.toNat) H1
theorem si {a:Expr} {ta:TA} {p pos:Pos} (hg:Gl X "range") (hm:X.mg "range"=none) (ha:PA X [a] ta) (hs:starEach [a] X.env=[(false,eval a X.env)]:=by rfl):PI X tg (.Call (.Name "range" p) [a] [] pos) (zK ta):=by
 intro pins s σ H R I h
 refine Call_ (gS I hg hm boot_range (PyProof.Rows.callWith_type1 (thn (ha pos pins s σ H _ I h) fun us s1 ⟨vs,H1,I1,r1,q1⟩=>?_) hs rfl))
 obtain ⟨j,e,q1,q2,q⟩:=q1
 subst e
 cases r1 with
 | cons r rr =>
  cases rr
  obtain ⟨t,rfl⟩:=r
  exact call_range_1 (tF I1 (by omega) (by omega) q1 q2 (by simpa using q))
noncomputable def zg (wi:TI) (g:TG) (tb:TS):TS:=fun D σ H=>wi σ H fun J H1=>∃ W:Nat->Nat->St->Hp->Prop,(∃ m,W 0 m σ H1)/\∀ i m σ H,W i m σ H ->
 (J.stop i H/\D.nx σ H)\/(J.go i H/\∃ N:St->Hp->Prop,(∀ σ' H',N σ' H'->∃ m',m' < m/\W (i + 1) m' σ' H')/\∀ x H',J.yld i H x H'->g x σ H' fun σ2 H2=>tb { D with nx:=N,ct:=N,bk:=D.nx } σ2 H2)
noncomputable def dn (fp:List Addr) (h:Heap):List (Addr × Obj):=fp.filterMap fun b=>(h.get? b).map fun o=>(b,o)
theorem fk {fp:List Addr} {h:Heap} {b:Addr} {o:Obj} (hb:b ∈ fp) (e:h.get? b=some o):(b,o) ∈ dn fp h:=List.mem_filterMap.mpr ⟨b,hb,by rw [e];rfl⟩
theorem h_ {fp:List Addr} {h:Heap} {p:Addr × Obj} (hp:p ∈ dn fp h):p.1 ∈ fp/\h.get? p.1=some p.2:=by
 obtain ⟨b,hb,e⟩:=List.mem_filterMap.mp hp
 cases q:h.get? b with
 | none=>rw [q] at e;cases e
 | some o =>
  rw [q] at e
  have e':(b,o)=p:=Option.some.inj e
  subst e'
  exact ⟨hb,q⟩
theorem Inv.pinned {pins:List (Addr × Obj)} {σ:St} {H:Hp} {s:Shared} {fp:List Addr} (I:Inv X pins σ H s) (hf:∀ b ∈ fp,mt X pins H b) (ho:∀ b ∈ fp,∃ o,s.heap.get? b=some o/\∀ v,o.data ≠ .cell v):Inv X (pins ++ dn fp s.heap) σ H s :=
 I.pins_of fun p hp=>(List.mem_append.mp hp).elim (fun z=>I.pin p (List.mem_append_right _ z)) fun z=>by
  obtain ⟨hb,e⟩:=h_ z
  obtain ⟨f0,f1,f2,_⟩:=hf p.1 hb
  obtain ⟨o,e',d⟩:=ho p.1 hb
  rw [e] at e';cases e'
  exact ⟨e,f0,f1,f2,d⟩
theorem Inv.unpinned {pins pl:List (Addr × Obj)} {σ:St} {H:Hp} {s:Shared} (I:Inv X (pins ++ pl) σ H s):Inv X pins σ H s:=I.pins_of fun p hp=>I.pin p (List.mem_append_right _ (List.mem_append_left _ hp))
theorem tM {iter:Expr} {body:List Stmt} {wi:TI} {g:TG} {tb:TS} {pos:Pos} (hp:PassesOwn (model X.prog X.w) X.A X.env X.xe) (hc:X.calm=true) (hi:PI X tg iter wi) (hg:PG X tg g) (hb:PSs X body tb)
  (hs:∀ x,foldedSetIterable iter X.env x=pure x:=by intro _;rfl):PS X (.For tg iter body [] pos) (zg wi g tb):=by
 intro pins s σ H D I h
 refine wpAny_For (thn (hi pins s σ H _ I h) fun v s1 h1=>thn h1 fun itv s2 h2=>?_) hs
 obtain ⟨it,fp,tn,J,H2,e,I2,T,st2,f2,W,⟨m0,w0⟩,jg⟩:=h2
 subst e
 have stat:∀ {H':Hp},(∀ b ∈ fp,H' b=none)->∀ b ∈ fp,mt X pins H' b:=fun hn b hb=>⟨hn b hb,(f2 b hb).2⟩
 refine codeAny_forLoop_any (fun n s'=>∃ i σ' H',Inv X pins σ' H' s'/\tn i s'.heap/\(∀ b ∈ fp,H' b=none)/\W i n σ' H') ?_ m0 ⟨0,σ,H2,I2,st2,fun b hb=>(f2 b hb).1,w0⟩
 rintro n s3 ⟨i,σ3,H3,I3,st3,fr3,w3⟩
 rcases jg i n σ3 H3 w3 with ⟨stop,qn⟩ | ⟨go,N,hN,step⟩
 ·refine wpAny_passesOwn hp (thn (T.done X rfl rfl rfl hc i pins s3 σ3 H3 X.xe I3 (stat fr3) st3 stop) fun r s4 ⟨hr,I4⟩=>?_)
  subst hr
  exact wpAny_execs_nil ⟨σ3,H3,I4,qn⟩
 ·refine wpAny_passesOwn hp (thn (T.item X rfl rfl rfl hc i pins s3 σ3 H3 X.xe I3 (stat fr3) st3 go) fun r s4 ⟨u,hr,h4⟩=>?_)
  subst hr
  refine wpAny_passesOwn hp (thn h4 fun _ s5 ⟨x,H5,I5,r5,y5,st5,fr5⟩=>?_)
  have I5':=I5.pinned (stat fr5) (T.obj _ _ st5)
  refine wpAny_passesOwn hp (thn (hg _ s5 σ3 H5 x u _ I5' r5 (step x H5 y5)) fun _ s6 ⟨σ6,H6,I6,q6⟩=>?_)
  refine wpAny_passesOwn hp (thn (hb _ s6 σ6 H6 _ I6 q6) fun f s7 q7=>?_)
  have again:∀ {σ7:St} {H7:Hp},Inv X (pins ++ dn fp s5.heap) σ7 H7 s7->N σ7 H7->∃ m,m < n/\∃ i σ' H',Inv X pins σ' H' s7/\tn i s7.heap/\(∀ b ∈ fp,H' b=none)/\W i m σ' H':=fun {σ7 H7} I7 n7=>by
   obtain ⟨m',hm,w7⟩:=hN σ7 H7 n7
   refine ⟨m',hm,i + 1,σ7,H7,I7.unpinned,T.keep _ _ _ st5 fun b hb o e=>(I7.pin (b,o) (List.mem_append_right _ (List.mem_append_right _ (fk hb e)))).1,fun b hb=>?_,w7⟩
   obtain ⟨o,e,d⟩:=T.obj _ _ st5 b hb
   exact (I7.pin (b,o) (List.mem_append_right _ (List.mem_append_right _ (fk hb e)))).2.1
  cases f with
  | next=>obtain ⟨σ7,H7,I7,n7⟩:=q7;exact again I7 n7
  | cont=>obtain ⟨σ7,H7,I7,n7⟩:=q7;exact again I7 n7
  | brk=>obtain ⟨σ7,H7,I7,q7⟩:=q7;exact ⟨σ7,H7,I7.unpinned,q7⟩
  | ret v=>obtain ⟨x7,σ7,H7,I7,r7,q7⟩:=q7;exact ⟨x7,σ7,H7,I7.unpinned,r7,q7⟩
end
theorem uF {K:PySem.W.Frag} {a:Addr} {xs:List V} {g:TG} {tb:TS} {D:je} {σ:St} {H:Hp} (Pv:Nat->St->Hp->Prop) (h0:Pv 0 σ H) (hl:∀ i σ H,i<=xs.length->Pv i σ H->SqL K H a xs)
  (hs:∀ i x σ H,xs[i]?=some x->Pv i σ H->g x σ H fun σ2 H2=>tb { D with nx:=Pv (i + 1),ct:=Pv (i + 1),bk:=D.nx } σ2 H2) (hd:∀ σ H,Pv xs.length σ H->D.nx σ H) :
  ∃ W:Nat->Nat->St->Hp->Prop,(∃ m,W 0 m σ H)/\∀ i m σ H,W i m σ H ->
   ((Itl K a).stop i H/\D.nx σ H)\/((Itl K a).go i H/\∃ N:St->Hp->Prop,(∀ σ' H',N σ' H'->∃ m',m' < m/\W (i + 1) m' σ' H')/\∀ x H',(Itl K a).yld i H x H'->g x σ H' fun σ2 H2=>tb { D with nx:=N,ct:=N,bk:=D.nx } σ2 H2):=by
 refine ⟨fun i m σ H=>m=xs.length - i/\i<=xs.length/\Pv i σ H,⟨xs.length,by simp,Nat.zero_le _,h0⟩,?_⟩
 rintro i m σ H ⟨rfl,hi,p⟩
 have q:=hl i σ H hi p
 by_cases hlt:i < xs.length
 ·refine .inr ⟨⟨xs,xs[i],q,by simp [hlt]⟩,Pv (i + 1),fun σ' H' p'=>⟨xs.length - (i + 1),by omega,rfl,hlt,p'⟩,fun x H' y=>?_⟩
  obtain ⟨e,y⟩:=y
  subst e
  exact hs i x σ _ (y xs q) p
 ·have e:i=xs.length:=by omega
  subst e
  exact .inl ⟨⟨xs,q,Nat.le_refl _⟩,hd σ H p⟩
end L2
namespace L2
open PySem PySem.Spec PyProof.Rows
noncomputable abbrev R2:=V->V->Hp->VK->Prop
noncomputable def OpR (X:Cx) (f:Value->Value->Sem Value) (r:R2):Prop :=
 ∀ (pins:List (Addr × Obj)) (s:Shared) (σ:St) (H:Hp) (x y:V) (v u:Value) (Q:VK),Inv X pins σ H s->RelV x v->RelV y u->r x y H Q ->
  wpAny (model X.prog X.w) X.A (f v u) (EP X pins σ Q) X.xe s
noncomputable def UnR (X:Cx) (f:Value->Sem Value) (r:V->Hp->VK->Prop):Prop :=
 ∀ (pins:List (Addr × Obj)) (s:Shared) (σ:St) (H:Hp) (x:V) (v:Value) (Q:VK),Inv X pins σ H s->RelV x v->r x H Q ->
  wpAny (model X.prog X.w) X.A (f v) (EP X pins σ Q) X.xe s
noncomputable def jR (X:Cx) (f:Value) (r:List V->Hp->VK->Prop):Prop :=
 ∀ (pins:List (Addr × Obj)) (s:Shared) (σ:St) (H:Hp) (xs:List V) (us:List Value) (Q:VK),Inv X pins σ H s->Vals xs us->r xs H Q ->
  wpAny (model X.prog X.w) X.A (call f us) (EP X pins σ Q) X.xe s
noncomputable def tOp (r:R2) (ta tb:TE):TE:=fun σ H Q=>ta σ H fun x H1=>tb σ H1 fun y H2=>r x y H2 Q
noncomputable def tUn (r:V->Hp->VK->Prop) (ta:TE):TE:=fun σ H Q=>ta σ H fun x H1=>r x H1 Q
noncomputable def rI (C:Int->Int->Prop) (g:Int->Int->V):R2:=fun x y H Q=>∃ i j,x=.int i/\y=.int j/\C i j/\Q (g i j) H
noncomputable def rI0 (g:Int->Int->V):R2:=fun x y H Q=>∃ i j,x=.int i/\y=.int j/\Q (g i j) H
noncomputable def rU (g:Int->V):V->Hp->VK->Prop:=fun x H Q=>∃ i,x=.int i/\Q (g i) H
section
variable {X:Cx} {a b c:Expr} {ta tb tc:TE} {pos:Pos}
theorem yU (ha:PE X a ta) (hb:PE X b tb) {pins:List (Addr × Obj)} {s:Shared} {σ:St} {H:Hp} {R:V->V->Hp->Prop} (I:Inv X pins σ H s)
  (h:ta σ H fun x H1=>tb σ H1 fun y H2=>R x y H2) {Q:Value->Shared->Prop} {f:Value->Value->Sem Value}
  (hf:∀ v u s2 x y H2,Inv X pins σ H2 s2->RelV x v->RelV y u->R x y H2->wpAny (model X.prog X.w) X.A (f v u) Q X.xe s2) :
  wpAny (model X.prog X.w) X.A (eval a X.env) (fun v s₁=>wpAny (model X.prog X.w) X.A (eval b X.env) (fun u s₂=>wpAny (model X.prog X.w) X.A (f v u) Q X.xe s₂) X.xe s₁) X.xe s:=by
 refine thn (ha pins s σ H _ I h) fun v s1 ⟨x,H1,I1,r1,q1⟩=>?_
 refine thn (hb pins s1 σ H1 _ I1 q1) fun u s2 ⟨y,H2,I2,r2,q2⟩=>?_
 exact hf v u s2 x y H2 I2 r1 r2 q2
theorem w4 {op:Operator} {r:R2} (ho:OpR X (binaryOp op) r) (ha:PE X a ta) (hb:PE X b tb):PE X (.BinOp a op b pos) (tOp r ta tb):=by
 intro pins s σ H Q I h
 exact wpAny_BinOp (yU ha hb I h fun v u s2 x y H2 I2 rx ry q=>ho pins s2 σ H2 x y v u Q I2 rx ry q)
theorem zB {op:UnaryOp} {r:V->Hp->VK->Prop} (ho:UnR X (unaryOp op) r) (ha:PE X a ta):PE X (.UnaryOp op a pos) (tUn r ta):=by
 intro pins s σ H Q I h
 exact UnaryOp_ (thn (ha pins s σ H _ I h) fun v s1 ⟨x,H1,I1,r1,q1⟩=>ho pins s1 σ H1 x v Q I1 r1 q1)
theorem opI {f:Value->Value->Sem Value} {C:Int->Int->Prop} {g:Int->Int->Int}
  (rule:∀ (i j:Int) (t u:Tok) (s:Shared) (Q:Value->Shared->Prop) (E:Value->Shared->Prop),C i j->Q (.int (g i j) s.toks) { s with toks:=s.toks + 1 }->wpAny (model X.prog X.w) X.A (f (.int i t) (.int j u)) Q E s) :
  OpR X f (rI C fun i j=>.int (g i j)):=by
 intro pins s σ H x y v u Q I rx ry h
 obtain ⟨i,j,rfl,rfl,hc,q⟩:=h
 obtain ⟨t,rfl⟩:=rx
 obtain ⟨t',rfl⟩:=ry
 exact rule i j t t' s _ _ hc ⟨.int (g i j),H,I.tok _,⟨_,rfl⟩,q⟩
theorem An {f:Value->Value->Sem Value} {g:Int->Int->Int}
  (rule:∀ (i j:Int) (t u:Tok) (s:Shared) (Q:Value->Shared->Prop) (E:Value->Shared->Prop),Q (.int (g i j) s.toks) { s with toks:=s.toks + 1 }->wpAny (model X.prog X.w) X.A (f (.int i t) (.int j u)) Q E s) :
  OpR X f (rI0 fun i j=>.int (g i j)):=by
 intro pins s σ H x y v u Q I rx ry h
 obtain ⟨i,j,rfl,rfl,q⟩:=h
 obtain ⟨t,rfl⟩:=rx
 obtain ⟨t',rfl⟩:=ry
 exact rule i j t t' s _ _ ⟨.int (g i j),H,I.tok _,⟨_,rfl⟩,q⟩
theorem yf {f:Value->Value->Sem Value} {g:Int->Int->Bool}
  (rule:∀ (i j:Int) (t u:Tok) (s:Shared) (Q:Value->Shared->Prop) (E:Value->Shared->Prop),Q (.bool (g i j)) s->wpAny (model X.prog X.w) X.A (f (.int i t) (.int j u)) Q E s) :
  OpR X f (rI0 fun i j=>.bl (g i j)):=by
 intro pins s σ H x y v u Q I rx ry h
 obtain ⟨i,j,rfl,rfl,q⟩:=h
 obtain ⟨t,rfl⟩:=rx
 obtain ⟨t',rfl⟩:=ry
 exact rule i j t t' s _ _ ⟨.bl (g i j),H,I,rfl,q⟩
noncomputable def zZ (i j:Int):Prop:=0 < j/\j < 1073741824
noncomputable def CMul (i j:Int):Prop:=(-(2 ^ 64) < i/\i < 2 ^ 64)\/(-(2 ^ 64) < j/\j < 2 ^ 64)
theorem CMul.ok {i j:Int} (h:CMul i j):IntMulOk i j:=by
 rcases h with ⟨h1,h2⟩ | ⟨h1,h2⟩
 ·exact .of_left (intBits_le_64 h1 h2)
 ·exact .of_right (intBits_le_64 h1 h2)
theorem op_add:OpR X (binaryOp .Add) (rI0 fun i j=>.int (i + j)):=An fun _ _ _ _ _ _ _ q=>add_int q
theorem yd:OpR X (binaryOp .Mult) (rI CMul fun i j=>.int (i * j)):=opI fun _ _ _ _ _ _ _ hc q=>mul_int q hc.ok
theorem v5:OpR X (binaryOp .FloorDiv) (rI zZ fun i j=>.int (i / j)):=opI fun i j _ _ _ _ _ hc q=>by
 have h1:(0:Int) < j:=hc.1
 have h2:j < 1073741824:=hc.2
 exact floordiv_int (by omega) (by rw [Int.fdiv_eq_ediv_of_nonneg i (by omega)];exact q) (.inl (PyProof.noPylong_small (by omega)))
theorem ye:OpR X (binaryOp .Mod) (rI (fun _ j=>0 < j) fun i j=>.int (i % j)):=opI fun i j _ _ _ _ _ hc q=>by
 have h1:(0:Int) < j:=hc
 exact mod_int' (by omega) (by rw [Int.fmod_eq_emod_of_nonneg i (by omega)];exact q)
theorem unI {f:Value->Sem Value} {g:Int->Int}
  (rule:∀ (i:Int) (t:Tok) (s:Shared) (Q:Value->Shared->Prop) (E:Value->Shared->Prop),Q (.int (g i) s.toks) { s with toks:=s.toks + 1 }->wpAny (model X.prog X.w) X.A (f (.int i t)) Q E s) :
  UnR X f (rU fun i=>.int (g i)):=by
 intro pins s σ H x v Q I rx h
 obtain ⟨i,rfl,q⟩:=h
 obtain ⟨t,rfl⟩:=rx
 exact rule i t s _ _ ⟨.int (g i),H,I.tok _,⟨_,rfl⟩,q⟩
theorem xn:UnR X (unaryOp .USub) (rU fun i=>.int (-i)):=unI fun _ _ _ _ _ q=>neg_int q
end
section
variable {X:Cx} {a b c:Expr} {ta tb tc:TE} {pos:Pos}
theorem w6:OpR X (compareOp .Lt) (rI0 fun i j=>.bl (decide (i < j))):=yf fun _ _ _ _ _ _ _ q=>lt_int q
theorem oN:OpR X (compareOp .LtE) (rI0 fun i j=>.bl (decide (i<=j))):=yf fun _ _ _ _ _ _ _ q=>le_int q
theorem zC:OpR X (compareOp .Gt) (rI0 fun i j=>.bl (decide (j < i))):=yf fun _ _ _ _ _ _ _ q=>gt_int q
theorem OpR.or {f:Value->Value->Sem Value} {r r':R2} (h:OpR X f r) (h':OpR X f r'):OpR X f (fun x y H Q=>r x y H Q\/r' x y H Q):=by
 intro pins s σ H x y v u Q I rx ry q
 rcases q with q | q
 ·exact h pins s σ H x y v u Q I rx ry q
 ·exact h' pins s σ H x y v u Q I rx ry q
theorem kS (b:Expr) {op:CmpOp} (h:op ≠ .In:=by decide) (h2:op ≠ .NotIn:=by decide):behindInMarks op b=false:=by
 have e1:(op == CmpOp.In)=false:=by cases op <;> first | rfl | exact absurd rfl h
 have e2:(op == CmpOp.NotIn)=false:=by cases op <;> first | rfl | exact absurd rfl h2
 cases b <;> simp [behindInMarks,e1,e2]
theorem vS {op:CmpOp} {r:R2} (ho:OpR X (compareOp op) r) (ha:PE X a ta) (hb:PE X b tb) (hm:behindInMarks op b=false):PE X (.Compare a [op] [b] pos) (tOp r ta tb):=by
 intro pins s σ H Q I h
 exact wpAny_Compare1 (yU ha hb I h fun v u s2 x y H2 I2 rx ry q=>ho pins s2 σ H2 x y v u Q I2 rx ry q) hm
noncomputable def wY (t:TE):TT:=fun σ H Q=>t σ H fun x H'=>∃ k,x=.bl k/\Q k H'
theorem qN {op:CmpOp} {r:R2} (ho:OpR X (compareOp op) r) (ha:PE X a ta) (hb:PE X b tb) (hm:behindInMarks op b=false):PT X (.Compare a [op] [b] pos) (wY (tOp r ta tb)):=by
 intro pins s σ H Q I h
 refine wpAny_isTrue_Compare1 (thn (ha pins s σ H _ I h) fun v s1 ⟨x,H1,I1,r1,q1⟩=>thn (hb pins s1 σ H1 _ I1 q1) fun u s2 ⟨y,H2,I2,r2,q2⟩ =>
  thn (ho pins s2 σ H2 x y v u _ I2 r1 r2 q2) fun c s3 ⟨z,H3,I3,r3,k,e,q3⟩=>?_) hm
 subst e
 cases r3
 exact wpAny_truthy_bool ⟨H3,I3,q3⟩
noncomputable def pU (r r':R2) (ta tb tc:TE):TE:=fun σ H Q=>ta σ H fun x H1=>tb σ H1 fun y H2=>r x y H2 fun z H3=>∃ k,z=.bl k /\
 (if k=true then tc σ H3 fun w' H4=>r' y w' H4 Q else Q (.bl false) H3)
theorem tW {op op':CmpOp} {r r':R2} (ho:OpR X (compareOp op) r) (ho':OpR X (compareOp op') r') (ha:PE X a ta) (hb:PE X b tb) (hc:PE X c tc)
  (hm:lastMarks [op,op'] [b,c]=false:=by with_unfolding_all rfl):PE X (.Compare a [op,op'] [b,c] pos) (pU r r' ta tb tc):=by
 intro pins s σ H Q I h
 refine Compare_chain (thn (ha pins s σ H _ I h) fun v s1 ⟨x,H1,I1,r1,q1⟩=>chain_link (thn (hb pins s1 σ H1 _ I1 q1) fun u s2 ⟨y,H2,I2,r2,q2⟩ =>
  thn (ho pins s2 σ H2 x y v u _ I2 r1 r2 q2) fun d s3 ⟨z,H3,I3,r3,k,e,q3⟩=>?_)) hm
 subst e
 cases r3
 refine wpAny_truthy_bool ?_
 cases k with
 | false=>exact ite_ff ⟨.bl false,H3,I3,rfl,q3⟩
 | true=>exact ite_tt (chain_last (thn (hc pins s3 σ H3 _ I3 q3) fun w' s4 ⟨z',H4,I4,r4,q4⟩=>ho' pins s4 σ H4 y z' u w' Q I4 r2 r4 q4))
theorem tH {op op':CmpOp} {r r':R2} (ho:OpR X (compareOp op) r) (ho':OpR X (compareOp op') r') (ha:PE X a ta) (hb:PE X b tb) (hc:PE X c tc)
  (hm:lastMarks [op,op'] [b,c]=false:=by with_unfolding_all rfl):PT X (.Compare a [op,op'] [b,c] pos) (wY (pU r r' ta tb tc)):=by
 intro pins s σ H Q I h
 refine isTrue_chain (thn (ha pins s σ H _ I h) fun v s1 ⟨x,H1,I1,r1,q1⟩=>test_link (thn (hb pins s1 σ H1 _ I1 q1) fun u s2 ⟨y,H2,I2,r2,q2⟩ =>
  thn (ho pins s2 σ H2 x y v u _ I2 r1 r2 q2) fun d s3 ⟨z,H3,I3,r3,k,e,q3⟩=>?_)) hm
 subst e
 cases r3
 refine wpAny_truthy_bool ?_
 cases k with
 | false =>
  obtain ⟨k',e',q'⟩:=q3
  cases e'
  exact ite_ff ⟨H3,I3,q'⟩
 | true =>
  refine ite_tt (test_last (thn (hc pins s3 σ H3 _ I3 q3) fun w' s4 ⟨z',H4,I4,r4,q4⟩=>thn (ho' pins s4 σ H4 y z' u w' _ I4 r2 r4 q4) fun d' s5 ⟨z2,H5,I5,r5,k2,e2,q5⟩=>?_))
  subst e2
  cases r5
  exact wpAny_truthy_bool ⟨H5,I5,q5⟩
theorem nt:(sizeLine:Nat) < 2 ^ 63:=by rw [sizeLine_eq];decide
theorem ot {x:V} {us:List Value} (r:Vals [x] us):∃ u,us=[u]/\RelV x u:=by
 cases r with
 | cons r1 r2=>cases r2;exact ⟨_,rfl,r1⟩
theorem ze {x y:V} {us:List Value} (r:Vals [x,y] us):∃ u w',us=[u,w']/\RelV x u/\RelV y w':=by
 cases r with
 | cons r1 r2 =>
  cases r2 with
  | cons r3 r4=>cases r4;exact ⟨_,_,rfl,r1,r3⟩
theorem jA (hc:X.calm=true):jR X (.builtin "max") (fun xs H Q=>∃ i j,xs=[.int i,.int j]/\Q (.int (if j > i then j else i)) H):=by
 intro pins s σ H xs us Q I r h
 obtain ⟨i,j,rfl,q⟩:=h
 obtain ⟨u,w',rfl,⟨t,rfl⟩,⟨t',rfl⟩⟩:=ze r
 refine max_two_ints (I.ok.hd hc) fun h' tk k=>⟨_,H,I.kept k,?_,q⟩
 by_cases hj:j > i
 ·rw [if_pos hj,if_pos hj];exact ⟨_,rfl⟩
 ·rw [if_neg hj,if_neg hj];exact ⟨_,rfl⟩
end
end L2
namespace L2
open PySem PySem.Spec PyProof.Rows
structure ObjM (h:Heap) (x dx C:Addr) (mA:Str->Option Value):Prop where
 obj:h.get? x=some (PySem.W.instObj C dx)
 ns:h.Ns1 dx mA
 ne:dx ≠ x
theorem su {h:Heap} {dx:Addr} {mA:Str->Option Value} (n:h.Ns1 dx mA):∃ od,h.get? dx=some od/\∀ name,PySem.W.lookIn name od=some (mA name):=by
 obtain ⟨o,es,ep,ho,hd,hk,_,hm⟩:=n
 refine ⟨o,ho,fun name=>?_⟩
 have e:=hm name
 unfold nsFind findBy at e
 rw [<- Array.find?_toList] at e
 unfold PySem.W.lookIn
 rw [hd]
 dsimp only
 split
 ·rename_i y q
  rw [q] at e
  exact congrArg some e
 ·rename_i q
  rw [q] at e
  have a:es.toList.any (·.refKey)=false:=by
   rw [List.any_eq_false]
   intro y hy
   obtain ⟨z,t,hkey⟩:=hk y (Array.mem_toList_iff.mp hy)
   simp [DictEntry.refKey,hkey]
  have a':¬ es.toList.any (·.refKey)=true:=by rw [a];exact Bool.false_ne_true
  rw [if_neg a']
  exact congrArg some e
theorem ObjM.look {h:Heap} {x dx C:Addr} {mA:Str->Option Value} (I:ObjM h x dx C mA):∃ od,PySem.W.InstAt h x (PySem.W.instObj C dx) C (some od)/\∀ name,PySem.W.lookIn name od=some (mA name) :=
 let ⟨od,ho,hl⟩:=su I.ns
 ⟨od,⟨I.obj,rfl,rfl,ho⟩,hl⟩
section
variable {prog:Program} {w:World} {A:Around} {E:Value->Shared->Prop} {s:Shared} {K:PySem.W.Frag} {x dx C f:Addr} {mA:Str->Option Value} {name:Str} {v:Value}
theorem wn {expr:Bool} {Q:Value->Shared->Prop} (X:K.In s.heap) (I:ObjM s.heap x dx C mA) (hg:PySem.W.plainGet K C name=true) (hh:PySem.W.hasDictIn K C=true)
  (ha:PySem.W.findIn K (.ref C) name=some none) (hv:mA name=some v) (hv':PySem.W.handedIn v=true) (h:Q v { s with toks:=s.toks + 1 }) :
  wpAny (model prog w) A (getAttr (.ref x) name expr) Q E s:=by
 obtain ⟨od,J,hl⟩:=I.look
 exact PySem.W.get_value X J (PySem.W.plainGet_of hg).1 (PySem.W.findObj_own hh ha rfl (by rw [hl,hv])) hv' h
theorem vu {ns:List Str} {Q:Unit->Shared->Prop} (X:K.In s.heap) (I:ObjM s.heap x dx C mA)
  (hs:PySem.W.findIn K (.ref C) "__setattr__"=some (some (.builtin "object.__setattr__"))) (hp:PySem.W.plainOver K C=true) (ht:PySem.W.takerIn K C name=some none) (hh:PySem.W.hasDictIn K C=true)
  (hw:PySem.Within mA ns) (hsz:ns.length<=sizeLine)
  (h:∀ h',ObjM h' x dx C (fun y=>if y=name then some v else mA y)->Heap.SameBut dx s.heap h'->Q () { s with heap:=h',toks:=s.toks + 2 }) :
  wpAny (model prog w) A (setAttr (.ref x) name v) Q E s:=by
 obtain ⟨od,J,hl⟩:=I.look
 refine PySem.W.set_plain X J hs (PySem.W.osa_open (s:={ s with toks:=s.toks + 1 }) (r:=none) X J hp ht fun b=>?_)
 obtain ⟨cd,hc,hd'⟩:=PySem.W.any_some hh
 have hx:s.heap.get? x=some ⟨.ref C,some dx,.plain,#[]⟩:=I.obj
 refine wpAny_bind (wpAny_pure (wpAny_bind (wpAny_bind (wpAny_loadPart hx (wpAny_bind (PySem.W.Looks.here (s:={ s with toks:=s.toks + 1 }) (PySem.W.looks_clsIn X hc) ?_))))))
 rw [hd']
 refine wpAny_pure (a:=some dx) (wpAny_bind (wpAny_pure (wpAny_bind ?_)))
 refine wpAny_nsSet1 (s:={ s with toks:=s.toks + 1 }) I.ns fun h' hn2 hs2=>?_
 obtain ⟨oD,esD,epD,hoD,hdD,hcD⟩:=hn2.count (PySem.Within.cons name v hw)
 refine wpAny_bind (wpAny_lookBehind hoD (by rw [hdD];exact pastItsLine_dict (Nat.le_trans hcD (by rw [List.length_cons];omega))) ?_)
 exact wpAny_pure (h _ ⟨(hs2.2 _ (Ne.symm I.ne)).trans I.obj,hn2,I.ne⟩ hs2)
theorem uf {R:Result->Shared->Prop} {vs:List Value} {kw:List (Str × Value)} (X:K.In s.heap) (hm:PySem.W.makesIn K C=true)
  (hi:PySem.W.findIn K (.ref C) "__init__"=some (some (.ref f))) (hf:PySem.W.typeIn K (.ref f)=some (.type "function"))
  (h:codeAny (model prog w) (A.under (.builtin "type.__call__" ⟨.ref C :: vs,kw⟩)) (.call (.ref f) ⟨.ref (s.heap.objs.size + 1) :: vs,kw⟩) (PySem.W.InitBack (s.heap.objs.size + 1) R)
   {s with heap:=(s.heap.push PySem.W.emptyDict).push (PySem.W.instObj C s.heap.objs.size) }) :
  codeAny (model prog w) A (.call (.ref C) ⟨vs,kw⟩) R s:=by
 obtain ⟨hh,g,d,t,os⟩:=s
 exact PySem.W.make_core (PySem.W.makes_of X hm) (PySem.W.looks_findIn X hi) (fun self=>PySem.W.bind_fn X self hf) (.inl rfl) h
end
noncomputable def gk (f:Str) (v:V):List (Str × V)->List (Str × V)
 | []=>[(f,v)]
 | (g,x) :: r=>if g=f then (g,v) :: r else (g,x) :: gk f v r
theorem jL (f g:Str) (v:V):∀ fs:List (Str × V),(gk f v fs).lookup g=if g=f then some v else fs.lookup g
 | []=>by
  show List.lookup g [(f,v)]=_
  by_cases h:g=f
  ·have hb:(g == f)=true:=beq_iff_eq.mpr h
   simp only [List.lookup,hb,if_pos h]
  ·have hb:(g == f)=false:=beq_eq_false_iff_ne.mpr h
   simp only [List.lookup,hb,if_neg h]
 | (k,x) :: r=>by
  have ih:=jL f g v r
  rw [show gk f v ((k,x) :: r)=(if k=f then (k,v) :: r else (k,x) :: gk f v r) from rfl]
  by_cases hk:k=f
  ·rw [if_pos hk]
   by_cases h:g=k
   ·have hb:(g == k)=true:=beq_iff_eq.mpr h
    simp only [List.lookup,hb,if_pos (h.trans hk)]
   ·have hb:(g == k)=false:=beq_eq_false_iff_ne.mpr h
    simp only [List.lookup,hb,if_neg (fun e:g=f=>h (e.trans hk.symm))]
  ·rw [if_neg hk]
   by_cases h:g=k
   ·have hb:(g == k)=true:=beq_iff_eq.mpr h
    simp only [List.lookup,hb,if_neg (fun e:g=f=>hk (h.symm.trans e))]
   ·have hb:(g == k)=false:=beq_eq_false_iff_ne.mpr h
    simp only [List.lookup,hb]
    exact ih
theorem jr (f:Str) (v:V):∀ fs:List (Str × V),f ∈ (gk f v fs).map (·.1)/\∀ g,g ∈ fs.map (·.1)->g ∈ (gk f v fs).map (·.1)
 | []=>⟨by simp [gk],fun g h=>by simp at h⟩
 | (k,x) :: r=>by
  obtain ⟨i1,i2⟩:=jr f v r
  rw [show gk f v ((k,x) :: r)=(if k=f then (k,v) :: r else (k,x) :: gk f v r) from rfl]
  by_cases hk:k=f
  ·rw [if_pos hk]
   subst hk
   exact ⟨by simp,fun g h=>by simpa using h⟩
  ·rw [if_neg hk]
   refine ⟨?_,fun g h=>?_⟩
   ·rw [List.map_cons]
    exact List.mem_cons_of_mem _ i1
   ·rw [List.map_cons] at h ⊢
    rcases List.mem_cons.mp h with e | e
    ·exact List.mem_cons.mpr (.inl e)
    ·exact List.mem_cons_of_mem _ (i2 g e)
theorem jM (f:Str) (v:V):∀ fs:List (Str × V),(gk f v fs).length<=fs.length + 1
 | []=>by simp [gk]
 | (k,x) :: r=>by
  have ih:=jM f v r
  rw [show gk f v ((k,x) :: r)=(if k=f then (k,v) :: r else (k,x) :: gk f v r) from rfl]
  by_cases hk:k=f
  ·rw [if_pos hk,List.length_cons,List.length_cons];omega
  ·rw [if_neg hk,List.length_cons,List.length_cons];omega
theorem RelO.some_of {v:V} {o:Option Value} (r:RelO (some v) o):∃ u,o=some u/\RelV v u:=by
 cases o with
 | none=>exact (show False from r).elim
 | some u=>exact ⟨u,rfl,r⟩
theorem sA {v:V} {u:Value} (r:RelV v u):PySem.W.handedIn u=true:=by
 cases v with
 | non=>cases (show u=Value.none from r);rfl
 | bl b=>cases (show u=Value.bool b from r);rfl
 | int i=>obtain ⟨t,e⟩:=(show ∃ t,u=Value.int i t from r);cases e;rfl
 | str x=>obtain ⟨t,e⟩:=(show ∃ t,u=Value.str x t from r);cases e;rfl
 | byt b=>obtain ⟨t,e⟩:=(show ∃ t,u=Value.bytes b t from r);cases e;rfl
 | flt b=>obtain ⟨t,e⟩:=(show ∃ t,u=Value.float b t from r);cases e;rfl
 | ref a=>cases (show u=Value.ref a from r);rfl
 | ty n=>cases (show u=Value.type n from r);rfl
section
variable {P:Program} {w:World} {H H':Hp} {h h':Heap} {a C dx:Addr} {fs fs':List (Str × V)}
theorem nA (hok:HOk P w H h) (e:H a=some (.ins C dx fs)):∃ mA,ObjM h a dx C mA/\(∀ f,RelO (fs.lookup f) (mA f))/\PySem.Within mA (fs.map (·.1))/\fs.length<=1000/\H dx=some (.own a):=by
 obtain ⟨d,z,ne,ob,mA,n,r,q⟩:=(show ObjOk P w H h a (.ins C dx fs) from hok a _ e)
 exact ⟨mA,⟨ob,n,ne⟩,r,q,z,d⟩
end
structure Cls (K:PySem.W.Frag) (C:Addr):Prop where
 pg:PySem.W.plainGet K C Str.empty=true
 hd:PySem.W.hasDictIn K C=true
 po:PySem.W.plainOver K C=true
 sa:PySem.W.findIn K (.ref C) "__setattr__"=some (some (.builtin "object.__setattr__"))
theorem Cls.get {K:PySem.W.Frag} {C:Addr} (c:Cls K C) (f:Str):PySem.W.plainGet K C f=true:=c.pg
noncomputable def NoAttr (K:PySem.W.Frag) (C:Addr) (f:Str):Prop:=PySem.W.findIn K (.ref C) f=some none
theorem NoAttr.taker {K:PySem.W.Frag} {C:Addr} {f:Str} (n:NoAttr K C f):PySem.W.takerIn K C f=some none:=by
 unfold PySem.W.takerIn
 rw [show PySem.W.findIn K (.ref C) f=some none from n]
 rfl
section
variable {X:Cx} {pins:List (Addr × Obj)} {σ:St} {H:Hp} {s:Shared} {a C dx:Addr} {fs:List (Str × V)} {f:Str} {v:V} {A:Around} {E:Value->Shared->Prop}
theorem qf {b:Bool} {Q:Value->Shared->Prop} (I:Inv X pins σ H s) (e:H a=some (.ins C dx fs)) (c:Cls X.K C) (n:NoAttr X.K C f) (l:fs.lookup f=some v)
  (h:∀ u s',Inv X pins σ H s'->RelV v u->Q u s'):wpAny (model X.prog X.w) A (getAttr (.ref a) f b) Q E s:=by
 obtain ⟨mA,O,r,_,_,_⟩:=nA I.hok e
 obtain ⟨u,hu,ru⟩:=RelO.some_of (v:=v) (o:=mA f) (by rw [<- l];exact r f)
 exact wn I.kIn O (c.get f) c.hd n hu (sA ru) (h u _ (I.tok _) ru)
theorem pW {y:V} {u:Value} {Q:Unit->Shared->Prop} (I:Inv X pins σ H s) (e:H a=some (.ins C dx fs)) (c:Cls X.K C) (n:NoAttr X.K C f) (hl:fs.length < 1000) (ry:RelV y u)
  (h:∀ s',Inv X pins σ (upd H a (.ins C dx (gk f y fs))) s'->Q () s'):wpAny (model X.prog X.w) A (setAttr (.ref a) f u) Q E s:=by
 obtain ⟨mA,O,r,wi,_,ho⟩:=nA I.hok e
 have hz:(fs.map (·.1)).length<=sizeLine:=by rw [List.length_map,sizeLine_eq];omega
 refine vu I.kIn O c.sa c.po n.taker c.hd wi hz fun h' O' sb=>h _ ?_
 have hd:∃ o,h'.get? dx=some o:=let ⟨o,_,_,e',_⟩:=O'.ns;⟨o,e'⟩
 refine I.write (x:=a) (e:=dx) (by rw [e];exact True.intro) (.inr ho) (fun b q hb z=>(sb.2 b hb).trans z) hd ?_
 refine ⟨by rw [aE O.ne];exact ho,?_,O.ne,O'.obj,_,O'.ns,fun g=>?_,fun g hg=>?_⟩
 ·have:=jM f y fs;omega
 ·show RelO ((gk f y fs).lookup g) (if g=f then some u else mA g)
  rw [jL]
  by_cases q:g=f
  ·rw [if_pos q,if_pos q];exact ry
  ·rw [if_neg q,if_neg q];exact r g
 ·by_cases q:g=f
  ·rw [q];exact (jr f y fs).1
  ·refine (jr f y fs).2 g (wi g fun z=>hg ?_)
   show (if g=f then some u else mA g)=none
   rw [if_neg q];exact z
theorem Inv.made (I:Inv X pins σ H s):Inv X pins σ (upd (upd H s.heap.objs.size (.own (s.heap.objs.size + 1))) (s.heap.objs.size + 1) (.ins C s.heap.objs.size []))
  {s with heap:=(s.heap.push PySem.W.emptyDict).push (PySem.W.instObj C s.heap.objs.size) }:=by
 have e1:(s.heap.push PySem.W.emptyDict).get? s.heap.objs.size=some PySem.W.emptyDict:=Heap.get?_push_size s.heap rfl
 have e2:((s.heap.push PySem.W.emptyDict).push (PySem.W.instObj C s.heap.objs.size)).get? (s.heap.objs.size + 1)=some (PySem.W.instObj C s.heap.objs.size):=by
  have:=Heap.get?_push_size (s.heap.push PySem.W.emptyDict) (o:=PySem.W.instObj C s.heap.objs.size) rfl
  rwa [Heap.size_push] at this
 have e3:(s.heap.push PySem.W.emptyDict).Ns s.heap.objs.size (fun _=>none):=⟨PySem.W.emptyDict,#[],_,e1,rfl,(fun e he=>absurd he (by simp)),fun _=>rfl⟩
 have I1:=I.laid (a:=s.heap.objs.size) (o:=.own (s.heap.objs.size + 1)) (h':=s.heap.push PySem.W.emptyDict) (t':=s.toks) (fun b u q=>Heap.get?_push_of_some _ q) (Nat.le_refl _) ⟨_,e1⟩
 refine I1.laid (a:=s.heap.objs.size + 1) (o:=.ins C s.heap.objs.size []) (t':=s.toks) (fun b u q=>Heap.get?_push_of_some _ q) (Nat.le_of_eq (Heap.size_push _ _)) ?_
 have ne:s.heap.objs.size ≠ s.heap.objs.size + 1:=Nat.ne_of_lt (Nat.lt_succ_self _)
 refine ⟨by rw [aE ne,aU],Nat.zero_le _,ne,e2,fun _=>none,(Heap.Ns1.of_empty e3).at fun o q=>Heap.get?_push_of_some _ q,fun _=>True.intro,fun y hy=>absurd rfl hy⟩
theorem wR {prog:Program} {w:World} {env:Env} {e:Expr} {f:Str} {pos:Pos} {s:Shared} {Q:Value->Shared->Prop} (hb:attributeBase e f env (eval e env)=eval e env)
  (h:wpAny (model prog w) A (eval e env) (fun o s₁=>wpAny (model prog w) A (getAttr o f true) Q E s₁) E s):wpAny (model prog w) A (eval (.Attribute e f pos) env) Q E s :=
 Attribute_any_ h (by rw [arm_eval_Attribute,hb])
end
noncomputable def Ai (K:PySem.W.Frag) (ta:TE) (f:Str):TE:=fun σ H Q=>ta σ H fun x H1=>∃ a C dx fs v,x=.ref a/\H1 a=some (.ins C dx fs)/\Cls K C/\NoAttr K C f/\fs.lookup f=some v/\Q v H1
noncomputable def m7 (K:PySem.W.Frag) (ta tv:TE) (f:Str):TS:=fun D σ H=>tv σ H fun y H1=>ta σ H1 fun x H2=>∃ a C dx fs,x=.ref a/\H2 a=some (.ins C dx fs)/\Cls K C/\NoAttr K C f/\fs.length < 1000 /\
 D.nx σ (upd H2 a (.ins C dx (gk f y fs)))
section
variable {X:Cx} {o e value:Expr} {f:Str} {pos pos' tpos:Pos} {ta tv:TE}
theorem xW (he:PE X e ta) (hb:attributeBase e f X.env (eval e X.env)=eval e X.env):PE X (.Attribute e f pos) (Ai X.K ta f):=by
 intro pins s σ H Q I h
 refine wR hb (thn (he pins s σ H _ I h) fun u s1 ⟨x,H1,I1,rx,a,C,dx,fs,v,ex,ea,c,n,l,q⟩=>?_)
 subst ex
 obtain rfl:u=Value.ref a:=rx
 exact qf I1 ea c n l fun u' s2 I2 ru=>⟨v,H1,I2,ru,q⟩
theorem xK (ha:PE X o ta) (hv:PE X value tv) (hs:swapsWith value (some (.Attribute o f pos')) pos.line X.env=pure false):PS X (.Assign [.Attribute o f pos'] value pos) (m7 X.K ta tv f):=by
 intro pins s σ H D I h
 refine plainObj_wpAny_Assign_Attribute (thn (hv pins s σ H _ I h) fun u s1 ⟨y,H1,I1,ry,q⟩=>thn (ha pins s1 σ H1 _ I1 q) fun ov s2 ⟨x,H2,I2,rx,a,C,dx,fs,ex,ea,c,n,l,q2⟩=>?_) hs
 subst ex
 obtain rfl:ov=Value.ref a:=rx
 exact pW I2 ea c n l ry fun s3 I3=>⟨σ,_,I3,q2⟩
end
section
variable {X:Cx} {pins:List (Addr × Obj)} {σ:St} {H:Hp} {s:Shared} {A:Around} {E:Value->Shared->Prop} {Q:Value->Shared->Prop} {c:Value} {b:Bool}
inductive jH (K:PySem.W.Frag) (H:Hp):V->Value->Prop where
 | non:jH K H .non (.type "NoneType")
 | bl (x:Bool):jH K H (.bl x) (.type "bool")
 | int (i:Int):jH K H (.int i) (.type "int")
 | str (x:Str):jH K H (.str x) (.type "str")
 | flt (x:UInt64):jH K H (.flt x) (.type "float")
 | lst {a:Addr} {xs:List V} (e:H a=some (.lst xs)):jH K H (.ref a) (.type "list")
 | frz {a:Addr} {o:Obj} {xs:List V} (e:H a=some (.frz o (.lst xs))):jH K H (.ref a) (.type "list")
 | tup {a:Addr} {xs:List V} (e:H a=some (.tup xs)):jH K H (.ref a) (.type "tuple")
 | dK {a:Addr} {kvs:List (Key × V)} (e:H a=some (.dK kvs)):jH K H (.ref a) (.type "dict")
 | dT {a:Addr} {kvs:List (List Key × V)} (e:H a=some (.dT kvs)):jH K H (.ref a) (.type "dict")
 | ins {a C dx:Addr} {fs:List (Str × V)} (e:H a=some (.ins C dx fs)) (cl:Cls K C) (ha:PySem.W.findIn K (.ref C) "__class__"=some (some (.builtin "object.__class__")))
   (hn:PySem.W.specialIn K (.builtin "object.__class__") "__get__"=some (some (.builtin "getset_descriptor.__get__"))) (htk:PySem.W.takesIn K (.builtin "object.__class__")=some true)
   (hm:PySem.W.mroIn K C (.type "object")=some true):jH K H (.ref a) (.ref C)
theorem sw {x:V} {u t:Value} (I:Inv X pins σ H s) (rx:RelV x u) (ty:jH X.K H x t) (e:PySem.W.kitOne X.K t c=some b) (h:∀ tk,Q (.bool b) { s with toks:=tk }) :
  wpAny (model X.prog X.w) A (call (.builtin "isinstance") [u,c]) Q E s:=by
 cases ty with
 | non=>cases (show u=Value.none from rx);exact PySem.W.kia_one PySem.W.kitx_none I.kIn True.intro e (fun z=>nomatch z) h
 | bl y=>cases (show u=Value.bool y from rx);exact PySem.W.kia_one PySem.W.kitx_bool I.kIn True.intro e (fun z=>nomatch z) h
 | int i=>obtain ⟨t,q⟩:=(show ∃ t,u=Value.int i t from rx);cases q;exact PySem.W.kia_one PySem.W.kitx_int I.kIn True.intro e (fun z=>nomatch z) h
 | str y=>obtain ⟨t,q⟩:=(show ∃ t,u=Value.str y t from rx);cases q;exact PySem.W.kia_one PySem.W.kitx_str I.kIn True.intro e (fun z=>nomatch z) h
 | flt y=>obtain ⟨t,q⟩:=(show ∃ t,u=Value.float y t from rx);cases q;exact PySem.W.kia_one PySem.W.kitx_float I.kIn True.intro e (fun z=>nomatch z) h
 | @lst a xs ea =>
  cases (show u=Value.ref a from rx)
  obtain ⟨_,_,n,_,h1⟩:=(show ObjOk X.prog X.w H s.heap a (.lst xs) from I.hok a _ ea)
  exact PySem.W.kia_one PySem.W.kitx_list I.kIn ⟨_,h1,rfl⟩ e (fun z=>nomatch z) h
 | @frz a ob xs ea =>
  cases (show u=Value.ref a from rx)
  obtain ⟨_,_,_,n,_,h1⟩:=(show ObjOk X.prog X.w H s.heap a (.frz ob (.lst xs)) from I.hok a _ ea)
  exact PySem.W.kia_one PySem.W.kitx_list I.kIn ⟨_,h1,rfl⟩ e (fun z=>nomatch z) h
 | @tup a xs ea =>
  cases (show u=Value.ref a from rx)
  obtain ⟨_,_,_,p⟩:=(show ObjOk X.prog X.w H s.heap a (.tup xs) from I.hok a _ ea)
  obtain ⟨o,h1,h2,_⟩:=p
  exact PySem.W.kia_one PySem.W.kitx_tuple I.kIn ⟨o,h1,h2⟩ e (fun z=>nomatch z) h
 | @dK a kvs ea =>
  cases (show u=Value.ref a from rx)
  obtain ⟨_,_,vs,_,p⟩:=(show ObjOk X.prog X.w H s.heap a (.dK kvs) from I.hok a _ ea)
  obtain ⟨o,es,ep,h1,h2,_⟩:=p
  exact PySem.W.kia_one PySem.W.kitx_dict I.kIn ⟨o,h1,h2.1⟩ e (fun z=>nomatch z) h
 | @dT a kvs ea =>
  cases (show u=Value.ref a from rx)
  obtain ⟨_,_,xs,_,o,es,ep,h1,h2,_⟩:=(show ObjOk X.prog X.w H s.heap a (.dT kvs) from I.hok a _ ea)
  exact PySem.W.kia_one PySem.W.kitx_dict I.kIn ⟨o,h1,h2.1⟩ e (fun z=>nomatch z) h
 | @ins a C dx fs ea cl ha hn htk hm =>
  cases (show u=Value.ref a from rx)
  obtain ⟨mA,O,_⟩:=nA I.hok ea
  obtain ⟨od,J,_⟩:=O.look
  exact PySem.W.kia_one (PySem.W.kitx_own (cl.get _) cl.hd ha hn htk hm) I.kIn J e (fun z=>nomatch z) h
end
end L2
namespace L2
open PySem PySem.Spec PyProof.Rows
structure Room (k:Nat) (A:Around):Prop where
 hd:A.handled=none
 dp:A.depth + 3 * k + 5 < recursionLimit
 un:A.units + 16 * k + 200 < cLine
theorem Room.mono {j k:Nat} {A:Around} (r:Room k A) (h:j<=k):Room j A:=⟨r.hd,by have:=r.dp;omega,by have:=r.un;omega⟩
theorem Room.deeper {k:Nat} {A:Around} (r:Room (k + 1) A) (env:Env):Room k (A.deeper env) :=
 ⟨r.hd,by have:=r.dp;show A.depth + 1 + 3 * k + 5 < _;omega,by have:=r.un;show A.units + 3 + 16 * k + 200 < _;omega⟩
theorem qb {A:Around} {C:Addr} {us:List Value} {kw:List (Str × Value)}:(A.under (.builtin "type.__call__" ⟨.ref C :: us,kw⟩)).depth=A.depth + 1:=by
 first | rfl | simp [Around.under,Code.weight,Code.isCreation,Code.isGuard,Code.isCaller,Code.frames,Code.isFrame,guardIds]
theorem qa {A:Around} {C:Addr} {us:List Value} {kw:List (Str × Value)}:(A.under (.builtin "type.__call__" ⟨.ref C :: us,kw⟩)).units=A.units + 1:=by
 first | rfl | simp [Around.under,Code.cUnits,Code.frames,Code.isFrame]
theorem Room.make {k:Nat} {A:Around} (r:Room (k + 1) A) (C:Addr) (us:List Value) (kw:List (Str × Value)):Room k (A.under (.builtin "type.__call__" ⟨.ref C :: us,kw⟩)) :=
 ⟨r.hd,by have:=r.dp;rw [qb];omega,by have:=r.un;rw [qa];omega⟩
theorem Room.depth {k:Nat} {A:Around} (r:Room k A):A.depth < recursionLimit:=by have:=r.dp;omega
noncomputable def Af:TA:=fun _ H Q=>Q [] H
noncomputable def zh (ta:TE) (tr:TA):TA:=fun σ H Q=>ta σ H fun x H1=>tr σ H1 fun xs H2=>Q (x :: xs) H2
section
variable {X:Cx} {e:Expr} {es:List Expr} {te:TE} {t:TA} {pos:Pos}
theorem dP:PA X [] Af:=fun _ _ _ _ H Q I h=>Calls.spliced_nil ⟨[],H,I,.nil,h⟩
theorem da (ha:PE X e te) (hr:PA X es t) (hs:starEach (e :: es) X.env=(false,eval e X.env) :: starEach es X.env:=by rfl):PA X (e :: es) (zh te t):=by
 intro pos pins s σ H Q I h
 rw [hs]
 show wpAny _ _ (spliced ((false,eval e X.env) :: backTo pos (starEach es X.env))) _ _ s
 refine Calls.spliced_cons (thn (ha pins s σ H _ I h) fun u s1 ⟨x,H1,I1,r1,q1⟩=>?_)
 exact thn (hr pos pins s1 σ H1 _ I1 q1) fun us s2 ⟨xs,H2,I2,r2,q2⟩=>⟨x :: xs,H2,I2,.cons r1 r2,q2⟩
noncomputable def Ab (t:TA):TE:=fun σ H Q=>t σ H fun xs H1=>xs.length<=sizeLine/\∀ p,H1 p=none->Q (.ref p) (upd H1 p (.tup xs))
noncomputable def Ag (t:TA):TE:=fun σ H Q=>t σ H fun xs H1=>xs.length<=sizeLine/\∀ p,H1 p=none->Q (.ref p) (upd H1 p (.lst xs))
theorem xR {x1} (h:PA X es t):PE X (.Tuple es x1 pos) (Ab t):=by
 intro pins s σ H Q I hq
 refine wpAny_Tuple_spliced (thn (h pos pins s σ H _ I hq) fun us s1 ⟨xs,H1,I1,r,z,q⟩=>⟨by rw [<- r.length];exact z,?_⟩)
 have hf:H1 s1.heap.objs.size=none:=I1.hok.fresh (Nat.le_refl _)
 refine ⟨.ref s1.heap.objs.size,upd H1 s1.heap.objs.size (.tup xs),I1.laid (t':=s1.toks) (fun b u e=>Heap.get?_push_of_some _ e) (Nat.le_refl _) ?_,rfl,q _ hf⟩
 exact ⟨z,us,r,⟨_,Heap.get?_push_size _ rfl,rfl,_,rfl⟩⟩
theorem ng (h:PA X es t):PE X (.List es pos) (Ag t):=by
 intro pins s σ H Q I hq
 refine wpAny_List_spliced (thn (h pos pins s σ H _ I hq) fun us s1 ⟨xs,H1,I1,r,z,q⟩=>⟨by rw [<- r.length];exact z,?_⟩)
 have hf:H1 s1.heap.objs.size=none:=I1.hok.fresh (Nat.le_refl _)
 refine ⟨.ref s1.heap.objs.size,upd H1 s1.heap.objs.size (.lst xs),I1.laid (t':=s1.toks) (fun b u e=>Heap.get?_push_of_some _ e) (Nat.le_refl _) ?_,rfl,q _ hf⟩
 exact ⟨z,us,0,r,Heap.get?_push_size _ rfl⟩
end
noncomputable abbrev Sp:=List V->Hp->VK->XK->Prop
noncomputable abbrev CXT:=List Env->Hp->Shared->XK->Value->Shared->Prop
structure Env0 (P:Program) (w:World) (K:PySem.W.Frag) (mg:Str->Option Value) (base:Heap) (A:Around) (outer:List Env) (s:Shared) (H:Hp):Prop where
 frames:A.frames=some outer
 mod:Mod K mg base
 bs:∀ b o,base.get? b=some o->s.heap.get? b=some o/\H b=none
 bsz:base.objs.size<=s.heap.objs.size
 funs:s.heap.FunFrames base outer
 frf:∀ b ∈ frs outer,H b=none
 hok:HOk P w H s.heap
 bare:AllBare s.gens
noncomputable def CE (outer:List Env) (P:Program) (w:World) (H:Hp) (s:Shared) (Q:VK) (u:Value) (s':Shared):Prop :=
 ∃ v H',s'.os=s.os/\AllBare s'.gens/\Un (frs outer) [] H H' s.heap s'.heap/\HOk P w H' s'.heap/\RelV v u/\Q v H'
noncomputable def CR (CX:CXT) (outer:List Env) (P:Program) (w:World) (H:Hp) (s:Shared) (Q:VK) (E:XK) (r:Result) (s':Shared):Prop :=
 match r with
 | .ok (.ret u)=>CE outer P w H s Q u s'
 | .ok _=>False
 | .error e=>CX outer H s E e s'
structure FnOk (P:Program) (w:World) (K:PySem.W.Frag) (mg:Str->Option Value) (base:Heap) (CX:CXT) (k:Nat) (f:Addr) (fd:FuncData) (ps:List Str) (sp:Sp):Prop where
 len:∀ vs H Q E,sp vs H Q E->vs.length=ps.length
 run:∀ (A:Around) (outer:List Env) (s:Shared) (H:Hp) (args:Args) (us:List Value) (vs:List V) (Q:VK) (E:XK),Room k A->Env0 P w K mg base A outer s H->BindsTo s fd args (ps.zip us)->Vals vs us->sp vs H Q E ->
  codeAny (model P w) A (.call (.ref f) args) (CR CX outer P w H s Q E) s
theorem FnOk.imp {P:Program} {w:World} {K:PySem.W.Frag} {mg:Str->Option Value} {base:Heap} {CX:CXT} {k:Nat} {f:Addr} {fd:FuncData} {ps:List Str} {sp sp':Sp} (F:FnOk P w K mg base CX k f fd ps sp)
  (h:∀ vs H Q E,sp' vs H Q E->sp vs H Q E):FnOk P w K mg base CX k f fd ps sp' :=
 ⟨fun vs H Q E q=>F.len vs H Q E (h _ _ _ _ q),fun A outer s H args us vs Q E hr he hb hv hs=>F.run A outer s H args us vs Q E hr he hb hv (h _ _ _ _ hs)⟩
theorem Env0.make {P:Program} {w:World} {K:PySem.W.Frag} {mg:Str->Option Value} {base:Heap} {A:Around} {outer:List Env} {s:Shared} {H:Hp} (e:Env0 P w K mg base A outer s H) (C:Addr) (us:List Value) (kw:List (Str × Value)) :
  Env0 P w K mg base (A.under (.builtin "type.__call__" ⟨.ref C :: us,kw⟩)) outer s H:=⟨by first | exact e.frames | (simpa [Around.under,Code.envs,Code.isFrame,pushEnvs] using e.frames),e.mod,e.bs,e.bsz,e.funs,e.frf,e.hok,e.bare⟩
section
variable {X:Cx} {pins:List (Addr × Obj)} {σ:St} {H:Hp} {s s':Shared}
theorem Inv.env0 (I:Inv X pins σ H s):Env0 X.prog X.w X.K X.mg X.base X.A X.stack s H :=
 ⟨I.ok.frames,I.ok.mod,I.bs,Nat.le_trans I.ok.bsz I.sz,I.stack,I.stkFree,I.hok,I.bare⟩
theorem Inv.after {Q:VK} {u:Value} (I:Inv X pins σ H s) (h:CE X.stack X.prog X.w H s Q u s'):EP X pins σ Q u s':=by
 obtain ⟨v,H',os,bare,un,hok,r,q⟩:=h
 obtain ⟨hh,g,d,t,os'⟩:=s'
 obtain rfl:os'=s.os:=os
 exact ⟨v,H',I.call (h':=hh) (g':=g) (d':=d) (t':=t) (ch:=[]) un hok bare (fun b z=>absurd z (by simp)),r,q⟩
end
noncomputable def Binds (K:PySem.W.Frag) (fd:FuncData) (ps:List Str) (ds:List Value):Prop :=
 ∀ (s:Shared) (us:List Value),K.In s.heap->(us ++ ds).length=ps.length->BindsTo s fd ⟨us,[]⟩ (ps.zip (us ++ ds))
theorem Binds.all {K:PySem.W.Frag} {fd:FuncData} {ps:List Str} (h:∀ us:List Value,us.length=ps.length->bindArgs fd ⟨us,[]⟩=pure (ps.zip us)):Binds K fd ps []:=fun s us _ hl=>by
 rw [List.append_nil] at hl ⊢
 exact .of_eq (h us hl)
noncomputable def on (CX:CXT) (X:Cx) (E:XK):Prop:=∀ (pins:List (Addr × Obj)) (σ:St) (H:Hp) (s:Shared) (e:Value) (s':Shared),Inv X pins σ H s->CX X.stack H s E e s'->X.xe e s'
section
variable {X:Cx} {CX:CXT} {k:Nat} {f C:Addr} {fd:FuncData} {ps:List Str} {sp:Sp} {dvs:List V} {ds:List Value} {E:XK} {x m:Str} {p pos apos:Pos} {e o:Expr} {es:List Expr} {ta:TE} {t:TA}
theorem kM {pins:List (Addr × Obj)} {σ:St} {H:Hp} {s:Shared} {Q:VK} {us:List Value} {vs:List V} (F:FnOk X.prog X.w X.K X.mg X.base CX k f fd ps sp) (hr:Room k X.A) (hb:Binds X.K fd ps ds) (hd:Vals dvs ds) (hx:on CX X E)
  (I:Inv X pins σ H s) (r:Vals vs us) (h:sp (vs ++ dvs) H Q E):wpAny (model X.prog X.w) X.A (call (.ref f) us) (EP X pins σ Q) X.xe s:=by
 have r2:Vals (vs ++ dvs) (us ++ ds):=r.append hd
 have hl:(us ++ ds).length=ps.length:=by rw [<- r2.length];exact F.len _ _ _ _ h
 refine wpAny_call (codeAny_mono (F.run X.A X.stack s H ⟨us,[]⟩ (us ++ ds) (vs ++ dvs) Q E hr I.env0 (hb s us I.kIn hl) r2 h) fun r s' hq=>?_)
 cases r with
 | error e=>exact hx pins σ H s e s' I hq
 | ok fl =>
  cases fl with
  | ret u=>exact I.after hq
  | next=>exact False.elim hq
  | brk=>exact False.elim hq
  | cont=>exact False.elim hq
structure Mk (K:PySem.W.Frag) (C f:Addr):Prop where
 makes:PySem.W.makesIn K C=true
 init:PySem.W.findIn K (.ref C) "__init__"=some (some (.ref f))
 fn:PySem.W.isFn K (.ref f)=true
 kp:PySem.W.keepIn K (.ref C)=true
theorem tx {pins:List (Addr × Obj)} {σ:St} {H:Hp} {s:Shared} {Q:VK} {us:List Value} {vs:List V} (M:Mk X.K C f) (F:FnOk X.prog X.w X.K X.mg X.base CX k f fd ps sp) (hr:Room (k + 1) X.A) (hb:Binds X.K fd ps ds) (hd:Vals dvs ds)
  (hx:on CX X E) (I:Inv X pins σ H s) (r:Vals vs us)
  (h:∀ x dx,H x=none->H dx=none->dx ≠ x->sp (.ref x :: (vs ++ dvs)) (upd (upd H dx (.own x)) x (.ins C dx [])) (fun v H2=>v=.non/\Q (.ref x) H2) E) :
  wpAny (model X.prog X.w) X.A (call (.ref C) us) (EP X pins σ Q) X.xe s:=by
 have hq:=h (s.heap.objs.size + 1) s.heap.objs.size (I.hok.fresh (Nat.le_succ _)) (I.hok.fresh (Nat.le_refl _)) (Nat.ne_of_lt (Nat.lt_succ_self _))
 have I2:=Inv.made (C:=C) I
 have r2:Vals (V.ref (s.heap.objs.size + 1) :: (vs ++ dvs)) (Value.ref (s.heap.objs.size + 1) :: (us ++ ds)):=.cons rfl (r.append hd)
 have hl:(Value.ref (s.heap.objs.size + 1) :: us ++ ds).length=ps.length:=by
  have e:=r2.length
  rw [F.len _ _ _ _ hq] at e
  exact e.symm
 refine wpAny_call (uf (f:=f) I.kIn M.makes M.init (beq_iff_eq.mp M.fn) (codeAny_mono (F.run _ X.stack _ _ ⟨Value.ref (s.heap.objs.size + 1) :: us,[]⟩ (Value.ref (s.heap.objs.size + 1) :: (us ++ ds)) _ _ E (hr.make C us [])
  (I2.env0.make C us []) (hb _ (Value.ref (s.heap.objs.size + 1) :: us) I2.kIn hl) r2 hq) fun r s' hq'=>?_))
 cases r with
 | error e=>exact hx pins σ _ _ e s' I2 hq'
 | ok fl =>
  cases fl with
  | ret u =>
   obtain ⟨v,H',I3,rv,ev,q3⟩:=I2.after hq'
   subst ev
   exact ⟨rv,⟨V.ref (s.heap.objs.size + 1),H',I3,rfl,q3⟩⟩
  | next=>exact False.elim hq'
  | brk=>exact False.elim hq'
  | cont=>exact False.elim hq'
end
section
variable {X:Cx} {CX:CXT} {k:Nat} {f C:Addr} {fd:FuncData} {ps ks:List Str} {sp:Sp} {E:XK} {x m:Str} {p pos apos kpos:Pos} {e o:Expr} {es:List Expr} {kws:List Keyword} {te ta:TE} {t tk:TA} {nm:Option Str}
variable {g:List Value->List Value->List Value} {gV:List V->List V->List V}
end
structure aP (N P:List Str) (sc:Scope):Prop where
 kind:sc.kind=.function
 co:sc.isCoroutine=false
 gen:sc.isGenerator=false
 nd:N.Nodup
 pre:N.take P.length=P
 par:∀ x ∈ P,sc.names.lookup x=some .local\/sc.names.lookup x=some .cell
 nofree:∀ y ∈ sc.names,y.2 ≠ .free
theorem mR {kindOf:Str->Option NameKind} {x:Str}:∀ {binds:List (Str × Value)} {m:Str->Option Value},(∀ v,(x,v) ∉ binds)->bindL kindOf binds m x=m x
 | [],_,_=>rfl
 | (n,v) :: r,m,h=>by
  unfold bindL
  rw [mR fun w hw=>h w (List.mem_cons_of_mem _ hw)]
  split
  ·have:x ≠ n:=by rintro rfl;exact h v List.mem_cons_self
   simp [this]
  ·rfl
theorem mT {kindOf:Str->Option NameKind} {x:Str}:∀ {binds:List (Str × Value)} {m:Str->Option Value},(∀ v,(x,v) ∉ binds)->bindC kindOf binds m x=m x
 | [],_,_=>rfl
 | (n,v) :: r,m,h=>by
  unfold bindC
  rw [mT fun w hw=>h w (List.mem_cons_of_mem _ hw)]
  split
  ·rfl
  ·have:x ≠ n:=by rintro rfl;exact h v List.mem_cons_self
   simp [this]
theorem mS {kindOf:Str->Option NameKind} {x:Str} {v:Value}:∀ {P:List Str} {vs:List Value} {i:Nat} {m:Str->Option Value},P.Nodup->P[i]?=some x->vs[i]?=some v->kindOf x=some .local ->
  bindL kindOf (P.zip vs) m x=some v
 | [],_,_,_,_,h,_,_=>by simp at h
 | _ :: _,[],_,_,_,_,h,_=>by simp at h
 | p :: P,w :: vs,0,m,nd,h1,h2,hk=>by
  simp at h1 h2;subst h1;subst h2
  show bindL kindOf ((p,w) :: P.zip vs) m p=_
  unfold bindL
  rw [mR fun v hv=>(List.nodup_cons.mp nd).1 (List.of_mem_zip hv).1,if_pos hk]
  simp
 | p :: P,w :: vs,i + 1,m,nd,h1,h2,hk=>by
  show bindL kindOf ((p,w) :: P.zip vs) m x=_
  unfold bindL
  exact mS (i:=i) (List.nodup_cons.mp nd).2 (by simpa using h1) (by simpa using h2) hk
theorem mU {kindOf:Str->Option NameKind} {x:Str} {v:Value}:∀ {P:List Str} {vs:List Value} {i:Nat} {m:Str->Option Value},P.Nodup->P[i]?=some x->vs[i]?=some v->kindOf x ≠ some .local ->
  bindC kindOf (P.zip vs) m x=some v
 | [],_,_,_,_,h,_,_=>by simp at h
 | _ :: _,[],_,_,_,_,h,_=>by simp at h
 | p :: P,w :: vs,0,m,nd,h1,h2,hk=>by
  simp at h1 h2;subst h1;subst h2
  show bindC kindOf ((p,w) :: P.zip vs) m p=_
  unfold bindC
  rw [mT fun v hv=>(List.nodup_cons.mp nd).1 (List.of_mem_zip hv).1,if_neg hk]
  simp
 | p :: P,w :: vs,i + 1,m,nd,h1,h2,hk=>by
  show bindC kindOf ((p,w) :: P.zip vs) m x=_
  unfold bindC
  exact mU (i:=i) (List.nodup_cons.mp nd).2 (by simpa using h1) (by simpa using h2) hk
noncomputable def start (N:List Str) (vs:List V):St:=vs.map some ++ List.replicate (N.length - vs.length) none
noncomputable def cw (CX:CXT) (P:Program) (w:World) (K:PySem.W.Frag) (mg:Str->Option Value) (base:Heap) (N:List Str) (qual:Str) (scope:Scope) (f:Addr) (cd:Value) (A:Around) (outer:List Env) (s:Shared) (H:Hp) (E:XK):Cx where
 prog:=P
 w:=w
 K:=K
 mg:=mg
 base:=base
 A:=A.deeper (envOfC qual scope s.heap.objs.size f cd)
 N:=N
 s₀:=s
 H₀:=H
 env:=envOfC qual scope s.heap.objs.size f cd
 outer:=outer
 stack:=envOfC qual scope s.heap.objs.size f cd :: outer
 ex:=[]
 calm:=true
 fn:=fun _=>true
 pn:=[]
 xe:=fun e s'=>wpAny (model P w) (A.deeper (envOfC qual scope s.heap.objs.size f cd)) (leaving (envOfC qual scope s.heap.objs.size f cd) e) (fun _ s''=>CX outer H s E e s'') (fun e' s''=>CX outer H s E e' s'') s'
theorem pz {sc:Scope} {n:Nat} {x:Str} (h:sc.names.lookup x=some .cell):∃ c,(cellsFrom n sc.names []).lookup x=some c:=by
 have q:=PySem.W.cellsFrom_some sc.names n [] (.inl h)
 exact Option.isSome_iff_exists.mp q
theorem sx {CX:CXT} {P:Program} {w:World} {K:PySem.W.Frag} {mg:Str->Option Value} {base:Heap} {N ps:List Str} {qual:Str} {scope:Scope} {f:Addr} {cd:Value} {A:Around} {outer:List Env} {s s1:Shared} {H:Hp} {E:XK} {us:List Value} {vs:List V}
  (S:aP N ps scope) (hd:A.handled=none) (e0:Env0 P w K mg base A outer s H) (hl:vs.length=ps.length) (r:Vals vs us)
  (x:InCallC s s.heap.objs.size (bindL (envOfC qual scope s.heap.objs.size f cd).kindOf (ps.zip us) fun _=>none) (cellsFrom (s.heap.objs.size + 1) scope.names []) (bindC (envOfC qual scope s.heap.objs.size f cd).kindOf (ps.zip us) fun _=>none) s1) :
  Inv (cw CX P w K mg base N qual scope f cd A outer s H E) [] (start N vs) H s1:=by
 have hpl:ps.length<=N.length:=by have:=congrArg List.length S.pre;rw [List.length_take] at this;omega
 obtain ⟨h1,tk,rfl,hk⟩:=x.done
 have noA:∀ b:Addr,b ∉ (cw CX P w K mg base N qual scope f cd A outer s H E).ex:=fun b z=>absurd (show b ∈ ([]:List Addr) from z) (by simp)
 refine ⟨⟨e0.mod,S.kind,rfl,rfl,Nat.le_refl _,fun y z c h1 h2=>?_,fun y hy=>?_,fun y c _ h=>?_,fun _=>hd,Around.frames_deeper e0.frames,.inr ⟨rfl,rfl⟩,fun b z=>absurd z (noA b),e0.bs,e0.bsz,fun b _ _=>noA b,fun b z=>absurd z (noA b),e0.funs,e0.frf⟩,
  rfl,e0.bare,Un.kept hk,⟨_,x.toInCall.ns,fun i y v h1 h2 h3=>?_⟩,fun y c h=>⟨_,x.cell y c h⟩,e0.hok.fresh (Nat.le_refl _),fun y c h=>?_,fun p hp=>absurd (show p ∈ ([]:List (Addr × Obj)) from hp) (by simp),e0.hok.kept hk,?_⟩
 ·exact name_of_addr x.apart (PySem.mem_of_lookup h1) (PySem.mem_of_lookup h2)
 ·have hy:scope.names.lookup y=some .cell\/scope.names.lookup y=some .free:=hy
  rcases hy with hy | hy
  ·exact pz hy
  ·exact absurd rfl (S.nofree _ (PySem.mem_of_lookup hy))
 ·exact Nat.le_of_lt (x.above y c (PySem.mem_of_lookup h))
 ·have hi:i < vs.length:=by
   unfold start at h2
   by_cases hi:i < vs.length
   ·exact hi
   ·rw [List.getElem?_append_right (by simpa using hi)] at h2
    rw [List.getElem?_replicate] at h2
    split at h2 <;> cases h2
  have ha:vs[i]?=some v:=by
   unfold start at h2
   rw [List.getElem?_append_left (by simpa using hi),List.getElem?_map] at h2
   cases e:vs[i]? with
   | none=>rw [e] at h2;cases h2
   | some a=>rw [e] at h2;cases h2;rfl
  obtain ⟨u,hu,rv⟩:=r.get ha
  have hp:ps[i]?=some y:=by
   rw [<- S.pre,List.getElem?_take_of_lt (by omega)];exact h1
  have ndP:ps.Nodup:=by rw [<- S.pre];exact S.nd.sublist (List.take_sublist _ _)
  refine ⟨u,rv,?_⟩
  rcases S.par y (List.mem_of_getElem? hp) with k | k
  ·exact .inl ⟨k,mS ndP hp hu k⟩
  ·obtain ⟨c,e⟩:=pz (n:=s.heap.objs.size + 1) k
   refine .inr ⟨.inl k,c,e,?_⟩
   have q:=x.cell y c e
   rw [mU ndP hp hu (by show scope.names.lookup y ≠ _;rw [k];decide)] at q
   exact q
 ·exact e0.hok.fresh (Nat.le_of_lt (x.above y c (PySem.mem_of_lookup h)))
 ·unfold start
  show _=N.length
  rw [List.length_append,List.length_map,List.length_replicate]
  omega
theorem zN {CX:CXT} {P:Program} {w:World} {K:PySem.W.Frag} {mg:Str->Option Value} {base:Heap} {k:Nat} {f:Addr} {name qual:Str} {params:Arguments} {body:List Stmt} {scope:Scope} {dV kV doc pm cdv ct oc:Value} {an od:Option Addr}
  {osl:Array (Option Value)} {N ps:List Str} {sp:Sp} (lk:K.lookup f=some ⟨oc,od,.func (PySem.W.fnOf name qual params body scope dV kV doc pm an cdv ct),osl⟩) (hcd:PySem.W.codeIn K cdv qual=true) (S:aP N ps scope)
  (len:∀ vs H Q E,sp vs H Q E->vs.length=ps.length)
  (hbody:∀ (A:Around) (outer:List Env) (s:Shared) (H:Hp) (vs:List V) (Q:VK) (E:XK),Room k (A.deeper (envOfC qual scope s.heap.objs.size f cdv))->sp vs H Q E ->
   ∃ t,PSs (cw CX P w K mg base N qual scope f cdv A outer s H E) body t/\t { nx:=fun _ H'=>Q .non H',rt:=Q } (start N vs) H) :
  FnOk P w K mg base CX (k + 1) f (PySem.W.fnOf name qual params body scope dV kV doc pm an cdv ct) ps sp:=by
 refine ⟨len,fun A outer s H args us vs Q E hr e0 hb r hsp=>?_⟩
 have hl:=len _ _ _ _ hsp
 have KX:K.In s.heap:=e0.mod.kin.keeps fun b o e=>(e0.bs b o e).1
 have lim:s.heap.NoLimit:=e0.mod.nolimit.keeps fun b o e=>(e0.bs b o e).1
 have hkind:∀ y ∈ ps.zip us,scope.names.lookup y.1=some .local\/(scope.names.lookup y.1=some .cell/\((cellsFrom (s.heap.objs.size + 1) scope.names []).lookup y.1).isSome=true):=fun ⟨n,v⟩ hy=>by
  rcases S.par n (List.of_mem_zip hy).1 with q | q
  ·exact .inl q
  ·exact .inr ⟨q,PySem.W.cellsFrom_some _ _ _ (.inl q)⟩
 refine codeAny_call_function hr.depth (KX _ _ lk) rfl S.co S.gen rfl (PySem.W.codeRec_of KX hcd) (hb _ _ _ _ ?_)
 refine wpAny_newFunctionEnv_cells S.kind hkind fun env he s1 x=>?_
 subst he
 refine ⟨lim.keeps x.toInCall.keep,codeAny_func ?_⟩
 obtain ⟨t,ht,hq⟩:=hbody A outer s H vs Q E (hr.deeper _) hsp
 have I:Inv (cw CX P w K mg base N qual scope f cdv A outer s H E) [] (start N vs) H s1:=sx S hr.hd e0 hl r x
 refine wpAny_mono (ht [] s1 (start N vs) H _ I hq) (fun fl s' hs=>?_) fun e s' hs=>hs
 have fin:∀ {σ':St} {H':Hp} {v:V} {u:Value},Inv (cw CX P w K mg base N qual scope f cdv A outer s H E) [] σ' H' s'->RelV v u->Q v H'->CE outer P w H s Q u s' :=
  fun {σ' H' v u} J rv q=>⟨v,H',J.os,J.bare,J.base,J.hok,rv,q⟩
 cases fl with
 | ret u =>
  obtain ⟨v,σ',H',J,rv,q⟩:=hs
  exact fin J rv q
 | next =>
  obtain ⟨σ',H',J,q⟩:=hs
  exact fin (v:=V.non) (u:=Value.none) J rfl q
 | brk =>
  obtain ⟨_,_,_,q⟩:=hs
  exact False.elim q
 | cont =>
  obtain ⟨_,_,_,q⟩:=hs
  exact False.elim q
end L2
namespace L2
open PySem PySem.Spec PyProof.Rows
section
variable {X:Cx} {x:Str} {p pos:Pos} {e:Expr} {es:List Expr} {t:TA} {id T:String} {r:List V->Hp->VK->Prop}
noncomputable def tCB (r:List V->Hp->VK->Prop) (t:TA):TE:=fun σ H Q=>t σ H fun vs H1=>r vs H1 Q
theorem aG (hc:jR X (.builtin id) r) (hg:Gl X x) (hm:X.mg x=none) (hv:bootBuiltins x=some (.builtin id)) (ha:PA X (e :: es) t) (hn:x ≠ "__name__":=by decide) (hdb:(x == ("__debug__":Str))=false:=by decide)
  (he:starEach (e :: es) X.env=(false,eval e X.env) :: starEach es X.env:=by rfl) (hpl:(backTo pos (starEach es X.env)).any (·.1)=false:=by rfl):PE X (.Call (.Name x p) (e :: es) [] pos) (tCB r t):=by
 intro pins s σ H Q I h
 refine wpAny_Call_Name_kw (gS I hg hm hv ?_ hn hdb)
 exact PyProof.Rows.callWith_builtin1 (thn (ha pos pins s σ H _ I h) fun us s1 ⟨vs,H1,I1,r1,q1⟩=>hc pins s1 σ H1 vs us Q I1 r1 q1) he hpl
theorem bp (hc:jR X (.type T) r) (hg:Gl X x) (hm:X.mg x=none) (hv:bootBuiltins x=some (.type T)) (ha:PA X (e :: es) t) (hn:x ≠ "__name__":=by decide) (hdb:(x == ("__debug__":Str))=false:=by decide)
  (he:starEach (e :: es) X.env=(false,eval e X.env) :: starEach es X.env:=by rfl) (hpl:(backTo pos (starEach es X.env)).any (·.1)=false:=by rfl):PE X (.Call (.Name x p) (e :: es) [] pos) (tCB r t):=by
 intro pins s σ H Q I h
 refine wpAny_Call_Name_kw (gS I hg hm hv ?_ hn hdb)
 exact PyProof.Rows.callWith_type1 (thn (ha pos pins s σ H _ I h) fun us s1 ⟨vs,H1,I1,r1,q1⟩=>hc pins s1 σ H1 vs us Q I1 r1 q1) he hpl
end
end L2
namespace HT
open PySem PyProof.Rows
section
open PySem.SeqAt
open PySem.AutoSeq1 (wpAny_loadPart')
open PySem.MeetsSeq PySem.MeetsSeq2 PySem.MeetsSeq3
end
section
variable {prog:Program} {w:World} {A:Around} {E:Value->Shared->Prop} {s:Shared}
end
end HT
namespace L2
open PySem PySem.Spec PyProof.Rows
theorem qe {ns:List Int}:∀ {us:List Value},Vals (ns.map V.int) us->IntsAre us ns:=by
 induction ns with
 | nil=>intro us r;rw [List.map_nil] at r;cases r;exact .nil
 | cons n ns ih =>
  intro us r
  rw [List.map_cons] at r
  cases r with
  | cons r1 r2 =>
   obtain ⟨t,e⟩:=r1
   subst e
   exact .cons n t (ih r2)
section
variable {X:Cx} {e:Expr} {te:TE} {lo hi:Option Expr} {tl th:TO} {pos p2:Pos}
end
end L2
namespace L2
open PySem PySem.Spec PyProof.Rows
noncomputable def ixN (n:Nat) (i:Int):Option Nat:=if 0<=i then (if i < n then some i.toNat else none) else if -(n:Int)<=i then some (i + n).toNat else none
noncomputable def atI {α:Type} (xs:List α) (i:Int):Option α:=(ixN xs.length i).bind fun j=>xs[j]?
theorem we {n:Nat} {i:Int} {j:Nat} (h:ixN n i=some j):seqIndex? i n=some j/\j < n/\-(n:Int)<=i/\i < n:=by
 unfold ixN at h
 by_cases h0:0<=i
 ·rw [if_pos h0] at h
  by_cases h1:i < n
  ·rw [if_pos h1] at h
   have e:i.toNat=j:=Option.some.inj h
   exact ⟨by rw [seqIndex_of h0 h1,e],by omega,by omega,h1⟩
  ·rw [if_neg h1] at h;cases h
 ·rw [if_neg h0] at h
  by_cases h1:-(n:Int)<=i
  ·rw [if_pos h1] at h
   have e:(i + n).toNat=j:=Option.some.inj h
   exact ⟨by rw [seqIndex_neg (by omega) h1,e],by omega,h1,by omega⟩
  ·rw [if_neg h1] at h;cases h
theorem oj {α:Type} {xs:List α} {i:Int} {v:α} (h:atI xs i=some v):∃ j,seqIndex? i xs.length=some j/\xs[j]?=some v/\j < xs.length/\-(xs.length:Int)<=i/\i < xs.length:=by
 unfold atI at h
 cases e:ixN xs.length i with
 | none=>rw [e] at h;cases h
 | some j =>
  rw [e] at h
  obtain ⟨h1,h2,h3,h4⟩:=we e
  exact ⟨j,h1,h,h2,h3,h4⟩
noncomputable def jc (b:Expr):Prop:=∀ o i,subscripted b false o i=operate [o,i] (getItem o i)
noncomputable def IxR (X:Cx) (r:R2):Prop :=
 ∀ (value slice:Expr) (pins:List (Addr × Obj)) (s:Shared) (σ:St) (H:Hp) (x y:V) (v u:Value) (Q:VK),Inv X pins σ H s->RelV x v->RelV y u->r x y H Q ->
  subscripted slice false v u=operate [v,u] (getItem v u)->wpAny (model X.prog X.w) X.A (subscriptTail value slice v u) (EP X pins σ Q) X.xe s
noncomputable def MtR (X:Cx) (id:String) (r:V->List V->Hp->VK->Prop):Prop :=
 ∀ (pins:List (Addr × Obj)) (s:Shared) (σ:St) (H:Hp) (x:V) (xs:List V) (v:Value) (us:List Value) (Q:VK),Inv X pins σ H s->RelV x v->Vals xs us->r x xs H Q ->
  wpAny (model X.prog X.w) X.A (call (.builtin id) (v :: us)) (EP X pins σ Q) X.xe s
section
variable {X:Cx} {a b:Expr} {ta tb:TE} {pos:Pos}
theorem IxR.or {r r':R2} (h:IxR X r) (h':IxR X r'):IxR X (fun x y H Q=>r x y H Q\/r' x y H Q):=by
 intro value slice pins s σ H x y v u Q I rx ry q hs
 rcases q with q | q
 ·exact h value slice pins s σ H x y v u Q I rx ry q hs
 ·exact h' value slice pins s σ H x y v u Q I rx ry q hs
theorem tU {r:R2} (hr:IxR X r) (ha:PE X a ta) (hb:PE X b tb) (hs:jc b):PE X (.Subscript a b pos) (tOp r ta tb):=by
 intro pins s σ H Q I h
 exact Subscript_ (yU ha hb I h fun v u s2 x y H2 I2 rx ry q=>hr a b pins s2 σ H2 x y v u Q I2 rx ry q (hs _ _))
noncomputable def zo (K:PySem.W.Frag):R2:=fun x y H Q=>∃ p xs i v,x=.ref p/\y=.int i/\SqL K H p xs/\atI xs i=some v/\Q v H
noncomputable def zm (K:PySem.W.Frag):R2:=fun x y H Q=>∃ p xs i v,x=.ref p/\y=.int i/\SqT K H p xs/\atI xs i=some v/\Q v H
noncomputable def zn:R2:=fun x y H Q=>∃ z i c,x=.str z/\y=.int i/\z.length<=sizeLine/\atI z.cps.toList i=some c/\Q (.str ⟨#[c]⟩) H
theorem ix_list:IxR X (zo X.K):=by
 intro value slice pins s σ H x y v u Q I rx ry h hs
 obtain ⟨p,xs,i,z,rfl,rfl,hq,he,q⟩:=h
 cases rx
 obtain ⟨t,rfl⟩:=ry
 obtain ⟨its,r,pl,hz⟩:=I.list hq
 obtain ⟨j,h1,h2,h3,h4,h5⟩:=oj he
 obtain ⟨w,ew,rw'⟩:=r.get h2
 have hl:=r.length
 have hn:=nt
 have fin:EP X pins σ Q w s:=⟨z,H,I,rw',q⟩
 by_cases h0:0<=i
 ·have hj:i.toNat=j:=by
   rw [seqIndex_of h0 h5] at h1
   exact Option.some.inj h1
  exact item_listR pl.isList h0 (by omega) (by rw [hj];simpa using ew) fin hs
 ·have hj:(i + (its.toArray.size:Int)).toNat=j:=by
   rw [seqIndex_neg (by omega) h4] at h1
   rw [List.size_toArray,<- hl]
   exact Option.some.inj h1
  exact subscriptTail_builtinR (x:=w) pl.isList.typeIs slot_list_getitem.lookup
   (wpAny_getItem_list_neg (Q:=fun r s'=>r=w/\EP X pins σ Q r s') pl.isList (by omega) (by rw [List.size_toArray] <;> omega) (by omega) (by rw [hj];simpa using ew) ⟨rfl,fin⟩) hs
theorem ix_tup:IxR X (zm X.K):=by
 intro value slice pins s σ H x y v u Q I rx ry h hs
 obtain ⟨p,xs,i,z,rfl,rfl,hq,he,q⟩:=h
 cases rx
 obtain ⟨t,rfl⟩:=ry
 obtain ⟨its,r,pl,hz⟩:=I.tuple hq
 obtain ⟨j,h1,h2,h3,h4,h5⟩:=oj he
 obtain ⟨w,ew,rw'⟩:=r.get h2
 have hl:=r.length
 have hn:=nt
 have fin:EP X pins σ Q w s:=⟨z,H,I,rw',q⟩
 exact subscriptTail_builtinR (x:=w) pl.typeIs slot_tuple_getitem.lookup
  (getItem_tuple (j:=j) (Q:=fun r s'=>r=w/\EP X pins σ Q r s') pl (by omega) (by omega) (by rw [List.size_toArray,<- hl];exact h1) (by simpa using ew) ⟨rfl,fin⟩) hs
theorem yu:IxR X zn:=by
 intro value slice pins s σ H x y v u Q I rx ry h hs
 obtain ⟨z,i,c,rfl,rfl,hz,he,q⟩:=h
 obtain ⟨t,rfl⟩:=rx
 obtain ⟨t',rfl⟩:=ry
 obtain ⟨j,h1,h2,h3,h4,h5⟩:=oj he
 have hl:z.cps.toList.length=z.length:=by simp [Str.length]
 rw [hl] at h1 h4 h5
 have hn:=nt
 exact tail_any (typeIs_str s z t) slot_str_getitem.lookup (getItem_str (c:=c) (by
  have e1:decide (i < -(2 ^ 63:Int))=false:=decide_eq_false (by omega)
  have e2:decide (i ≥ 2 ^ 63)=false:=decide_eq_false (by omega)
  rw [e1,e2,Bool.or_false]) (by rw [h1];simpa using h2) ⟨.str ⟨#[c]⟩,H,I.tok _,⟨_,rfl⟩,q⟩) hs
noncomputable def rIx (K:PySem.W.Frag):R2:=fun x y H Q=>zo K x y H Q\/zm K x y H Q\/zn x y H Q
theorem uw:IxR X (rIx X.K):=ix_list.or (ix_tup.or yu)
theorem av:jR X (.builtin "len") (fun xs H Q=>∃ p ys,xs=[.ref p]/\(SqL X.K H p ys\/SqT X.K H p ys)/\Q (.int ys.length) H):=by
 intro pins s σ H xs us Q I r h
 obtain ⟨p,ys,rfl,hq,q⟩:=h
 obtain ⟨u,rfl,rx⟩:=ot r
 cases rx
 have hn:=nt
 rcases hq with hq | hq
 ·obtain ⟨its,r',pl,hz⟩:=I.list hq
  have hlen:=r'.length
  exact Calls.call_len_list pl.isList (by simp only [List.size_toArray] <;> omega) ⟨.int ys.length,H,I.tok _,⟨s.toks + 1,by rw [List.size_toArray,hlen]⟩,q⟩
 ·obtain ⟨its,r',pl,hz⟩:=I.tuple hq
  have hlen:=r'.length
  exact len_tuple pl (by simp only [List.size_toArray] <;> omega) ⟨.int ys.length,H,I.tok _,⟨s.toks + 1,by rw [List.size_toArray,hlen]⟩,q⟩
theorem bU:jR X (.type "list") (fun xs H Q=>∃ p ys,xs=[.ref p]/\(SqL X.K H p ys\/SqT X.K H p ys)/\∀ l,H l=none->Q (.ref l) (upd H l (.lst ys))):=by
 intro pins s σ H xs us Q I r h
 obtain ⟨p,ys,rfl,hq,q⟩:=h
 obtain ⟨u,rfl,rx⟩:=ot r
 cases rx
 have fin:∀ (its:List Value),Vals ys its->ys.length<=sizeLine->∀ (h':Heap) (c':Nat),(∀ b o',s.heap.get? b=some o'->h'.get? b=some o') ->
   h'.get? s.heap.objs.size=some { cls:=.type "list",dict:=none,data:=.seq its.toArray c',slots:=#[] }->EP X pins σ Q (.ref s.heap.objs.size) { s with heap:=h' }:=fun its r' hz h' c' kp e =>
  ⟨.ref s.heap.objs.size,_,I.laid (t':=s.toks) kp (Nat.le_refl _) (show ObjOk X.prog X.w _ h' _ (.lst ys) from ⟨hz,its,c',r',e⟩),rfl,q _ (I.hok.fresh (Nat.le_refl _))⟩
 rcases hq with hq | hq
 ·obtain ⟨its,r',pl,hz⟩:=I.list hq
  have hlen:=r'.length
  obtain ⟨o,ho,hc,n,hd⟩:=pl.isList
  exact call_list_seq p (.inl rfl) ho hc hd (fun h' c' kp e=>fin its r' hz h' c' kp e) (by simp only [List.size_toArray] <;> omega)
 ·obtain ⟨its,r',pl,hz⟩:=I.tuple hq
  have hlen:=r'.length
  obtain ⟨o,ho,hc,n,hd⟩:=pl
  exact call_list_seq p (.inr rfl) ho hc hd (fun h' c' kp e=>fin its r' hz h' c' kp e) (by simp only [List.size_toArray] <;> omega)
theorem dB:jR X (.type "tuple") (fun xs H Q=>∃ p ys,xs=[.ref p]/\((SqL X.K H p ys/\∀ l,H l=none->Q (.ref l) (upd H l (.tup ys)))\/(SqT X.K H p ys/\Q (.ref p) H))):=by
 intro pins s σ H xs us Q I r h
 obtain ⟨p,ys,rfl,h⟩:=h
 obtain ⟨u,rfl,rx⟩:=ot r
 cases rx
 rcases h with ⟨hq,q⟩ | ⟨hq,q⟩
 ·obtain ⟨its,r',pl,hz⟩:=I.list hq
  have hlen:=r'.length
  refine call_tuple_list pl.isList (fun h' kp=>?_) (by simp only [List.size_toArray] <;> omega)
  have I1:Inv X pins σ H { s with heap:=h' }:=I.kept (t':=s.toks) kp
  have I2:Inv X pins σ (upd H h'.objs.size (.tup ys)) { s with heap:=h'.push { cls:=.type "tuple",data:=.seq its.toArray } } :=
   I1.laid (t':=s.toks) (fun b o e=>Heap.get?_push_of_some _ e) (Nat.le_refl _) (show ObjOk X.prog X.w _ _ _ (.tup ys) from ⟨hz,its,r',IsTup.new _ _⟩)
  exact ⟨.ref h'.objs.size,_,I2,rfl,q _ (I1.hok.fresh (Nat.le_refl _))⟩
 ·obtain ⟨its,r',pl,hz⟩:=I.tuple hq
  exact call_tuple_same pl ⟨.ref p,H,I,rfl,q⟩
noncomputable def tyV (K:PySem.W.Frag) (T:String) (x:V) (H:Hp):Prop:=match x with
 | .str _=>T="str"
 | .int _=>T="int"
 | .ref p=>(T="list"/\∃ xs,SqL K H p xs)\/(T="tuple"/\∃ o,K.lookup p=some o/\o.cls=.type "tuple"/\o.dict=none) \/
   (T="dict"/\((∃ kvs,H p=some (.dK kvs))\/∃ kvs,H p=some (.dT kvs)))\/(T="set"/\∃ S n,H p=some (.set S n))
 | _=>False
theorem xo {pins:List (Addr × Obj)} {σ:St} {H:Hp} {s:Shared} {T:String} {x:V} {v:Value} (I:Inv X pins σ H s) (r:RelV x v) (ty:tyV X.K T x H) :
  s.TypeIs v T/\∀ a,v=.ref a->∃ ob,s.heap.get? a=some ob/\ob.dict=none:=by
 cases x with
 | str z =>
  obtain ⟨t,rfl⟩:=r
  cases (show T="str" from ty)
  exact ⟨typeIs_str s z t,fun _ e=>nomatch e⟩
 | int i =>
  obtain ⟨t,rfl⟩:=r
  cases (show T="int" from ty)
  exact ⟨typeIs_int s i t,fun _ e=>nomatch e⟩
 | ref p =>
  cases r
  rcases ty with ⟨rfl,xs,hq⟩ | ⟨rfl,o,hk,hc,hd⟩ | ⟨rfl,hk⟩ | ⟨rfl,S,n,hk⟩
  ·obtain ⟨its,_,pl,_⟩:=I.list hq
   refine ⟨pl.isList.typeIs,fun a e=>?_⟩
   cases e
   obtain ⟨o,n,e,c,hd,_⟩:=pl
   exact ⟨o,e,hd⟩
  ·refine ⟨⟨o,I.kIn p o hk,hc⟩,fun a e=>?_⟩
   cases e
   exact ⟨o,I.kIn _ o hk,hd⟩
  ·have z:∃ o,s.heap.get? p=some o/\o.ExactDict:=by
    rcases hk with ⟨kvs,hk⟩ | ⟨kvs,hk⟩
    ·obtain ⟨_,_,_,_,o,_,_,e,ex,_⟩:=I.hok p _ hk
     exact ⟨o,e,ex⟩
    ·obtain ⟨_,_,_,_,o,_,_,e,ex,_⟩:=I.hok p _ hk
     exact ⟨o,e,ex⟩
   obtain ⟨o,e,ex⟩:=z
   refine ⟨⟨o,e,ex.1⟩,fun a e2=>?_⟩
   cases e2
   exact ⟨o,e,ex.2.1⟩
  ·obtain ⟨o,_,_,_,e,ex,_⟩:=I.hok p _ hk
   refine ⟨⟨o,e,ex.1⟩,fun a e2=>?_⟩
   cases e2
   exact ⟨o,e,ex.2.1⟩
 | _=>exact False.elim ty
noncomputable def tBM (K:PySem.W.Frag) (T:String) (r:V->List V->Hp->VK->Prop) (to:TE) (t:TA):TE:=fun σ H Q=>to σ H fun x H1=>tyV K T x H1/\t σ H1 fun xs H2=>r x xs H2 Q
variable {o e:Expr} {es:List Expr} {to:TE} {t:TA} {name:Str} {apos cpos:Pos} {T id:String} {r:V->List V->Hp->VK->Prop}
theorem qR (pa:PlainAttrs T) (slot:Slot T name id) (hty:typeOf (.builtin id)=pure (.type "method_descriptor")) (hm:MtR X id r) (ho:PE X o to) (ha:PA X (e :: es) t)
  (hbase:attributeBase o name X.env (eval o X.env)=eval o X.env:=by rfl)
  (hfew:((backTo cpos (starEach (e :: es) X.env)).all (fun x=>!x.1) && (backToKw cpos (keywordEach [] X.env)).all (fun x=>x.1.isSome)
   && decide ((e :: es).length + ([]:List Keyword).length + (if ([]:List Keyword).isEmpty then 0 else 1) < 30))=true:=by rfl)
  (hline:(apos.endLine == cpos.line)=true:=by rfl) (hs:starEach (e :: es) X.env=(false,eval e X.env) :: starEach es X.env:=by rfl) (hplain:(backTo cpos (starEach es X.env)).any (·.1)=false:=by rfl) :
  PE X (.Call (.Attribute o name apos) (e :: es) [] cpos) (tBM X.K T r to t):=by
 intro pins s σ H Q I h
 refine wpAny_Call_method_late hbase hfew hline rfl (thn (ho pins s σ H _ I h) fun v s1 ⟨x,H1,I1,r1,ty,q1⟩=>?_)
 obtain ⟨h1,h2⟩:=xo I1 r1 ty
 refine ⟨T,id,pa,slot,hty,h1,h2,?_⟩
 have hA:=ha cpos pins s1 σ H1 _ I1 q1
 rw [hs] at hA ⊢
 refine Calls.callWith_builtin (by show (false || (backTo cpos (starEach es X.env)).any (·.1))=false;rw [hplain] <;> rfl) (Calls.evalArgs_plain ?_)
 exact thn hA fun us s2 ⟨vs,H2,I2,r2,q2⟩=>hm pins s2 σ H2 x vs v us Q I2 r1 r2 q2
end
end L2
namespace L2
open PySem PySem.Spec PyProof.Rows
noncomputable def MtM (X:Cx) (id:String) (r:V->List V->Hp->VK->Prop):Prop :=
 ∀ (pins:List (Addr × Obj)) (s:Shared) (σ:St) (H:Hp) (x:V) (xs:List V) (v:Value) (us:List Value) (Q:VK),Inv X pins σ H s->RelV x v->Vals xs us->r x xs H Q ->
  wpAny (model X.prog X.w) X.A (call (.builtin id) (v :: us)) (EP X pins σ Q) X.xe s
theorem Vals.one:∀ {x:V} {us:List Value},Vals [x] us->∃ u,us=[u]/\RelV x u
 | _,_,.cons r .nil=>⟨_,rfl,r⟩
theorem Vals.two:∀ {x y:V} {us:List Value},Vals [x,y] us->∃ u v,us=[u,v]/\RelV x u/\RelV y v
 | _,_,_,.cons r (.cons q .nil)=>⟨_,_,rfl,r,q⟩
section
variable {X:Cx} {pins:List (Addr × Obj)} {σ:St} {H:Hp} {s:Shared} {l b:Addr} {xs ys zs:List V}
theorem Inv.lset {its its':List Value} {n:Nat} {f:Array Value->Array Value} {t':Nat} (I:Inv X pins σ H s) (hH:H l=some (.lst xs))
  (e:s.heap.get? l=some { cls:=.type "list",data:=.seq its.toArray n }) (hf:f its.toArray=its'.toArray) (hv:Vals ys its') (hz:ys.length<=sizeLine) :
  Inv X pins σ (upd H l (.lst ys)) { s with heap:=s.heap.update l (Obj.mapSeq f),toks:=t' }:=by
 have q:=PySem.IsL.update e f
 rw [hf] at q
 refine I.write (x:=l) (e:=l) (by rw [hH];exact trivial) (.inl rfl) (fun b' u hb hu=>(Heap.get?_update_other s.heap (Obj.mapSeq f) (Ne.symm hb)).trans hu) ⟨_,q⟩ ?_
 exact ⟨hz,its',_,hv,q⟩
theorem Inv.lnew {its:List Value} {t':Nat} (I:Inv X pins σ H s) (hv:Vals ys its) (hz:ys.length<=sizeLine) :
  Inv X pins σ (upd H s.heap.objs.size (.lst ys)) { s with heap:=s.heap.push { cls:=.type "list",data:=.seq its.toArray },toks:=t' } :=
 I.laid (fun _ _ q=>Heap.get?_push_of_some _ q) (Nat.le_refl _) ⟨hz,its,0,hv,Heap.get?_push_size _ rfl⟩
theorem Inv.fresh (I:Inv X pins σ H s):H s.heap.objs.size=none:=I.hok.fresh (Nat.le_refl _)
theorem Inv.lstM (I:Inv X pins σ H s) (hH:H l=some (.lst xs)):xs.length<=sizeLine/\∃ (its:List Value) (n:Nat),Vals xs its/\xs.length=its.length/\s.heap.get? l=some { cls:=.type "list",data:=.seq its.toArray n }:=by
 obtain ⟨z,its,n,r,e⟩:=I.hok l _ hH
 exact ⟨z,its,n,r,r.length,e⟩
end
section
variable {X:Cx}
noncomputable def kl:V->List V->Hp->VK->Prop:=fun x vs H Q=>∃ l xs y,x=.ref l/\vs=[y]/\H l=some (.lst xs)/\xs.length < sizeLine/\Q .non (upd H l (.lst (xs ++ [y])))
theorem ia:MtM X "list.append" kl:=by
 intro pins s σ H x vs v us Q I rx rv h
 obtain ⟨l,xs,y,rfl,rfl,hH,hz,q⟩:=h
 cases rx
 obtain ⟨u,rfl,ru⟩:=rv.one
 obtain ⟨z,its,n,r,hl,e⟩:=I.lstM hH
 refine call_meets F.slot_list_append ⟨_,e,rfl⟩ F.entry_list_append (F.args_list_append_2 _ _) (PySem.list_append l its.toArray n u (by rw [List.size_toArray];omega)) ⟨e,?_⟩
 refine ⟨.non,_,I.lset (its':=its ++ [u]) hH e (by simp) (r.append (.cons ru .nil)) ?_,rfl,q⟩
 rw [List.length_append,List.length_singleton]
 omega
noncomputable def xz:R2:=fun x y H Q=>∃ l b xs zs,x=.ref l/\y=.ref b/\H l=some (.lst xs)/\H b=some (.lst zs)/\xs.length + zs.length<=sizeLine/\∀ p,H p=none->Q (.ref p) (upd H p (.lst (xs ++ zs)))
theorem t8:OpR X (binaryOp .Add) xz:=by
 intro pins s σ H x y v u Q I rx ry h
 obtain ⟨l,b,xs,zs,rfl,rfl,hH,hB,hz,q⟩:=h
 cases rx
 cases ry
 obtain ⟨z,its,n,r,hl,e⟩:=I.lstM hH
 obtain ⟨z2,its2,n2,r2,hl2,e2⟩:=I.lstM hB
 refine PySem.P.add_list e e2 ?_ (by rw [List.size_toArray,List.size_toArray];omega)
 have ea:its.toArray ++ its2.toArray=(its ++ its2).toArray:=by simp
 rw [ea]
 exact ⟨.ref _,_,I.lnew (t':=s.toks) (r.append r2) (by rw [List.length_append];omega),rfl,q _ I.fresh⟩
end
section
variable {prog:Program} {w:World} {A:Around} {E:Value->Shared->Prop} {s:Shared}
end
section
variable {X:Cx}
end
end L2
namespace Att
open PySem PySem.W PySem.Calls PyProof.Rows
theorem j4 {P:Params} {h:Heap}:∀ (ns:List Int) (vs:List Value),WellAll P h vs (ns.map WData.int)->IntsAre vs ns:=by
 intro ns
 induction ns with
 | nil =>
  intro vs w
  rw [List.map_nil] at w
  cases w
  exact .nil
 | cons n ns ih =>
  intro vs w
  rw [List.map_cons] at w
  cases w with
  | cons a b =>
   cases a
   exact .cons _ _ (ih _ b)
theorem r_ {l:OpenLaw} {n:Nat} (hn:l.most=some n) {P:Params} {h:Heap} {args:List WData} {vals:List Value}
  (hpre:l.row.toRowW.claim.pre args=true) (hwl:WellAll P h vals args) :
  ∃ a vs ns,vals=[Value.ref a]/\args=[WData.list (ns.map WData.int)]/\h.get? a=some { cls:=.type "list",data:=.seq vs.toArray }/\IntsAre vs ns/\ns.length<=n:=by
 have hsh:WShape.hasAll [] args [.list .int]=true:=(pre_splitW hpre).1
 have hc:l.pre.holds [] { args:=args }=true:=(pre_splitW hpre).2
 obtain ⟨d,r,rfl,h1,h2⟩:=hasAllW_cons hsh
 obtain rfl:=hasAllW_nil h2
 obtain ⟨xs,rfl,h3⟩:=hasW_list h1
 obtain ⟨ns,rfl⟩:=items_int h3
 have hlen:ns.length<=n:=by
  unfold OpenLaw.pre at hc
  have h4:(WTm.not (.lt (.lit (.int (n:Int))) (.len (.arg 0)))).holds [] { args:=[.list (ns.map .int)] }=true:=by
   have h4:=(holds_andW hc).1
   rw [hn] at h4
   exact h4
  have h5:=condW_of h4 (w_not (w_lt w_lit (w_len_list (w_arg rfl))))
  rw [List.length_map] at h5
  refine Nat.le_of_not_lt fun q=>?_
  have q':(n:Int) < ((ns.length:Nat):Int):=by omega
  first
   | (rw [decide_eq_true q'] at h5;exact absurd h5 (by decide))
   | (simp at h5;omega)
 cases hwl with
 | cons w1 w2 =>
  cases w2
  cases w1 with
  | list ho hall=>exact ⟨_,_,ns,rfl,rfl,ho,j4 ns _ hall,hlen⟩
theorem sh (l:OpenLaw) (args:List WData):l.row.toRowW.claim.post args (.bool true) args=true :=
 postW_of (r:=l.row.toRowW) (X:=(true == true))
  (show WShape.has [] (.bool true) .bool=true by first | rfl | decide | simp [WShape.has,WShape.arms,WShape.armsAll])
  (show (WTm.eq .res (.lit (.bool true))).value [] { args:=args,res:=some (.bool true),after:=args }=some (.bool (true == true)) from w_eq_bool (w_res rfl) w_lit) rfl
theorem attach_call {l:OpenLaw} {n:Nat} {q:Program} {loose:List Str} {XP:(Str->Option Value)->Heap->Prop} {YP:World->Heap->Prop} {d:DefRec}
  (hn:l.most=some n) (hdf:d.params.defaults=[])
  (call:∀ (w:World) (s₀ s₁:Shared) (mg mb:Str->Option Value) (fa:Addr) (o:Obj) (pm cd doc:Value) (a:Addr) (vs:List Value) (ns:List Int),
   Ground q loose [] XP w s₀ mg mb s₁.heap->YP w s₁.heap ->
   s₁.heap.get? fa=some o->o.data=.func (docDef d.name d.params d.body d.scope pm cd doc)->s₁.heap.CodeRec cd d.name->mg d.name=some (.ref fa) ->
   s₁.heap.get? a=some { cls:=.type "list",data:=.seq vs.toArray }->IntsAre vs ns->ns.length<=n->s₁.gens=#[] ->
   codeAny (model l.prog w) callerA (.call (.ref fa) ⟨[.ref a],[]⟩) (fun r s'=>r=.ok (.ret (.bool true))/\OldK s₁.heap s'.heap/\s'.os=s₁.os/\AllBare s'.gens) s₁) :
  WalkO q loose XP YP l.row.toRowW d [] (fun f vs=>PySem.call f vs):=by
 intro w s₀ s₁ mg mb G Y fa o pm cd doc dV kV ho hd hcd hD hmg hg args vals as hpre hlay hrd hwl hlo
 obtain rfl:dV=.none:=Dflts.none hD hdf
 obtain rfl:kV=.none:=Dflts.noKw hD
 obtain ⟨a,vs,ns,rfl,rfl,hobj,hints,hlen⟩:=r_ hn hpre hwl
 refine enter_call (codeAny_mono (call w s₀ s₁ mg mb fa o pm cd doc a vs ns G Y ho (fd_plain hd) hcd hmg hobj hints hlen hg) fun r s' hq=>?_)
 obtain ⟨rfl,h2,h3,h4⟩:=hq
 exact ⟨.inl ⟨.bool true,.bool true,[],rfl,fun _=>rfl,.bool true,sh l _,fun _=>⟨List.Pairwise.nil,fun _ hm=>(nomatch hm)⟩⟩,h2,h3,h4⟩
section
variable {prog:Program} {w:World} {A:Around} {E:Value->Shared->Prop} {s:Shared} {K:Frag}
end
end Att
namespace L2
open PySem PySem.Spec PyProof.Rows
theorem mv:∀ {vs:List Value} {ns:List Int},IntsAre vs ns->Vals (ns.map V.int) vs
 | _,_,.nil=>.nil
 | _,_,.cons n t h=>.cons ⟨t,rfl⟩ (mv h)
noncomputable def y9 (H:Hp):Prop:=∀ b,H b=none\/∃ o xs,H b=some (.frz o (.lst xs))
theorem um {P:Program} {w:World} {K:PySem.W.Frag} {mg mb:Str->Option Value} {CX:CXT} {k:Nat} {fa a:Addr} {fd:FuncData} {x:Str} {sp:Sp} {s₁:Shared} {vs:List Value} {ns:List Int}
  (KX:K.In s₁.heap) (hns:s₁.heap.Ns mainGlobals mg) (hb:s₁.heap.Ns builtinsNs mb) (hbb:∀ x:Str,x ≠ "__name__"->mb x=bootBuiltins x) (hlim:s₁.heap.NoLimit) (hg:s₁.gens=#[])
  (ha:s₁.heap.get? a=some { cls:=.type "list",data:=.seq vs.toArray }) (hi:IntsAre vs ns) (hl:ns.length<=sizeLine) (hr:Room k callerA)
  (F:∀ base:Heap,K.In base->base.Ns mainGlobals mg->FnOk P w K mg base CX k fa fd [x] sp) (hbind:∀ (s:Shared) (u:Value),BindsTo s fd ⟨[u],[]⟩ [(x,u)])
  (hsp:∀ H:Hp,y9 H->SqL K H a (ns.map V.int)->sp [.ref a] H (fun v _=>v=.bl true) fun _ _ _=>False)
  (hCX:∀ H e s',CX [] H s₁ (fun _ _ _=>False) e s'->False) :
  codeAny (model P w) callerA (.call (.ref fa) ⟨[.ref a],[]⟩) (fun r s'=>r=.ok (.ret (.bool true))/\OldK s₁.heap s'.heap/\s'.os=s₁.os/\AllBare s'.gens) s₁:=by
 have rv:=mv hi
 have lenV:=hi.length
 have core:∀ H:Hp,y9 H->SqL K H a (ns.map V.int)->HOk P w H s₁.heap->(∀ b,H b ≠ none->b=a)->(H a ≠ none->K.lookup a=none) ->
   codeAny (model P w) callerA (.call (.ref fa) ⟨[.ref a],[]⟩) (fun r s'=>r=.ok (.ret (.bool true))/\OldK s₁.heap s'.heap/\s'.os=s₁.os/\AllBare s'.gens) s₁:=by
  intro H hO hS hok hA hK
  have base_of:∀ {b:Addr} {o:Obj},s₁.heap.get? b=some o->H b=none->(nC s₁.heap H).get? b=some o:=fun e n=>uB e n
  have noA:∀ {b:Addr} {o:Obj} {es:Array DictEntry} {ep:Nat},s₁.heap.get? b=some o->o.data=.dict es ep->H b=none:=fun {b o es ep} e d=>by
   cases q:H b with
   | none=>rfl
   | some u =>
    have e':b=a:=hA b (by rw [q];simp)
    subst e'
    rw [ha] at e;cases e
    have d':Data.seq vs.toArray _=Data.dict es ep:=d
    cases d'
  have nsK:∀ {b:Addr} {m:Str->Option Value},s₁.heap.Ns b m->(nC s₁.heap H).Ns b m:=fun {b m} ⟨o,es,ep,e,d,r⟩=>⟨o,es,ep,base_of e (noA e d),d,r⟩
  have hKb:K.In (nC s₁.heap H):=fun b o e=>base_of (KX b o e) (by
   cases q:H b with
   | none=>rfl
   | some u =>
    have e':b=a:=hA b (by rw [q];simp)
    subst e'
    rw [hK (by rw [q];simp)] at e;cases e)
  have hM:Mod K mg (nC s₁.heap H):=⟨hKb,nsK hns,⟨mb,nsK hb,hbb⟩,let ⟨mc,h1,h2⟩:=hlim;⟨mc,nsK h1,h2⟩⟩
  have e0:Env0 P w K mg (nC s₁.heap H) callerA [] s₁ H:=⟨rfl,hM,fun b o e=>v6 e,Nat.le_of_eq (sy _ _),trivial,fun b hb=>absurd (show b ∈ ([]:List Addr) from hb) (by simp),hok,.of_eq hg⟩
  refine codeAny_mono ((F _ hKb (nsK hns)).run callerA [] s₁ H ⟨[.ref a],[]⟩ [.ref a] [.ref a] _ _ hr e0 (hbind s₁ (.ref a)) (.cons rfl .nil) (hsp H hO hS)) fun r s' h=>?_
  cases r with
  | error e=>exact (hCX H e s' h).elim
  | ok fl =>
   cases fl with
   | next=>exact False.elim h
   | brk=>exact False.elim h
   | cont=>exact False.elim h
   | ret u =>
    obtain ⟨v,H',os,bare,un,hok',r',q⟩:=h
    have q':v=.bl true:=q
    subst q'
    obtain rfl:u=Value.bool true:=r'
    refine ⟨rfl,OldK.of_keep fun b o e=>?_,os,bare⟩
    cases q:H b with
    | none=>exact un.keep b o e q (by intro z;exact absurd (show b ∈ ([]:List Addr) from z) (by simp)) (by simp)
    | some u =>
     rcases hO b with z | ⟨ob,xs,z⟩
     ·rw [q] at z;cases z
     ·have z2:=un.frzs b ob _ z
      obtain ⟨e1,_⟩:=hok b _ z
      obtain ⟨e2,_⟩:=hok' b _ z2
      rw [e] at e1;cases e1
      exact e2
 cases hk:K.lookup a with
 | some o =>
  have e:=KX a o hk
  rw [ha] at e
  cases e
  refine core (fun _=>none) (fun _=>.inl rfl) (.inr ⟨_,vs.toArray,_,hk,rfl,rfl,rfl,by rw [List.size_toArray,lenV];exact hl,by simpa using rv⟩) (fun b u z=>by have z':(none:Option HO)=some u:=z;cases z') (fun b z=>absurd rfl z) fun z=>absurd rfl z
 | none =>
  refine core (fun b=>if b=a then some (.frz { cls:=.type "list",data:=.seq vs.toArray } (.lst (ns.map V.int))) else none) (fun b=>?_) (.inl (.inr ⟨{ cls:=.type "list",data:=.seq vs.toArray },if_pos rfl⟩)) (fun b u z=>?_) (fun b z=>?_) fun _=>hk
  ·by_cases hb:b=a
   ·exact .inr ⟨_,_,if_pos hb⟩
   ·exact .inl (if_neg hb)
  ·by_cases hb:b=a
   ·have z':=(if_pos hb).symm.trans z
    cases z'
    subst hb
    exact ⟨ha,by rw [List.length_map];exact hl,vs,_,rv,ha⟩
   ·have z':=(if_neg hb).symm.trans z
    cases z'
  ·by_cases hb:b=a
   ·exact hb
   ·exact absurd (if_neg hb) z
end L2
namespace L2
open PySem PySem.Spec PyProof.Rows
theorem walk_of {l:PySem.W.OpenLaw} {n k:Nat} {q:Program} {loose:List Str} {XP:(Str->Option Value)->Heap->Prop} {YP:World->Heap->Prop} {d:DefRec} {K:Params->PySem.W.Frag} {CX:World->CXT} {sp:World->Sp} {x:Str}
  (hn:l.most=some n) (hn2:n<=sizeLine) (hdf:d.params.defaults=[]) (hr:Room k callerA)
  (hY:∀ (w:World) (h:Heap),YP w h->(K w.params).In h)
  (F:∀ (w:World) (mg:Str->Option Value) (fa:Addr) (h:Heap),(K w.params).In h->h.Ns mainGlobals mg->mg d.name=some (.ref fa) ->
   ∃ fd:FuncData,(∀ (s:Shared) (u:Value),BindsTo s fd ⟨[u],[]⟩ [(x,u)]) /\
    ∀ base:Heap,(K w.params).In base->base.Ns mainGlobals mg->FnOk l.prog w (K w.params) mg base (CX w) k fa fd [x] (sp w))
  (hsp:∀ (w:World) (H:Hp) (a:Addr) (ns:List Int),ns.length<=n->y9 H->SqL (K w.params) H a (ns.map V.int)->sp w [.ref a] H (fun v _=>v=.bl true) fun _ _ _=>False)
  (hCX:∀ (w:World) (H:Hp) (s:Shared) (e:Value) (s':Shared),CX w [] H s (fun _ _ _=>False) e s'->False) :
  PySem.W.WalkO q loose XP YP l.row.toRowW d [] (fun f vs=>PySem.call f vs):=by
 refine Att.attach_call hn hdf fun w s₀ s₁ mg mb fa o pm cd doc a vs ns G Y ho hd hcd hmg hobj hints hlen hg=>?_
 have KX:=hY w _ Y
 obtain ⟨fd,hb,hF⟩:=F w mg fa _ KX G.T.g hmg
 exact um KX G.T.g G.T.b G.T.builtins G.T.nolimit hg hobj hints (Nat.le_trans hlen hn2) hr hF hb (fun H hO hS=>hsp w H a ns hlen hO hS) fun H e s'=>hCX w H s₁ e s'
end L2
namespace L2
open PySem PySem.Spec PyProof.Rows
noncomputable def wm (s:Stmt) (j:Nat):Stmt:=match s with
 | .ClassDef _ _ _ body _ _ _ _ _ _ _=>body.getD j (.Pass ⟨0,0,0,0⟩)
 | _=>.Pass ⟨0,0,0,0⟩
noncomputable def aT (s:Stmt):Arguments:=match s with
 | .FunctionDef _ a _ _ _ _ _ _ _ _=>a
 | _=>{ posonlyargs:=[],args:=[],vararg:=none,kwonlyargs:=[],kw_defaults:=[],kwarg:=none,defaults:=[] }
noncomputable def ay (s:Stmt):List Stmt:=match s with
 | .FunctionDef _ _ b _ _ _ _ _ _ _=>b
 | _=>[]
noncomputable def ah (s:Stmt):Scope:=match s with
 | .FunctionDef _ _ _ _ _ _ sc _ _ _=>sc
 | _=>{ kind:=.function,names:=[],isGenerator:=false,isCoroutine:=false }
noncomputable abbrev CX0:CXT:=fun _ _ _ _ _ _=>False
noncomputable abbrev E0:XK:=fun _ _ _=>False
theorem mF {X:Cx}:on CX0 X E0:=fun _ _ _ _ _ _ _ h=>h.elim
structure Fun (K:PySem.W.Frag) (x qual:Str) (st:Stmt) (f:Addr) (fd:FuncData):Prop where
 ex:∃ (oc:Value) (od:Option Addr) (kV doc pm:Value) (an:Option Addr) (cdv ct:Value) (osl:Array (Option Value)),
  fd=PySem.W.fnOf x qual (aT st) (ay st) (ah st) .none kV doc pm an cdv ct/\K.lookup f=some ⟨oc,od,.func fd,osl⟩/\PySem.W.codeIn K cdv qual=true
 kp:PySem.W.keepIn K (.ref f)=true
section
variable {P:Program} {w:World} {K:PySem.W.Frag} {mg:Str->Option Value} {base:Heap}
theorem Fun.ok {x qual:Str} {st:Stmt} {f:Addr} {fd:FuncData} {N ps:List Str} {k:Nat} {sp:Sp} (F:Fun K x qual st f fd) (S:aP N ps (ah st)) (len:∀ vs H Q E,sp vs H Q E->vs.length=ps.length)
  (hbody:∀ (cdv:Value) (A:Around) (outer:List Env) (s:Shared) (H:Hp) (vs:List V) (Q:VK) (E:XK),Room k (A.deeper (envOfC qual (ah st) s.heap.objs.size f cdv))->sp vs H Q E ->
   ∃ t,PSs (cw CX0 P w K mg base N qual (ah st) f cdv A outer s H E).nox (ay st) t/\t { nx:=fun _ H'=>Q .non H',rt:=Q } (start N vs) H):FnOk P w K mg base CX0 (k + 1) f fd ps sp:=by
 obtain ⟨oc,od,kV,doc,pm,an,cdv,ct,osl,rfl,lk,hcd⟩:=F.ex
 refine zN lk hcd S len fun A outer s H vs Q E hr hsp=>?_
 obtain ⟨t,h,q⟩:=hbody cdv A outer s H vs Q E hr hsp
 exact ⟨t,h.nox,q⟩
theorem Fun.binds {x qual:Str} {st:Stmt} {f:Addr} {fd:FuncData} {ps:List Str} (F:Fun K x qual st f fd)
  (h:∀ (kV doc pm:Value) (an:Option Addr) (cdv ct:Value) (us:List Value),us.length=ps.length->bindArgs (PySem.W.fnOf x qual (aT st) (ay st) (ah st) .none kV doc pm an cdv ct) ⟨us,[]⟩=pure (ps.zip us)):Binds K fd ps []:=by
 obtain ⟨oc,od,kV,doc,pm,an,cdv,ct,osl,rfl,lk,hcd⟩:=F.ex
 exact .all (h kV doc pm an cdv ct)
theorem br {x qual:Str} {st:Stmt} {f:Addr} {oc:Value} {od an:Option Addr} {osl:Array (Option Value)} {kV doc pm cdv ct:Value} (l:K.lookup f=some ⟨oc,od,.func (PySem.W.fnOf x qual (aT st) (ay st) (ah st) .none kV doc pm an cdv ct),osl⟩)
  (c:PySem.W.codeIn K cdv qual=true) (k:PySem.W.keepIn K (.ref f)=true):Fun K x qual st f (PySem.W.fnOf x qual (aT st) (ay st) (ah st) .none kV doc pm an cdv ct):=⟨⟨oc,od,kV,doc,pm,an,cdv,ct,osl,rfl,l,c⟩,k⟩
end
section
variable {X:Cx}
theorem pv (i:Nat) {x:Str} {pos:Pos} (hN:X.N[i]?=some x:=by rfl) (hv:Vis X.env.scope x:=by first | exact Or.inl rfl | exact Or.inr (Or.inl rfl) | exact Or.inr (Or.inr rfl)) (hd:(x == ("__debug__":Str))=false:=by decide)
  (hcd:(x == ("__classdict__":Str))=false:=by decide):PE X (.Name x pos) (d9 i):=xQ hN hv hd hcd
end
theorem yz {A B:Prop} (h:B):if false=true then A else B:=by
 rw [if_neg Bool.false_ne_true]
 exact h
theorem yx {A B:Prop} (h:A):if true=true then A else B:=by
 rw [if_pos rfl]
 exact h
noncomputable def Same (H H':Hp):Prop:=∀ b o,H b=some o->H' b=some o
theorem Same.refl (H:Hp):Same H H:=fun _ _ h=>h
theorem Same.trans {H H1 H2:Hp} (a:Same H H1) (b:Same H1 H2):Same H H2:=fun c o h=>b c o (a c o h)
theorem Same.seq {K:PySem.W.Frag} {H H':Hp} {a:Addr} {xs:List V} (e:Same H H') (h:SqL K H a xs):SqL K H' a xs:=by
 rcases h with (h | ⟨o,h⟩) | h
 ·exact .inl (.inl (e _ _ h))
 ·exact .inl (.inr ⟨o,e _ _ h⟩)
 ·exact .inr h
end L2
set_option compiler.extract_closed false
set_option genSizeOf true
set_option genInjectivity true
set_option autoImplicit false
namespace DL
open PySem PySem.Spec PyProof.Rows L2
noncomputable abbrev St:=L2.St
noncomputable def exN (c:Nat):Str:=match c with
 | 0=>"NoHall"
 | 1=>"NoArrow"
 | 2=>"NoBox"
 | 3=>"NoPicture"
 | 4=>"NoReading"
 | 5=>"NoThing"
 | _=>"NoSending"
structure za (h:Heap) (e:Addr) (cls:Value) (ch:List Addr):Prop where
 mem:e ∈ ch
 at_:∃ oe vs,h.get? e=some oe/\oe.cls=cls/\oe.dict=none/\oe.data=.fields vs/\1 < vs.size/\(vs[1]?=some .none\/∃ T oT ts fl,vs[1]?=some (.ref T)/\T ≠ e/\T ∈ ch/\h.get? T=some oT/\oT.data=.fields ts/\ts[3]?=some fl)
 thr:∀ b ∈ ch,∃ o vs,h.get? b=some o/\o.data=.fields vs
section
variable {M:Model} {A:Around} {E:Value->Shared->Prop} {s:Shared}
end
theorem _root_.L2.Inv.frn {X:Cx} {pins:List (Addr × Obj)} {σ:St} {H:Hp} {s:Shared} (I:Inv X pins σ H s):∀ b ∈ X.fs,H b=none:=fun b hb=>by
 obtain ⟨_,o,ho,_⟩:=I.ok.funs.mem hb
 exact I.base.free b o ho (I.ok.frf b hb) fun z=>I.ok.exfs b z hb
noncomputable def AK (X:Cx) (pins:List (Addr × Obj)) (H:Hp) (b:Addr):Prop :=
 H b=none/\X.s₀.heap.get? b=none/\b ≠ X.env.locals/\b ∉ frs X.stack/\(∀ x c,X.env.cells.lookup x=some c->c ≠ b)/\∀ p ∈ X.pn ++ pins,p.1 ≠ b
section
variable {X:Cx} {pins:List (Addr × Obj)} {σ:St} {H:Hp} {s:Shared} {h':Heap} {ch:List Addr}
end
end DL
namespace DL
open PySem PySem.Spec PyProof.Rows L2
inductive D where
 | non | bl (b:Bool) | int (i:Int) | lst (xs:List D) | tup (xs:List D) | ob (e r t:D) | scr (ns:List Int) | exn (c:Nat)
noncomputable abbrev KA:=Int × Int × List Int
inductive OK where
 | s | l (k:OK) | p (j k:OK)
 deriving DecidableEq
inductive Slt where
 | shr (d:D) | own (xs:List D) | dic (kvs:List (KA × D)) | tre (k:OK) (d:D)
noncomputable abbrev Rho:=List (Option Slt)
structure RB where
 rho:Rho
 ad:Nat->List Addr
instance:Coe RB Rho:=⟨RB.rho⟩
inductive R (α:Type) where
 | val (a:α) | exc (c:Nat) | bad
noncomputable def R.bind {α β:Type}:R α->(α->R β)->R β
 | .val a,f=>f a
 | .exc c,_=>.exc c
 | .bad,_=>.bad
inductive Out where
 | nx (ρ:Rho) | rt (d:D) | bk (ρ:Rho) | ct (ρ:Rho)
noncomputable def exP (K:PySem.W.Frag) (c:Nat) (a:Addr):Heap->Prop:=fun h=>∃ ox Cc,h.get? a=some ox/\ox.cls=.ref Cc/\ox.dict=none/\(∃ vs,ox.data=.fields vs)/\PySem.W.nsIn K mainGlobals (exN c)=some (some (.ref Cc))
noncomputable def zR (e r t:V):List (Str × V):=[("ends",e),("rests",r),("table",t)]
mutual
inductive Has (K:PySem.W.Frag) (C:Addr) (H:Hp):V->D->Prop where
 | non:Has K C H .non .non
 | bl (b:Bool):Has K C H (.bl b) (.bl b)
 | int (i:Int):Has K C H (.int i) (.int i)
 | lst {a:Addr} {vs:List V} {xs:List D}:H a=some (.lst vs)->HasL K C H vs xs->Has K C H (.ref a) (.lst xs)
 | tup {a:Addr} {vs:List V} {xs:List D}:H a=some (.tup vs)->HasL K C H vs xs->Has K C H (.ref a) (.tup xs)
 | scr {a:Addr} {ns:List Int}:SqL K H a (ns.map V.int)->Has K C H (.ref a) (.scr ns)
 | exn {a:Addr} {c:Nat}:H a=some (.ext (exP K c a))->Has K C H (.ref a) (.exn c)
 | ob {a dx:Addr} {ve vr vt:V} {e r t:D}:H a=some (.ins C dx (zR ve vr vt))->Has K C H ve e->Has K C H vr r->Has K C H vt t->Has K C H (.ref a) (.ob e r t)
inductive HasL (K:PySem.W.Frag) (C:Addr) (H:Hp):List V->List D->Prop where
 | nil:HasL K C H [] []
 | cons {v:V} {d:D} {vs:List V} {ds:List D}:Has K C H v d->HasL K C H vs ds->HasL K C H (v :: vs) (d :: ds)
end
section
variable {K:PySem.W.Frag} {C:Addr} {H H':Hp}
mutual
theorem Has.mono (s:Same H H'):∀ {v:V} {d:D},Has K C H v d->Has K C H' v d
 | _,_,.non=>.non
 | _,_,.bl b=>.bl b
 | _,_,.int i=>.int i
 | _,_,.lst q h=>.lst (s _ _ q) (HasL.mono s h)
 | _,_,.tup q h=>.tup (s _ _ q) (HasL.mono s h)
 | _,_,.scr q=>.scr (s.seq q)
 | _,_,.exn q=>.exn (s _ _ q)
 | _,_,.ob q a b c=>.ob (s _ _ q) (Has.mono s a) (Has.mono s b) (Has.mono s c)
theorem HasL.mono (s:Same H H'):∀ {vs:List V} {ds:List D},HasL K C H vs ds->HasL K C H' vs ds
 | _,_,.nil=>.nil
 | _,_,.cons a b=>.cons (Has.mono s a) (HasL.mono s b)
end
theorem HasL.len:∀ {vs:List V} {ds:List D},HasL K C H vs ds->vs.length=ds.length
 | _,_,.nil=>rfl
 | _,_,.cons _ b=>by simp [HasL.len b]
theorem HasL.app:∀ {vs:List V} {ds:List D} {ws:List V} {es:List D},HasL K C H vs ds->HasL K C H ws es->HasL K C H (vs ++ ws) (ds ++ es)
 | _,_,_,_,.nil,h=>h
 | _,_,_,_,.cons a b,h=>.cons a (HasL.app b h)
theorem HasL.get:∀ {vs:List V} {ds:List D} {i:Nat} {d:D},HasL K C H vs ds->ds[i]?=some d->∃ v,vs[i]?=some v/\Has K C H v d
 | _,_,_,_,.nil,e=>by simp at e
 | _,_,0,_,.cons a _,e=>by simp at e;subst e;exact ⟨_,rfl,a⟩
 | _,_,i + 1,d,.cons _ b,e=>by
  obtain ⟨v,h1,h2⟩:=HasL.get (i:=i) (d:=d) b (by simpa using e)
  exact ⟨v,by simpa using h1,h2⟩
theorem HasL.get':∀ {vs:List V} {ds:List D} {i:Nat} {v:V},HasL K C H vs ds->vs[i]?=some v->∃ d,ds[i]?=some d/\Has K C H v d
 | _,_,_,_,.nil,e=>by simp at e
 | _,_,0,_,.cons a _,e=>by simp at e;subst e;exact ⟨_,rfl,a⟩
 | _,_,i + 1,v,.cons _ b,e=>by
  obtain ⟨d,h1,h2⟩:=HasL.get' (i:=i) (v:=v) b (by simpa using e)
  exact ⟨d,by simpa using h1,h2⟩
theorem HasL.drop:∀ {vs:List V} {ds:List D} (n:Nat),HasL K C H vs ds->HasL K C H (vs.drop n) (ds.drop n)
 | _,_,0,h=>h
 | _,_,_ + 1,.nil=>.nil
 | _,_,n + 1,.cons _ b=>HasL.drop n b
theorem HasL.take:∀ {vs:List V} {ds:List D} (n:Nat),HasL K C H vs ds->HasL K C H (vs.take n) (ds.take n)
 | _,_,0,_=>.nil
 | _,_,_ + 1,.nil=>.nil
 | _,_,n + 1,.cons a b=>.cons a (HasL.take n b)
theorem HasL.ints:∀ ns:List Int,HasL K C H (ns.map V.int) (ns.map D.int)
 | []=>.nil
 | n :: ns=>.cons (.int n) (HasL.ints ns)
end
noncomputable def uz:Slt->Bool
 | .shr _=>false
 | _=>true
noncomputable def Own (ρ:RB) (σ:St) (b:Addr):Prop:=∃ i:Nat,b ∈ ρ.ad i
open Classical in
noncomputable def msk (ρ:RB) (σ:St) (H:Hp):Hp:=fun b=>if Own ρ σ b then none else H b
section
variable {ρ:RB} {σ:St} {H H':Hp} {b:Addr} {o:HO}
theorem msk_some:msk ρ σ H b=some o ↔ ¬ Own ρ σ b/\H b=some o:=by
 unfold msk
 by_cases h:Own ρ σ b
 ·rw [if_pos h];exact ⟨fun e=>(by cases e),fun e=>absurd h e.1⟩
 ·rw [if_neg h];exact ⟨fun e=>⟨h,e⟩,fun e=>e.2⟩
theorem msk_sub:Same (msk ρ σ H) H:=fun b o e=>(msk_some.mp e).2
theorem aX (s:Same H H'):Same (msk ρ σ H) (msk ρ σ H'):=fun b o e=>msk_some.mpr ⟨(msk_some.mp e).1,s _ _ (msk_some.mp e).2⟩
end
noncomputable def ky (k:KA):Int:=reduceHash (Builtin.Tuple.tupleHashOf [hashInt k.1,hashInt k.2.1,reduceHash (Builtin.Tuple.tupleHashOf (k.2.2.map hashInt))])
noncomputable def AF (x:KA × Addr × Value):DictEntry:=⟨ky x.1,.ref x.2.1,x.2.2⟩
noncomputable def dOk (a:Addr) (xs:List (KA × Addr × Value)) (h:Heap):Prop:=(a == sysModules)=false/\xs.length<=100001/\∃ o es ep,h.get? a=some o/\o.ExactDict/\o.data=.dict es ep/\es.toList=xs.map AF
noncomputable def i9 (a:Addr) (xs:List (KA × Addr × Value)):HO:=.ext (dOk a xs)
noncomputable def KeyIn (M:Hp) (k:KA) (a:Addr):Prop:=∃ ta,M a=some (.tup [.int k.1,.int k.2.1,.ref ta])/\M ta=some (.tup (k.2.2.map V.int))
noncomputable def EntOk (K:PySem.W.Frag) (C:Addr) (M:Hp) (p:KA × D) (q:KA × Addr × Value):Prop:=p.1=q.1/\KeyIn M p.1 q.2.1/\∃ v,RelV v q.2.2/\Has K C M v p.2
structure DicAt (K:PySem.W.Frag) (C:Addr) (M H:Hp) (a:Addr) (kvs:List (KA × D)):Prop where
 ex:∃ xs,H a=some (i9 a xs)/\(xs.map (·.1)).Nodup/\Paired (EntOk K C M) kvs xs
theorem KeyIn.mono {M M':Hp} {k:KA} {a:Addr} (m:Same M M') (h:KeyIn M k a):KeyIn M' k a:=by
 obtain ⟨ta,h1,h2⟩:=h
 exact ⟨ta,m _ _ h1,m _ _ h2⟩
theorem EntOk.mono {K:PySem.W.Frag} {C:Addr} {M M':Hp} {p:KA × D} {q:KA × Addr × Value} (m:Same M M') (h:EntOk K C M p q):EntOk K C M' p q:=by
 obtain ⟨h1,h2,v,h3,h4⟩:=h
 exact ⟨h1,h2.mono m,v,h3,h4.mono m⟩
theorem DicAt.mono {K:PySem.W.Frag} {C:Addr} {M M' H H':Hp} {a:Addr} {kvs:List (KA × D)} (e:∀ o,H a=some o->H' a=some o) (m:Same M M') (h:DicAt K C M H a kvs):DicAt K C M' H' a kvs:=by
 obtain ⟨xs,h1,h2,h3⟩:=h.ex
 exact ⟨xs,e _ h1,h2,Paired.mapP h3 fun p q z=>z.mono m⟩
mutual
inductive Tre (K:PySem.W.Frag) (C:Addr) (M H:Hp):OK->V->D->List Addr->Prop where
 | s {v:V} {d:D}:Has K C M v d->Tre K C M H .s v d []
 | l {k:OK} {a:Addr} {vs:List V} {xs:List D} {A:List Addr}:H a=some (.lst vs)->TreP K C M H (vs.map fun _=>k) vs xs A->a ∉ A->Tre K C M H (.l k) (.ref a) (.lst xs) (a :: A)
 | p {j k:OK} {a:Addr} {vs:List V} {xs:List D} {A:List Addr}:H a=some (.tup vs)->TreP K C M H [j,k] vs xs A->Tre K C M H (.p j k) (.ref a) (.tup xs) A
inductive TreP (K:PySem.W.Frag) (C:Addr) (M H:Hp):List OK->List V->List D->List Addr->Prop where
 | nil:TreP K C M H [] [] [] []
 | cons {k:OK} {ks:List OK} {v:V} {vs:List V} {d:D} {ds:List D} {A B:List Addr}:Tre K C M H k v d A->TreP K C M H ks vs ds B->(∀ a ∈ A,a ∉ B)->TreP K C M H (k :: ks) (v :: vs) (d :: ds) (A ++ B)
end
structure Stay (A:List Addr) (H H':Hp):Prop where
 at_:∀ a ∈ A,∀ o,H a=some o->H' a=some o
 tup:∀ a vs,H a=some (.tup vs)->H' a=some (.tup vs)
section
variable {K:PySem.W.Frag} {C:Addr} {H H' M M':Hp}
theorem Stay.of {A:List Addr} (s:Same H H'):Stay A H H':=⟨fun a _ o e=>s a o e,fun a vs e=>s a _ e⟩
theorem Stay.sub {A B:List Addr} (h:Stay A H H') (hs:∀ a ∈ B,a ∈ A):Stay B H H':=⟨fun a ha=>h.at_ a (hs a ha),h.tup⟩
mutual
theorem Tre.stay (m:Same M M'):∀ {k:OK} {v:V} {d:D} {A:List Addr},Stay A H H'->Tre K C M H k v d A->Tre K C M' H' k v d A
 | _,_,_,_,_,.s h=>.s (h.mono m)
 | _,_,_,_,y,.l e h n=>.l (y.at_ _ List.mem_cons_self _ e) (TreP.stay m (y.sub fun _ ha=>List.mem_cons_of_mem _ ha) h) n
 | _,_,_,_,y,.p e h=>.p (y.tup _ _ e) (TreP.stay m y h)
theorem TreP.stay (m:Same M M'):∀ {ks:List OK} {vs:List V} {ds:List D} {A:List Addr},Stay A H H'->TreP K C M H ks vs ds A->TreP K C M' H' ks vs ds A
 | _,_,_,_,_,.nil=>.nil
 | _,_,_,_,y,.cons h t n=>.cons (Tre.stay m (y.sub fun _ ha=>List.mem_append_left _ ha) h) (TreP.stay m (y.sub fun _ ha=>List.mem_append_right _ ha) t) n
end
mutual
theorem Tre.has (m:Same M H):∀ {k:OK} {v:V} {d:D} {A:List Addr},Tre K C M H k v d A->Has K C H v d
 | _,_,_,_,.s h=>h.mono m
 | _,_,_,_,.l e h _=>.lst e (TreP.has m h)
 | _,_,_,_,.p e h=>.tup e (TreP.has m h)
theorem TreP.has (m:Same M H):∀ {ks:List OK} {vs:List V} {ds:List D} {A:List Addr},TreP K C M H ks vs ds A->HasL K C H vs ds
 | _,_,_,_,.nil=>.nil
 | _,_,_,_,.cons h t _=>.cons (Tre.has m h) (TreP.has m t)
end
mutual
theorem Tre.lists:∀ {k:OK} {v:V} {d:D} {A:List Addr},Tre K C M H k v d A->∀ a ∈ A,∃ vs,H a=some (.lst vs)
 | _,_,_,_,.s _,a,ha=>by cases ha
 | _,_,_,_,.l e h _,a,ha=>by
  rcases List.mem_cons.mp ha with rfl | ha
  ·exact ⟨_,e⟩
  ·exact TreP.lists h a ha
 | _,_,_,_,.p _ h,a,ha=>TreP.lists h a ha
theorem TreP.lists:∀ {ks:List OK} {vs:List V} {ds:List D} {A:List Addr},TreP K C M H ks vs ds A->∀ a ∈ A,∃ vs,H a=some (.lst vs)
 | _,_,_,_,.nil,a,ha=>by cases ha
 | _,_,_,_,.cons h t _,a,ha=>by
  rcases List.mem_append.mp ha with ha | ha
  ·exact Tre.lists h a ha
  ·exact TreP.lists t a ha
end
theorem TreP.len:∀ {ks:List OK} {vs:List V} {ds:List D} {A:List Addr},TreP K C M H ks vs ds A->vs.length=ds.length/\ks.length=ds.length
 | _,_,_,_,.nil=>⟨rfl,rfl⟩
 | _,_,_,_,.cons _ t _=>⟨congrArg Nat.succ t.len.1,congrArg Nat.succ t.len.2⟩
theorem TreP.of:∀ {vs:List V} {ds:List D},HasL K C M vs ds->TreP K C M H (vs.map fun _=>.s) vs ds []
 | _,_,.nil=>.nil
 | _,_,.cons h t=>.cons (A:=[]) (B:=[]) (.s h) (TreP.of t) fun _ ha=>by cases ha
theorem TreP.flat:∀ {vs us:List V} {ds:List D} {A:List Addr},TreP K C M H (us.map fun _=>OK.s) vs ds A->A=[]/\HasL K C M vs ds
 | [],us,_,_,h=>by cases us with
  | nil=>cases h;exact ⟨rfl,.nil⟩
  | cons _ _=>cases h
 | v :: vs,us,_,_,h=>by cases us with
  | nil=>cases h
  | cons _ us=>cases h with
   | cons h t _=>cases h with
    | s h=>obtain ⟨e,t'⟩:=TreP.flat t;subst e;exact ⟨rfl,.cons h t'⟩
end
noncomputable def SlotOk (K:PySem.W.Frag) (C:Addr) (M H:Hp) (A:List Addr):Slt->Option (Option V)->Prop
 | .shr d,o=>∃ v,o=some (some v)/\Has K C M v d
 | .own xs,o=>∃ a vs,o=some (some (.ref a))/\a ∈ A/\H a=some (.lst vs)/\HasL K C M vs xs
 | .dic kvs,o=>∃ a,o=some (some (.ref a))/\a ∈ A/\DicAt K C M H a kvs
 | .tre k d,o=>∃ v B,o=some (some v)/\(∀ a ∈ B,a ∈ A)/\Tre K C M H k v d B
structure Rel (K:PySem.W.Frag) (C:Addr) (H0:Hp) (ρ:RB) (σ:St) (H:Hp):Prop where
 len:ρ.rho.length=σ.length
 keep:Same H0 (msk ρ σ H)
 at_:∀ (i:Nat) sl,ρ.rho[i]?=some (some sl)->SlotOk K C (msk ρ σ H) H (ρ.ad i) sl σ[i]?
 inj:∀ (i j:Nat) a,a ∈ ρ.ad i->a ∈ ρ.ad j->i=j
 kin:∀ (i:Nat) a,a ∈ ρ.ad i->(∃ vs,H a=some (.lst vs))\/∃ xs,H a=some (i9 a xs)
 bnd:∀ (i:Nat) a,a ∈ ρ.ad i->i < ρ.rho.length
noncomputable def sO (K:PySem.W.Frag) (C:Addr) (H0:Hp) (ρ:Rho) (σ:St) (H:Hp):Prop:=∃ β:RB,β.rho=ρ/\Rel K C H0 β σ H
noncomputable def RB.put (ρ:RB) (i:Nat) (sl:Slt) (A:List Addr):RB:=⟨ρ.rho.set i (some sl),fun j=>if j=i then (if i < ρ.rho.length then A else []) else ρ.ad j⟩
section
variable {K:PySem.W.Frag} {C:Addr} {H0 H H' M M':Hp} {ρ:RB} {σ:St}
theorem SlotOk.stay {A:List Addr} {sl:Slt} {o:Option (Option V)} (y:Stay A H H') (m:Same M M') (h:SlotOk K C M H A sl o):SlotOk K C M' H' A sl o:=by
 cases sl with
 | shr d=>obtain ⟨v,e,h⟩:=h;exact ⟨v,e,h.mono m⟩
 | own xs=>obtain ⟨a,vs,e,n,q,h⟩:=h;exact ⟨a,vs,e,n,y.at_ _ n _ q,h.mono m⟩
 | dic kvs=>obtain ⟨a,e,n,h⟩:=h;exact ⟨a,e,n,h.mono (fun o q=>y.at_ _ n _ q) m⟩
 | tre k d=>obtain ⟨v,B,e,n,h⟩:=h;exact ⟨v,B,e,n,h.stay m (y.sub n)⟩
theorem SlotOk.mono {A:List Addr} {sl:Slt} {o:Option (Option V)} (s:Same H H') (m:Same M M') (h:SlotOk K C M H A sl o):SlotOk K C M' H' A sl o:=h.stay (.of s) m
theorem Rel.mono (r:Rel K C H0 ρ σ H) (s:Same H H'):Rel K C H0 ρ σ H' :=
 ⟨r.len,r.keep.trans (aX s),fun i sl e=>(r.at_ i sl e).mono s (aX s),r.inj,fun i a h=>(r.kin i a h).imp (fun ⟨vs,e⟩=>⟨vs,s _ _ e⟩) fun ⟨xs,e⟩=>⟨xs,s _ _ e⟩,r.bnd⟩
theorem Rel.rebase (r:Rel K C H0 ρ σ H):Rel K C (msk ρ σ H) ρ σ H:=⟨r.len,Same.refl _,r.at_,r.inj,r.kin,r.bnd⟩
theorem Rel.base {H1:Hp} (r:Rel K C H0 ρ σ H) (s:Same H1 H0):Rel K C H1 ρ σ H:=⟨r.len,s.trans r.keep,r.at_,r.inj,r.kin,r.bnd⟩
theorem Rel.ownAt (r:Rel K C H0 ρ σ H) {b:Addr} (h:Own ρ σ b):H b ≠ none:=by
 obtain ⟨i,h⟩:=h
 rcases r.kin i b h with ⟨vs,e⟩ | ⟨xs,e⟩ <;> (rw [e];exact fun z=>by cases z)
theorem Rel.new (r:Rel K C H0 ρ σ H) {p:Addr} {o:HO} (h:H p=none):msk ρ σ (upd H p o) p=some o :=
 msk_some.mpr ⟨fun z=>r.ownAt z h,aU⟩
theorem aO {p:Addr} {o:HO} (h:H p=none):Same H (upd H p o):=fun b u e=>by
 rw [aE (a_ e h)];exact e
theorem eQ {i j:Nat} {sl:Slt} {A:List Addr} {a:Addr} (h:a ∈ (ρ.put i sl A).ad j):(j=i/\i < ρ.rho.length/\a ∈ A)\/(j ≠ i/\a ∈ ρ.ad j):=by
 unfold RB.put at h
 dsimp only at h
 split at h
 ·rename_i e
  split at h
  ·exact .inl ⟨e,‹_›,h⟩
  ·cases h
 ·exact .inr ⟨‹_›,h⟩
theorem xD {i j:Nat} {sl sl':Slt} {A:List Addr} (h:(ρ.put i sl A).rho[j]?=some (some sl')):(j=i/\i < ρ.rho.length/\sl'=sl)\/(j ≠ i/\ρ.rho[j]?=some (some sl')):=by
 unfold RB.put at h
 dsimp only at h
 by_cases e:i=j
 ·subst e
  rw [List.getElem?_set] at h
  simp only [if_true] at h
  split at h
  ·cases h;exact .inl ⟨rfl,‹_›,rfl⟩
  ·cases h
 ·rw [List.getElem?_set_ne e] at h
  exact .inr ⟨fun z=>e z.symm,h⟩
theorem xC {i:Nat} {sl:Slt} {A:List Addr} {a:Addr} (hi:i < ρ.rho.length):(ρ.put i sl A).ad i=A:=by
 unfold RB.put
 dsimp only
 rw [if_pos rfl,if_pos hi]
theorem km {i j:Nat} {sl:Slt} {A:List Addr} (h:j ≠ i):(ρ.put i sl A).ad j=ρ.ad j:=by
 unfold RB.put
 dsimp only
 rw [if_neg h]
theorem Rel.put (r:Rel K C H0 ρ σ H) {i:Nat} {sl:Slt} {A:List Addr} {σ':St} (hl:σ'.length=σ.length) (ho:∀ j:Nat,j ≠ i->σ'[j]?=σ[j]?)
  (fr:∀ a ∈ A,a ∈ ρ.ad i\/H a=none) (st:∀ j:Nat,j ≠ i->Stay (ρ.ad j) H H') (ks:∀ b o,msk ρ σ H b=some o->H' b=some o) (kA:∀ a ∈ A,(∃ vs,H' a=some (.lst vs))\/∃ xs,H' a=some (i9 a xs))
  (h:i < ρ.rho.length->Same (msk ρ σ H) (msk (ρ.put i sl A) σ' H')->SlotOk K C (msk (ρ.put i sl A) σ' H') H' A sl σ'[i]?):Rel K C H0 (ρ.put i sl A) σ' H':=by
 have own:∀ b,Own (ρ.put i sl A) σ' b->Own ρ σ b\/H b=none:=fun b z=>by
  obtain ⟨j,z⟩:=z
  rcases eQ z with ⟨_,_,z⟩ | ⟨_,z⟩
  ·rcases fr b z with z | z
   ·exact .inl ⟨i,z⟩
   ·exact .inr z
  ·exact .inl ⟨j,z⟩
 have sub:Same (msk ρ σ H) (msk (ρ.put i sl A) σ' H'):=fun b o e=>by
  obtain ⟨h1,h2⟩:=msk_some.mp e
  refine msk_some.mpr ⟨fun z=>?_,ks b o e⟩
  rcases own b z with z | z
  ·exact h1 z
  ·rw [z] at h2;cases h2
 have kin':∀ (j:Nat) a,j ≠ i->a ∈ ρ.ad j->(∃ vs,H' a=some (.lst vs))\/∃ xs,H' a=some (i9 a xs):=fun j a hj ha=>(r.kin j a ha).imp (fun ⟨vs,e⟩=>⟨vs,(st j hj).at_ a ha _ e⟩) fun ⟨xs,e⟩=>⟨xs,(st j hj).at_ a ha _ e⟩
 refine ⟨?_,r.keep.trans sub,fun j sl' e=>?_,fun j k a x y=>?_,fun j a x=>?_,fun j a x=>?_⟩
 ·show (ρ.rho.set i (some sl)).length=_
  rw [List.length_set,hl];exact r.len
 ·rcases xD e with ⟨rfl,hi,rfl⟩ | ⟨hj,e⟩
  ·rw [xC (a:=0) hi];exact h hi sub
  ·rw [km hj,ho j hj]
   exact (r.at_ j sl' e).stay (st j hj) sub
 ·rcases eQ x with ⟨rfl,_,x⟩ | ⟨hj,x⟩
  ·rcases eQ y with ⟨rfl,_,_⟩ | ⟨hk,y⟩
   ·rfl
   ·rcases fr a x with x | x
    ·exact r.inj _ _ a x y
    ·exact absurd x (r.ownAt ⟨k,y⟩)
  ·have x':=x
   rcases eQ y with ⟨rfl,_,y⟩ | ⟨hk,y⟩
   ·rcases fr a y with y | y
    ·exact r.inj _ _ a x' y
    ·exact absurd y (r.ownAt ⟨j,x'⟩)
   ·exact r.inj _ _ a x' y
 ·rcases eQ x with ⟨_,_,x⟩ | ⟨hj,x⟩
  ·exact kA a x
  ·exact kin' j a hj x
 ·show j < (ρ.rho.set i (some sl)).length
  rw [List.length_set]
  rcases eQ x with ⟨rfl,hi,_⟩ | ⟨_,x⟩
  ·exact hi
  ·exact r.bnd j a x
theorem Rel.e (r:Rel K C H0 ρ σ H):sO K C H0 ρ.rho σ H:=⟨ρ,rfl,r⟩
theorem ki {α:Type} {l:List α} {i:Nat} {a:α}:(l.set i a).length=l.length:=List.length_set
theorem mY {σ:St} {i:Nat} {v:V} (h:i < σ.length):(σ.set i (some v))[i]?=some (some v):=by
 rw [List.getElem?_set];simp [h]
theorem Rel.setShr (r:Rel K C H0 ρ σ H) {i:Nat} {v:V} {d:D} (h:Has K C (msk ρ σ H) v d):Rel K C H0 (ρ.put i (.shr d) []) (σ.set i (some v)) H :=
 r.put ki (fun j hj=>List.getElem?_set_ne fun z=>hj z.symm) (fun a ha=>by cases ha) (fun j _=>.of (Same.refl _)) (fun b o e=>(msk_some.mp e).2) (fun a ha=>by cases ha) fun hi s=>⟨v,mY (by rw [<- r.len];exact hi),h.mono s⟩
theorem Rel.setOwn (r:Rel K C H0 ρ σ H) {i:Nat} {a:Addr} {vs:List V} {xs:List D} (hn:H a=none) (h:HasL K C (msk ρ σ H) vs xs):Rel K C H0 (ρ.put i (.own xs) [a]) (σ.set i (some (.ref a))) (upd H a (.lst vs)) :=
 r.put ki (fun j hj=>List.getElem?_set_ne fun z=>hj z.symm) (fun b hb=>.inr (by cases List.mem_singleton.mp hb;exact hn)) (fun j _=>.of (aO hn)) (fun b o e=>aO hn b o (msk_some.mp e).2)
  (fun b hb=>.inl (by cases List.mem_singleton.mp hb;exact ⟨vs,aU⟩)) fun hi s=>⟨a,vs,mY (by rw [<- r.len];exact hi),List.mem_singleton.mpr rfl,aU,h.mono s⟩
theorem Rel.apart (r:Rel K C H0 ρ σ H) {i j:Nat} {a:Addr} {o:HO} (ha:a ∈ ρ.ad i) (hj:j ≠ i):Stay (ρ.ad j) H (upd H a o):=by
 refine ⟨fun b hb u e=>?_,fun b vs e=>?_⟩
 ·rw [aE fun (z:b=a)=>hj (r.inj j i b hb (z ▸ ha))];exact e
 ·have:b ≠ a:=fun z=>by
   subst z
   rcases r.kin i b ha with ⟨us,e'⟩ | ⟨xs,e'⟩ <;> (rw [e] at e';cases e')
  rw [aE this];exact e
theorem Rel.shown (r:Rel K C H0 ρ σ H) {i:Nat} {a:Addr} {o:HO} (ha:a ∈ ρ.ad i):∀ b u,msk ρ σ H b=some u->upd H a o b=some u:=fun b u e=>by
 obtain ⟨h1,h2⟩:=msk_some.mp e
 rw [aE fun (z:b=a)=>h1 ⟨i,z ▸ ha⟩];exact h2
theorem Rel.write (r:Rel K C H0 ρ σ H) {i:Nat} {a:Addr} {xs ys:List D} {ws:List V} (e:ρ.rho[i]?=some (some (.own xs))) (q:σ[i]?=some (some (.ref a))) (h:HasL K C (msk ρ σ H) ws ys) :
  Rel K C H0 (ρ.put i (.own ys) [a]) σ (upd H a (.lst ws)):=by
 obtain ⟨b,vs,e1,ha,_,_⟩:=r.at_ i _ e
 rw [q] at e1;cases e1
 exact r.put rfl (fun j _=>rfl) (fun b hb=>.inl (by cases List.mem_singleton.mp hb;exact ha)) (fun j hj=>r.apart ha hj) (r.shown ha) (fun b hb=>.inl (by cases List.mem_singleton.mp hb;exact ⟨ws,aU⟩))
  fun hi s=>⟨a,ws,q,List.mem_singleton.mpr rfl,aU,h.mono s⟩
theorem Rel.freeze (r:Rel K C H0 ρ σ H) {i:Nat} {xs:List D} (e:ρ.rho[i]?=some (some (.own xs))):Rel K C H0 (ρ.put i (.shr (.lst xs)) []) σ H:=by
 obtain ⟨a,vs,q,ha,h1,h2⟩:=r.at_ i _ e
 refine r.put rfl (fun j _=>rfl) (fun b hb=>by cases hb) (fun j _=>.of (Same.refl _)) (fun b o z=>(msk_some.mp z).2) (fun b hb=>by cases hb) fun hi s=>⟨_,q,.lst (msk_some.mpr ⟨fun z=>?_,h1⟩) (h2.mono s)⟩
 obtain ⟨j,z⟩:=z
 rcases eQ z with ⟨_,_,z⟩ | ⟨hj,z⟩
 ·cases z
 ·exact hj (r.inj j i a z ha)
mutual
theorem Tre.share (s:Same M M'):∀ {k:OK} {v:V} {d:D} {A:List Addr},Tre K C M H k v d A->(∀ a ∈ A,∀ o,H a=some o->M' a=some o)->(∀ a vs,H a=some (.tup vs)->M' a=some (.tup vs))->Has K C M' v d
 | _,_,_,_,.s h,_,_=>h.mono s
 | _,_,_,_,.l e h _,f,t=>.lst (f _ List.mem_cons_self _ e) (TreP.share s h (fun a ha=>f a (List.mem_cons_of_mem _ ha)) t)
 | _,_,_,_,.p e h,f,t=>.tup (t _ _ e) (TreP.share s h f t)
theorem TreP.share (s:Same M M'):∀ {ks:List OK} {vs:List V} {ds:List D} {A:List Addr},TreP K C M H ks vs ds A->(∀ a ∈ A,∀ o,H a=some o->M' a=some o)->(∀ a vs,H a=some (.tup vs)->M' a=some (.tup vs))->HasL K C M' vs ds
 | _,_,_,_,.nil,_,_=>.nil
 | _,_,_,_,.cons h t _,f,u=>.cons (Tre.share s h (fun a ha=>f a (List.mem_append_left _ ha)) u) (TreP.share s t (fun a ha=>f a (List.mem_append_right _ ha)) u)
end
theorem Rel.tups (r:Rel K C H0 ρ σ H) {a:Addr} {vs:List V} (e:H a=some (.tup vs)):¬ Own ρ σ a:=fun ⟨i,h⟩=>by
 rcases r.kin i a h with ⟨us,e'⟩ | ⟨xs,e'⟩ <;> (rw [e] at e';cases e')
theorem Rel.thaw (r:Rel K C H0 ρ σ H) {i:Nat} {k:OK} {d:D} (e:ρ.rho[i]?=some (some (.tre k d))):Rel K C H0 (ρ.put i (.shr d) []) σ H:=by
 obtain ⟨v,A,q,hA,h⟩:=r.at_ i _ e
 have own:∀ b,Own (ρ.put i (.shr d) []) σ b->Own ρ σ b/\b ∉ ρ.ad i:=fun b z=>by
  obtain ⟨j,z⟩:=z
  rcases eQ z with ⟨_,_,z⟩ | ⟨hj,z⟩
  ·cases z
  ·exact ⟨⟨j,z⟩,fun y=>hj (r.inj j i b z y)⟩
 refine r.put rfl (fun j _=>rfl) (fun b hb=>by cases hb) (fun j _=>.of (Same.refl _)) (fun b o z=>(msk_some.mp z).2) (fun b hb=>by cases hb) fun hi s=>⟨_,q,h.share s (fun a ha o e=>?_) fun a vs e=>?_⟩
 ·exact msk_some.mpr ⟨fun z=>(own a z).2 (hA a ha),e⟩
 ·exact msk_some.mpr ⟨fun z=>r.tups e (own a z).1,e⟩
end
end DL
namespace DL
open PySem PySem.Spec PyProof.Rows L2
noncomputable def Fly (X:Cx) (pins:List (Addr × Obj)) (c:Nat) (H:Hp) (e:Value) (s:Shared):Prop:=∃ ea Cc ch,e=.ref ea/\X.mg (exN c)=some (.ref Cc)/\za s.heap ea (.ref Cc) ch/\∀ b ∈ ch,AK X pins H b
noncomputable def XE (X:Cx) (c:Nat) (σ:St) (H:Hp):Prop:=∀ pins H' e s',Inv X pins σ H' s'->Same H H'->Fly X pins c H' e s'->X.xe e s'
noncomputable def XS (X:Cx) (c:Nat) (H0:Hp):Prop:=∀ pins σ' H' e s',Inv X pins σ' H' s'->Same H0 H'->Fly X pins c H' e s'->X.xe e s'
theorem XE.mono {X:Cx} {c:Nat} {σ:St} {H H':Hp} (s:Same H H') (h:XE X c σ H):XE X c σ H':=fun pins H2 e s' I s2 f=>h pins H2 e s' I (s.trans s2) f
theorem XS.mono {X:Cx} {c:Nat} {H H':Hp} (s:Same H H') (h:XS X c H):XS X c H':=fun pins σ H2 e s' I s2 f=>h pins σ H2 e s' I (s.trans s2) f
theorem XS.xe {X:Cx} {c:Nat} {σ:St} {H H':Hp} (s:Same H H') (h:XS X c H):XE X c σ H':=fun pins H2 e s' I s2 f=>h pins σ H2 e s' I (s.trans s2) f
inductive Brw (K:PySem.W.Frag) (C:Addr) (M H:Hp):V->D->Prop where
 | cl {v:V} {d:D}:Has K C M v d->Brw K C M H v d
 | own {a:Addr} {vs:List V} {xs:List D}:H a=some (.lst vs)->HasL K C M vs xs->Brw K C M H (.ref a) (.lst xs)
theorem Brw.mono {K:PySem.W.Frag} {C:Addr} {M M' H H':Hp} {v:V} {d:D} (m:Same M M') (s:Same H H') (h:Brw K C M H v d):Brw K C M' H' v d:=by
 cases h with
 | cl h=>exact .cl (h.mono m)
 | own e h=>exact .own (s _ _ e) (h.mono m)
section
variable (C:Addr) (X:Cx)
noncomputable abbrev dC (H0:Hp) (ρ:RB) (σ:St) (H:Hp):Prop:=Rel X.K C H0 ρ σ H
noncomputable abbrev qB (H0:Hp) (ρ:Rho) (σ:St) (H:Hp):Prop:=sO X.K C H0 ρ σ H
noncomputable abbrev eD (ρ:RB) (σ:St) (H:Hp) (v:V) (d:D):Prop:=Has X.K C (msk ρ σ H) v d
noncomputable abbrev jd (ρ:RB) (σ:St) (H:Hp) (v:List V) (d:List D):Prop:=HasL X.K C (msk ρ σ H) v d
noncomputable abbrev zb (ρ:RB) (σ:St) (H:Hp) (v:V) (d:D):Prop:=Brw X.K C (msk ρ σ H) H v d
noncomputable def pV (Rl:Hp->V->D->Prop) (r:R D) (σ:St) (H:Hp) (Q:VK):Prop:=match r with
 | .val d=>∀ v H',Same H H'->Rl H' v d->Q v H'
 | .exc c=>XE X c σ H
 | .bad=>False
noncomputable def pB (r:R Bool) (σ:St) (H:Hp) (Q:Bool->Hp->Prop):Prop:=match r with
 | .val b=>∀ H',Same H H'->Q b H'
 | .exc c=>XE X c σ H
 | .bad=>False
noncomputable def pL (Rl:Hp->List V->List D->Prop) (r:R (List D)) (σ:St) (H:Hp) (Q:List V->Hp->Prop):Prop:=match r with
 | .val d=>∀ v H',Same H H'->Rl H' v d->Q v H'
 | .exc c=>XE X c σ H
 | .bad=>False
noncomputable def teC (F:Rho->R D):TE:=fun σ H Q=>∃ ρ:RB,(∃ H0,dC C X H0 ρ σ H)/\pV X (eD C X ρ σ) (F ρ) σ H Q
noncomputable def teB (F:Rho->R D):TE:=fun σ H Q=>∃ ρ:RB,(∃ H0,dC C X H0 ρ σ H)/\pV X (zb C X ρ σ) (F ρ) σ H Q
noncomputable def ttD (F:Rho->R Bool):TT:=fun σ H Q=>∃ ρ:RB,(∃ H0,dC C X H0 ρ σ H)/\pB X (F ρ) σ H Q
noncomputable def taD (F:Rho->R (List D)):TA:=fun σ H Q=>∃ ρ:RB,(∃ H0,dC C X H0 ρ σ H)/\pL X (jd C X ρ σ) (F ρ) σ H Q
noncomputable def ED (e:Expr) (F:Rho->R D):Prop:=PE X e (teC C X F)
noncomputable def EB (e:Expr) (F:Rho->R D):Prop:=PE X e (teB C X F)
noncomputable def TD (e:Expr) (F:Rho->R Bool):Prop:=PT X e (ttD C X F)
noncomputable def AD (es:List Expr) (F:Rho->R (List D)):Prop:=PA X es (taD C X F)
noncomputable def pS (o:R Out) (H0:Hp) (Dn:je):Prop:=match o with
 | .val (.nx ρ')=>∀ σ' H',qB C X H0 ρ' σ' H'->Dn.nx σ' H'
 | .val (.bk ρ')=>∀ σ' H',qB C X H0 ρ' σ' H'->Dn.bk σ' H'
 | .val (.ct ρ')=>∀ σ' H',qB C X H0 ρ' σ' H'->Dn.ct σ' H'
 | .val (.rt d)=>∀ v H',Same H0 H'->Has X.K C H' v d->Dn.rt v H'
 | .exc c=>XS X c H0
 | .bad=>False
noncomputable def tsD (F:Rho->R Out):TS:=fun Dn σ H=>∃ ρ H0,qB C X H0 ρ σ H/\pS C X (F ρ) H0 Dn
noncomputable def SD (st:Stmt) (F:Rho->R Out):Prop:=PS X st (tsD C X F)
noncomputable def SDs (st:List Stmt) (F:Rho->R Out):Prop:=PSs X st (tsD C X F)
end
section
variable {C:Addr} {X:Cx} {ρ:RB} {σ:St} {H H':Hp}
theorem aR {e:Expr} {t t':TE} (h:PE X e t) (hw:∀ σ H Q,t' σ H Q->t σ H Q):PE X e t':=fun pins s σ H Q I q=>h pins s σ H Q I (hw σ H Q q)
theorem iM {e:Expr} {t t':TT} (h:PT X e t) (hw:∀ σ H Q,t' σ H Q->t σ H Q):PT X e t':=fun pins s σ H Q I q=>h pins s σ H Q I (hw σ H Q q)
theorem ku {e:List Expr} {t t':TA} (h:PA X e t) (hw:∀ σ H Q,t' σ H Q->t σ H Q):PA X e t':=fun pos pins s σ H Q I q=>h pos pins s σ H Q I (hw σ H Q q)
theorem bK {e:Stmt} {t t':TS} (h:PS X e t) (hw:∀ D σ H,t' D σ H->t D σ H):PS X e t':=fun pins s σ H Q I q=>h pins s σ H Q I (hw Q σ H q)
theorem fW {e:List Stmt} {t t':TS} (h:PSs X e t) (hw:∀ D σ H,t' D σ H->t D σ H):PSs X e t':=fun pins s σ H Q I q=>h pins s σ H Q I (hw Q σ H q)
theorem pV.mono {Rl:Hp->V->D->Prop} {r:R D} {Q:VK} (s:Same H H') (h:pV X Rl r σ H Q):pV X Rl r σ H' Q:=by
 cases r with
 | val d=>exact fun v H2 s2 q=>h v H2 (s.trans s2) q
 | exc c=>exact XE.mono s h
 | bad=>exact h
theorem pB.mono {r:R Bool} {Q:Bool->Hp->Prop} (s:Same H H') (h:pB X r σ H Q):pB X r σ H' Q:=by
 cases r with
 | val d=>exact fun H2 s2=>h H2 (s.trans s2)
 | exc c=>exact XE.mono s h
 | bad=>exact h
theorem pL.mono {Rl:Hp->List V->List D->Prop} {r:R (List D)} {Q:List V->Hp->Prop} (s:Same H H') (h:pL X Rl r σ H Q):pL X Rl r σ H' Q:=by
 cases r with
 | val d=>exact fun v H2 s2 q=>h v H2 (s.trans s2) q
 | exc c=>exact XE.mono s h
 | bad=>exact h
theorem bf {α:Type} {Rl:Hp->V->D->Prop} {r:R D} {k:D->R α} {P:R α->Hp->Prop} {Q:VK} (hexc:∀ c,P (.exc c) H->XE X c σ H) (hbad:P .bad H->False) (h:P (r.bind k) H)
  (hk:∀ d v H1,Same H H1->Rl H1 v d->P (k d) H->Q v H1):pV X Rl r σ H Q:=by
 cases r with
 | val d=>exact fun v H1 s q=>hk d v H1 s q h
 | exc c=>exact hexc c h
 | bad=>exact hbad h
theorem iP {α:Type} {r:R Bool} {k:Bool->R α} {P:R α->Hp->Prop} {Q:Bool->Hp->Prop} (hexc:∀ c,P (.exc c) H->XE X c σ H) (hbad:P .bad H->False) (h:P (r.bind k) H)
  (hk:∀ d H1,Same H H1->P (k d) H->Q d H1):pB X r σ H Q:=by
 cases r with
 | val d=>exact fun H1 s=>hk d H1 s h
 | exc c=>exact hexc c h
 | bad=>exact hbad h
theorem dQ {α:Type} {Rl:Hp->List V->List D->Prop} {r:R (List D)} {k:List D->R α} {P:R α->Hp->Prop} {Q:List V->Hp->Prop} (hexc:∀ c,P (.exc c) H->XE X c σ H) (hbad:P .bad H->False) (h:P (r.bind k) H)
  (hk:∀ d v H1,Same H H1->Rl H1 v d->P (k d) H->Q v H1):pL X Rl r σ H Q:=by
 cases r with
 | val d=>exact fun v H1 s q=>hk d v H1 s q h
 | exc c=>exact hexc c h
 | bad=>exact hbad h
theorem EB.of {e : Expr} {F : Rho -> R D} (h : ED C X e F) : EB C X e F := aR h fun σ H Q yy0 => by
 obtain ⟨ρ, r, q⟩ := yy0
 exact ⟨ρ, r, by
  cases z : F ρ with
  | val d => rw [z] at q; exact fun v H' s h => q v H' s (.cl h)
  | exc c => rw [z] at q; exact q
  | bad => rw [z] at q; exact q⟩
noncomputable def vr (i:Nat):Rho->R D:=fun ρ=>match ρ[i]? with
 | some (some (.shr d))=>.val d
 | _=>.bad
noncomputable def vb (i:Nat):Rho->R D:=fun ρ=>match ρ[i]? with
 | some (some (.shr d))=>.val d
 | some (some (.own xs))=>.val (.lst xs)
 | some (some (.tre (.l .s) (.lst xs)))=>.val (.lst xs)
 | _=>.bad
theorem aj {i:Nat} {x:Str} {pos:Pos} (h:PE X (.Name x pos) (d9 i)):ED C X (.Name x pos) (vr i):=by
 refine aR h fun σ H Q zz0=>?_
 obtain ⟨ρ,⟨H0,r⟩,q⟩:=zz0
 unfold vr at q
 split at q
 ·rename_i d e
  obtain ⟨v,e1,h1⟩:=r.at_ i _ e
  exact ⟨v,e1,q v H (Same.refl _) h1⟩
 ·exact q.elim
theorem ai {i:Nat} {x:Str} {pos:Pos} (h:PE X (.Name x pos) (d9 i)):EB C X (.Name x pos) (vb i):=by
 refine aR h fun σ H Q zz1=>?_
 obtain ⟨ρ,⟨H0,r⟩,q⟩:=zz1
 unfold vb at q
 split at q
 ·rename_i d e
  obtain ⟨v,e1,h1⟩:=r.at_ i _ e
  exact ⟨v,e1,q v H (Same.refl _) (.cl h1)⟩
 ·rename_i xs e
  obtain ⟨a,vs,e1,_,h1,h2⟩:=r.at_ i _ e
  exact ⟨_,e1,q _ H (Same.refl _) (.own h1 h2)⟩
 ·rename_i xs e
  obtain ⟨v,B,e1,_,h⟩:=r.at_ i _ e
  cases h with
  | l h1 h2 _=>exact ⟨_,e1,q _ H (Same.refl _) (.own h1 h2.flat.2)⟩
 ·exact q.elim
noncomputable def kd (d:D):Rho->R D:=fun _=>.val d
theorem al {i j pos} : ED C X (.Constant (.int i) j pos) (kd (.int i)) := aR xV fun σ H Q yy1 => by
 obtain ⟨ρ, r, q⟩ := yy1
 exact q _ H (Same.refl _) (.int i)
theorem gZ {i j pos} : ED C X (.Constant (.bool i) j pos) (kd (.bl i)) := aR w5 fun σ H Q yy2 => by
 obtain ⟨ρ, r, q⟩ := yy2
 exact q _ H (Same.refl _) (.bl i)
theorem i8 {x : Str} {i : Int} {t : Tok} {pos : Pos} (hg : Gl X x) (hm : X.mg x = some (.int i t)) (hd : (x == ("__debug__" : Str)) = false := by decide) : ED C X (.Name x pos) (kd (.int i)) :=
  aR (vR (v := .int i) hg hm ⟨t, rfl⟩ hd) fun σ H Q yy4 => by
   obtain ⟨ρ, r, q⟩ := yy4
   exact q _ H (Same.refl _) (.int i)
noncomputable def bin (f:D->D->R D) (a b:Rho->R D):Rho->R D:=fun ρ=>(a ρ).bind fun x=>(b ρ).bind fun y=>f x y
noncomputable def OpD (C:Addr) (X:Cx) (r:R2) (f:D->D->R D):Prop:=∀ ρ σ H v w x y z (Q:VK),(∃ H0,dC C X H0 ρ σ H)->zb C X ρ σ H v x->zb C X ρ σ H w y->f x y=.val z->(∀ u H',Same H H'->eD C X ρ σ H' u z->Q u H')->r v w H Q
noncomputable def e7 (f:D->D->R D):Prop:=∀ x y c,f x y ≠ .exc c
theorem mW {r:R2} {f:D->D->R D} {Fa Fb:Rho->R D} (hf:e7 f) (ho:OpD C X r f) {σ:St} {H:Hp} {Q:VK} (h:teC C X (bin f Fa Fb) σ H Q):tOp r (teB C X Fa) (teB C X Fb) σ H Q:=by
 obtain ⟨ρ,⟨H0,r0⟩,q⟩:=h
 refine ⟨ρ,⟨H0,r0⟩,bf (P:=fun z H=>pV X (eD C X ρ σ) z σ H Q) (fun _ h=>h) (fun h=>h) q fun x v H1 s1 h1 q1=>?_⟩
 refine ⟨ρ,⟨H0,r0.mono s1⟩,bf (P:=fun z H=>pV X (eD C X ρ σ) z σ H Q) (fun _ h=>h) (fun h=>h) (q1.mono s1) fun y w H2 s2 h2 q2=>?_⟩
 cases e:f x y with
 | val z =>
  rw [e] at q2
  exact ho ρ σ H2 v w x y z Q ⟨H0,(r0.mono s1).mono s2⟩ (h1.mono (aX s2) s2) h2 e fun u H3 s3 h3=>q2 u H3 (s2.trans s3) h3
 | exc c=>exact (hf x y c e).elim
 | bad=>rw [e] at q2;exact q2.elim
theorem rD {a b:Expr} {op:Operator} {pos:Pos} {r:R2} {f:D->D->R D} {Fa Fb:Rho->R D} (h:OpR X (binaryOp op) r) (hf:e7 f) (ho:OpD C X r f) (ha:EB C X a Fa) (hb:EB C X b Fb) :
  ED C X (.BinOp a op b pos) (bin f Fa Fb):=aR (w4 h ha hb) fun σ H Q q=>mW hf ho q
theorem yP {a b:Expr} {op:CmpOp} {pos:Pos} {r:R2} {f:D->D->R D} {Fa Fb:Rho->R D} (h:OpR X (compareOp op) r) (hf:e7 f) (ho:OpD C X r f) (ha:EB C X a Fa) (hb:EB C X b Fb) (hm:behindInMarks op b=false) :
  ED C X (.Compare a [op] [b] pos) (bin f Fa Fb):=aR (vS h ha hb hm) fun σ H Q q=>mW hf ho q
theorem zW {a b:Expr} {pos:Pos} {r:R2} {f:D->D->R D} {Fa Fb:Rho->R D} (h:IxR X r) (hf:e7 f) (ho:OpD C X r f) (ha:EB C X a Fa) (hb:EB C X b Fb) (hs:jc b) :
  ED C X (.Subscript a b pos) (bin f Fa Fb):=aR (tU h ha hb hs) fun σ H Q q=>mW hf ho q
noncomputable def asB:D->R Bool
 | .bl b=>.val b
 | _=>.bad
noncomputable def tst (F:Rho->R D):Rho->R Bool:=fun ρ=>(F ρ).bind asB
theorem Brw.int {K:PySem.W.Frag} {M H:Hp} {v:V} {i:Int} (h:Brw K C M H v (.int i)):v=.int i:=by
 cases h with
 | cl h=>cases h;rfl
theorem Brw.bl {K:PySem.W.Frag} {M H:Hp} {v:V} {i:Bool} (h:Brw K C M H v (.bl i)):v=.bl i:=by
 cases h with
 | cl h=>cases h;rfl
theorem Has.bl' {K:PySem.W.Frag} {M:Hp} {v:V} {i:Bool} (h:Has K C M v (.bl i)):v=.bl i:=by cases h;rfl
theorem zi {F:Rho->R D} {σ:St} {H:Hp} {Q:Bool->Hp->Prop} (h:ttD C X (tst F) σ H Q):teC C X F σ H fun x H1=>∃ c,x=.bl c/\Q c H1:=by
 obtain ⟨ρ,⟨H0,r0⟩,q⟩:=h
 refine ⟨ρ,⟨H0,r0⟩,bf (P:=fun z H=>pB X z σ H Q) (fun _ h=>h) (fun h=>h) q fun x v H1 s1 h1 q1=>?_⟩
 cases x with
 | bl b=>exact ⟨b,Has.bl' h1,q1 H1 s1⟩
 | _=>exact q1.elim
theorem db {e:Expr} {F:Rho->R D} (h:ED C X e F) (he:∀ whole,isTrue e X.env whole=(do let v <- whole;standAt e.pos;holding [v] (truthy v)):=by intro _;rfl):TD C X e (tst F) :=
 iM (xI h he) fun σ H Q q=>zi q
theorem kG {a b:Expr} {op:CmpOp} {pos:Pos} {r:R2} {f:D->D->R D} {Fa Fb:Rho->R D} (h:OpR X (compareOp op) r) (hf:e7 f) (ho:OpD C X r f) (ha:EB C X a Fa) (hb:EB C X b Fb) (hm:behindInMarks op b=false) :
  TD C X (.Compare a [op] [b] pos) (tst (bin f Fa Fb)):=iM (qN h ha hb hm) fun σ H Q q=>by
 obtain ⟨ρ,r0,q⟩:=q
 refine mW hf ho ⟨ρ,r0,?_⟩
 exact bf (P:=fun z H=>pB X z σ H Q) (fun _ h=>h) (fun h=>h) q fun x v H1 s1 h1 q1=>by
  cases x with
  | bl b=>exact ⟨b,Has.bl' h1,q1 H1 s1⟩
  | _=>exact q1.elim
noncomputable def yZ (a b:Rho->R Bool):Rho->R Bool:=fun ρ=>(a ρ).bind fun x=>if x=true then b ρ else .val false
noncomputable def orB (a b:Rho->R Bool):Rho->R Bool:=fun ρ=>(a ρ).bind fun x=>if x=true then .val true else b ρ
noncomputable def dw (a:Rho->R Bool):Rho->R Bool:=fun ρ=>(a ρ).bind fun x=>.val (!x)
noncomputable def WD (C:Addr) (X:Cx) (e:Expr) (F:Rho->R Bool):Prop:=PW X e (ttD C X F)
theorem qM {e:Expr} {t t':TT} (h:PW X e t) (hw:∀ σ H Q,t' σ H Q->t σ H Q):PW X e t':=fun wh pins s σ H Q I q=>h wh pins s σ H Q I (hw σ H Q q)
theorem vm {a:Expr} {pos:Pos} {F:Rho->R Bool} (h:TD C X a F):WD C X (.BoolOp .And [a] pos) F:=vH h
theorem fi {a:Expr} {pos:Pos} {F:Rho->R Bool} (h:TD C X a F):WD C X (.BoolOp .Or [a] pos) F:=xA h
theorem xl {a b : Expr} {rest : List Expr} {pos : Pos} {Fa Fb : Rho -> R Bool} (ha : TD C X a Fa) (hb : WD C X (.BoolOp .And (b :: rest) pos) Fb) : WD C X (.BoolOp .And (a :: b :: rest) pos) (yZ Fa Fb) :=
  qM (xB ha hb) fun σ H Q yy5 => by
   obtain ⟨ρ, ⟨H0, r0⟩, q⟩ := yy5
   exact ⟨ρ, ⟨H0, r0⟩, iP (P := fun z H => pB X z σ H Q) (fun _ h => h) (fun h => h) q fun x H1 s1 q1 => by
    cases x with
    | true => rw [if_pos rfl]; rw [if_pos rfl] at q1; exact ⟨ρ, ⟨H0, r0.mono s1⟩, q1.mono s1⟩
    | false => rw [if_neg Bool.false_ne_true]; rw [if_neg Bool.false_ne_true] at q1; exact q1 H1 s1⟩
theorem fE {a b : Expr} {rest : List Expr} {pos : Pos} {Fa Fb : Rho -> R Bool} (ha : TD C X a Fa) (hb : WD C X (.BoolOp .Or (b :: rest) pos) Fb) : WD C X (.BoolOp .Or (a :: b :: rest) pos) (orB Fa Fb) :=
  qM (zt ha hb) fun σ H Q yy6 => by
   obtain ⟨ρ, ⟨H0, r0⟩, q⟩ := yy6
   exact ⟨ρ, ⟨H0, r0⟩, iP (P := fun z H => pB X z σ H Q) (fun _ h => h) (fun h => h) q fun x H1 s1 q1 => by
    cases x with
    | false => rw [if_neg Bool.false_ne_true]; rw [if_neg Bool.false_ne_true] at q1; exact ⟨ρ, ⟨H0, r0.mono s1⟩, q1.mono s1⟩
    | true => rw [if_pos rfl]; rw [if_pos rfl] at q1; exact q1 H1 s1⟩
theorem jS {e:Expr} {F:Rho->R Bool} (h:WD C X e F):TD C X e F:=h.pt
theorem dc {a : Expr} {pos : Pos} {F : Rho -> R Bool} (h : TD C X a F) : TD C X (.UnaryOp .Not a pos) (dw F) :=
  iM (xJ h) fun σ H Q yy7 => by
   obtain ⟨ρ, r0, q⟩ := yy7
   exact ⟨ρ, r0, iP (P := fun z H => pB X z σ H Q) (fun _ h => h) (fun h => h) q fun x H1 s1 q1 => q1 H1 s1⟩
noncomputable def yY (a b:Rho->R D):Rho->R D:=fun ρ=>(a ρ).bind fun x=>(asB x).bind fun c=>if c=true then b ρ else .val (.bl false)
theorem yO {a:Expr} {op} {pos:Pos} {F:Rho->R D} (h:ED C X a F):ED C X (.BoolOp op [a] pos) F:=xT h
theorem yQ {a b : Expr} {rest : List Expr} {pos : Pos} {Fa Fb : Rho -> R D} (ha : ED C X a Fa) (hb : ED C X (.BoolOp .And (b :: rest) pos) Fb) : ED C X (.BoolOp .And (a :: b :: rest) pos) (yY Fa Fb) :=
  aR (xX ha hb) fun σ H Q yy8 => by
   obtain ⟨ρ, ⟨H0, r0⟩, q⟩ := yy8
   exact ⟨ρ, ⟨H0, r0⟩, bf (P := fun z H => pV X (eD C X ρ σ) z σ H Q) (fun _ h => h) (fun h => h) q fun x v H1 s1 h1 q1 => by
    cases x with
    | bl c =>
      refine ⟨c, Has.bl' h1, ?_⟩
      cases c with
      | true => exact yx ⟨ρ, ⟨H0, r0.mono s1⟩, q1.mono s1⟩
      | false => exact yz (q1 _ H1 s1 (.bl false))
    | _ => exact q1.elim⟩
noncomputable def aN:Rho->R (List D):=fun _=>.val []
noncomputable def aC (a:Rho->R D) (r:Rho->R (List D)):Rho->R (List D):=fun ρ=>(a ρ).bind fun x=>(r ρ).bind fun xs=>.val (x :: xs)
theorem am : AD C X [] aN := ku dP fun σ H Q yy12 => by
 obtain ⟨ρ, r0, q⟩ := yy12
 exact q [] H (Same.refl _) .nil
theorem ag {e : Expr} {es : List Expr} {Fa : Rho -> R D} {Fr : Rho -> R (List D)} (ha : ED C X e Fa) (hr : AD C X es Fr) (hs : starEach (e :: es) X.env = (false, eval e X.env) :: starEach es X.env := by rfl) : AD C X (e :: es) (aC Fa Fr) :=
  ku (da ha hr hs) fun σ H Q yy13 => by
   obtain ⟨ρ, ⟨H0, r0⟩, q⟩ := yy13
   exact ⟨ρ, ⟨H0, r0⟩, bf (P := fun z H => pL X (jd C X ρ σ) z σ H Q) (fun _ h => h) (fun h => h) q fun x v H1 s1 h1 q1 =>
    ⟨ρ, ⟨H0, r0.mono s1⟩, dQ (P := fun z H => pL X (jd C X ρ σ) z σ H Q) (fun _ h => h) (fun h => h) (q1.mono s1) fun xs vs H2 s2 h2 q2 => q2 _ H2 s2 (.cons (h1.mono (aX s2)) h2)⟩⟩
noncomputable def LIM:Nat:=100000
theorem ln {n:Nat} (h:n<=LIM):n<=sizeLine:=Nat.le_trans h (by decide)
theorem ym {n:Nat} (h:n<=LIM):n < sizeLine:=Nat.lt_of_le_of_lt h (by decide)
noncomputable def mkT (xs:List D):R D:=if xs.length<=LIM then .val (.tup xs) else .bad
noncomputable def mkL (xs:List D):R D:=if xs.length<=LIM then .val (.lst xs) else .bad
noncomputable def eT (a:Rho->R (List D)):Rho->R D:=fun ρ=>(a ρ).bind mkT
noncomputable def eL (a:Rho->R (List D)):Rho->R D:=fun ρ=>(a ρ).bind mkL
theorem dg {es : List Expr} {x1} {pos : Pos} {F : Rho -> R (List D)} (h : AD C X es F) : ED C X (.Tuple es x1 pos) (eT F) :=
  aR (xR h) fun σ H Q yy14 => by
   obtain ⟨ρ, ⟨H0, r0⟩, q⟩ := yy14
   exact ⟨ρ, ⟨H0, r0⟩, dQ (P := fun z H => pV X (eD C X ρ σ) z σ H Q) (fun _ h => h) (fun h => h) q fun xs vs H1 s1 h1 q1 => by
    unfold mkT at q1
    split at q1
    · rename_i hl
      refine ⟨by rw [h1.len]; exact ln hl, fun p hp => q1 _ _ (s1.trans (aO hp)) ?_⟩
      exact .tup ((r0.mono s1).new hp) (h1.mono (aX (aO hp)))
    · exact q1.elim⟩
theorem cy {es : List Expr} {pos : Pos} {F : Rho -> R (List D)} (h : AD C X es F) : ED C X (.List es pos) (eL F) :=
  aR (ng h) fun σ H Q yy15 => by
   obtain ⟨ρ, ⟨H0, r0⟩, q⟩ := yy15
   exact ⟨ρ, ⟨H0, r0⟩, dQ (P := fun z H => pV X (eD C X ρ σ) z σ H Q) (fun _ h => h) (fun h => h) q fun xs vs H1 s1 h1 q1 => by
    unfold mkL at q1
    split at q1
    · rename_i hl
      refine ⟨by rw [h1.len]; exact ln hl, fun p hp => q1 _ _ (s1.trans (aO hp)) ?_⟩
      exact .lst ((r0.mono s1).new hp) (h1.mono (aX (aO hp)))
    · exact q1.elim⟩
end
end DL
namespace DL
open PySem PySem.Spec PyProof.Rows L2
section
variable {C:Addr} {X:Cx} {ρ:RB} {σ:St} {H H':Hp}
noncomputable def iI (f:Int->Int->R D):D->D->R D
 | .int i,.int j=>f i j
 | _,_=>.bad
theorem iL {f:Int->Int->R D} (h:∀ i j c,f i j ≠ .exc c):e7 (iI f):=by
 intro x y c
 cases x <;> cases y <;> simp [iI] <;> exact h _ _ c
theorem tZ {g:Int->Int->V} {f:Int->Int->R D} (h:∀ i j z,f i j=.val z->∀ K C H,Has K C H (g i j) z):OpD C X (rI0 g) (iI f):=by
 intro ρ σ H v w x y z Q r hx hy e k
 cases x with
 | int i =>
  cases y with
  | int j=>exact ⟨i,j,hx.int,hy.int,k _ H (Same.refl _) (h i j z e _ _ _)⟩
  | _=>cases e
 | _=>cases e
theorem t6 {P:Int->Int->Prop} {g:Int->Int->V} {f:Int->Int->R D} (h:∀ i j z,f i j=.val z->P i j/\∀ K C H,Has K C H (g i j) z):OpD C X (rI P g) (iI f):=by
 intro ρ σ H v w x y z Q r hx hy e k
 cases x with
 | int i =>
  cases y with
  | int j=>exact ⟨i,j,hx.int,hy.int,(h i j z e).1,k _ H (Same.refl _) ((h i j z e).2 _ _ _)⟩
  | _=>cases e
 | _=>cases e
noncomputable def df (i j:Int):R D:=if (-(2 ^ 64) < i/\i < 2 ^ 64)\/(-(2 ^ 64) < j/\j < 2 ^ 64) then .val (.int (i * j)) else .bad
noncomputable def ba (i j:Int):R D:=if 0 < j then .val (.int (i % j)) else .bad
noncomputable def dz (i j:Int):R D:=if 0 < j/\j < 1073741824 then .val (.int (i / j)) else .bad
noncomputable def flt (i j:Int):R D:=.val (.bl (decide (i < j)))
noncomputable def fgt (i j:Int):R D:=.val (.bl (decide (j < i)))
theorem vV:OpD C X (rI CMul fun i j=>.int (i * j)) (iI df):=t6 fun i j z e=>by
 unfold df at e;split at e
 ·cases e;exact ⟨‹_›,fun _ _ _=>.int _⟩
 ·cases e
theorem vW:OpD C X (rI (fun _ j=>0 < j) fun i j=>.int (i % j)) (iI ba):=t6 fun i j z e=>by
 unfold ba at e;split at e
 ·cases e;exact ⟨‹_›,fun _ _ _=>.int _⟩
 ·cases e
theorem vX:OpD C X (rI zZ fun i j=>.int (i / j)) (iI dz):=t6 fun i j z e=>by
 unfold dz at e;split at e
 ·cases e;exact ⟨‹_›,fun _ _ _=>.int _⟩
 ·cases e
theorem x9:OpD C X (rI0 fun i j=>.bl (decide (i < j))) (iI flt):=tZ fun i j z e=>by cases e;exact fun _ _ _=>.bl _
theorem yb:OpD C X (rI0 fun i j=>.bl (decide (j < i))) (iI fgt):=tZ fun i j z e=>by cases e;exact fun _ _ _=>.bl _
theorem xE:e7 (iI df):=iL fun i j c e=>by unfold df at e;split at e <;> cases e
theorem xF:e7 (iI ba):=iL fun i j c e=>by unfold ba at e;split at e <;> cases e
theorem xG:e7 (iI dz):=iL fun i j c e=>by unfold dz at e;split at e <;> cases e
theorem zv:e7 (iI flt):=iL fun i j c e=>by cases e
theorem zy:e7 (iI fgt):=iL fun i j c e=>by cases e
noncomputable def bb:D->D->R D
 | .int i,.int j=>.val (.int (i + j))
 | .lst xs,.lst ys=>if xs.length + ys.length<=LIM then .val (.lst (xs ++ ys)) else .bad
 | _,_=>.bad
theorem Brw.lst {K:PySem.W.Frag} {M H:Hp} {v:V} {xs:List D} (s:Same M H) (h:Brw K C M H v (.lst xs)):∃ a vs,v=.ref a/\H a=some (.lst vs)/\HasL K C M vs xs:=by
 cases h with
 | cl h=>cases h with
  | lst q h=>exact ⟨_,_,rfl,s _ _ q,h⟩
 | own e h=>exact ⟨_,_,rfl,e,h⟩
theorem Brw.tup {K:PySem.W.Frag} {M H:Hp} {v:V} {xs:List D} (s:Same M H) (h:Brw K C M H v (.tup xs)):∃ a vs,v=.ref a/\H a=some (.tup vs)/\HasL K C M vs xs:=by
 cases h with
 | cl h=>cases h with
  | tup q h=>exact ⟨_,_,rfl,s _ _ q,h⟩
theorem Brw.scr {K:PySem.W.Frag} {M H:Hp} {v:V} {ns:List Int} (s:Same M H) (h:Brw K C M H v (.scr ns)):∃ a,v=.ref a/\SqL K H a (ns.map V.int):=by
 cases h with
 | cl h=>cases h with
  | scr q=>exact ⟨_,rfl,s.seq q⟩
theorem vY:OpD C X (fun x y H Q=>rI0 (fun i j=>.int (i + j)) x y H Q\/xz x y H Q) bb:=by
 intro ρ σ H v w x y z Q r hx hy e k
 obtain ⟨H0,r⟩:=r
 cases x with
 | int i =>
  cases y with
  | int j=>cases e;exact .inl ⟨i,j,hx.int,hy.int,k _ H (Same.refl _) (.int _)⟩
  | _=>cases e
 | lst xs =>
  cases y with
  | lst ys =>
   simp only [bb] at e
   split at e
   ·rename_i hl
    cases e
    obtain ⟨a,vs,rfl,q1,h1⟩:=hx.lst msk_sub
    obtain ⟨b,ws,rfl,q2,h2⟩:=hy.lst msk_sub
    refine .inr ⟨a,b,vs,ws,rfl,rfl,q1,q2,by rw [h1.len,h2.len];exact ln hl,fun p hp=>k _ _ (aO hp) ?_⟩
    exact .lst (r.new hp) ((h1.app h2).mono (aX (aO hp)))
   ·cases e
  | _=>cases e
 | _=>cases e
theorem xH:e7 bb:=by
 intro x y c e
 unfold bb at e
 split at e
 ·cases e
 ·split at e <;> cases e
 ·cases e
theorem vU:OpR X (binaryOp .Add) (fun x y H Q=>rI0 (fun i j=>.int (i + j)) x y H Q\/xz x y H Q):=op_add.or t8
noncomputable def fix:D->D->R D
 | .lst xs,.int i=>match atI xs i with
  | some d=>.val d
  | none=>.bad
 | .tup xs,.int i=>match atI xs i with
  | some d=>.val d
  | none=>.bad
 | .scr ns,.int i=>match atI ns i with
  | some d=>.val (.int d)
  | none=>.bad
 | _,_=>.bad
theorem zw:e7 fix:=by
 intro x y c e
 unfold fix at e
 split at e
 ·split at e <;> cases e
 ·split at e <;> cases e
 ·split at e <;> cases e
 ·cases e
theorem wS {α β:Type} (f:α->β) (xs:List α) (i:Int):L2.atI (xs.map f) i=(L2.atI xs i).map f:=by
 unfold L2.atI
 rw [List.length_map]
 cases ixN xs.length i with
 | none=>rfl
 | some j=>simp
theorem HasL.atI {K:PySem.W.Frag} {vs:List V} {xs:List D} {i:Int} {d:D} (h:HasL K C H vs xs) (e:atI xs i=some d):∃ v,L2.atI vs i=some v/\Has K C H v d:=by
 unfold L2.atI at e ⊢
 rw [h.len]
 cases q:ixN xs.length i with
 | none=>rw [q] at e;cases e
 | some j =>
  rw [q] at e
  exact h.get e
theorem x_:OpD C X (rIx X.K) fix:=by
 intro ρ σ H v w x y z Q r hx hy e k
 unfold fix at e
 split at e
 ·rename_i xs i
  split at e
  ·rename_i d q
   cases e
   obtain ⟨a,vs,rfl,q1,h1⟩:=hx.lst msk_sub
   obtain ⟨u,q2,h2⟩:=h1.atI q
   exact .inl ⟨a,vs,i,u,rfl,hy.int,SqL.of q1,q2,k _ H (Same.refl _) h2⟩
  ·cases e
 ·rename_i xs i
  split at e
  ·rename_i d q
   cases e
   obtain ⟨a,vs,rfl,q1,h1⟩:=hx.tup msk_sub
   obtain ⟨u,q2,h2⟩:=h1.atI q
   exact .inr (.inl ⟨a,vs,i,u,rfl,hy.int,SqT.of q1,q2,k _ H (Same.refl _) h2⟩)
  ·cases e
 ·rename_i ns i
  split at e
  ·rename_i d q
   cases e
   obtain ⟨a,rfl,q1⟩:=hx.scr msk_sub
   exact .inl ⟨a,_,i,.int d,rfl,hy.int,q1,by rw [wS,q];rfl,k _ H (Same.refl _) (.int d)⟩
  ·cases e
 ·cases e
theorem cX {a b:Expr} {pos:Pos} {Fa Fb:Rho->R D} (ha:EB C X a Fa) (hb:EB C X b Fb):ED C X (.BinOp a .Add b pos) (bin bb Fa Fb):=rD vU xH vY ha hb
theorem iu {a b:Expr} {pos:Pos} {Fa Fb:Rho->R D} (ha:EB C X a Fa) (hb:EB C X b Fb):ED C X (.BinOp a .Mult b pos) (bin (iI df) Fa Fb):=rD yd xE vV ha hb
theorem cL {a b:Expr} {pos:Pos} {Fa Fb:Rho->R D} (ha:EB C X a Fa) (hb:EB C X b Fb):ED C X (.BinOp a .Mod b pos) (bin (iI ba) Fa Fb):=rD ye xF vW ha hb
theorem ff {a b:Expr} {pos:Pos} {Fa Fb:Rho->R D} (ha:EB C X a Fa) (hb:EB C X b Fb):ED C X (.BinOp a .FloorDiv b pos) (bin (iI dz) Fa Fb):=rD v5 xG vX ha hb
theorem wX {a b:Expr} {pos:Pos} {Fa Fb:Rho->R D} (ha:EB C X a Fa) (hb:EB C X b Fb):TD C X (.Compare a [.Lt] [b] pos) (tst (bin (iI flt) Fa Fb)):=kG w6 zv x9 ha hb (kS _)
theorem my {a b:Expr} {pos:Pos} {Fa Fb:Rho->R D} (ha:EB C X a Fa) (hb:EB C X b Fb):TD C X (.Compare a [.Gt] [b] pos) (tst (bin (iI fgt) Fa Fb)):=kG zC zy yb ha hb (kS _)
theorem aD {a b:Expr} {pos:Pos} {Fa Fb:Rho->R D} (ha:EB C X a Fa) (hb:EB C X b Fb) (hs:jc b:=by exact fun _ _=>rfl):ED C X (.Subscript a b pos) (bin fix Fa Fb):=zW uw zw x_ ha hb hs
noncomputable def nF:D->R D
 | .int i=>.val (.int (-i))
 | _=>.bad
noncomputable def una (f:D->R D) (a:Rho->R D):Rho->R D:=fun ρ=>(a ρ).bind f
theorem nP {a : Expr} {pos : Pos} {F : Rho -> R D} (h : EB C X a F) : ED C X (.UnaryOp .USub a pos) (una nF F) :=
  aR (zB xn h) fun σ H Q yy0 => by
   obtain ⟨ρ, r0, q⟩ := yy0
   exact ⟨ρ, r0, bf (P := fun z H => pV X (eD C X ρ σ) z σ H Q) (fun _ h => h) (fun h => h) q fun x v H1 s1 h1 q1 => by
    cases x with
    | int i => exact ⟨i, h1.int, q1 _ H1 s1 (.int _)⟩
    | _ => exact q1.elim⟩
noncomputable def chn (f g:Int->Int->Bool) (a b c:Rho->R D):Rho->R D:=fun ρ=>(a ρ).bind fun x=>(b ρ).bind fun y=>match x,y with
 | .int i,.int j=>if f i j=true then (c ρ).bind fun z=>match z with
   | .int k=>.val (.bl (g j k))
   | _=>.bad
  else .val (.bl false)
 | _,_=>.bad
end
end DL
namespace DL
open PySem PySem.Spec PyProof.Rows L2
section
variable {C:Addr} {X:Cx} {ρ:RB} {σ:St} {H H':Hp}
theorem mB {f g:Int->Int->Bool} {Fa Fb Fc:Rho->R D} {σ:St} {H:Hp} {Q:VK} (h:teC C X (chn f g Fa Fb Fc) σ H Q) :
  pU (rI0 fun i j=>.bl (f i j)) (rI0 fun i j=>.bl (g i j)) (teB C X Fa) (teB C X Fb) (teB C X Fc) σ H Q:=by
 obtain ⟨ρ,⟨H0,r0⟩,q⟩:=h
 refine ⟨ρ,⟨H0,r0⟩,bf (P:=fun z H=>pV X (eD C X ρ σ) z σ H Q) (fun _ h=>h) (fun h=>h) q fun x v H1 s1 h1 q1=>?_⟩
 refine ⟨ρ,⟨H0,r0.mono s1⟩,bf (P:=fun z H=>pV X (eD C X ρ σ) z σ H Q) (fun _ h=>h) (fun h=>h) (q1.mono s1) fun y w H2 s2 h2 q2=>?_⟩
 cases x with
 | int i =>
  cases y with
  | int j =>
   refine ⟨i,j,h1.int,h2.int,f i j,rfl,?_⟩
   cases e:f i j with
   | false =>
    simp only [e,Bool.false_eq_true,if_false] at q2 ⊢
    exact q2 _ H2 s2 (.bl false)
   | true =>
    simp only [e,if_true] at q2 ⊢
    refine ⟨ρ,⟨H0,(r0.mono s1).mono s2⟩,bf (P:=fun z H=>pV X (eD C X ρ σ) z σ H Q) (fun _ h=>h) (fun h=>h) (q2.mono s2) fun z w' H3 s3 h3 q3=>?_⟩
    cases z with
    | int k=>exact ⟨j,k,h2.int,h3.int,q3 _ H3 s3 (.bl _)⟩
    | _=>exact q3.elim
  | _=>exact q2.elim
 | _=>exact q2.elim
theorem uZ {a b c:Expr} {op op':CmpOp} {pos:Pos} {f g:Int->Int->Bool} {Fa Fb Fc:Rho->R D} (ho:OpR X (compareOp op) (rI0 fun i j=>.bl (f i j))) (ho':OpR X (compareOp op') (rI0 fun i j=>.bl (g i j)))
  (ha:EB C X a Fa) (hb:EB C X b Fb) (hc:EB C X c Fc) (hm:lastMarks [op,op'] [b,c]=false:=by with_unfolding_all rfl):ED C X (.Compare a [op,op'] [b,c] pos) (chn f g Fa Fb Fc) :=
 aR (tW ho ho' ha hb hc hm) fun σ H Q q=>mB q
theorem ow {a b c:Expr} {op op':CmpOp} {pos:Pos} {f g:Int->Int->Bool} {Fa Fb Fc:Rho->R D} (ho:OpR X (compareOp op) (rI0 fun i j=>.bl (f i j))) (ho':OpR X (compareOp op') (rI0 fun i j=>.bl (g i j)))
  (ha:EB C X a Fa) (hb:EB C X b Fb) (hc:EB C X c Fc) (hm:lastMarks [op,op'] [b,c]=false:=by with_unfolding_all rfl):TD C X (.Compare a [op,op'] [b,c] pos) (tst (chn f g Fa Fb Fc)) :=
 iM (tH ho ho' ha hb hc hm) fun σ H Q q=>by
  obtain ⟨ρ,r0,q⟩:=q
  refine mB ⟨ρ,r0,?_⟩
  exact bf (P:=fun z H=>pB X z σ H Q) (fun _ h=>h) (fun h=>h) q fun x v H1 s1 h1 q1=>by
   cases x with
   | bl b=>exact ⟨b,Has.bl' h1,q1 H1 s1⟩
   | _=>exact q1.elim
noncomputable def i0 (f:Nat):D->R D
 | .ob e r t=>match f with
  | 0=>.val e
  | 1=>.val r
  | _=>.val t
 | _=>.bad
theorem jv {e : Expr} {f : Str} {k : Nat} {pos : Pos} {F : Rho -> R D} (h : EB C X e F) (c : Cls X.K C) (n : NoAttr X.K C f) (hb : attributeBase e f X.env (eval e X.env) = eval e X.env)
    (hk : ∀ ve vr vt, (zR ve vr vt).lookup f = some (match k with | 0 => ve | 1 => vr | _ => vt)) : ED C X (.Attribute e f pos) (una (i0 k) F) :=
  aR (xW h hb) fun σ H Q yy0 => by
   obtain ⟨ρ, r0, q⟩ := yy0
   exact ⟨ρ, r0, bf (P := fun z H => pV X (eD C X ρ σ) z σ H Q) (fun _ h => h) (fun h => h) q fun x v H1 s1 h1 q1 => by
    cases x with
    | ob de dr dt =>
      cases h1 with
      | cl h1 =>
        cases h1 with
        | @ob a dx ve vr vt _ _ _ e1 g1 g2 g3 =>
          refine ⟨a, C, dx, _, _, rfl, msk_sub _ _ e1, c, n, hk ve vr vt, ?_⟩
          match k with
          | 0 => exact q1 _ H1 s1 g1
          | 1 => exact q1 _ H1 s1 g2
          | _ + 2 => exact q1 _ H1 s1 g3
    | _ => exact q1.elim⟩
noncomputable def aJ:D->R D
 | .lst xs=>.val (.int xs.length)
 | .tup xs=>.val (.int xs.length)
 | .scr ns=>.val (.int ns.length)
 | _=>.bad
theorem aZ {e : Expr} {p pos : Pos} {F : Rho -> R D} (h : EB C X e F) (hg : Gl X "len") (hm : X.mg "len" = none) (hst : starEach [e] X.env = (false, eval e X.env) :: starEach [] X.env := by rfl)
    (hs : ∀ t : TA, PA X [e] t -> PE X (.Call (.Name "len" p) [e] [] pos) (tCB (fun xs H Q => ∃ p ys, xs = [.ref p] /\ (SqL X.K H p ys \/ SqT X.K H p ys) /\ Q (.int ys.length) H) t) := by
      exact fun t ha => aG av (by assumption) (by assumption) PySem.boot_len ha) : ED C X (.Call (.Name "len" p) [e] [] pos) (una aJ F) :=
  aR (hs _ (da h dP hst)) fun σ H Q yy1 => by
   obtain ⟨ρ, r0, q⟩ := yy1
   exact ⟨ρ, r0, bf (P := fun z H => pV X (eD C X ρ σ) z σ H Q) (fun _ h => h) (fun h => h) q fun x v H1 s1 h1 q1 => by
    cases x with
    | lst xs =>
      obtain ⟨a, vs, rfl, e1, h2⟩ := h1.lst msk_sub
      exact ⟨a, vs, rfl, .inl (SqL.of e1), q1 _ H1 s1 (by rw [h2.len]; exact .int _)⟩
    | tup xs =>
      obtain ⟨a, vs, rfl, e1, h2⟩ := h1.tup msk_sub
      exact ⟨a, vs, rfl, .inr (SqT.of e1), q1 _ H1 s1 (by rw [h2.len]; exact .int _)⟩
    | scr ns =>
      obtain ⟨a, rfl, e1⟩ := h1.scr msk_sub
      exact ⟨a, _, rfl, .inl e1, q1 _ H1 s1 (by rw [List.length_map]; exact .int _)⟩
    | _ => exact q1.elim⟩
noncomputable def wp:List D->R D
 | [.int i,.int j]=>.val (.int (if j > i then j else i))
 | _=>.bad
noncomputable def nS (F:Rho->R (List D)):Rho->R D:=fun ρ=>(F ρ).bind wp
theorem uY {a b : Expr} {p pos : Pos} {F : Rho -> R (List D)} (hc : X.calm = true) (h : AD C X [a, b] F) (hg : Gl X "max") (hm : X.mg "max" = none)
    (hs : ∀ t : TA, PA X [a, b] t -> PE X (.Call (.Name "max" p) [a, b] [] pos) (tCB (fun xs H Q => ∃ i j, xs = [.int i, .int j] /\ Q (.int (if j > i then j else i)) H) t) := by
      exact fun t ha => aG (jA (by assumption)) (by assumption) (by assumption) PySem.boot_max ha) : ED C X (.Call (.Name "max" p) [a, b] [] pos) (nS F) :=
  aR (hs _ h) fun σ H Q yy2 => by
   obtain ⟨ρ, r0, q⟩ := yy2
   exact ⟨ρ, r0, dQ (P := fun z H => pV X (eD C X ρ σ) z σ H Q) (fun _ h => h) (fun h => h) q fun xs vs H1 s1 h1 q1 => by
    unfold wp at q1
    split at q1
    · rename_i i j
      cases h1 with
      | cons a1 b1 => cases b1 with
        | cons a2 b2 => cases b2; cases a1; cases a2; exact ⟨i, j, rfl, q1 _ H1 s1 (.int _)⟩
    · exact q1.elim⟩
noncomputable def pF (Rl:Hp->List V->List D->Prop) (r:R (List D)) (σ:St) (H:Hp) (Q:VK):Prop:=match r with
 | .val xs=>∀ a vs H1,Same H H1->H1 a=none->Rl H1 vs xs->Q (.ref a) (upd H1 a (.lst vs))
 | .exc c=>XE X c σ H
 | .bad=>False
variable (C X) in
noncomputable def teF (F:Rho->R (List D)):TE:=fun σ H Q=>∃ ρ:RB,(∃ H0,dC C X H0 ρ σ H)/\pF (X:=X) (jd C X ρ σ) (F ρ) σ H Q
variable (C X) in
noncomputable def FD (e:Expr) (F:Rho->R (List D)):Prop:=PE X e (teF C X F)
noncomputable def yl (r:R (List D)):R D:=r.bind fun xs=>.val (.lst xs)
noncomputable def eLs (F:Rho->R (List D)):Rho->R D:=fun ρ=>yl (F ρ)
theorem eN {e : Expr} {F : Rho -> R (List D)} (h : FD C X e F) : ED C X e (eLs F) := aR h fun σ H Q yy3 => by
 obtain ⟨ρ, ⟨H0, r0⟩, q⟩ := yy3
 exact ⟨ρ, ⟨H0, r0⟩, by
  unfold eLs at q
  cases e : F ρ with
  | val xs =>
    rw [e] at q
    exact fun a vs H1 s1 hn h1 => q _ _ (s1.trans (aO hn)) (.lst ((r0.mono s1).new hn) (h1.mono (aX (aO hn))))
  | exc c => rw [e] at q; exact q
  | bad => rw [e] at q; exact q⟩
noncomputable def lim (r:R (List D)):R (List D):=r.bind fun xs=>if xs.length<=LIM then .val xs else .bad
noncomputable def eM (F:Rho->R (List D)):Rho->R (List D):=fun ρ=>lim (F ρ)
theorem gU {es : List Expr} {pos : Pos} {F : Rho -> R (List D)} (h : AD C X es F) : FD C X (.List es pos) (eM F) :=
  aR (ng h) fun σ H Q yy4 => by
   obtain ⟨ρ, ⟨H0, r0⟩, q⟩ := yy4
   exact ⟨ρ, ⟨H0, r0⟩, dQ (P := fun z H => pF (X := X) (jd C X ρ σ) z σ H Q) (fun _ h => h) (fun h => h) q fun xs vs H1 s1 h1 q1 => by
    split at q1
    · rename_i hl
      exact ⟨by rw [h1.len]; exact ln hl, fun p hp => q1 p vs H1 s1 hp h1⟩
    · exact q1.elim⟩
noncomputable def itD:D->R (List D)
 | .lst xs=>.val xs
 | .tup xs=>.val xs
 | .scr ns=>.val (ns.map .int)
 | _=>.bad
noncomputable def fIt (F:Rho->R D):Rho->R (List D):=fun ρ=>(F ρ).bind itD
theorem e_ {e : Expr} {p pos : Pos} {F : Rho -> R D} (h : EB C X e F) (hg : Gl X "list") (hm : X.mg "list" = none) (hst : starEach [e] X.env = (false, eval e X.env) :: starEach [] X.env := by rfl)
    (hs : ∀ t : TA, PA X [e] t -> PE X (.Call (.Name "list" p) [e] [] pos) (tCB (fun xs H Q => ∃ p ys, xs = [.ref p] /\ (SqL X.K H p ys \/ SqT X.K H p ys) /\ ∀ l, H l = none -> Q (.ref l) (upd H l (.lst ys))) t) := by
      exact fun t ha => bp bU (by assumption) (by assumption) PySem.boot_list ha) : FD C X (.Call (.Name "list" p) [e] [] pos) (fIt F) :=
  aR (hs _ (da h dP hst)) fun σ H Q yy5 => by
   obtain ⟨ρ, r0, q⟩ := yy5
   exact ⟨ρ, r0, bf (P := fun z H => pF (X := X) (jd C X ρ σ) z σ H Q) (fun _ h => h) (fun h => h) q fun x v H1 s1 h1 q1 => by
    cases x with
    | lst xs =>
      obtain ⟨a, vs, rfl, e1, h2⟩ := h1.lst msk_sub
      exact ⟨a, vs, rfl, .inl (SqL.of e1), fun l hl => q1 l vs H1 s1 hl h2⟩
    | tup xs =>
      obtain ⟨a, vs, rfl, e1, h2⟩ := h1.tup msk_sub
      exact ⟨a, vs, rfl, .inr (SqT.of e1), fun l hl => q1 l vs H1 s1 hl h2⟩
    | scr ns =>
      obtain ⟨a, rfl, e1⟩ := h1.scr msk_sub
      exact ⟨a, _, rfl, .inl e1, fun l hl => q1 l _ H1 s1 hl (HasL.ints ns)⟩
    | _ => exact q1.elim⟩
noncomputable def ii:D->R D
 | .lst xs=>.val (.tup xs)
 | .tup xs=>.val (.tup xs)
 | _=>.bad
theorem i7 {e : Expr} {p pos : Pos} {F : Rho -> R D} (h : EB C X e F) (hg : Gl X "tuple") (hm : X.mg "tuple" = none) (hst : starEach [e] X.env = (false, eval e X.env) :: starEach [] X.env := by rfl)
    (hs : ∀ t : TA, PA X [e] t -> PE X (.Call (.Name "tuple" p) [e] [] pos) (tCB (fun xs H Q => ∃ p ys, xs = [.ref p] /\ ((SqL X.K H p ys /\ ∀ l, H l = none -> Q (.ref l) (upd H l (.tup ys))) \/ (SqT X.K H p ys /\ Q (.ref p) H))) t) := by
      exact fun t ha => bp dB (by assumption) (by assumption) PySem.boot_tuple ha) : ED C X (.Call (.Name "tuple" p) [e] [] pos) (una ii F) :=
  aR (hs _ (da h dP hst)) fun σ H Q yy6 => by
   obtain ⟨ρ, ⟨H0, r0⟩, q⟩ := yy6
   exact ⟨ρ, ⟨H0, r0⟩, bf (P := fun z H => pV X (eD C X ρ σ) z σ H Q) (fun _ h => h) (fun h => h) q fun x v H1 s1 h1 q1 => by
    cases x with
    | lst xs =>
      obtain ⟨a, vs, rfl, e1, h2⟩ := h1.lst msk_sub
      exact ⟨a, vs, rfl, .inl ⟨SqL.of e1, fun l hl => q1 _ _ (s1.trans (aO hl)) (.tup ((r0.mono s1).new hl) (h2.mono (aX (aO hl))))⟩⟩
    | tup xs =>
      cases h1 with
      | cl h1 =>
        cases h1 with
        | tup e1 h2 => exact ⟨_, _, rfl, .inr ⟨SqT.of (msk_sub _ _ e1), q1 _ H1 s1 (.tup e1 h2)⟩⟩
    | _ => exact q1.elim⟩
noncomputable def sq (a b:Rho->R Out):Rho->R Out:=fun ρ=>(a ρ).bind fun o=>match o with
 | .nx ρ'=>b ρ'
 | o=>.val o
noncomputable def nxt:Rho->R Out:=fun ρ=>.val (.nx ρ)
noncomputable def asg (i:Nat) (e:Rho->R D):Rho->R Out:=fun ρ=>(e ρ).bind fun d=>.val (.nx (ρ.set i (some (.shr d))))
noncomputable def own (i:Nat) (e:Rho->R (List D)):Rho->R Out:=fun ρ=>(e ρ).bind fun xs=>.val (.nx (ρ.set i (some (.own xs))))
noncomputable def ret (e:Rho->R D):Rho->R Out:=fun ρ=>(e ρ).bind fun d=>.val (.rt d)
noncomputable def drp (e:Rho->R D):Rho->R Out:=fun ρ=>(e ρ).bind fun _=>.val (.nx ρ)
noncomputable def iff (t:Rho->R Bool) (a b:Rho->R Out):Rho->R Out:=fun ρ=>(t ρ).bind fun c=>if c=true then a ρ else b ρ
noncomputable def bad:Rho->R Out:=fun _=>.bad
theorem aV : SDs C X [] nxt := fW vI fun D σ H yy7 => by
 obtain ⟨_, H0, ⟨ρ, rfl, r⟩, q⟩ := yy7
 exact q σ H r.e
theorem ar {st:Stmt} {rest:List Stmt} {F G:Rho->R Out} (h1:SD C X st F) (h2:SDs C X rest G):SDs C X (st :: rest) (sq F G) :=
 fW (gN h1 h2) fun D σ H zz0=>by
  obtain ⟨_,H0,⟨ρ,rfl,r⟩,q⟩:=zz0
  refine ⟨ρ,H0,r.e,?_⟩
  unfold sq at q
  cases e:F ρ with
  | val o =>
   rw [e] at q
   cases o with
   | nx ρ'=>exact fun σ' H' r'=>⟨ρ',H0,r',q⟩
   | rt d=>exact q
   | bk ρ'=>exact q
   | ct ρ'=>exact q
  | exc c=>rw [e] at q;exact q
  | bad=>rw [e] at q;exact q
theorem ao {st:Stmt} {F:Rho->R Out} (h:SD C X st F):SDs C X [st] F:=iN h
theorem dF {H0:Hp} {Dn:je} {c:Nat} {ρ:RB} {σ:St} {H:Hp} (r:dC C X H0 ρ σ H) (h:pS C X (.exc c) H0 Dn):XE X c σ H:=XS.xe (r.keep.trans msk_sub) h
theorem bx {i : Nat} {x : Str} {e : Expr} {pos pos' : Pos} {F : Rho -> R D} (hN : X.N.Nodup) (hi : X.N[i]? = some x) (hx : Loc X.env.scope x) (he : ED C X e F) (hs : swapsWith e (some (.Name x pos')) pos.line X.env = pure false := by rfl)
    (hf : X.fn x = true \/ X.env.scope.names.lookup x = some .local := by first | exact .inl rfl | exact .inr rfl | assumption) : SD C X (.Assign [.Name x pos'] e pos) (asg i F) :=
  bK (kO hN hi hx he hs hf) fun D σ H yy8 => by
   obtain ⟨_, H0, ⟨ρ, rfl, r⟩, q⟩ := yy8
   exact ⟨ρ, ⟨H0, r⟩, bf (P := fun z _ => pS C X z H0 D) (fun c h => dF r h) (fun h => h) q fun d v H1 s1 h1 q1 => q1 _ _ ⟨_, rfl, (r.mono s1).setShr h1⟩⟩
theorem jj {i : Nat} {x : Str} {e : Expr} {pos pos' : Pos} {F : Rho -> R (List D)} (hN : X.N.Nodup) (hi : X.N[i]? = some x) (hx : Loc X.env.scope x) (he : FD C X e F) (hs : swapsWith e (some (.Name x pos')) pos.line X.env = pure false := by rfl)
    (hf : X.fn x = true \/ X.env.scope.names.lookup x = some .local := by first | exact .inl rfl | exact .inr rfl | assumption) : SD C X (.Assign [.Name x pos'] e pos) (own i F) :=
  bK (kO hN hi hx he hs hf) fun D σ H yy9 => by
   obtain ⟨_, H0, ⟨ρ, rfl, r⟩, q⟩ := yy9
   exact ⟨ρ, ⟨H0, r⟩, by
    unfold own at q
    cases e : F ρ with
    | val xs =>
      rw [e] at q
      exact fun a vs H1 s1 hn h1 => q _ _ ⟨_, rfl, (r.mono s1).setOwn hn h1⟩
    | exc c => rw [e] at q; exact dF r q
    | bad => rw [e] at q; exact q⟩
theorem bJ {e : Expr} {pos : Pos} {F : Rho -> R D} (he : ED C X e F) : SD C X (.Return (some e) pos) (ret F) :=
  bK (p5 he) fun D σ H yy10 => by
   obtain ⟨_, H0, ⟨ρ, rfl, r⟩, q⟩ := yy10
   exact ⟨ρ, ⟨H0, r⟩, bf (P := fun z _ => pS C X z H0 D) (fun c h => dF r h) (fun h => h) q fun d v H1 s1 h1 q1 => q1 v H1 ((r.mono s1).keep.trans msk_sub) (h1.mono msk_sub)⟩
theorem h6 {e : Expr} {pos : Pos} {F : Rho -> R D} (he : EB C X e F) (hs : swapsWith e none pos.line X.env = pure false := by rfl) : SD C X (.Expr e pos) (drp F) :=
  bK (h8 he hs) fun D σ H yy11 => by
   obtain ⟨_, H0, ⟨ρ, rfl, r⟩, q⟩ := yy11
   exact ⟨ρ, ⟨H0, r⟩, bf (P := fun z _ => pS C X z H0 D) (fun c h => dF r h) (fun h => h) q fun d v H1 s1 h1 q1 => q1 _ _ (r.mono s1).e⟩
theorem bF {c : Expr} {a b : List Stmt} {pos : Pos} {Ft : Rho -> R Bool} {Fa Fb : Rho -> R Out} (hc : TD C X c Ft) (ha : SDs C X a Fa) (hb : SDs C X b Fb) : SD C X (.If c a b pos) (iff Ft Fa Fb) :=
  bK (zA hc ha hb) fun D σ H yy12 => by
   obtain ⟨_, H0, ⟨ρ, rfl, r⟩, q⟩ := yy12
   exact ⟨ρ, ⟨H0, r⟩, iP (P := fun z _ => pS C X z H0 D) (fun c h => dF r h) (fun h => h) q fun c H1 s1 q1 => by
    cases c with
    | true => exact yx ⟨ρ, H0, (r.mono s1).e, q1⟩
    | false => exact yz ⟨ρ, H0, (r.mono s1).e, q1⟩⟩
theorem dM {st : Stmt} : SD C X st bad := bK tL fun D σ H yy13 => by
 obtain ⟨_, H0, ⟨ρ, rfl, r⟩, q⟩ := yy13
 exact q
noncomputable def frz (i:Nat) (ρ:Rho):Rho:=match ρ[i]? with
 | some (some (.own xs))=>ρ.set i (some (.shr (.lst xs)))
 | some (some (.tre _ d))=>ρ.set i (some (.shr d))
 | _=>ρ
theorem Rel.frz {K:PySem.W.Frag} {H0:Hp} {ρ:Rho} (r:sO K C H0 ρ σ H) (i:Nat):sO K C H0 (DL.frz i ρ) σ H:=by
 obtain ⟨ρ,rfl,r⟩:=r
 unfold DL.frz
 split
 ·exact ⟨_,rfl,r.freeze ‹_›⟩
 ·exact ⟨_,rfl,r.thaw ‹_›⟩
 ·exact r.e
theorem vv {sts : List Stmt} {F : Rho -> R Out} (i : Nat) (h : SDs C X sts F) : SDs C X sts (fun ρ => F (frz i ρ)) := fW h fun D σ H yy16 => by
 obtain ⟨ρ, H0, r, q⟩ := yy16
 exact ⟨frz i ρ, H0, Rel.frz r i, q⟩
noncomputable def app (i:Nat) (e:Rho->R D):Rho->R Out:=fun ρ=>match ρ[i]? with
 | some (some (.own xs))=>(e ρ).bind fun d=>if xs.length < LIM then .val (.nx (ρ.set i (some (.own (xs ++ [d]))))) else .bad
 | _=>.bad
theorem ip {i:Nat} {x:Str} {e:Expr} {p ap cp pos:Pos} {F:Rho->R D} (hv:PE X (.Name x p) (d9 i)) (he:ED C X e F)
  (hs:∀ {to:TE} {t:TA},PE X (.Name x p) to->PA X [e] t->PS X (.Expr (.Call (.Attribute (.Name x p) "append" ap) [e] [] cp) pos) (jK (tBM X.K "list" kl to t)):=by
   exact fun ho ha=>h8 (qR PySem.F.plainAttrs_list PySem.F.slot_list_append PySem.F.type_list_append ia ho ha))
  (hst:starEach [e] X.env=(false,eval e X.env) :: starEach [] X.env:=by rfl) :
  SD C X (.Expr (.Call (.Attribute (.Name x p) "append" ap) [e] [] cp) pos) (app i F) :=
 bK (hs hv (da he dP hst)) fun D σ H zz1=>by
  obtain ⟨_,H0,⟨ρ,rfl,r⟩,q⟩:=zz1
  unfold app at q
  split at q
  ·rename_i xs e0
   obtain ⟨a,vs,e1,_,h1,h2⟩:=r.at_ i _ e0
   refine ⟨_,e1,.inl ⟨rfl,_,SqL.of h1⟩,ρ,⟨H0,r⟩,bf (P:=fun z _=>pS C X z H0 D) (fun c h=>dF r h) (fun h=>h) q fun d v H1 s1 h3 q1=>?_⟩
   split at q1
   ·rename_i hl
    have h2':=h2.mono (aX (ρ:=ρ) (σ:=σ) s1)
    refine ⟨a,vs,v,rfl,rfl,s1 _ _ h1,by rw [h2.len];exact Nat.lt_of_lt_of_le hl (by decide),?_⟩
    exact q1 _ _ ⟨_,rfl,(r.mono s1).write e0 e1 (h2'.app (.cons h3 .nil))⟩
   ·exact q1.elim
  ·exact q.elim
end
end DL
namespace DL
open PySem PySem.Spec PyProof.Rows L2
noncomputable def yE:HO->Bool
 | .lst _=>true
 | .ins _ _ _=>true
 | .own _=>true
 | .ext _=>true
 | _=>false
structure Hid (H:Hp) (h:Heap) (zs:List Addr):Prop where
 kind:∀ z ∈ zs,∃ o,H z=some o/\yE o=true
 insd:∀ z ∈ zs,∀ c dx fs,H z=some (.ins c dx fs)->dx ∈ zs
 own:∀ z ∈ zs,∀ a,H z=some (.own a)->a ∈ zs
 obj:∀ z ∈ zs,∃ o,h.get? z=some o/\∀ v,o.data ≠ .cell v
noncomputable def cut (zs:List Addr) (H:Hp):Hp:=fun b=>if b ∈ zs then none else H b
noncomputable def jn (zs:List Addr) (H M:Hp):Hp:=fun b=>if b ∈ zs then H b else M b
theorem cut_some {zs:List Addr} {H:Hp} {b:Addr} {o:HO}:cut zs H b=some o ↔ b ∉ zs/\H b=some o:=by
 unfold cut
 by_cases h:b ∈ zs
 ·rw [if_pos h];exact ⟨fun e=>(by cases e),fun e=>absurd h e.1⟩
 ·rw [if_neg h];exact ⟨fun e=>⟨h,e⟩,fun e=>e.2⟩
theorem fy {zs:List Addr} {H:Hp} {b:Addr} (h:b ∈ zs):cut zs H b=none:=by unfold cut;rw [if_pos h]
theorem ik {zs:List Addr} {H M:Hp} {b:Addr} (h:b ∈ zs):jn zs H M b=H b:=by unfold jn;rw [if_pos h]
theorem cx {zs:List Addr} {H M:Hp} {b:Addr} (h:b ∉ zs):jn zs H M b=M b:=by unfold jn;rw [if_neg h]
section
variable {X:Cx} {pins:List (Addr × Obj)} {σ:St} {H M:Hp} {s s':Shared} {zs:List Addr}
theorem _root_.L2.Inv.hide (I:Inv X pins σ H s) (Z:Hid H s.heap zs):Inv X (pins ++ dn zs s.heap) σ (cut zs H) s:=by
 have nk:∀ b o,H b=some o->yE o=false->b ∉ zs:=fun b o e k hb=>by
  obtain ⟨o',e',k'⟩:=Z.kind b hb
  rw [e] at e';cases e';rw [k] at k';cases k'
 have nz:∀ b,H b=none->b ∉ zs:=fun b e hb=>by
  obtain ⟨o',e',k'⟩:=Z.kind b hb
  rw [e] at e';cases e'
 have none':∀ b,H b=none->cut zs H b=none:=fun b e=>by unfold cut;split <;> first | rfl | exact e
 have I1:Inv X pins σ (cut zs H) s:=by
  refine ⟨I.ok,I.os,I.bare,⟨I.base.keep,I.base.slot,fun b o q n hx=>none' b (I.base.free b o q n hx),I.base.there,fun b xs e=>?_,fun b o u e=>?_,fun b ps e=>?_⟩,I.loc,I.cell,none' _ I.free,fun x c e=>none' _ (I.freeC x c e),fun p hp=>?_,fun a o e=>?_,I.len⟩
  ·have e1:=I.base.tups b xs e
   exact cut_some.mpr ⟨nk b _ e1 rfl,e1⟩
  ·have e1:=I.base.frzs b o u e
   exact cut_some.mpr ⟨nk b _ e1 rfl,e1⟩
  ·obtain ⟨more,e1⟩:=I.base.tbls b ps e
   exact ⟨more,cut_some.mpr ⟨nk b _ e1 rfl,e1⟩⟩
  ·obtain ⟨h1,h2,h3⟩:=I.pin p hp
   exact ⟨h1,none' _ h2,h3⟩
  ·obtain ⟨h1,h2⟩:=cut_some.mp e
   refine (I.hok a o h2).stay (fun b u _ q=>q) (fun b q=>cut_some.mpr ⟨fun hb=>h1 (Z.own b hb a q),q⟩) fun b xs q=>cut_some.mpr ⟨nk b _ q rfl,q⟩
 refine I1.pins_of fun p hp=>?_
 rcases List.mem_append.mp hp with hp | hp
 ·exact I1.pin p (List.mem_append_right _ hp)
 ·obtain ⟨h1,h2⟩:=h_ hp
  obtain ⟨o',e',k'⟩:=Z.kind p.1 h1
  obtain ⟨o,e,d⟩:=Z.obj p.1 h1
  rw [h2] at e;cases e
  refine ⟨h2,fy h1,fun z=>?_,fun z=>?_,d⟩
  ·rw [z,I.free] at e';cases e'
  ·rw [I.frn _ z] at e';cases e'
theorem _root_.L2.Inv.showG {σ':St} {pins' pins'':List (Addr × Obj)} (I:Inv X pins σ H s) (Z:Hid H s.heap zs) (J:Inv X pins' σ' M s') (h1:∀ p ∈ dn zs s.heap,p ∈ pins') (h2:∀ p ∈ pins'',p ∈ pins'/\H p.1=none):Inv X pins'' σ' (jn zs H M) s'/\∀ z ∈ zs,M z=none:=by
 have nk:∀ b o,H b=some o->yE o=false->b ∉ zs:=fun b o e k hb=>by
  obtain ⟨o',e',k'⟩:=Z.kind b hb
  rw [e] at e';cases e';rw [k] at k';cases k'
 have nz:∀ b,H b=none->b ∉ zs:=fun b e hb=>by
  obtain ⟨o',e',k'⟩:=Z.kind b hb
  rw [e] at e';cases e'
 have pin:∀ z ∈ zs,∀ o,s.heap.get? z=some o->s'.heap.get? z=some o/\M z=none:=fun z hz o e=>by
  have q:=J.pin (z,o) (List.mem_append_right _ (h1 _ (fk hz e)))
  exact ⟨q.1,q.2.1⟩
 have mz:∀ z ∈ zs,M z=none:=fun z hz=>by
  obtain ⟨o,e,_⟩:=Z.obj z hz
  exact (pin z hz o e).2
 have none':∀ b,H b=none->M b=none->jn zs H M b=none:=fun b e e'=>by rw [cx (nz b e)];exact e'
 refine ⟨⟨J.ok,J.os,J.bare,⟨J.base.keep,J.base.slot,fun b o q n hx=>none' b (I.base.free b o q n hx) (J.base.free b o q n hx),J.base.there,fun b xs e=>?_,fun b o u e=>?_,fun b ps e=>?_⟩,J.loc,J.cell,none' _ I.free J.free,fun x c e=>none' _ (I.freeC x c e) (J.freeC x c e),fun p hp=>?_,fun a o e=>?_,J.len⟩,mz⟩
 ·rw [cx (nk b _ (I.base.tups b xs e) rfl)];exact J.base.tups b xs e
 ·rw [cx (nk b _ (I.base.frzs b o u e) rfl)];exact J.base.frzs b o u e
 ·obtain ⟨more,e1⟩:=I.base.tbls b ps e
  rw [cx (nk b _ e1 rfl)];exact J.base.tbls b ps e
 ·rcases List.mem_append.mp hp with hp | hp
  ·obtain ⟨q1,q2,q3⟩:=J.pin p (List.mem_append_left _ hp)
   exact ⟨q1,none' _ (I.pin p (List.mem_append_left _ hp)).2.1 q2,q3⟩
  ·obtain ⟨q1,q2,q3⟩:=J.pin p (List.mem_append_right _ (h2 p hp).1)
   exact ⟨q1,none' _ (h2 p hp).2 q2,q3⟩
 ·by_cases ha:a ∈ zs
  ·rw [ik ha] at e
   obtain ⟨o',e',k'⟩:=Z.kind a ha
   rw [e] at e';cases e'
   have ok:=I.hok a o e
   have same:∀ u,s.heap.get? a=some u->s'.heap.get? a=some u:=fun u q=>(pin a ha u q).1
   cases o with
   | lst xs=>obtain ⟨z,its,n,r,e1⟩:=ok;exact ⟨z,its,n,r,same _ e1⟩
   | own y=>obtain ⟨u,e1⟩:=ok;exact ⟨u,same _ e1⟩
   | ext φ=>obtain ⟨p,⟨u,e1⟩,st⟩:=ok;exact ⟨st _ _ p fun o q=>same o q,⟨u,same _ e1⟩,st⟩
   | ins c dx fs =>
    obtain ⟨d,z,ne,e1,mA,⟨od,es,ep,e2,rest⟩,r⟩:=ok
    have hd:dx ∈ zs:=Z.insd a ha c dx fs e
    exact ⟨by rw [ik hd];exact d,z,ne,same _ e1,mA,⟨od,es,ep,(pin dx hd _ e2).1,rest⟩,r⟩
   | _=>cases k'
  ·rw [cx ha] at e
   refine (J.hok a o e).stay (fun b u _ q=>q) (fun b q=>?_) fun b xs q=>?_
   ·rw [cx fun hb=>by rw [mz b hb] at q;cases q];exact q
   ·rw [cx fun hb=>by rw [mz b hb] at q;cases q];exact q
theorem _root_.L2.Inv.show' (I:Inv X pins σ H s) (Z:Hid H s.heap zs) (J:Inv X (pins ++ dn zs s.heap) σ M s'):Inv X pins σ (jn zs H M) s'/\∀ z ∈ zs,M z=none :=
 I.showG Z J (fun p hp=>List.mem_append_right _ hp) fun p hp=>⟨List.mem_append_left _ hp,(I.pin p (List.mem_append_right _ hp)).2.1⟩
end
noncomputable def dq (ρ:RB) (σ:St):List Addr:=(List.range ρ.rho.length).flatMap ρ.ad
theorem fm {ρ:RB} {σ:St} {b:Addr} (hb:∀ (i:Nat) a,a ∈ ρ.ad i->i < ρ.rho.length):b ∈ dq ρ σ ↔ Own ρ σ b:=by
 unfold dq
 rw [List.mem_flatMap]
 exact ⟨fun ⟨i,_,h⟩=>⟨i,h⟩,fun ⟨i,h⟩=>⟨i,List.mem_range.mpr (hb i b h),h⟩⟩
theorem gm {ρ:RB} {σ:St} {H:Hp} (hb:∀ (i:Nat) a,a ∈ ρ.ad i->i < ρ.rho.length):msk ρ σ H=cut (dq ρ σ) H:=by
 funext b
 unfold msk cut
 by_cases h:Own ρ σ b
 ·rw [if_pos h,if_pos ((fm hb).mpr h)]
 ·rw [if_neg h,if_neg fun z=>h ((fm hb).mp z)]
theorem Rel.hid {X:Cx} {C:Addr} {pins:List (Addr × Obj)} {σ:St} {H H0:Hp} {s:Shared} {ρ:RB} (r:dC C X H0 ρ σ H) (I:Inv X pins σ H s):Hid H s.heap (dq ρ σ):=by
 have key:∀ z ∈ dq ρ σ,(∃ vs,H z=some (.lst vs))\/∃ xs,H z=some (i9 z xs):=fun z hz=>by
  obtain ⟨i,h⟩:=(fm r.bnd).mp hz
  exact r.kin i z h
 refine ⟨fun z hz=>?_,fun z hz c dx fs e=>?_,fun z hz a e=>?_,fun z hz=>?_⟩
 ·rcases key z hz with ⟨vs,e⟩ | ⟨vs,e⟩ <;> exact ⟨_,e,rfl⟩
 ·rcases key z hz with ⟨vs,e'⟩ | ⟨vs,e'⟩ <;> (rw [e] at e';cases e')
 ·rcases key z hz with ⟨vs,e'⟩ | ⟨vs,e'⟩ <;> (rw [e] at e';cases e')
 ·rcases key z hz with ⟨vs,e'⟩ | ⟨vs,e'⟩
  ·obtain ⟨_,its,n,_,e1⟩:=I.hok z _ e'
   exact ⟨_,e1,fun v q=>by cases q⟩
  ·obtain ⟨⟨_,_,o,es,ep,e1,_,e2,_⟩,_⟩:=I.hok z _ e'
   exact ⟨o,e1,fun v q=>by rw [e2] at q;cases q⟩
noncomputable def spD (K:PySem.W.Frag) (C:Addr) (n:Nat) (den:List D->R D):Sp:=fun vs H Q _=>vs.length=n/\∃ ds,HasL K C H vs ds/\match den ds with
 | .val d=>∀ v H',Same H H'->Has K C H' v d->Q v H'
 | _=>False
section
variable {C:Addr} {X:Cx}
noncomputable def noex:R D->R D
 | .val d=>.val d
 | _=>.bad
noncomputable def cal (n:Nat) (den:List D->R D) (a:Rho->R (List D)):Rho->R D:=fun ρ=>(a ρ).bind fun ds=>if ds.length=n then noex (den ds) else .bad
theorem wH {CX:CXT} {k n:Nat} {f:Addr} {fd:FuncData} {ps:List Str} {den:List D->R D} {x:Str} {p pos:Pos} {e:Expr} {es:List Expr} {Fa:Rho->R (List D)}
  (F:FnOk X.prog X.w X.K X.mg X.base CX k f fd ps (spD X.K C n den)) (hr:Room k X.A) (hg:Gl X x) (hm:X.mg x=some (.ref f)) (hk:PySem.W.keepIn X.K (.ref f)=true) (hb:Binds X.K fd ps []) (hx:on CX X E0)
  (ha:AD C X (e :: es) Fa) (hdb:(x == ("__debug__":Str))=false:=by decide) (he:starEach (e :: es) X.env=(false,eval e X.env) :: starEach es X.env:=by rfl) (hpl:(backTo pos (starEach es X.env)).any (·.1)=false:=by rfl) :
  ED C X (.Call (.Name x p) (e :: es) [] pos) (cal n den Fa):=by
 rintro pins s σ H Q I ⟨ρ,⟨H0,r0⟩,q⟩
 refine wpAny_Call_Name_kw (gq I hg hm ?_ hdb)
 refine PySem.W.callWith_K (h₀:=X.base) I.ok.mod.kin hk (thn (ha pos pins s σ H (fun vs H1=>∃ ds d,ds.length=n/\Same H H1/\jd C X ρ σ H1 vs ds/\den ds=.val d/\∀ v H',Same H H'->eD C X ρ σ H' v d->Q v H') I
  ⟨ρ,⟨H0,r0⟩,dQ (P:=fun z H=>pV X (eD C X ρ σ) z σ H Q) (fun _ h=>h) (fun h=>h) q fun ds vs H1 s1 h1 q1=>?_⟩) fun us s1 ⟨vs,H1,I1,rv,ds,d,hl,s1',h1,e1,q1⟩=>⟨I1.kIn,?_⟩) he hpl
 ·split at q1
  ·rename_i hl
   cases e1:den ds with
   | val d=>rw [e1] at q1;exact ⟨ds,d,hl,s1,h1,e1,q1⟩
   | exc c=>rw [e1] at q1;exact q1.elim
   | bad=>rw [e1] at q1;exact q1.elim
  ·exact q1.elim
 ·have r1:=r0.mono s1'
  have Z:=Rel.hid r1 I1
  have J:=I1.hide Z
  refine thn (kM (E:=E0) (Q:=fun v M'=>Same (cut (dq ρ σ) H1) M'/\Has X.K C M' v d) F hr hb .nil hx J rv ?_) fun u s2 ⟨v,M',J2,ru,sm,hv⟩=>?_
  ·rw [List.append_nil]
   refine ⟨h1.len.trans hl,ds,by rw [<- gm r0.bnd];exact h1,?_⟩
   rw [e1]
   exact fun v H' s2 h2=>⟨s2,h2⟩
  ·obtain ⟨I2,mz⟩:=I1.show' Z J2
   have sj:Same H1 (jn (dq ρ σ) H1 M'):=fun b o eb=>by
    by_cases hb:b ∈ dq ρ σ
    ·rw [ik hb];exact eb
    ·rw [cx hb];exact sm b o (cut_some.mpr ⟨hb,eb⟩)
   have em:msk ρ σ (jn (dq ρ σ) H1 M')=M':=by
    rw [gm r0.bnd]
    funext b
    by_cases hb:b ∈ dq ρ σ
    ·rw [fy hb,mz b hb]
    ·unfold cut;rw [if_neg hb,cx hb]
   exact ⟨v,_,I2,ru,q1 v _ (s1'.trans sj) (by show Has _ _ (msk ρ σ _) v d;rw [em];exact hv)⟩
end
end DL
namespace DL
open PySem PySem.Spec PyProof.Rows L2
noncomputable def tgN (i:Nat):D->Rho->Option Rho:=fun x ρ=>some (ρ.set i (some (.shr x)))
noncomputable def tg2 (i j:Nat):D->Rho->Option Rho:=fun x ρ=>match x with
 | .tup [a,b]=>some ((ρ.set i (some (.shr a))).set j (some (.shr b)))
 | _=>none
section
variable {C:Addr} {X:Cx}
variable (C X) in
noncomputable def gtD (ix:List Nat) (T:D->Rho->Option Rho):TG:=fun v σ H Q=>∃ (ρ:RB) (H0:Hp) (x:D) (ρ':Rho),dC C X H0 ρ σ H/\eD C X ρ σ H v x/\T x ρ=some ρ'/\∀ (σ':St) (β:RB),β.rho=ρ'->(∀ j:Nat,β.ad j=if j ∈ ix then [] else ρ.ad j)->dC C X H0 β σ' H->(∀ j:Nat,j ∉ ix->σ'[j]?=σ[j]?)->Q σ' H
variable (C X) in
noncomputable def GD (tg:Expr) (ix:List Nat) (T:D->Rho->Option Rho):Prop:=PG X tg (gtD C X ix T)
theorem qQ {tg:Expr} {t t':TG} (h:PG X tg t) (hw:∀ v σ H Q,t' v σ H Q->t v σ H Q):PG X tg t':=fun pins s σ H v u Q I r q=>h pins s σ H v u Q I r (hw v σ H Q q)
theorem nc {ρ:RB} {i:Nat} {d:D} (j:Nat):(ρ.put i (.shr d) []).ad j=if j=i then [] else ρ.ad j:=by
 unfold RB.put
 dsimp only
 split
 ·split <;> rfl
 ·rfl
theorem qT {ρ:RB} {σ σ':St} {H:Hp} {i:Nat} {d:D}:Same (msk ρ σ H) (msk (ρ.put i (.shr d) []) σ' H):=fun b o eb=>by
 obtain ⟨h1,h2⟩:=msk_some.mp eb
 refine msk_some.mpr ⟨fun ⟨j,z⟩=>?_,h2⟩
 rcases eQ z with ⟨_,_,z⟩ | ⟨_,z⟩
 ·cases z
 ·exact h1 ⟨j,z⟩
theorem bg {i:Nat} {x:Str} {pos:Pos} (hN:X.N.Nodup) (hi:X.N[i]?=some x) (hx:Loc X.env.scope x) (hf:X.fn x=true\/X.env.scope.names.lookup x=some .local:=by first | exact .inl rfl | exact .inr rfl | assumption) :
  GD C X (.Name x pos) [i] (tgN i):=qQ (aQ hN hi hx hf) fun v σ H Q zz0=>by
 obtain ⟨ρ,H0,x,ρ',r,h,e,k⟩:=zz0
 cases e
 exact k _ _ rfl (fun j=>by rw [nc];by_cases e1:j=i <;> simp [e1]) (r.setShr h) fun j hj=>List.getElem?_set_ne fun z=>hj (by simp [z])
theorem dv {i j:Nat} {x y:Str} {px py pos:Pos} {n:Nat} (hc:X.calm=true) (h1:PG X (.Name x px) (gT i)) (h2:PG X (.Name y py) (gT j))
  (hs1:(assignEach [.Name x px,.Name y py] X.env).map (·.2)=assign (.Name x px) X.env :: (assignEach [.Name y py] X.env).map (·.2):=by rfl)
  (hs2:(assignEach [.Name y py] X.env).map (·.2)=assign (.Name y py) X.env :: (assignEach [] X.env).map (·.2):=by rfl)
  (hn:(assignEach [.Name x px,.Name y py] X.env).length=2:=by rfl) (hst:(assignEach [.Name x px,.Name y py] X.env).findIdx? (·.1)=none:=by rfl) :
  GD C X (.Tuple [.Name x px,.Name y py] n pos) [i,j] (tg2 i j):=qQ (xP hc (oM h1 (oM h2 vP hs2) hs1) hn hst) fun v σ H Q zz1=>by
 obtain ⟨ρ,H0,d,ρ',r,h,e,k⟩:=zz1
 unfold tg2 at e
 split at e
 ·rename_i a b
  cases e
  cases h with
  | tup q hl =>
   cases hl with
   | @cons va _ _ _ ha hl =>
    cases hl with
    | @cons vb _ _ _ hb hl =>
     cases hl
     refine ⟨_,_,rfl,SqT.of (msk_sub _ _ q),rfl,va,_,rfl,vb,_,rfl,rfl,?_⟩
     have r1:=r.setShr (i:=i) ha
     refine k _ _ rfl (fun m=>?_) (r1.setShr (i:=j) (hb.mono qT)) fun m hm=>?_
     ·rw [nc,nc]
      by_cases e1:m=i <;> by_cases e2:m=j <;> simp [e1,e2]
     ·rw [List.getElem?_set_ne fun z=>hm (by simp [z]),List.getElem?_set_ne fun z=>hm (by simp [z])]
 ·cases e
noncomputable def asT (T:D->Rho->Option Rho) (e:Rho->R D):Rho->R Out:=fun ρ=>(e ρ).bind fun d=>match T d ρ with
 | some ρ'=>.val (.nx ρ')
 | none=>.bad
theorem xw {tg e : Expr} {pos : Pos} {ix : List Nat} {T : D -> Rho -> Option Rho} {F : Rho -> R D} (he : ED C X e F) (hg : GD C X tg ix T) (hs : swapsWithSole [tg] e pos.line X.env = pure false := by rfl) (hw : swappedStores [tg] e X.env = pure none := by rfl)
    (h1 : (assignEach [tg] X.env).map (·.2) = [assign tg X.env] := by rfl) : SD C X (.Assign [tg] e pos) (asT T F) :=
  bK (p7 he hg hs hw h1) fun D σ H yy0 => by
   obtain ⟨_, H0, ⟨ρ, rfl, r⟩, q⟩ := yy0
   exact ⟨ρ, ⟨H0, r⟩, bf (P := fun z _ => pS C X z H0 D) (fun c h => dF r h) (fun h => h) q fun d v H1 s1 h1 q1 => by
    split at q1
    · rename_i ρ' e1
      exact ⟨ρ, H0, d, ρ', r.mono s1, h1, e1, fun σ' β eb _ r' _ => q1 σ' H1 ⟨β, eb, r'⟩⟩
    · exact q1.elim⟩
structure ol (K:PySem.W.Frag) (C:Addr) (J:It) (xs:List D) (M:Hp):Prop where
 go:∀ (i:Nat) x H2,Same M H2->xs[i]?=some x->J.go i H2/\∀ v H3,J.yld i H2 v H3->Same H2 H3/\∀ ρ σ,(∀ b,Own ρ σ b->H2 b ≠ none)->Same M (msk ρ σ H2)->Has K C (msk ρ σ H3) v x
 stop:∀ H2,Same M H2->J.stop xs.length H2
variable (C X) in
noncomputable def itI (F:Rho->R (List D)):TI:=fun σ H Rk=>∃ ρ:RB,(∃ H0,dC C X H0 ρ σ H)/\match F ρ with
 | .val xs=>∀ J H',Same H H'->ol X.K C J xs (msk ρ σ H')->Rk J H'
 | .exc c=>XE X c σ H
 | .bad=>False
variable (C X) in
noncomputable def ID (tg iter:Expr) (F:Rho->R (List D)):Prop:=PI X tg iter (itI C X F)
theorem kt {tg e:Expr} {t t':TI} (h:PI X tg e t) (hw:∀ σ H Q,t' σ H Q->t σ H Q):PI X tg e t':=fun pins s σ H R I q=>h pins s σ H R I (hw σ H R q)
theorem rS {K:PySem.W.Frag} {a:Addr} {vs:List V} {xs:List D} {M:Hp} (e:M a=some (.lst vs)) (h:HasL K C M vs xs):ol K C (Itl K a) xs M where
 go:=fun i x H2 s hx=>by
  obtain ⟨v,e1,h1⟩:=h.get hx
  refine ⟨⟨vs,v,SqL.of (s _ _ e),e1⟩,fun v' H3 y=>?_⟩
  obtain ⟨rfl,y⟩:=y
  have e2:=y vs (SqL.of (s _ _ e))
  rw [e1] at e2;cases e2
  exact ⟨Same.refl _,fun ρ σ _ m=>h1.mono m⟩
 stop:=fun H2 s=>⟨vs,SqL.of (s _ _ e),by rw [h.len];exact Nat.le_refl _⟩
theorem sT {K:PySem.W.Frag} {a:Addr} {vs:List V} {xs:List D} {M:Hp} (e:M a=some (.tup vs)) (h:HasL K C M vs xs):ol K C (Itt K a) xs M where
 go:=fun i x H2 s hx=>by
  obtain ⟨v,e1,h1⟩:=h.get hx
  refine ⟨⟨vs,v,SqT.of (s _ _ e),e1⟩,fun v' H3 y=>?_⟩
  obtain ⟨rfl,y⟩:=y
  have e2:=y vs (SqT.of (s _ _ e))
  rw [e1] at e2;cases e2
  exact ⟨Same.refl _,fun ρ σ _ m=>h1.mono m⟩
 stop:=fun H2 s=>⟨vs,SqT.of (s _ _ e),by rw [h.len];exact Nat.le_refl _⟩
theorem sU {K:PySem.W.Frag} {a:Addr} {ns:List Int} {M:Hp} (e:SqL K M a (ns.map V.int)):ol K C (Itl K a) (ns.map D.int) M where
 go:=fun i x H2 s hx=>by
  obtain ⟨v,e1,h1⟩:=(HasL.ints (K:=K) (C:=C) (H:=M) ns).get hx
  refine ⟨⟨_,v,s.seq e,e1⟩,fun v' H3 y=>?_⟩
  obtain ⟨rfl,y⟩:=y
  have e2:=y _ (s.seq e)
  rw [e1] at e2;cases e2
  exact ⟨Same.refl _,fun ρ σ _ m=>h1.mono m⟩
 stop:=fun H2 s=>⟨_,s.seq e,by simp⟩
noncomputable def rng (lo:Int) (n:Nat):List D:=(List.range n).map fun (k:Nat)=>D.int (lo + (k:Int))
theorem sV {K:PySem.W.Frag} {lo:Int} {n:Nat} {M:Hp}:ol K C (Itr lo n) (rng lo n) M where
 go:=fun i x H2 s hx=>by
  have hi:i < n:=by have:=(List.getElem?_eq_some_iff.mp hx).1;simpa [rng] using this
  refine ⟨hi,fun v H3 y=>?_⟩
  obtain ⟨rfl,rfl⟩:=y
  refine ⟨Same.refl _,fun ρ σ _ m=>?_⟩
  have:x=.int (lo + (i:Int)):=by
   unfold rng at hx
   rw [List.getElem?_map,List.getElem?_range hi] at hx
   exact (Option.some.inj hx).symm
  rw [this];exact .int _
 stop:=fun H2 s=>by simp [rng,Itr]
theorem xO {tg l:Expr} {tl:TE} (hl:PE X l tl):PI X tg l (fun σ H R=>tl σ H fun x H1=>∃ a,x=.ref a/\(((∃ xs,SqL X.K H1 a xs)/\R (Itl X.K a) H1)\/((∃ xs,SqT X.K H1 a xs)/\R (Itt X.K a) H1))):=by
 intro pins s σ H R I h
 refine thn (hl pins s σ H _ I h) fun v s1 zz3=>?_
 obtain ⟨x,H1,I1,r1,q1⟩:=zz3
 obtain ⟨a,e,q1⟩:=q1
 subst e
 cases r1
 rcases q1 with ⟨⟨xs,hq⟩,q⟩ | ⟨⟨xs,hq⟩,q⟩
 ·obtain ⟨its,rv,p,hz⟩:=I1.list hq
  refine wpAny_pyIter_list p.isList ?_
  refine ⟨s1.heap.objs.size,[s1.heap.objs.size],_,_,H1,rfl,I1.kept (t':=s1.toks) fun b o e=>Heap.get?_push_of_some _ e,mw a _,⟨_,Heap.get?_push_size _ rfl,rfl,rfl⟩,fun b hb=>?_,q⟩
  have e:b=s1.heap.objs.size:=by simpa using hb
  subst e
  exact I1.fpOk (Nat.le_refl _) (I1.hok.fresh (Nat.le_refl _))
 ·obtain ⟨its,rv,p,hz⟩:=I1.tuple hq
  refine wpAny_pyIter_tuple (show s1.heap.IsTuple a its.toArray from p) ?_
  refine ⟨s1.heap.objs.size,[s1.heap.objs.size],_,_,H1,rfl,I1.kept (t':=s1.toks) fun b o e=>Heap.get?_push_of_some _ e,pO a _,⟨_,Heap.get?_push_size _ rfl,rfl,rfl⟩,fun b hb=>?_,q⟩
  have e:b=s1.heap.objs.size:=by simpa using hb
  subst e
  exact I1.fpOk (Nat.le_refl _) (I1.hok.fresh (Nat.le_refl _))
theorem cW {tg e : Expr} {F : Rho -> R D} (h : ED C X e F) : ID C X tg e (fIt F) := kt (xO h) fun σ H R yy2 => by
 obtain ⟨ρ, ⟨H0, r⟩, q⟩ := yy2
 exact ⟨ρ, ⟨H0, r⟩, by
  unfold fIt at q
  cases e : F ρ with
  | val d =>
    rw [e] at q
    intro v H1 s1 h1
    cases h1 with
    | lst e1 h1 => exact ⟨_, rfl, .inl ⟨⟨_, SqL.of (msk_sub _ _ e1)⟩, q _ H1 s1 (rS e1 h1)⟩⟩
    | tup e1 h1 => exact ⟨_, rfl, .inr ⟨⟨_, SqT.of (msk_sub _ _ e1)⟩, q _ H1 s1 (sT e1 h1)⟩⟩
    | scr e1 => exact ⟨_, rfl, .inl ⟨⟨_, msk_sub.seq e1⟩, q _ H1 s1 (sU e1)⟩⟩
    | _ => exact q.elim
  | exc c => rw [e] at q; exact q
  | bad => rw [e] at q; exact q⟩
noncomputable def lV:List D->R (List D)
 | [.int j]=>if -(2 ^ 62)<=j/\j < 2 ^ 62 then .val (rng 0 j.toNat) else .bad
 | _=>.bad
noncomputable def dl (F:Rho->R (List D)):Rho->R (List D):=fun ρ=>(F ρ).bind lV
theorem dd {tg a : Expr} {p pos : Pos} {F : Rho -> R (List D)} (hg : Gl X "range") (hm : X.mg "range" = none) (ha : AD C X [a] F) (hs : starEach [a] X.env = [(false, eval a X.env)] := by rfl) :
    ID C X tg (.Call (.Name "range" p) [a] [] pos) (dl F) := kt (si hg hm ha hs) fun σ H R yy3 => by
     obtain ⟨ρ, ⟨H0, r⟩, q⟩ := yy3
     exact ⟨ρ, ⟨H0, r⟩, by
  unfold dl at q
  cases e : F ρ with
  | val ds =>
    rw [e] at q
    dsimp only [DL.R.bind] at q
    intro vs H1 s1 h1
    unfold lV at q
    split at q
    · rename_i e0
      split at e0
      · rename_i j
        split at e0
        · rename_i hj
          cases e0
          cases h1 with
          | cons a b => cases a; cases b; exact ⟨j, rfl, hj.1, hj.2, q _ H1 s1 sV⟩
        · cases e0
      · cases e0
    · rename_i e0
      split at e0
      · split at e0 <;> cases e0
      · cases e0
    · exact q.elim
  | exc c => rw [e] at q; exact q
  | bad => rw [e] at q; exact q⟩
noncomputable def b_ (T:D->Rho->Option Rho) (F:Rho->R Out):List D->Rho->R Out
 | [],ρ=>.val (.nx ρ)
 | x :: xs,ρ=>match T x ρ with
  | some ρ1=>(F ρ1).bind fun o=>match o with
   | .nx ρ2=>b_ T F xs ρ2
   | .ct ρ2=>b_ T F xs ρ2
   | .bk ρ2=>.val (.nx ρ2)
   | .rt d=>.val (.rt d)
  | none=>.bad
noncomputable def bE (src:Rho->R (List D)) (T:D->Rho->Option Rho) (F:Rho->R Out):Rho->R Out:=fun ρ=>(src ρ).bind fun xs=>b_ T F xs ρ
theorem uE {ix:List Nat} {src:Rho->R (List D)} {T:D->Rho->Option Rho} {F:Rho->R Out} {D:je} {σ:St} {H:Hp} (h:tsD C X (bE src T F) D σ H):zg (itI C X src) (gtD C X ix T) (tsD C X F) D σ H:=by
 obtain ⟨_,H0,⟨ρ,rfl,r⟩,q⟩:=h
 refine ⟨ρ,⟨H0,r⟩,?_⟩
 unfold bE at q
 cases e:src ρ with
 | exc c=>rw [e] at q;exact dF r q
 | bad=>rw [e] at q;exact q
 | val xs =>
  rw [e] at q
  intro J H1 s1 wk
  have r1:=r.mono s1
  have hM:Same H0 (msk ρ σ H1):=r1.keep
  refine ⟨fun i m σ' H'=>m=xs.length - i/\i<=xs.length/\∃ ρ':RB,dC C X (msk ρ σ H1) ρ' σ' H'/\pS C X (b_ T F (xs.drop i) ρ') H0 D,⟨xs.length,rfl,Nat.zero_le _,ρ,r1.rebase,q⟩,?_⟩
  rintro i m σ' H' ⟨rfl,hi,ρ',r',q'⟩
  have sm:Same (msk ρ σ H1) H':=r'.keep.trans msk_sub
  by_cases hlt:i < xs.length
  ·have ex:xs[i]?=some xs[i]:=by simp [hlt]
   have ed:xs.drop i=xs[i] :: xs.drop (i + 1):=List.drop_eq_getElem_cons hlt
   rw [ed] at q'
   obtain ⟨go,yld⟩:=wk.go i _ H' sm ex
   refine .inr ⟨go,fun σ2 H2=>∃ ρ2:RB,dC C X (msk ρ σ H1) ρ2 σ2 H2/\pS C X (b_ T F (xs.drop (i + 1)) ρ2) H0 D,fun σ2 H2 ⟨ρ2,r2,q2⟩=>⟨xs.length - (i + 1),by omega,rfl,hlt,ρ2,r2,q2⟩,fun v H3 y=>?_⟩
   obtain ⟨s3,hv⟩:=yld v H3 y
   have hv':=hv ρ' σ' (fun b ob=>r'.ownAt ob) r'.keep
   unfold b_ at q'
   split at q'
   ·rename_i ρ1 e1
    refine ⟨ρ',_,xs[i],ρ1,r'.mono s3,hv',e1,fun σ2 β eb _ r2 _=>⟨ρ1,_,⟨β,eb,r2⟩,?_⟩⟩
    cases eF:F ρ1 with
    | val o =>
     rw [eF] at q'
     cases o with
     | nx ρ2=>exact fun σ4 H4 ⟨β4,e4,r4⟩=>⟨β4,r4,by rw [e4];exact q'⟩
     | ct ρ2=>exact fun σ4 H4 ⟨β4,e4,r4⟩=>⟨β4,r4,by rw [e4];exact q'⟩
     | bk ρ2=>exact fun σ4 H4 ⟨β4,e4,r4⟩=>q' σ4 H4 ⟨β4,e4,r4.base hM⟩
     | rt d=>exact fun v4 H4 s4 h4=>q' v4 H4 (hM.trans s4) h4
    | exc c=>rw [eF] at q';exact XS.mono hM q'
    | bad=>rw [eF] at q';exact q'
   ·exact q'.elim
  ·have ei:i=xs.length:=by omega
   subst ei
   rw [List.drop_length] at q'
   exact .inl ⟨wk.stop H' sm,q' σ' H' (r'.base hM).e⟩
theorem bz {tg iter:Expr} {body:List Stmt} {pos:Pos} {ix:List Nat} {src:Rho->R (List D)} {T:D->Rho->Option Rho} {F:Rho->R Out} (hp:PassesOwn (model X.prog X.w) X.A X.env X.xe) (hc:X.calm=true) (hi:ID C X tg iter src) (hg:GD C X tg ix T) (hb:SDs C X body F)
  (hs:∀ x,foldedSetIterable iter X.env x=pure x:=by intro _;rfl):SD C X (.For tg iter body [] pos) (bE src T F) :=
 bK (tM hp hc hi hg hb hs) fun D σ H h=>uE h
end
noncomputable def st0 (N:List Str) (ds:List D):Rho:=ds.map (fun d=>some (.shr d)) ++ List.replicate (N.length - ds.length) none
noncomputable def fin:R Out->R D
 | .val (.nx _)=>.val .non
 | .val (.rt d)=>.val d
 | .val _=>.bad
 | .exc c=>.exc c
 | .bad=>.bad
theorem vq {N:List Str} {ds:List D} {i:Nat} {sl:Slt} (h:(st0 N ds)[i]?=some (some sl)):∃ d,sl=.shr d/\ds[i]?=some d:=by
 unfold st0 at h
 by_cases hi:i < ds.length
 ·rw [List.getElem?_append_left (by simpa using hi),List.getElem?_map] at h
  cases e:ds[i]? with
  | none=>rw [e] at h;cases h
  | some d=>rw [e] at h;cases h;exact ⟨d,rfl,rfl⟩
 ·rw [List.getElem?_append_right (by simpa using hi),List.getElem?_replicate] at h
  split at h <;> cases h
theorem mE {K:PySem.W.Frag} {C:Addr} {H:Hp} {N:List Str} {vs:List V} {ds:List D} (h:HasL K C H vs ds):sO K C H (st0 N ds) (L2.start N vs) H:=by
 have sub:Same H (msk ⟨st0 N ds,fun _=>[]⟩ (L2.start N vs) H):=fun b o e=>msk_some.mpr ⟨fun ⟨_,z⟩=>(List.not_mem_nil z).elim,e⟩
 refine ⟨⟨st0 N ds,fun _=>[]⟩,rfl,?_,sub,fun i sl e=>?_,fun i j a z=>(List.not_mem_nil z).elim,fun i a z=>(List.not_mem_nil z).elim,fun i a z=>(List.not_mem_nil z).elim⟩
 ·show (st0 N ds).length=_
  unfold st0 L2.start
  simp [h.len]
 ·obtain ⟨d,rfl,e1⟩:=vq e
  obtain ⟨v,e2,h2⟩:=h.get e1
  refine ⟨v,?_,h2.mono sub⟩
  have hi:i < vs.length:=(List.getElem?_eq_some_iff.mp e2).1
  unfold L2.start
  rw [List.getElem?_append_left (by simpa using hi),List.getElem?_map,e2]
  rfl
section
variable {P:Program} {w:World} {K:PySem.W.Frag} {mg:Str->Option Value} {base:Heap} {C:Addr}
theorem bL {x qual:Str} {st:Stmt} {f:Addr} {fd:FuncData} {N ps:List Str} {k:Nat} {den:Rho->R Out} (F:Fun K x qual st f fd) (sc:aP N ps (ah st))
  (hb:∀ (cdv:Value) (A:Around) (outer:List Env) (s:Shared) (H:Hp) (E:XK),Room k (A.deeper (envOfC qual (ah st) s.heap.objs.size f cdv)) ->
   SDs C (cw CX0 P w K mg base N qual (ah st) f cdv A outer s H E).nox (ay st) den) :
  FnOk P w K mg base CX0 (k + 1) f fd ps (spD K C ps.length fun ds=>fin (den (st0 N ds))):=by
 refine F.ok sc (fun vs H Q E h=>h.1) (fun cdv A outer s H vs Q E hr h=>⟨_,hb cdv A outer s H E hr,?_⟩)
 obtain ⟨_,ds,h,q⟩:=h
 refine ⟨st0 N ds,H,mE h,?_⟩
 dsimp only at q
 cases e:den (st0 N ds) with
 | val o =>
  rw [e] at q
  cases o with
  | nx ρ'=>exact fun σ' H' ⟨_,_,r⟩=>q _ H' (r.keep.trans msk_sub) .non
  | rt d=>exact fun v H' s' h'=>q v H' s' h'
  | bk ρ'=>exact q.elim
  | ct ρ'=>exact q.elim
 | exc c=>rw [e] at q;exact q.elim
 | bad=>rw [e] at q;exact q.elim
end
end DL
namespace DL
open PySem PySem.Spec PyProof.Rows L2
noncomputable def zU (scope:Scope) (env:Env) (L:Addr) (cs:List (Str × Addr)):Env :=
 {scope:=relabel scope env,locals:=L,globals:=env.globals,cells:=cs,qual:=env.qual,func:=none,code:=env.code,frame:=env.frame,builtins:=env.builtins }
noncomputable def yA (o:Option NameKind):Bool:=match o with
 | some .cell=>true
 | _=>false
noncomputable def kc (o:Option NameKind):Bool:=match o with
 | some .cell=>true
 | some .free=>true
 | _=>false
noncomputable def cxC (X:Cx) (N':List Str) (scope:Scope) (L:Addr) (cs:List (Str × Addr)) (s:Shared) (H:Hp) (fp:List Addr):Cx :=
 {prog:=X.prog,w:=X.w,K:=X.K,mg:=X.mg,base:=X.base,A:=X.A,N:=N',s₀:=s,H₀:=H,env:=zU scope X.env L cs,outer:=X.stack,stack:=X.stack,ex:=fp,
  fn:=fun x=>yA (scope.names.lookup x),calm:=X.calm,pn:=[],xe:=fun _ _=>False }
noncomputable def u7 (N:List Str) (env:Env) (sc:Scope):List Str->Nat->Bool
 | [],_=>true
 | x :: r,i=>(match sc.names.lookup x with
   | some .free=>(match N[i]? with | some y=>y == x | none=>false) && kc (env.kindOf x)
   | some .local=>Nat.ble N.length i
   | some .cell=>Nat.ble N.length i
   | _=>true) && u7 N env sc r (i + 1)
noncomputable def fK (env:Env) (x:Str) (k:NameKind):Bool:=match k with
 | .free=>kc (env.kindOf x)
 | _=>true
noncomputable def wO (env:Env):List (Str × NameKind)->Bool
 | []=>true
 | p :: r=>fK env p.1 p.2 && wO env r
noncomputable def lK (k:NameKind) (o:Option NameKind):Bool:=match k,o with
 | .local,some .local=>true
 | .local,_=>false
 | .free,some .free=>true
 | .free,_=>false
 | .cell,some .cell=>true
 | .cell,_=>false
 | _,_=>true
noncomputable def wN (names:List (Str × NameKind)):List (Str × NameKind)->Bool
 | []=>true
 | p :: r=>lK p.2 (names.lookup p.1) && wN names r
theorem zH {k:NameKind} {o:Option NameKind} (h:lK k o=true) (hk:k=.local\/k=.free\/k=.cell):o=some k:=by
 rcases hk with rfl | rfl | rfl
 ·cases o with
  | none=>cases h
  | some j=>cases j <;> first | rfl | cases h
 ·cases o with
  | none=>cases h
  | some j=>cases j <;> first | rfl | cases h
 ·cases o with
  | none=>cases h
  | some j=>cases j <;> first | rfl | cases h
noncomputable def qs (N N':List Str) (env:Env) (sc:Scope):Bool:=u7 N env sc N' 0 && (wO env sc.names && (wN sc.names sc.names && (Nat.ble N.length N'.length && (match sc.kind with | .function=>true | _=>false))))
theorem nw {o:Option NameKind} (h:kc o=true):o=some .cell\/o=some .free:=by
 unfold kc at h
 split at h <;> simp_all
theorem rO {N:List Str} {env:Env} {sc:Scope}:∀ {l:List Str} {k i:Nat} {x:Str},u7 N env sc l k=true->l[i]?=some x ->
  (sc.names.lookup x=some .free->N[k + i]?=some x/\kc (env.kindOf x)=true)/\((sc.names.lookup x=some .local\/sc.names.lookup x=some .cell)->N.length<=k + i)
 | [],_,_,_,_,e=>by simp at e
 | y :: r,k,0,x,h,e=>by
  simp at e;subst e
  rw [u7,Bool.and_eq_true] at h
  obtain ⟨h,_⟩:=h
  refine ⟨fun z=>?_,fun z=>?_⟩
  ·rw [z] at h
   simp only [Bool.and_eq_true] at h
   obtain ⟨h1,h2⟩:=h
   refine ⟨?_,h2⟩
   split at h1
   ·rename_i w e1
    rw [Nat.add_zero,e1,beq_iff_eq.mp h1]
   ·cases h1
  ·rcases z with z | z <;> (rw [z] at h;exact Nat.le_of_ble_eq_true h)
 | y :: r,k,i + 1,x,h,e=>by
  rw [u7,Bool.and_eq_true] at h
  have q:=rO (k:=k + 1) (i:=i) (x:=x) h.2 (by simpa using e)
  rw [show k + (i + 1)=k + 1 + i by omega]
  exact q
theorem n9 {env:Env}:∀ {l:List (Str × NameKind)} {x:Str},wO env l=true->(x,NameKind.free) ∈ l->kc (env.kindOf x)=true
 | [],_,_,h=>by cases h
 | p :: r,x,h,m=>by
  have h:fK env p.1 p.2=true/\wO env r=true:=Bool.and_eq_true_iff.mp h
  rcases List.mem_cons.mp m with e | m
  ·subst e;exact h.1
  ·exact n9 h.2 m
theorem kC {names:List (Str × NameKind)}:∀ {l:List (Str × NameKind)} {x:Str} {k:NameKind},wN names l=true->(x,k) ∈ l->(k=.local\/k=.free\/k=.cell)->names.lookup x=some k
 | [],_,_,_,h,_=>by cases h
 | p :: r,x,k,h,m,hk=>by
  have h:lK p.2 (names.lookup p.1)=true/\wN names r=true:=Bool.and_eq_true_iff.mp h
  rcases List.mem_cons.mp m with e | m
  ·subst e;exact zH h.1 hk
  ·exact kC h.2 m hk
noncomputable def cSt (x:Str) (k:NameKind) (o:Option Addr) (acc:List (Str × Addr)):List (Str × Addr):=match k,o with
 | .free,some c=>(x,c) :: acc
 | _,_=>acc
noncomputable def dJ (env:Env):List (Str × NameKind)->List (Str × Addr)->List (Str × Addr)
 | [],acc=>acc
 | p :: r,acc=>dJ env r (cSt p.1 p.2 (env.cells.lookup p.1) acc)
theorem og {x:Str} {k:NameKind} {o:Option Addr} {acc:List (Str × Addr)} (h:k ≠ .free):cSt x k o acc=acc:=by
 cases k with
 | free=>exact absurd rfl h
 | _=>rfl
theorem lJ {x:Str} {k:NameKind} {acc:List (Str × Addr)}:cSt x k none acc=acc:=by cases k <;> rfl
theorem rM {env:Env} {scope:Scope} (h:∀ x,(x,NameKind.free) ∈ scope.names->∃ c,env.cells.lookup x=some c):closureFor scope env=pure (dJ env scope.names []):=by
 unfold closureFor
 have gen:∀ (l:List (Str × NameKind)) (acc:List (Str × Addr)) (f:Str × NameKind->List (Str × Addr)->Sem (ForInStep (List (Str × Addr)))),(∀ x,(x,NameKind.free) ∈ l->∃ c,env.cells.lookup x=some c) ->
   (∀ n k cs,f (n,k) cs=if (k == NameKind.free)=true then (do let a <- cellOf env n;pure (ForInStep.yield ((n,a) :: cs))) else pure (ForInStep.yield cs))->forIn l acc f=pure (dJ env l acc):=by
  intro l
  induction l with
  | nil=>intro acc f _ _;rfl
  | cons y r ih =>
   intro acc f hc hf
   obtain ⟨n,k⟩:=y
   rw [List.forIn_cons,hf]
   have ih':=fun acc=>ih acc f (fun x hx=>hc x (List.mem_cons_of_mem _ hx)) hf
   by_cases hk:k=.free
   ·subst hk
    obtain ⟨c,e⟩:=hc n List.mem_cons_self
    rw [if_pos (by rfl)]
    unfold cellOf
    rw [e]
    simp only [pure_bind]
    rw [ih']
    show pure (dJ env r ((n,c) :: acc))=pure (dJ env r (cSt n .free (env.cells.lookup n) acc))
    rw [e];rfl
   ·have hb:(k == NameKind.free)=false:=by simpa using hk
    rw [hb,if_neg Bool.false_ne_true,pure_bind]
    show forIn r acc f=_
    rw [ih']
    show _=pure (dJ env r (cSt n k (env.cells.lookup n) acc))
    rw [og hk]
 dsimp only
 rw [gen scope.names [] _ h]
 ·rfl
 ·intro n k cs
  cases hb:k == NameKind.free <;> simp [hb]
theorem lI {env:Env}:∀ {l:List (Str × NameKind)} {acc:List (Str × Addr)} {x:Str} {c:Addr},(dJ env l acc).lookup x=some c->(∀ c',acc.lookup x=some c'->env.cells.lookup x=some c')->env.cells.lookup x=some c
 | [],acc,x,c,e,h=>h c e
 | (y,k) :: r,acc,x,c,e,h=>by
  have e:(dJ env r (cSt y k (env.cells.lookup y) acc)).lookup x=some c:=e
  refine lI e fun c' e'=>?_
  by_cases hk:k=.free
  ·subst hk
   cases e0:env.cells.lookup y with
   | none=>rw [e0,lJ] at e';exact h c' e'
   | some c0 =>
    rw [e0] at e'
    have e':((y,c0) :: acc).lookup x=some c':=e'
    rw [List.lookup_cons] at e'
    cases hb:x == y with
    | true=>rw [hb] at e';cases e';rw [beq_iff_eq.mp hb];exact e0
    | false=>rw [hb] at e';exact h c' e'
  ·rw [og hk] at e';exact h c' e'
theorem jy {env:Env} {x:Str} {c:Addr} (hc:env.cells.lookup x=some c):∀ {l:List (Str × NameKind)} {acc:List (Str × Addr)},((x,NameKind.free) ∈ l\/acc.lookup x=some c)->(dJ env l acc).lookup x=some c
 | [],acc,h=>h.elim (fun z=>by cases z) id
 | (y,k) :: r,acc,h=>by
  show (dJ env r (cSt y k (env.cells.lookup y) acc)).lookup x=some c
  refine jy hc ?_
  rcases h with h | h
  ·rcases List.mem_cons.mp h with e | h
   ·cases e
    right
    rw [hc]
    show ((x,c) :: acc).lookup x=some c
    rw [List.lookup_cons,beq_self_eq_true]
   ·exact .inl h
  ·right
   by_cases hk:k=.free
   ·subst hk
    cases e0:env.cells.lookup y with
    | none=>rw [lJ];exact h
    | some c0 =>
     show ((y,c0) :: acc).lookup x=some c
     rw [List.lookup_cons]
     cases hb:x == y with
     | true=>rw [<- beq_iff_eq.mp hb,hc] at e0;exact e0.symm
     | false=>exact h
   ·rw [og hk];exact h
theorem kD:∀ {names:List (Str × NameKind)} {n:Nat} {acc:List (Str × Addr)} {x:Str} {c:Addr},(cellsFrom n names acc).lookup x=some c->acc.lookup x=some c\/(n<=c/\(x,NameKind.cell) ∈ names)
 | [],_,_,_,_,e=>.inl e
 | (y,k) :: r,n,acc,x,c,e=>by
  unfold cellsFrom at e
  split at e
  ·rename_i hk
   rcases kD e with q | ⟨q,m⟩
   ·rw [List.lookup_cons] at q
    cases hb:x == y with
    | true=>rw [hb] at q;cases q;rw [beq_iff_eq.mp hb,beq_iff_eq.mp hk];exact .inr ⟨Nat.le_refl _,List.mem_cons_self⟩
    | false=>rw [hb] at q;exact .inl q
   ·exact .inr ⟨Nat.le_of_succ_le q,List.mem_cons_of_mem _ m⟩
  ·rcases kD e with q | ⟨q,m⟩
   ·exact .inl q
   ·exact .inr ⟨q,List.mem_cons_of_mem _ m⟩
theorem n_:∀ {names:List (Str × NameKind)} {n:Nat} {acc:List (Str × Addr)} {x:Str},(x,NameKind.cell) ∉ names->(cellsFrom n names acc).lookup x=acc.lookup x
 | [],_,_,_,_=>rfl
 | (y,k) :: r,n,acc,x,h=>by
  unfold cellsFrom
  split
  ·rename_i hk
   rw [n_ fun m=>h (List.mem_cons_of_mem _ m),List.lookup_cons]
   cases hb:x == y with
   | true=>exact absurd (by rw [beq_iff_eq.mp hb,beq_iff_eq.mp hk];exact List.mem_cons_self) h
   | false=>rfl
  ·exact n_ fun m=>h (List.mem_cons_of_mem _ m)
theorem vl {M:Model} {A:Around} {E:Value->Shared->Prop} {s:Shared} {scope:Scope} {cl:List (Str × Addr)} {env:Env} {Q:Env->Shared->Prop}
  (h:Q { scope:=scope,locals:=s.heap.objs.size,globals:=env.globals,cells:=cellsFrom (s.heap.objs.size + 1) scope.names cl,qual:=env.qual,func:=none,code:=env.code,frame:=env.frame,builtins:=env.builtins }
   {s with heap:=pushCells (s.heap.push { cls:=.type "dict",data:=.dict #[] }) scope.names }):wpAny M A (newFunctionEnv scope env.globals cl [] env.qual none .none (some env)) Q E s:=by
 simp only [newFunctionEnv,Option.isSome_some,if_true]
 refine wpAny_bind (wpAny_alloc ?_)
 refine wpAny_bind (wpAny_layCells _ (fun name kind cells=>by cases hkc:kind == NameKind.cell <;> simp [hkc]) _ _ _ _ ?_)
 rw [show ({ s with heap:=s.heap.push { cls:=.type "dict",data:=.dict #[] } }:Shared).heap.objs.size=s.heap.objs.size + 1 from Heap.size_push ..]
 exact wpAny_pure h
end DL
namespace DL
open PySem PySem.Spec PyProof.Rows L2
structure wU (ix:List Nat) (T:D->Rho->Option Rho):Prop where
 len:∀ x ρ ρ',T x ρ=some ρ'->ρ'.length=ρ.length
 out:∀ x ρ ρ',T x ρ=some ρ'->∀ j:Nat,j ∉ ix->ρ'[j]?=ρ[j]?
 shr:∀ x ρ ρ',T x ρ=some ρ'->∀ (j:Nat) sl,j ∈ ix->ρ'[j]?=some (some sl)->uz sl=false
theorem dL {i:Nat}:wU [i] (tgN i) where
 len:=fun x ρ ρ' e=>by cases e;simp
 out:=fun x ρ ρ' e j hj=>by cases e;exact List.getElem?_set_ne fun z=>hj (by simp [z])
 shr:=fun x ρ ρ' e j sl hj h=>by
  cases e
  have:j=i:=by simpa using hj
  subst this
  rw [List.getElem?_set] at h
  simp only [if_true] at h
  split at h <;> cases h
  rfl
theorem qG {ρ:Rho} {i j:Nat} {d:D} {sl:Slt} (h:(ρ.set i (some (.shr d)))[j]?=some (some sl)) (hn:i ≠ j->uz sl=false):uz sl=false:=by
 by_cases hj:i=j
 ·subst hj
  rw [List.getElem?_set] at h
  simp only [if_true] at h
  split at h <;> cases h
  rfl
 ·exact hn hj
theorem xp {i j:Nat}:wU [i,j] (tg2 i j) where
 len:=fun x ρ ρ' e=>by
  unfold tg2 at e;split at e
  ·cases e;simp
  ·cases e
 out:=fun x ρ ρ' e k hk=>by
  unfold tg2 at e;split at e
  ·cases e
   rw [List.getElem?_set_ne fun z=>hk (by simp [z]),List.getElem?_set_ne fun z=>hk (by simp [z])]
  ·cases e
 shr:=fun x ρ ρ' e k sl hk h=>by
  unfold tg2 at e;split at e
  ·cases e
   refine qG h fun hj=>?_
   rw [List.getElem?_set_ne hj] at h
   refine qG h fun hi=>?_
   simp at hk
   rcases hk with rfl | rfl
   ·exact absurd rfl hi
   ·exact absurd rfl hj
  ·cases e
noncomputable def noE {α:Type}:R α->R α
 | .val a=>.val a
 | _=>.bad
noncomputable def hC (T:D->Rho->Option Rho) (t:Rho->R Bool) (e:Rho->R D):List D->Rho->R (List D)
 | [],_=>.val []
 | x :: xs,ρ=>match T x ρ with
  | some ρ1=>(noE (t ρ1)).bind fun b=>if b=true then (noE (e ρ1)).bind fun d=>(hC T t e xs ρ).bind fun ds=>.val (d :: ds) else hC T t e xs ρ
  | none=>.bad
variable {C:Addr} {X:Cx}
variable (C X) in
noncomputable def pH (ifs:List Expr) (t:Rho->R Bool):Prop:=∀ (pins:List (Addr × Obj)) (s:Shared) (σ:St) (H:Hp) (Q:Bool->Hp->Prop),Inv X pins σ H s->ttD C X t σ H Q ->
 wpAny (model X.prog X.w) X.A (forIn ifs true fun c r=>if r=true then do let ok <- isTrue c X.env (eval c X.env);pure (ForInStep.yield ok) else pure (ForInStep.yield r)) (TP X pins σ Q) X.xe s
noncomputable def tT:Rho->R Bool:=fun _=>.val true
theorem dR:pH C X [] tT:=fun pins s σ H Q I zz0=>by
 obtain ⟨ρ,r,q⟩:=zz0
 rw [List.forIn_nil]
 exact wpAny_pure ⟨H,I,q H (Same.refl _)⟩
theorem kx {c:Expr} {t:Rho->R Bool} (h:TD C X c t):pH C X [c] t:=fun pins s σ H Q I q=>by
 rw [List.forIn_cons,if_pos rfl]
 refine wpAny_bind (wpAny_bind (thn (h pins s σ H Q I q) fun b s1 z=>wpAny_pure ?_))
 show wpAny _ _ (forIn [] b _) _ _ s1
 rw [List.forIn_nil]
 exact wpAny_pure z
noncomputable def RB.ext (ρ:RB) (m:Nat):RB:=⟨ρ.rho ++ List.replicate m none,ρ.ad⟩
theorem ub {ρ β:RB} {σ σ':St} (h:∀ j,β.ad j=ρ.ad j):msk β σ'=msk ρ σ:=by
 have e:β.ad=ρ.ad:=funext h
 funext G b
 unfold msk Own
 rw [e]
theorem vF {K:PySem.W.Frag} {H0 H:Hp} {ρ:RB} {σ σ':St} {m:Nat} (r:Rel K C H0 ρ σ H) (hl:σ'.length=ρ.rho.length + m) (hp:∀ j:Nat,j < ρ.rho.length->σ'[j]?=σ[j]?) :
  Rel K C H0 (ρ.ext m) σ' H/\msk (ρ.ext m) σ'=msk ρ σ:=by
 have at':∀ (i:Nat) sl,(ρ.rho ++ List.replicate m none)[i]?=some (some sl)->ρ.rho[i]?=some (some sl)/\i < ρ.rho.length:=fun i sl e=>by
  by_cases hi:i < ρ.rho.length
  ·rw [List.getElem?_append_left hi] at e;exact ⟨e,hi⟩
  ·rw [List.getElem?_append_right (by omega),List.getElem?_replicate] at e
   split at e <;> cases e
 have em:msk (ρ.ext m) σ'=msk ρ σ:=ub fun _=>rfl
 refine ⟨⟨?_,by rw [em];exact r.keep,fun i sl e=>?_,r.inj,r.kin,fun i a z=>?_⟩,em⟩
 ·show (ρ.rho ++ List.replicate m none).length=_
  simp [hl]
 ·obtain ⟨e1,hi⟩:=at' i sl e
  rw [em,hp i hi];exact r.at_ i sl e1
 ·show i < (ρ.rho ++ List.replicate m none).length
  rw [List.length_append];exact Nat.lt_of_lt_of_le (r.bnd i a z) (Nat.le_add_right _ _)
theorem yi {ρ β:RB} {σ σ1:St} {ix:List Nat} (h:∀ j:Nat,β.ad j=if j ∈ ix then [] else ρ.ad j) (hix:∀ j ∈ ix,ρ.ad j=[]):msk β σ1=msk ρ σ:=ub fun j=>by
 rw [h j]
 split
 ·exact (hix j ‹_›).symm
 ·rfl
end DL
namespace DL
open PySem PySem.Spec PyProof.Rows L2
theorem n8 {prog:Program} {w:World} {A:Around} {R:Result->Shared->Prop} {s:Shared} {elt target iter:Expr} {ifs:List Expr} {scope:Scope} {pos:Pos} {it acc:Value} {env:Env} (I:Nat->Shared->Prop)
  (jg:∀ n s,I n s->wpAny (model prog w) A (pyNext it) (fun r s₁=>match r with
   | none=>R (.ok .next) s₁
   | some v=>wpAny (model prog w) A (letOwnedTupleGo target it v) (fun _ s₀=>wpAny (model prog w) A (assign target env v) (fun _ s₂ =>
     wpAny (model prog w) A (forIn ifs true fun c r=>if r=true then do let ok <- isTrue c env (eval c env);pure (ForInStep.yield ok) else pure (ForInStep.yield r)) (fun ok s₃ =>
      if ok=true then wpAny (model prog w) A (eval elt env) (fun x s₄ =>
       wpAny (model prog w) A (call (.builtin "list.append") [acc,x]) (fun _ s₅=>∃ m,m < n/\I m s₅) (fun _ _=>False) s₄) (fun _ _=>False) s₃
      else ∃ m,m < n/\I m s₃) (fun _ _=>False) s₂) (fun _ _=>False) s₀) (fun _ _=>False) s₁) (fun _ _=>False) s)
  (n:Nat) (h:I n s):codeAny (model prog w) A (.compLoop (.ListComp elt [⟨target,iter,ifs,0⟩] scope pos) 0 it acc env) R s:=by
 refine codeAny_loop rfl I (fun n s hI=>?_) n h
 show wpAny _ A ((compTurn (.ListComp elt [⟨target,iter,ifs,0⟩] scope pos) 0 it acc env).onRaise (fun x=>do noteFrame x env;theTreesLotGoes x)) _ _ s
 refine wpAny_noted ?_
 rw [compTurn_list]
 refine wpAny_bind (wpAny_standAt (wpAny_bind (wpAny_mono (jg n s hI) (fun r s₁ h₁=>?_) fun _ _ h'=>h'.elim)))
 cases r with
 | none=>exact wpAny_pure h₁
 | some v =>
  refine wpAny_bind (wpAny_mono h₁ (fun _ s₀ h₀=>?_) fun _ _ h'=>h'.elim)
  refine wpAny_bind (wpAny_mono h₀ (fun _ s₂ h₂=>wpAny_bind (wpAny_mono h₂ (fun ok s₃ h₃=>?_) fun _ _ h'=>h'.elim)) fun _ _ h'=>h'.elim)
  cases ok with
  | false=>exact wpAny_pure ⟨rfl,h₃⟩
  | true =>
   exact wpAny_bind (wpAny_bind (wpAny_mono h₃ (fun x s₄ h₄=>wpAny_bind (wpAny_mono h₄ (fun _ s₅ h₅=>wpAny_pure (wpAny_pure ⟨rfl,h₅⟩)) fun _ _ h'=>h'.elim)) fun _ _ h'=>h'.elim))
theorem qt:∀ {names:List (Str × NameKind)} {n:Nat} {acc:List (Str × Addr)},(∀ x y c,acc.lookup x=some c->acc.lookup y=some c->x=y)->(∀ x c,acc.lookup x=some c->c < n) ->
  ∀ x y c,(cellsFrom n names acc).lookup x=some c->(cellsFrom n names acc).lookup y=some c->x=y
 | [],_,_,h,_=>h
 | (z,k) :: r,n,acc,h,hb=>by
  unfold cellsFrom
  split
  ·refine qt (fun x y c e1 e2=>?_) (fun x c e=>?_)
   ·rw [List.lookup_cons] at e1 e2
    cases b1:x == z with
    | true =>
     rw [b1] at e1;cases e1
     cases b2:y == z with
     | true=>rw [beq_iff_eq.mp b1,beq_iff_eq.mp b2]
     | false=>rw [b2] at e2;exact absurd (hb y _ e2) (Nat.lt_irrefl _)
    | false =>
     rw [b1] at e1
     cases b2:y == z with
     | true=>rw [b2] at e2;cases e2;exact absurd (hb x _ e1) (Nat.lt_irrefl _)
     | false=>rw [b2] at e2;exact h x y c e1 e2
   ·rw [List.lookup_cons] at e
    cases b1:x == z with
    | true=>rw [b1] at e;cases e;exact Nat.lt_succ_self _
    | false=>rw [b1] at e;exact Nat.lt_succ_of_lt (hb x c e)
  ·exact qt h hb
theorem oa:∀ {names:List (Str × NameKind)} {h:Heap} {acc:List (Str × Addr)} {x:Str} {c:Addr},(cellsFrom h.objs.size names acc).lookup x=some c->acc.lookup x=some c\/(pushCells h names).IsCell c none
 | [],_,_,_,_,e=>.inl e
 | (y,k) :: r,h,acc,x,c,e=>by
  unfold cellsFrom at e
  unfold pushCells
  split at e
  ·rename_i hk
   rw [if_pos hk]
   have e':(cellsFrom (h.push { cls:=.type "cell",data:=.cell none }).objs.size r ((y,h.objs.size) :: acc)).lookup x=some c:=by rw [Heap.size_push];exact e
   rcases oa e' with q | q
   ·rw [List.lookup_cons] at q
    cases b1:x == y with
    | true =>
     rw [b1] at q;cases q
     exact .inr ⟨_,pushCells_keeps r _ _ _ (Heap.get?_push_size _ rfl),rfl⟩
    | false=>rw [b1] at q;exact .inl q
   ·exact .inr q
  ·rename_i hk
   rw [if_neg hk]
   exact oa e
theorem mO {env:Env}:∀ {l:List (Str × NameKind)} {acc:List (Str × Addr)} {x:Str} {c:Addr},(dJ env l acc).lookup x=some c->acc.lookup x=some c\/(x,NameKind.free) ∈ l
 | [],acc,x,c,e=>.inl e
 | (y,k) :: r,acc,x,c,e=>by
  have e:(dJ env r (cSt y k (env.cells.lookup y) acc)).lookup x=some c:=e
  rcases mO e with q | q
  ·by_cases hk:k=.free
   ·subst hk
    cases e0:env.cells.lookup y with
    | none=>rw [e0,lJ] at q;exact .inl q
    | some c0 =>
     rw [e0] at q
     have q:((y,c0) :: acc).lookup x=some c:=q
     rw [List.lookup_cons] at q
     cases hb:x == y with
     | true=>rw [beq_iff_eq.mp hb];exact .inr List.mem_cons_self
     | false=>rw [hb] at q;exact .inl q
   ·rw [og hk] at q;exact .inl q
  ·exact .inr (List.mem_cons_of_mem _ q)
noncomputable def reK (env:Env) (n:Str) (k:NameKind):NameKind:=if (k == .free && env.scope.kind == .function && env.kindOf n == some .cell)=true then .cell else k
theorem qL {env:Env}:∀ {names:List (Str × NameKind)} {x:Str},
  (names.map fun (p:Str × NameKind)=>if (p.2 == .free && env.scope.kind == .function && env.kindOf p.1 == some .cell)=true then (p.1,NameKind.cell) else (p.1,p.2)).lookup x=(names.lookup x).map (reK env x)
 | [],_=>rfl
 | (n,k) :: r,x=>by
  have ih:=qL (env:=env) (names:=r) (x:=x)
  rw [List.map_cons]
  have e:(if (k == .free && env.scope.kind == .function && env.kindOf n == some .cell)=true then (n,NameKind.cell) else (n,k))=(n,reK env n k):=by
   unfold reK;split <;> rfl
  show List.lookup x ((if (k == .free && env.scope.kind == .function && env.kindOf n == some .cell)=true then (n,NameKind.cell) else (n,k)) :: _)=_
  rw [e,List.lookup_cons,List.lookup_cons]
  cases hb:x == n with
  | true=>rw [beq_iff_eq.mp hb];rfl
  | false=>exact ih
theorem gi {scope:Scope} {env:Env} {x:Str}:(relabel scope env).names.lookup x=(scope.names.lookup x).map (reK env x):=qL
theorem jk {env:Env} {x:Str} {k:NameKind}:(k=.free/\(reK env x k=.free\/reK env x k=.cell))\/(k ≠ .free/\reK env x k=k):=by
 unfold reK
 by_cases hk:k=.free
 ·subst hk;left;refine ⟨rfl,?_⟩;split <;> simp
 ·right;refine ⟨hk,?_⟩
  have:(k == NameKind.free)=false:=by simpa using hk
  rw [this];rfl
end DL
namespace DL
open PySem PySem.Spec PyProof.Rows L2
theorem wL {H:Hp}:cut [] H=H:=by
 funext b
 unfold cut
 rw [if_neg List.not_mem_nil]
theorem iS {ρ:RB} {σ:St} {zs:List Addr} {H:Hp}:msk ρ σ (cut zs H)=cut zs (msk ρ σ H):=by
 funext b
 unfold msk cut
 by_cases h:Own ρ σ b <;> by_cases h':b ∈ zs <;> simp [h,h']
theorem n0 {zs:List Addr} {H:Hp}:Same (cut zs H) H:=fun b o e=>(cut_some.mp e).2
theorem dH {H H':Hp} {b:Addr} (s:Same H H') (h:H' b=none):H b=none:=by
 cases e:H b with
 | none=>rfl
 | some o=>rw [s b o e] at h;cases h
section
variable {C:Addr} {X:Cx}
noncomputable def pK (C:Addr) (X:Cx) (k:OK) (ρ:RB) (r:R D) (σ:St) (H:Hp) (Q:VK):Prop:=match r with
 | .val d=>∀ v H' A,Same H H'->(∀ a ∈ A,H a=none)->Tre X.K C (cut A (msk ρ σ H')) H' k v d A->Q v H'
 | .exc c=>XE X c σ H
 | .bad=>False
variable (C X) in
noncomputable def teK (k:OK) (F:Rho->R D):TE:=fun σ H Q=>∃ ρ:RB,(∃ H0,dC C X H0 ρ σ H)/\pK C X k ρ (F ρ) σ H Q
variable (C X) in
noncomputable def KD (k:OK) (e:Expr) (F:Rho->R D):Prop:=PE X e (teK C X k F)
theorem uv {e:Expr} {F:Rho->R D} (h:ED C X e F):KD C X .s e F:=aR h fun σ H Q ⟨ρ,r,q⟩=>⟨ρ,r,by
 cases z:F ρ with
 | val d=>rw [z] at q;exact fun v H' s h=>q v H' [] s (fun a ha=>by cases ha) (.s (by rw [wL];exact h))
 | exc c=>rw [z] at q;exact q
 | bad=>rw [z] at q;exact q⟩
theorem uu {e:Expr} {F:Rho->R (List D)} (h:FD C X e F):KD C X (.l .s) e (eLs F):=aR h fun σ H Q ⟨ρ,⟨H0,r⟩,q⟩=>⟨ρ,⟨H0,r⟩,by
 unfold eLs at q
 cases z:F ρ with
 | val xs =>
  rw [z] at q
  intro a vs H1 s1 hn h1
  refine q _ _ [a] (s1.trans (aO hn)) (fun b hb=>by cases List.mem_singleton.mp hb;exact dH s1 hn) (.l aU (TreP.of (h1.mono fun b o e=>cut_some.mpr ⟨fun hb=>?_,aX (aO hn) b o e⟩)) List.not_mem_nil)
  cases List.mem_singleton.mp hb
  rw [(msk_some.mp e).2] at hn;cases hn
 | exc c=>rw [z] at q;exact q
 | bad=>rw [z] at q;exact q⟩
theorem Tre.free {H0 H H':Hp} {ρ:RB} {σ:St} {k:OK} {v:V} {d:D} {A:List Addr} (r:dC C X H0 ρ σ H) (s:Same H H') (hA:∀ a ∈ A,H a=none) (h:Tre X.K C (cut A (msk ρ σ H')) H' k v d A):eD C X ρ σ H' v d :=
 h.share n0 (fun a ha o e=>msk_some.mpr ⟨fun z=>r.ownAt z (hA a ha),e⟩) fun a vs e=>msk_some.mpr ⟨fun z=>(r.mono s).tups e z,e⟩
theorem zV {k:OK} {e:Expr} {F:Rho->R D} (h:KD C X k e F):ED C X e F:=aR h fun σ H Q ⟨ρ,⟨H0,r⟩,q⟩=>⟨ρ,⟨H0,r⟩,by
 cases z:F ρ with
 | val d=>rw [z] at q;exact fun v H' A s hA h=>q v H' s (h.free r s hA)
 | exc c=>rw [z] at q;exact q
 | bad=>rw [z] at q;exact q⟩
noncomputable def trS (i:Nat) (k:OK) (e:Rho->R D):Rho->R Out:=fun ρ=>(e ρ).bind fun d=>.val (.nx (ρ.set i (some (.tre k d))))
theorem Rel.setTre {K:PySem.W.Frag} {H0 H H':Hp} {ρ:RB} {σ:St} (r:Rel K C H0 ρ σ H) {i:Nat} {k:OK} {v:V} {d:D} {A:List Addr} (s:Same H H') (hA:∀ a ∈ A,H a=none) (h:Tre K C (cut A (msk ρ σ H')) H' k v d A) :
  Rel K C H0 (ρ.put i (.tre k d) A) (σ.set i (some v)) H':=by
 refine r.put ki (fun j hj=>List.getElem?_set_ne fun z=>hj z.symm) (fun a ha=>.inr (hA a ha)) (fun j _=>.of s) (fun b o e=>s b o (msk_some.mp e).2) (fun a ha=>.inl (h.lists a ha)) fun hi _=>⟨v,A,mY (by rw [<- r.len];exact hi),fun a ha=>ha,h.stay (fun b o e=>?_) (.of (Same.refl _))⟩
 obtain ⟨h1,h2⟩:=cut_some.mp e
 obtain ⟨h3,h4⟩:=msk_some.mp h2
 refine msk_some.mpr ⟨fun ⟨j,z⟩=>?_,h4⟩
 rcases eQ z with ⟨_,_,z⟩ | ⟨_,z⟩
 ·exact h1 z
 ·exact h3 ⟨j,z⟩
theorem kI {i : Nat} {k : OK} {x : Str} {e : Expr} {pos pos' : Pos} {F : Rho -> R D} (hN : X.N.Nodup) (hi : X.N[i]? = some x) (hx : Loc X.env.scope x) (he : KD C X k e F) (hs : swapsWith e (some (.Name x pos')) pos.line X.env = pure false := by rfl)
    (hf : X.fn x = true \/ X.env.scope.names.lookup x = some .local := by first | exact .inl rfl | exact .inr rfl | assumption) : SD C X (.Assign [.Name x pos'] e pos) (trS i k F) :=
  bK (kO hN hi hx he hs hf) fun D σ H yy => by
   obtain ⟨_, H0, ⟨ρ, rfl, r⟩, q⟩ := yy
   exact ⟨ρ, ⟨H0, r⟩, by
    unfold trS at q
    cases z : F ρ with
    | val d => rw [z] at q; exact fun v H' A s hA h => q _ _ ⟨_, rfl, r.setTre s hA h⟩
    | exc c => rw [z] at q; exact dF r q
    | bad => rw [z] at q; exact q⟩
end
end DL
namespace DL
open PySem PySem.Spec PyProof.Rows L2
variable {C:Addr} {X:Cx}
theorem wK {a:Addr} {H:Hp} {o:HO} (h:H a=none):cut [a] (upd H a o)=H:=by
 funext b
 unfold cut
 by_cases hb:b=a
 ·rw [if_pos (by simp [hb]),hb,h]
 ·rw [if_neg (by simp [hb]),aE hb]
theorem vn {a:Addr} {H:Hp} {o:HO} (h:H a=some o):upd (cut [a] H) a o=H:=by
 funext b
 by_cases hb:b=a
 ·rw [hb,aU,h]
 ·rw [aE hb];unfold cut;rw [if_neg (by simp [hb])]
theorem qp {N':List Str} {scope:Scope} {n:Nat} (hchk:qs X.N N' X.env scope=true) (hN:N'.length=X.N.length + n)
  {pins:List (Addr × Obj)} {σ:St} {H3:Hp} {s3:Shared} {fp:List Addr} (I3:Inv X pins σ H3 s3) (hfp:∀ b ∈ fp,b < s3.heap.objs.size) (f3:∀ b ∈ fp,mt X pins H3 b) :
  Inv (cxC X N' scope s3.heap.objs.size (cellsFrom (s3.heap.objs.size + 1) scope.names (dJ X.env scope.names [])) s3 H3 fp) [] (σ ++ List.replicate n none) H3
   {s3 with heap:=pushCells (s3.heap.push { cls:=.type "dict",data:=.dict #[] }) scope.names }:=by
 obtain ⟨c1,hchk⟩:=Bool.and_eq_true_iff.mp hchk
 obtain ⟨c2,hchk⟩:=Bool.and_eq_true_iff.mp hchk
 obtain ⟨c3,hchk⟩:=Bool.and_eq_true_iff.mp hchk
 obtain ⟨c4,c5⟩:=Bool.and_eq_true_iff.mp hchk
 have hkind:scope.kind=.function:=by
  revert c5
  cases scope.kind <;> simp
 have keep:∀ b o,s3.heap.get? b=some o->(pushCells (s3.heap.push { cls:=.type "dict",data:=.dict #[] }) scope.names).get? b=some o:=fun b o e=>pushCells_keeps _ _ b o (Heap.get?_push_of_some _ e)
 have I4:Inv X pins σ H3 { s3 with heap:=pushCells (s3.heap.push { cls:=.type "dict",data:=.dict #[] }) scope.names }:=I3.kept (t':=s3.toks) keep
 have sz:(s3.heap.push { cls:=.type "dict",data:=.dict #[] }).objs.size=s3.heap.objs.size + 1:=Heap.size_push ..
 have fr:∀ x,(x,NameKind.free) ∈ scope.names->∃ c,X.env.cells.lookup x=some c:=fun x hx=>I3.ok.has x (nw (n9 c2 hx))
 have cl_old:∀ x c,(dJ X.env scope.names []).lookup x=some c->X.env.cells.lookup x=some c:=fun x c e=>lI e fun c' e'=>by cases e'
 have cl_lt:∀ x c,(dJ X.env scope.names []).lookup x=some c->c < s3.heap.objs.size:=fun x c e=>by
  obtain ⟨v,q⟩:=I3.cell x c (cl_old x c e)
  exact q.lt
 have look:∀ x c,(cellsFrom (s3.heap.objs.size + 1) scope.names (dJ X.env scope.names [])).lookup x=some c ->
   X.env.cells.lookup x=some c\/(s3.heap.objs.size + 1<=c/\(x,NameKind.cell) ∈ scope.names/\(pushCells (s3.heap.push { cls:=.type "dict",data:=.dict #[] }) scope.names).IsCell c none):=fun x c e=>by
  rcases kD e with q | ⟨q,m⟩
  ·exact .inl (cl_old x c q)
  ·rcases oa (h:=s3.heap.push { cls:=.type "dict",data:=.dict #[] }) (by rw [sz];exact e) with z | z
   ·exact absurd (Nat.lt_of_lt_of_le (cl_lt x c z) (Nat.le_of_succ_le q)) (Nat.lt_irrefl _)
   ·exact .inr ⟨q,m,z⟩
 have ok:(cxC X N' scope s3.heap.objs.size (cellsFrom (s3.heap.objs.size + 1) scope.names (dJ X.env scope.names [])) s3 H3 fp).Ok:=by
  refine ⟨I3.ok.mod,hkind,I3.ok.glob,I3.ok.blt,Nat.le_refl _,fun x y c e1 e2=>?_,fun x hx=>?_,fun x c hf e=>?_,I3.ok.hd,I3.ok.frames,.inl rfl,fun b hb=>⟨?_,fun x c e=>?_⟩,I3.bs,Nat.le_trans I3.ok.bsz I3.sz,fun b o e hb=>?_,fun b hb hz=>?_,I3.stack,I3.stkFree⟩
  ·exact qt (fun x y c e1 e2=>I3.ok.inj x y c (cl_old x c e1) (cl_old y c e2)) (fun x c e=>Nat.lt_succ_of_lt (cl_lt x c e)) x y c e1 e2
  ·have hx:(relabel scope X.env).names.lookup x=some .cell\/(relabel scope X.env).names.lookup x=some .free:=hx
   rw [gi] at hx
   cases e:scope.names.lookup x with
   | none=>rw [e] at hx;rcases hx with z | z <;> cases z
   | some k =>
    rw [e] at hx
    have:k=.cell\/k=.free:=by
     rcases jk (env:=X.env) (x:=x) (k:=k) with ⟨z,_⟩ | ⟨_,z⟩
     ·exact .inr z
     ·rcases hx with y | y
      ·left;have:=Option.some.inj y;rw [z] at this;exact this
      ·right;have:=Option.some.inj y;rw [z] at this;exact this
    refine Option.isSome_iff_exists.mp (PySem.W.cellsFrom_some _ _ _ ?_)
    rcases this with rfl | rfl
    ·exact .inl e
    ·obtain ⟨c,ec⟩:=fr x (PySem.mem_of_lookup e)
     right
     rw [jy ec (.inl (PySem.mem_of_lookup e))]
     rfl
  ·have hf:yA (scope.names.lookup x)=true:=hf
   have e0:scope.names.lookup x=some .cell:=by
    unfold yA at hf
    split at hf
    ·assumption
    ·cases hf
   rcases kD e with q | ⟨q,m⟩
   ·rcases mO q with z | z
    ·cases z
    ·have:=kC c3 z (.inr (.inl rfl));rw [e0] at this;cases this
   ·exact Nat.le_of_succ_le q
  ·exact Nat.ne_of_lt (hfp b hb)
  ·rcases look x c e with q | ⟨q,_,_⟩
   ·exact (f3 b hb).2.2.2.2.1 x c q
   ·exact fun z=>absurd (Nat.lt_of_lt_of_le (z ▸ hfp b hb) (Nat.le_of_succ_le q)) (Nat.lt_irrefl _)
  ·rcases (f3 b hb).2.2.2.1 with z | z
   ·exact I3.ok.noex b o e z
   ·exact absurd (Nat.lt_of_lt_of_le (Nat.lt_of_lt_of_le (Heap.lt_size e) I3.ok.bsz) z) (Nat.lt_irrefl _)
  ·have:=I3.stkSub b hz
   rcases List.mem_cons.mp this with z | z
   ·exact (f3 b hb).2.1 z
   ·exact (f3 b hb).2.2.1 z
 refine ⟨ok,rfl,I3.bare,Un.kept keep,⟨fun _=>none,(Heap.Ns.new s3.heap (.type "dict")).keeps (pushCells_keeps _ _),fun i x v h1 h2 h3=>?_⟩,fun x c e=>?_,I3.hok.fresh (Nat.le_refl _),fun x c e=>?_,fun p hp=>absurd (show p ∈ ([]:List (Addr × Obj)) from hp) (by simp),I4.hok,?_⟩
 ·have hl:=I3.len
  have hi:i < σ.length:=by
   by_cases hi:i < σ.length
   ·exact hi
   ·rw [List.getElem?_append_right (by omega),List.getElem?_replicate] at h2
    split at h2 <;> cases h2
  rw [List.getElem?_append_left hi] at h2
  have h3:Vis (relabel scope X.env) x:=h3
  obtain ⟨g1,g2⟩:=rO c1 h1
  rw [Nat.zero_add] at g1 g2
  have e0:scope.names.lookup x=some .free:=by
   unfold Vis at h3
   rw [gi] at h3
   cases e:scope.names.lookup x with
   | none=>rw [e] at h3;rcases h3 with z | z | z <;> cases z
   | some k =>
    rw [e] at h3
    rcases jk (env:=X.env) (x:=x) (k:=k) with ⟨z,_⟩ | ⟨z0,z⟩
    ·rw [z]
    ·exfalso
     have h3:some k=some NameKind.local\/some k=some NameKind.cell\/some k=some NameKind.free:=by
      have h4:some (reK X.env x k)=some NameKind.local\/some (reK X.env x k)=some NameKind.cell\/some (reK X.env x k)=some NameKind.free:=h3
      rw [z] at h4;exact h4
     rcases h3 with y | y | y
     ·have:=g2 (.inl (e.trans y));omega
     ·have:=g2 (.inr (e.trans y));omega
     ·exact z0 (Option.some.inj y)
  obtain ⟨e1,hk⟩:=g1 e0
  have hk:=nw hk
  obtain ⟨m0,hn0,hl0⟩:=I4.loc
  obtain ⟨u,ru,lk⟩:=hl0 i x v e1 h2 (.inr hk)
  refine ⟨u,ru,.inr ⟨?_,?_⟩⟩
  ·have:(relabel scope X.env).names.lookup x=some (reK X.env x .free):=by rw [gi,e0];rfl
   rcases jk (env:=X.env) (x:=x) (k:=.free) with ⟨_,z | z⟩ | ⟨z,_⟩
   ·rw [z] at this;exact .inr this
   ·rw [z] at this;exact .inl this
   ·exact absurd rfl z
  ·rcases lk with ⟨z,_⟩ | ⟨_,c,ec,q⟩
   ·rcases hk with y | y <;> (rw [z] at y;cases y)
   ·refine ⟨c,?_,q⟩
    show (cellsFrom _ scope.names _).lookup x=some c
    rw [n_ fun m=>by have:=kC c3 m (.inr (.inr rfl));rw [e0] at this;cases this]
    exact jy ec (.inl (PySem.mem_of_lookup e0))
 ·rcases look x c e with q | ⟨_,_,q⟩
  ·exact I4.cell x c q
  ·exact ⟨_,q⟩
 ·rcases look x c e with q | ⟨q,_,_⟩
  ·exact I3.freeC x c q
  ·exact I3.hok.fresh (by omega)
 ·show _=N'.length
  rw [List.length_append,List.length_replicate,hN,I3.len]
noncomputable abbrev cxA (X:Cx) (N':List Str) (scope:Scope) (a:Addr) (H2:Hp) (s3:Shared) (fp:List Addr):Cx:=cxC X N' scope s3.heap.objs.size (cellsFrom (s3.heap.objs.size + 1) scope.names (dJ X.env scope.names [])) s3 (upd H2 a (.lst [])) fp
noncomputable def xj (C:Addr) (X Y:Cx) (k:OK) (T:D->Rho->Option Rho) (t:Rho->R Bool) (e:Rho->R D) (n:Nat) (a:Addr) (H2:Hp) (σ:St) (ρ:RB) (fp:List Addr) (tn:Nat->Heap->Prop) (xs ds:List D) (m:Nat) (s:Shared):Prop :=
 ∃ (i:Nat) (σ':St) (H':Hp) (vs:List V) (ds1 ds2:List D) (A:List Addr),m=xs.length + 1 - i/\i<=xs.length /\
   Inv Y [] σ' H' s/\tn i s.heap/\(∀ b ∈ fp,H' b=none) /\
   (∀ j:Nat,j < ρ.rho.length->σ'[j]?=σ[j]?)/\H' a=some (.lst vs)/\Same H2 (cut (a :: A) H')/\TreP X.K C (msk ρ σ (cut (a :: A) H')) H' (vs.map fun _=>k) vs ds1 A/\a ∉ A /\
   hC T t e (xs.drop i) (ρ.rho ++ List.replicate n none)=.val ds2/\ds1 ++ ds2=ds/\vs.length<=i
theorem TreP.app {K:PySem.W.Frag} {M H:Hp} {k:OK} {v:V} {d:D} {B:List Addr} (h:Tre K C M H k v d B):∀ {ks:List OK} {vs:List V} {ds:List D} {A:List Addr},TreP K C M H ks vs ds A->(∀ a ∈ A,a ∉ B)->∃ A',(∀ a,a ∈ A' ↔ a ∈ A\/a ∈ B)/\TreP K C M H (ks ++ [k]) (vs ++ [v]) (ds ++ [d]) A'
 | _,_,_,_,.nil,_=>⟨B ++ [],fun a=>by simp,.cons h .nil fun _ _=>List.not_mem_nil⟩
 | _,_,_,_,.cons (A:=A1) (B:=A2) g t n,f=>by
  obtain ⟨A',h1,h2⟩:=TreP.app h t fun a ha=>f a (List.mem_append_right _ ha)
  refine ⟨A1 ++ A',fun a=>by rw [List.mem_append,List.mem_append,h1 a,or_assoc],.cons g h2 fun a ha hb=>?_⟩
  rcases (h1 a).mp hb with hb | hb
  ·exact n a ha hb
  ·exact f a (List.mem_append_left _ ha) hb
theorem lH {k:OK} {tg elt iter:Expr} {ifs:List Expr} {scope:Scope} {pos:Pos} {N':List Str} {ix:List Nat} {T:D->Rho->Option Rho} {t:Rho->R Bool} {e:Rho->R D} {n:Nat}
  (hcalm:X.calm=true) (hchk:qs X.N N' X.env scope=true) (hN:N'.length=X.N.length + n) (hix:∀ j ∈ ix,X.N.length<=j)
  (hg:∀ L cs s H fp,GD C (cxC X N' scope L cs s H fp) tg ix T) (ht:∀ L cs s H fp,pH C (cxC X N' scope L cs s H fp) ifs t) (he:∀ L cs s H fp,KD C (cxC X N' scope L cs s H fp) k elt e)
  {pins:List (Addr × Obj)} {σ:St} {H2 H0:Hp} {s2:Shared} {ρ:RB} {J:It} {fp:List Addr} {it:Addr} {tn:Nat->Heap->Prop} {xs ds:List D}
  (I2:Inv X pins σ H2 s2) (r2:dC C X H0 ρ σ H2) (TT:qA X.prog X.w X.K tg J fp it tn) (t0:tn 0 s2.heap) (f2:∀ b ∈ fp,mt X pins H2 b) (wk:ol X.K C J xs (msk ρ σ H2)) (hlen:xs.length<=LIM)
  (hd:hC T t e xs (ρ.rho ++ List.replicate n none)=.val ds) {R:Value->Addr->Result->Shared->Prop} {E:Value->Shared->Prop}
  (hR:∀ a L vs A H' s1,Same H2 (cut (a :: A) H')->(∀ b ∈ a :: A,H2 b=none)->H' a=some (.lst vs)->a ∉ A->TreP X.K C (msk ρ σ (cut (a :: A) H')) H' (vs.map fun _=>k) vs ds A->Inv X pins σ H' s1->H' L=none->L ≠ X.env.locals->X.s₀.heap.objs.size<=L ->
   (∀ x c,X.env.cells.lookup x=some c->c ≠ L)->(∀ p ∈ X.pn ++ pins,p.1 ≠ L)->(∃ m,s1.heap.Ns L m)->R (.ref a) L (.ok .next) s1) :
  wpAny (model X.prog X.w) X.A (newList []) (fun acc s₃=>wpAny (model X.prog X.w) X.A (newFunctionEnv scope X.env.globals (dJ X.env scope.names []) [] X.env.qual none .none (some X.env)) (fun cenv s₄ =>
   codeAny (model X.prog X.w) X.A (.compStart (.ListComp elt [⟨tg,iter,ifs,0⟩] scope pos) 0 (.ref it) acc { cenv with scope:=relabel scope X.env }) (R acc cenv.locals) s₄) E s₃) E s2:=by
 refine wpAny_newObj_type (vl ?_)
 have hfr2:H2 s2.heap.objs.size=none:=I2.fresh
 have I3:=I2.lnew (its:=[]) (ys:=[]) (t':=s2.toks) .nil (Nat.zero_le _)
 have hfp:∀ b ∈ fp,b < s2.heap.objs.size:=fun b hb=>by
  obtain ⟨o,eo,_⟩:=TT.obj 0 _ t0 b hb
  exact Heap.lt_size eo
 have sz3:(s2.heap.push { cls:=.type "list",data:=.seq ([]:List Value).toArray }).objs.size=s2.heap.objs.size + 1:=Heap.size_push ..
 have f3:∀ b ∈ fp,mt X pins (upd H2 s2.heap.objs.size (.lst [])) b:=fun b hb=>⟨by rw [aE (Nat.ne_of_lt (hfp b hb))];exact (f2 b hb).1,(f2 b hb).2⟩
 have I4:=qp (n:=n) hchk hN I3 (fun b hb=>by rw [sz3];exact Nat.lt_succ_of_lt (hfp b hb)) f3
 have keep:∀ b o,s2.heap.get? b=some o->(pushCells ((s2.heap.push { cls:=.type "list",data:=.seq ([]:List Value).toArray }).push { cls:=.type "dict",data:=.dict #[] }) scope.names).get? b=some o:=fun b o e =>
  pushCells_keeps _ _ b o (Heap.get?_push_of_some _ (Heap.get?_push_of_some _ e))
 have t4:tn 0 (pushCells ((s2.heap.push { cls:=.type "list",data:=.seq ([]:List Value).toArray }).push { cls:=.type "dict",data:=.dict #[] }) scope.names):=TT.keep 0 _ _ t0 fun b hb o e=>keep b o e
 generalize hs3:({ s2 with heap:=s2.heap.push { cls:=.type "list",data:=.seq ([]:List Value).toArray },toks:=s2.toks }:Shared)=s3 at I3 I4
 have hH3:({ s2 with heap:=s2.heap.push { cls:=.type "list",data:=.seq ([]:List Value).toArray },toks:=s2.toks }:Shared).heap=s3.heap:=by rw [hs3]
 have t4':tn 0 (pushCells (s3.heap.push { cls:=.type "dict",data:=.dict #[] }) scope.names):=by rw [<- hH3];exact t4
 have hrl:ρ.rho.length=X.N.length:=r2.len.trans I2.len
 generalize ha0:s2.heap.objs.size=a0 at *
 have loop:∀ s4:Shared,s4={ s3 with heap:=pushCells (s3.heap.push { cls:=.type "dict",data:=.dict #[] }) scope.names } ->
   codeAny (model X.prog X.w) X.A (.compLoop (.ListComp elt [⟨tg,iter,ifs,0⟩] scope pos) 0 (.ref it) (.ref a0) (zU scope X.env s3.heap.objs.size (cellsFrom (s3.heap.objs.size + 1) scope.names (dJ X.env scope.names []))))
    (R (.ref a0) s3.heap.objs.size) s4:=by
  rintro s4 rfl
  refine n8 (xj C X (cxA X N' scope a0 H2 s3 fp) k T t e n a0 H2 σ ρ fp tn xs ds) ?_ (xs.length + 1)
   ⟨0,_,_,[],[],ds,[],rfl,Nat.zero_le _,I4,t4',fun b hb=>(f3 b hb).1,fun j hj=>by rw [List.getElem?_append_left (by rw [<- r2.len];exact hj)],aU,by rw [wK hfr2];exact Same.refl _,.nil,List.not_mem_nil,hd,rfl,Nat.le_refl _⟩
  rintro m s ⟨i,σ',H',vs,ds1,ds2,A,rfl,hi,I,tni,hfn,hpre,ha,sm,hv,hnA,hc,hds,hvl⟩
  have lst:∀ z ∈ a0 :: A,∃ us,H' z=some (.lst us):=fun z hz=>by
   rcases List.mem_cons.mp hz with rfl | hz
   ·exact ⟨vs,ha⟩
   ·exact hv.lists z hz
  have Z:Hid H' s.heap (a0 :: A):=by
   refine ⟨fun z hz=>?_,fun z hz c dx fs q=>?_,fun z hz b q=>?_,fun z hz=>?_⟩
   ·obtain ⟨us,q⟩:=lst z hz;exact ⟨_,q,rfl⟩
   ·obtain ⟨us,q'⟩:=lst z hz;rw [q] at q';cases q'
   ·obtain ⟨us,q'⟩:=lst z hz;rw [q] at q';cases q'
   ·obtain ⟨us,q'⟩:=lst z hz
    obtain ⟨_,its,m,_,e1⟩:=I.hok _ _ q'
    exact ⟨_,e1,fun v q=>by cases q⟩
  have J0:=I.hide Z
  have hM:∀ b,H' b=none->cut (a0 :: A) H' b=none:=fun b q=>by unfold cut;split <;> first | rfl | exact q
  have stat:∀ {pn:List (Addr × Obj)} {G:Hp},(∀ b ∈ fp,G b=none)->(∀ p ∈ pn,∀ b ∈ fp,p.1 ≠ b)->∀ b ∈ fp,mt (cxA X N' scope a0 H2 s3 fp) pn G b:=fun {pn G} h1 h2 b hb =>
   ⟨h1 b hb,(I.ok.exf b hb).1,I.ok.exfs b hb,.inl hb,(I.ok.exf b hb).2,fun p hp=>h2 p hp b hb⟩
  have pna:∀ p ∈ ([]:List (Addr × Obj)) ++ dn (a0 :: A) s.heap,∀ b ∈ fp,p.1 ≠ b:=fun p hp b hb z=>by
   obtain ⟨q1,_⟩:=h_ (show p ∈ dn (a0 :: A) s.heap from hp)
   obtain ⟨us,q⟩:=lst _ q1
   rw [z,hfn b hb] at q;cases q
  have sM:Same (msk ρ σ H2) (cut (a0 :: A) H'):=msk_sub.trans sm
  by_cases hlt:i < xs.length
  ·have ex:xs[i]?=some xs[i]:=by simp [hlt]
   have ed:xs.drop i=xs[i] :: xs.drop (i + 1):=List.drop_eq_getElem_cons hlt
   obtain ⟨go,yld⟩:=wk.go i _ _ sM ex
   refine wpAny_mono (TT.item (cxA X N' scope a0 H2 s3 fp) rfl rfl rfl hcalm i _ s σ' _ (fun _ _=>False) J0 (stat (fun b hb=>hM b (hfn b hb)) pna) tni go) (fun r s1 zz0=>?_) fun _ _ z=>z
   obtain ⟨u,hr,h1⟩:=zz0
   subst hr
   refine thn h1 fun _ s5 zz1=>?_
   obtain ⟨x,H5,I5,r5,y5,t5,n5⟩:=zz1
   obtain ⟨s5',hx⟩:=yld x H5 y5
   have hx5:Has X.K C (msk ρ σ H5) x xs[i]:=hx ρ σ (fun b ob q=>by
    have h2:=r2.ownAt ob
    cases q2:H2 b with
    | none=>exact h2 q2
    | some o=>rw [sm b o q2] at q;cases q) (aX sm)
   have r5':=r2.mono (sm.trans s5')
   obtain ⟨re5,em5⟩:=vF (m:=n) r5' (σ':=σ') (by have q:=I5.len;rw [hrl];exact q.trans hN) hpre
   have I5p:=I5.pinned (stat n5 pna) (TT.obj _ _ t5)
   rw [ed] at hc
   unfold hC at hc
   split at hc
   ·rename_i ρ1 eT
    have ix0:∀ j ∈ ix,(ρ.ext n).ad j=[]:=fun j hj=>by
     have h2:=hix j hj
     refine List.eq_nil_iff_forall_not_mem.mpr fun b hb=>?_
     have:=r2.bnd j b hb
     omega
    refine thn (hg _ _ _ _ _ _ s5 σ' H5 x u (fun σ6 H6=>H6=H5/\∃ β:RB,β.rho=ρ1/\(∀ j:Nat,β.ad j=if j ∈ ix then [] else (ρ.ext n).ad j)/\dC C X H0 β σ6 H5/\∀ j:Nat,j ∉ ix->σ6[j]?=σ'[j]?) I5p r5 ⟨_,H0,xs[i],ρ1,re5,by show Has _ _ (msk _ _ _) x _;rw [em5];exact hx5,eT,fun σ6 β q0 q3 q1 q2=>⟨rfl,β,q0,q3,q1,q2⟩⟩) fun _ s6 zz2=>?_
    obtain ⟨σ6,H6,I6,eH,β,eβ,aβ,r6,p6⟩:=zz2
    subst eH
    subst eβ
    have em6:msk β σ6=msk ρ σ:=(yi aβ ix0).trans em5
    have pre6:∀ j:Nat,j < ρ.rho.length->σ6[j]?=σ[j]?:=fun j hj=>by
     rw [p6 j fun z=>by have:=hix j z;omega];exact hpre j hj
    cases et:t β with
    | exc c=>rw [et] at hc;cases hc
    | bad=>rw [et] at hc;cases hc
    | val b =>
     rw [et] at hc
     refine thn (ht _ _ _ _ _ _ s6 σ6 H6 (fun b' H7=>b'=b/\Same H6 H7) I6 ⟨β,⟨H0,r6⟩,by rw [et];exact fun H7 q=>⟨rfl,q⟩⟩) fun b' s7 zz3=>?_
     obtain ⟨H7,I7,eb,s67⟩:=zz3
     subst eb
     have fin:∀ {s9:Shared} {H9:Hp} {vs':List V} {ds1' ds2':List D} {A':List Addr},Inv (cxA X N' scope a0 H2 s3 fp) (dn fp s5.heap) σ6 H9 s9 ->
       H9 a0=some (.lst vs')->Same H2 (cut (a0 :: A') H9)->TreP X.K C (msk ρ σ (cut (a0 :: A') H9)) H9 (vs'.map fun _=>k) vs' ds1' A'->a0 ∉ A'->hC T t e (xs.drop (i + 1)) (ρ.rho ++ List.replicate n none)=.val ds2'->ds1' ++ ds2'=ds->vs'.length<=i + 1 ->
       ∃ m,m < xs.length + 1 - i/\xj C X (cxA X N' scope a0 H2 s3 fp) k T t e n a0 H2 σ ρ fp tn xs ds m s9:=fun {s9 H9 vs' ds1' ds2' A'} I9 g1 g3 g4 g4' g5 g6 g7=>by
      refine ⟨xs.length + 1 - (i + 1),by omega,i + 1,σ6,H9,vs',ds1',ds2',A',rfl,hlt,I9.pins_of fun p hp=>absurd hp (by simp),TT.keep _ _ _ t5 fun b hb o eo=>(I9.pin (b,o) (List.mem_append_right _ (fk hb eo))).1,fun b hb=>?_,pre6,g1,g3,g4,g4',g5,g6,g7⟩
      obtain ⟨o,eo,_⟩:=TT.obj _ _ t5 b hb
      exact (I9.pin (b,o) (List.mem_append_right _ (fk hb eo))).2.1
     have h1pins:∀ p ∈ dn (a0 :: A) s.heap,p ∈ (([]:List (Addr × Obj)) ++ dn (a0 :: A) s.heap) ++ dn fp s5.heap:=fun p hp=>List.mem_append_left _ hp
     have h2pins:∀ p ∈ dn fp s5.heap,p ∈ (([]:List (Addr × Obj)) ++ dn (a0 :: A) s.heap) ++ dn fp s5.heap/\H' p.1=none:=fun p hp=>⟨List.mem_append_right _ hp,hfn _ (h_ hp).1⟩
     have s57:Same (cut (a0 :: A) H') H7:=s5'.trans s67
     have back:∀ {G:Hp},Same (cut (a0 :: A) H') G->(∀ z ∈ a0 :: A,G z=none)->Stay A H' (jn (a0 :: A) H' G):=fun {G} sG mz=>⟨fun b hb o q=>by rw [ik (List.mem_cons_of_mem _ hb)];exact q,fun b us q=>by
      have nb:b ∉ a0 :: A:=fun hb=>by obtain ⟨ws,q'⟩:=lst b hb;rw [q] at q';cases q'
      rw [cx nb];exact sG b _ (cut_some.mpr ⟨nb,q⟩)⟩
     cases b' with
     | false =>
      rw [if_neg Bool.false_ne_true]
      obtain ⟨I8,mz⟩:=I.showG Z I7 h1pins h2pins
      have eJ:cut (a0 :: A) (jn (a0 :: A) H' H7)=H7:=by
       funext b
       by_cases hb:b ∈ a0 :: A
       ·rw [fy hb,mz b hb]
       ·unfold cut;rw [if_neg hb,cx hb]
      exact fin (A':=A) I8 (by rw [ik List.mem_cons_self];exact ha) (by rw [eJ];exact sm.trans s57) (by rw [eJ];exact hv.stay (aX s57) (back s57 mz)) hnA hc hds (Nat.le_succ_of_le hvl)
     | true =>
      rw [if_pos rfl]
      cases ee:e β with
      | exc c=>rw [ee] at hc;cases hc
      | bad=>rw [ee] at hc;cases hc
      | val d =>
       rw [ee] at hc
       refine thn (he _ _ _ _ _ _ s7 σ6 H7 (fun y H8=>∃ B,Same H7 H8/\(∀ b ∈ B,H7 b=none)/\Tre X.K C (cut B (msk ρ σ H8)) H8 k y d B) I7 ⟨β,⟨H0,r6.mono s67⟩,by rw [ee];exact fun y H8 B q1 q2 q3=>⟨B,q1,q2,by rw [<- em6];exact q3⟩⟩) fun yv s8 zz4=>?_
       obtain ⟨y,H8,I8,ry,B,s78,hB,hy⟩:=zz4
       obtain ⟨I9,mz⟩:=I.showG Z I8 h1pins h2pins
       have s8':Same (cut (a0 :: A) H') H8:=s57.trans s78
       cases ec:hC T t e (xs.drop (i + 1)) (ρ.rho ++ List.replicate n none) with
       | exc c=>simp only [noE,DL.R.bind,ec,if_true] at hc;cases hc
       | bad=>simp only [noE,DL.R.bind,ec,if_true] at hc;cases hc
       | val ds3 =>
        simp only [noE,DL.R.bind,ec,if_true] at hc
        cases hc
        refine thn (ia _ s8 σ6 _ (.ref a0) [y] (.ref a0) [yv] (fun _ H9=>H9=upd (jn (a0 :: A) H' H8) a0 (.lst (vs ++ [y]))) I9 rfl (.cons ry .nil)
         ⟨_,vs,y,rfl,rfl,by rw [ik List.mem_cons_self];exact ha,ym (by omega),rfl⟩) fun _ s9 ⟨_,H9,I10,_,eH9⟩=>?_
        have lB:∀ b ∈ B,b ∉ a0 :: A:=fun b hb hz=>by
         obtain ⟨us,q⟩:=hy.lists b hb
         rw [mz b hz] at q;cases q
        have at9:∀ b,b ≠ a0->H9 b=jn (a0 :: A) H' H8 b:=fun b hb=>by rw [eH9,aE hb]
        have eJ:∀ A',(∀ b,b ∈ A' ↔ b ∈ A\/b ∈ B)->cut (a0 :: A') H9=cut B H8:=fun A' hA'=>by
         funext b
         by_cases hb:b ∈ a0 :: A
         ·have:b ∈ a0 :: A':=by
           rcases List.mem_cons.mp hb with z | z
           ·exact z ▸ List.mem_cons_self
           ·exact List.mem_cons_of_mem _ ((hA' b).mpr (.inl z))
          rw [fy this]
          unfold cut
          split
          ·rfl
          ·exact (mz b hb).symm
         ·have nb:b ≠ a0:=fun z=>hb (z ▸ List.mem_cons_self)
          by_cases hb2:b ∈ B
          ·rw [fy hb2,fy (List.mem_cons_of_mem _ ((hA' b).mpr (.inr hb2)))]
          ·have:b ∉ a0 :: A':=fun z=>by
            rcases List.mem_cons.mp z with z | z
            ·exact nb z
            ·rcases (hA' b).mp z with z | z
             ·exact hb (List.mem_cons_of_mem _ z)
             ·exact hb2 z
           unfold cut
           rw [if_neg this,if_neg hb2,at9 b nb,cx hb]
        have sB:Same (cut (a0 :: A) H') (cut B H8):=fun b o q=>cut_some.mpr ⟨fun hb=>absurd (hB b hb) (by rw [s57 b o q];exact fun z=>by cases z),s8' b o q⟩
        have st1:Stay A H' H9:=by
         refine ⟨fun b hb o q=>?_,fun b us q=>?_⟩
         ·rw [at9 b fun z=>hnA (z ▸ hb)];exact (back s8' mz).at_ b hb o q
         ·rw [at9 b fun z=>by rw [z,ha] at q;cases q];exact (back s8' mz).tup b us q
        have st2:Stay B H8 H9:=by
         refine ⟨fun b hb o q=>?_,fun b us q=>?_⟩
         ·rw [at9 b fun z=>lB b hb (z ▸ List.mem_cons_self),cx (lB b hb)];exact q
         ·have nb:b ∉ a0 :: A:=fun hz=>by rw [mz b hz] at q;cases q
          rw [at9 b fun z=>nb (z ▸ List.mem_cons_self),cx nb];exact q
        have g1:TreP X.K C (msk ρ σ (cut B H8)) H9 (vs.map fun _=>k) vs ds1 A:=hv.stay (aX sB) st1
        have g2:Tre X.K C (msk ρ σ (cut B H8)) H9 k y d B:=hy.stay (by rw [iS];exact Same.refl _) st2
        obtain ⟨A',hA',g3⟩:=TreP.app g2 g1 fun b hb hb2=>lB b hb2 (List.mem_cons_of_mem _ hb)
        refine fin (A':=A') (vs':=vs ++ [y]) (ds1':=ds1 ++ [d]) (ds2':=ds3) I10 (by rw [eH9];exact aU) (by rw [eJ A' hA'];exact sm.trans sB) (by rw [eJ A' hA',List.map_append];exact g3) (fun z=>?_) ec (by rw [<- hds];simp) (by rw [List.length_append,List.length_singleton];omega)
        rcases (hA' a0).mp z with z | z
        ·exact hnA z
        ·exact lB a0 z List.mem_cons_self
   ·cases hc
  ·have ei:i=xs.length:=by omega
   subst ei
   rw [List.drop_length] at hc
   cases hc
   rw [List.append_nil] at hds
   subst hds
   refine wpAny_mono (TT.done (cxA X N' scope a0 H2 s3 fp) rfl rfl rfl hcalm xs.length _ s σ' _ (fun _ _=>False) J0 (stat (fun b hb=>hM b (hfn b hb)) pna) tni (wk.stop _ sM)) (fun r s1 zz5=>?_) fun _ _ z=>z
   obtain ⟨hr,I1⟩:=zz5
   subst hr
   obtain ⟨Ie,_⟩:=I.show' Z I1
   have eH:jn (a0 :: A) H' (cut (a0 :: A) H')=H':=by
    funext b
    by_cases hb:b ∈ a0 :: A
    ·rw [ik hb]
    ·rw [cx hb];unfold cut;rw [if_neg hb]
   rw [eH] at Ie
   have IX:Inv X pins σ H' s1:=I3.call' Ie.os Ie.base Ie.hok Ie.bare fun b hb=>⟨(f3 b hb).2.2.2.1,(f3 b hb).2.1,(f3 b hb).2.2.2.2.1,(f3 b hb).2.2.2.2.2⟩
   obtain ⟨m,hm,_⟩:=Ie.loc
   refine hR _ _ vs A H' s1 sm (fun b hb=>dH sm (fy hb)) ha hnA hv IX Ie.free (Nat.ne_of_gt I3.lt) I3.sz (fun x c q z=>?_) (fun p hp z=>?_) ⟨m,hm⟩
   ·obtain ⟨v,q⟩:=I3.cell x c q
    exact absurd (z ▸ q.lt) (Nat.lt_irrefl _)
   ·exact absurd (z ▸ Heap.lt_size (I3.pin p hp).1) (Nat.lt_irrefl _)
 exact codeAny_compStart_list (loop _ rfl) (TT.self X.A 0 _ _ _ t4' (loop _ rfl))
end DL
namespace DL
open PySem PySem.Spec PyProof.Rows L2
variable {C:Addr} {X:Cx}
noncomputable def b0 (src:Rho->R (List D)) (n:Nat) (T:D->Rho->Option Rho) (t:Rho->R Bool) (e:Rho->R D):Rho->R (List D):=fun ρ=>(src ρ).bind fun xs=>if xs.length<=LIM then noE (hC T t e xs (ρ ++ List.replicate n none)) else .bad
theorem pu {k:OK} {src:Rho->R (List D)} {n:Nat} {T:D->Rho->Option Rho} {t:Rho->R Bool} {e:Rho->R D} {σ:St} {H:Hp} {Q:VK} {ρ:RB} {H0:Hp} (r:dC C X H0 ρ σ H) (q:pK C X (.l k) ρ (eLs (b0 src n T t e) ρ) σ H Q) :
  itI C X src σ H fun J H2=>∃ xs ds,Same H H2/\dC C X H0 ρ σ H2/\ol X.K C J xs (msk ρ σ H2)/\xs.length<=LIM/\hC T t e xs (ρ.rho ++ List.replicate n none)=.val ds/\∀ v H' A,Same H2 H'->(∀ a ∈ A,H2 a=none)->Tre X.K C (cut A (msk ρ σ H')) H' (.l k) v (.lst ds) A->Q v H':=by
 refine ⟨ρ,⟨H0,r⟩,?_⟩
 unfold eLs yl b0 at q
 cases es:src ρ with
 | exc c=>rw [es] at q;exact q
 | bad=>rw [es] at q;exact q
 | val xs =>
  rw [es] at q
  intro J H2 s2 wk
  simp only [DL.R.bind] at q
  by_cases hl:xs.length<=LIM
  ·rw [if_pos hl] at q
   cases ec:hC T t e xs (ρ.rho ++ List.replicate n none) with
   | val ds=>rw [ec] at q;exact ⟨xs,ds,s2,r.mono s2,wk,hl,ec,fun v H' A s1 h1 h2=>q v H' A (s2.trans s1) (fun a ha=>dH s2 (h1 a ha)) h2⟩
   | exc c=>rw [ec] at q;exact q.elim
   | bad=>rw [ec] at q;exact q.elim
  ·rw [if_neg hl] at q;exact q.elim
theorem wW {F:Rho->R (List D)} {σ:St} {H:Hp} {Q:VK} (h:teF C X F σ H Q):teK C X (.l .s) (eLs F) σ H Q:=by
 obtain ⟨ρ,⟨H0,r⟩,q⟩:=h
 refine ⟨ρ,⟨H0,r⟩,?_⟩
 unfold eLs
 cases e:F ρ with
 | val xs =>
  rw [e] at q
  intro v H' A s1 hA h1
  cases h1 with
  | @l _ a vs _ _ ha hp _ =>
   obtain ⟨eA,hl⟩:=hp.flat
   subst eA
   have q2:=q a vs (cut [a] H') (fun b o eb=>cut_some.mpr ⟨fun hb=>Option.some_ne_none _ (eb.symm.trans (hA b hb)),s1 b o eb⟩) (fy (List.mem_singleton.mpr rfl)) (by show HasL _ _ (msk ρ σ _) vs xs;rw [iS];exact hl)
   rw [vn ha] at q2
   exact q2
 | exc c=>rw [e] at q;exact q
 | bad=>rw [e] at q;exact q
section
variable {tg elt iter:Expr} {ifs:List Expr} {scope:Scope} {pos:Pos} {N':List Str} {ix:List Nat} {T:D->Rho->Option Rho} {t:Rho->R Bool} {e:Rho->R D} {n:Nat} {src:Rho->R (List D)}
theorem mP (hchk:qs X.N N' X.env scope=true):(∀ x,(x,NameKind.free) ∈ scope.names->kc (X.env.kindOf x)=true)/\scope.kind=.function/\∀ x ∈ scope.names,x.2=.local->scope.names.lookup x.1=some .local:=by
 obtain ⟨c1,hchk⟩:=Bool.and_eq_true_iff.mp hchk
 obtain ⟨c2,hchk⟩:=Bool.and_eq_true_iff.mp hchk
 obtain ⟨c3,hchk⟩:=Bool.and_eq_true_iff.mp hchk
 obtain ⟨c4,c5⟩:=Bool.and_eq_true_iff.mp hchk
 refine ⟨fun x hx=>n9 c2 hx,?_,fun x hx hl=>?_⟩
 ·revert c5
  cases scope.kind <;> simp
 ·obtain ⟨n,k⟩:=x
  have hl:k=.local:=hl
  subst hl
  exact kC c3 hx (.inl rfl)
theorem wd {k:OK} (hcalm:X.calm=true) (hchk:qs X.N N' X.env scope=true) (hN:N'.length=X.N.length + n) (hix:∀ j ∈ ix,X.N.length<=j) (hi:ID C X tg iter src)
  (hg:∀ L cs s H fp,GD C (cxC X N' scope L cs s H fp) tg ix T) (ht:∀ L cs s H fp,pH C (cxC X N' scope L cs s H fp) ifs t) (he:∀ L cs s H fp,KD C (cxC X N' scope L cs s H fp) k elt e)
  (hs:∀ x,foldedSetIterable iter X.env x=pure x:=by intro _;rfl):KD C X (.l k) (.ListComp elt [⟨tg,iter,ifs,0⟩] scope pos) (eLs (b0 src n T t e)):=by
 rintro pins s σ H Q I ⟨ρ,⟨H0,r⟩,q⟩
 obtain ⟨c2,hkind,hnames⟩:=mP hchk
 rw [eval_ListComp]
 refine wpAny_comprehension_free (use:=none) rfl hs (rM fun x hx=>I.ok.has x (nw (c2 x hx))) hkind hnames ?_
 show wpAny _ _ (eval iter X.env) _ _ s
 refine thn (hi pins s σ H _ I (pu r q)) fun v s1 h1=>thn h1 fun itv s2 zz0=>?_
 obtain ⟨it,fp,tn,J,H2,ei,I2,TT,t0,f2,xs,ds,s2',r2,wk,hl,hd,hq⟩:=zz0
 subst ei
 refine lH (R:=fun acc L=>compPost (model X.prog X.w) X.A X.xe none (EP X pins σ Q) acc L) hcalm hchk hN hix hg ht he I2 r2 TT t0 f2 wk hl hd ?_
 rintro a L vs A H' s1 sf hA ha hn hv IX uL lne lsz lc lp ⟨m,hm⟩
 refine ⟨m,hm,fun h' hs'=>⟨.ref a,_,IX.turned (t':=s1.toks) (fun b o hb eo=>(hs'.2 b hb).trans eo) uL lne (.inr lsz) lc lp,rfl,hq _ H' (a :: A) (sf.trans n0) hA (.l ha (by rw [<- iS];exact hv) hn)⟩⟩
theorem dX (hcalm:X.calm=true) (hchk:qs X.N N' X.env scope=true) (hN:N'.length=X.N.length + n) (hix:∀ j ∈ ix,X.N.length<=j) (tk:wU ix T) (hi:ID C X tg iter src)
  (hg:∀ L cs s H fp,GD C (cxC X N' scope L cs s H fp) tg ix T) (ht:∀ L cs s H fp,pH C (cxC X N' scope L cs s H fp) ifs t) (he:∀ L cs s H fp,ED C (cxC X N' scope L cs s H fp) elt e)
  (hs:∀ x,foldedSetIterable iter X.env x=pure x:=by intro _;rfl):FD C X (.ListComp elt [⟨tg,iter,ifs,0⟩] scope pos) (b0 src n T t e) :=
 aR (wd hcalm hchk hN hix hi hg ht (fun L cs s H fp=>uv (he L cs s H fp)) hs) fun σ H Q h=>wW h
theorem oJ {k:OK} {i:Nat} {y:Str} {py spos:Pos} (hy:PG X (.Name y py) (gT i)) (hcalm:X.calm=true) (hchk:qs X.N N' X.env scope=true) (hN:N'.length=X.N.length + n) (hix:∀ j ∈ ix,X.N.length<=j) (hi:ID C X tg iter src)
  (hg:∀ L cs s H fp,GD C (cxC X N' scope L cs s H fp) tg ix T) (ht:∀ L cs s H fp,pH C (cxC X N' scope L cs s H fp) ifs t) (he:∀ L cs s H fp,KD C (cxC X N' scope L cs s H fp) k elt e)
  (hsw:swapsWith (.ListComp elt [⟨tg,iter,ifs,0⟩] scope pos) (some (.Name y py)) spos.line X.env=pure true)
  (hs:∀ x,foldedSetIterable iter X.env x=pure x:=by intro _;rfl):PS X (.Assign [.Name y py] (.ListComp elt [⟨tg,iter,ifs,0⟩] scope pos) spos) (rW (teK C X (.l k) (eLs (b0 src n T t e))) (gT i)):=by
 rintro pins s σ H Dn I ⟨ρ,⟨H0,r⟩,q⟩
 obtain ⟨c2,hkind,hnames⟩:=mP hchk
 rw [exec_Assign_Name_used _ _ _ _ hsw]
 refine wpAny_bind (wpAny_standAt (wpAny_bind ?_))
 show wpAny _ _ (do let _ <- comprehension (.ListComp elt [⟨tg,iter,ifs,0⟩] scope pos) scope X.env _ (newList []) false (eval iter X.env) (some (assign (.Name y py) X.env))) _ _ s
 refine wpAny_bind (wpAny_mono (wpAny_comprehension_free (use:=some (assign (.Name y py) X.env)) (Q:=fun _ s'=>SP X pins Dn .next s') rfl hs (rM fun x hx=>I.ok.has x (nw (c2 x hx))) hkind hnames ?_) (fun _ s' hq=>wpAny_pure (wpAny_pure hq)) fun _ _ z=>z)
 refine thn (hi pins s σ H _ I (pu r q)) fun v s1 h1=>thn h1 fun itv s2 zz1=>?_
 obtain ⟨it,fp,tn,J,H2,ei,I2,TT,t0,f2,xs,ds,s2',r2,wk,hl,hd,hq⟩:=zz1
 subst ei
 refine lH (R:=fun acc L=>compPost (model X.prog X.w) X.A X.xe (some (assign (.Name y py) X.env)) (fun _ s'=>SP X pins Dn .next s') acc L) hcalm hchk hN hix hg ht he I2 r2 TT t0 f2 wk hl hd ?_
 rintro a L vs A H' s1 sf hA ha hn hv IX uL lne lsz lc lp ⟨m,hm⟩
 obtain ⟨oL,esL,epL,eoL,edL,restL⟩:=id hm
 have nfs:L ∉ X.fs:=fun z=>by
  obtain ⟨_,o,ho,_⟩:=I.ok.funs.mem z
  exact absurd (Nat.lt_of_lt_of_le (Heap.lt_size ho) lsz) (Nat.lt_irrefl _)
 have IP:Inv X (pins ++ [(L,oL)]) σ H' s1:=IX.pins_of fun p hp=>by
  rcases List.mem_append.mp hp with hp | hp
  ·exact IX.pin p (List.mem_append_right _ hp)
  ·have:p=(L,oL):=by simpa using hp
   subst this
   exact ⟨eoL,uL,lne,nfs,fun v z=>by rw [edL] at z;cases z⟩
 show wpAny _ _ (assign (.Name y py) X.env (.ref a)) _ _ s1
 refine thn (hy _ s1 σ _ (.ref a) (.ref a) Dn.nx IP rfl (hq _ H' (a :: A) (sf.trans n0) hA (.l ha (by rw [<- iS];exact hv) hn))) fun _ s2 zz2=>?_
 obtain ⟨σ',H',I',qn⟩:=zz2
 have pL:=I'.pin (L,oL) (List.mem_append_right _ (List.mem_append_right _ (by simp)))
 have I'':Inv X pins σ' H' s2:=I'.unpinned
 refine ⟨m,⟨oL,esL,epL,pL.1,edL,restL⟩,fun h' hs'=>⟨σ',H',I''.turned (t':=s2.toks) (fun b o hb eo=>(hs'.2 b hb).trans eo) pL.2.1 lne (.inr lsz) lc lp,qn⟩⟩
theorem gl {i:Nat} {y:Str} {py spos:Pos} (hy:PG X (.Name y py) (gT i)) (hcalm:X.calm=true) (hchk:qs X.N N' X.env scope=true) (hN:N'.length=X.N.length + n) (hix:∀ j ∈ ix,X.N.length<=j) (tk:wU ix T) (hi:ID C X tg iter src)
  (hg:∀ L cs s H fp,GD C (cxC X N' scope L cs s H fp) tg ix T) (ht:∀ L cs s H fp,pH C (cxC X N' scope L cs s H fp) ifs t) (he:∀ L cs s H fp,ED C (cxC X N' scope L cs s H fp) elt e)
  (hsw:swapsWith (.ListComp elt [⟨tg,iter,ifs,0⟩] scope pos) (some (.Name y py)) spos.line X.env=pure true)
  (hs:∀ x,foldedSetIterable iter X.env x=pure x:=by intro _;rfl):PS X (.Assign [.Name y py] (.ListComp elt [⟨tg,iter,ifs,0⟩] scope pos) spos) (rW (teF C X (b0 src n T t e)) (gT i)) :=
 bK (oJ hy hcalm hchk hN hix hi hg ht (fun L cs s H fp=>uv (he L cs s H fp)) hsw hs) fun D σ H h=>wW h
theorem mZ {i : Nat} {st : Stmt} {F : Rho -> R (List D)} (h : PS X st (rW (teF C X F) (gT i))) : SD C X st (asg i (eLs F)) :=
  bK h fun D σ H yy0 => by
   obtain ⟨_, H0, ⟨ρ, rfl, r⟩, q⟩ := yy0
   exact ⟨ρ, ⟨H0, r⟩, by
    unfold asg eLs yl at q
    cases e : F ρ with
    | val xs =>
      rw [e] at q
      exact fun a vs H1 s1 hn h1 => q _ _ ⟨_, rfl, (r.mono (s1.trans (aO hn))).setShr (.lst ((r.mono s1).new hn) (h1.mono (aX (aO hn))))⟩
    | exc c => rw [e] at q; exact dF r q
    | bad => rw [e] at q; exact q⟩
theorem vx {i : Nat} {st : Stmt} {F : Rho -> R (List D)} (h : PS X st (rW (teF C X F) (gT i))) : SD C X st (own i F) :=
  bK h fun D σ H yy1 => by
   obtain ⟨_, H0, ⟨ρ, rfl, r⟩, q⟩ := yy1
   exact ⟨ρ, ⟨H0, r⟩, by
    unfold own at q
    cases e : F ρ with
    | val xs =>
      rw [e] at q
      exact fun a vs H1 s1 hn h1 => q _ _ ⟨_, rfl, (r.mono s1).setOwn hn h1⟩
    | exc c => rw [e] at q; exact dF r q
    | bad => rw [e] at q; exact q⟩
end
end DL
namespace DL
open PySem PySem.Spec PyProof.Rows L2
noncomputable def eqb:Nat->D->Bool
 | _,.non=>true
 | _,.bl _=>true
 | _,.int _=>true
 | n + 1,.lst xs=>xs.all (eqb n)
 | n + 1,.tup xs=>xs.all (eqb n)
 | _,_=>false
noncomputable def pyq:Nat->D->D->Bool
 | _,.non,.non=>true
 | _,.bl a,.bl b=>a == b
 | _,.bl a,.int b=>(if a then 1 else 0) == b
 | _,.int a,.bl b=>a == (if b then 1 else 0)
 | _,.int a,.int b=>a == b
 | n + 1,.lst xs,.lst ys=>decide (xs.length=ys.length) && (List.range xs.length).all fun j=>pyq n (xs.getD j .non) (ys.getD j .non)
 | n + 1,.tup xs,.tup ys=>decide (xs.length=ys.length) && (List.range xs.length).all fun j=>pyq n (xs.getD j .non) (ys.getD j .non)
 | _,_,_=>false
theorem m_ (n:Nat) (xs ys:List D):pyq (n + 1) (.lst xs) (.lst ys)=(decide (xs.length=ys.length) && (List.range xs.length).all fun j=>pyq n (xs.getD j .non) (ys.getD j .non)):=rfl
theorem m9 (n:Nat) (xs ys:List D):pyq (n + 1) (.tup xs) (.tup ys)=(decide (xs.length=ys.length) && (List.range xs.length).all fun j=>pyq n (xs.getD j .non) (ys.getD j .non)):=rfl
section
variable {K:PySem.W.Frag} {C:Addr} {H:Hp}
theorem HasL.inj {n:Nat} (ih:∀ {v:V} {x y:D},eqb n x=true->eqb n y=true->Has K C H v x->Has K C H v y->x=y):∀ {vs:List V} {xs ys:List D},xs.all (eqb n)=true->ys.all (eqb n)=true->HasL K C H vs xs->HasL K C H vs ys->xs=ys
 | _,_,_,_,_,.nil,.nil=>rfl
 | _,_,_,h1,h2,.cons a b,.cons c d=>by
  rw [List.all_cons,Bool.and_eq_true] at h1 h2
  rw [ih h1.1 h2.1 a c,HasL.inj ih h1.2 h2.2 b d]
theorem Has.inj:∀ {n:Nat} {v:V} {x y:D},eqb n x=true->eqb n y=true->Has K C H v x->Has K C H v y->x=y:=by
 intro n
 induction n with
 | zero =>
  intro v x y h1 h2 a b
  cases a <;> cases b <;> first | rfl | cases h1 | cases h2
 | succ n ih =>
  intro v x y h1 h2 a b
  cases a with
  | non=>cases b;rfl
  | bl _=>cases b;rfl
  | int _=>cases b;rfl
  | lst e1 g1 =>
   cases b with
   | lst e2 g2=>rw [e1] at e2;cases e2;rw [HasL.inj ih h1 h2 g1 g2]
   | tup e2 g2=>rw [e1] at e2;cases e2
   | ob _ _ _ _=>cases h2
   | scr _=>cases h2
   | exn _=>cases h2
  | tup e1 g1 =>
   cases b with
   | tup e2 g2=>rw [e1] at e2;cases e2;rw [HasL.inj ih h1 h2 g1 g2]
   | lst e2 g2=>rw [e1] at e2;cases e2
   | ob _ _ _ _=>cases h2
   | scr _=>cases h2
   | exn _=>cases h2
  | ob _ _ _ _=>cases h1
  | scr _=>cases h1
  | exn _=>cases h1
theorem oH:∀ {n:Nat} {x:D},eqb n x=true->pyq n x x=true:=by
 intro n
 induction n with
 | zero =>
  intro x h
  cases x with
  | non=>rfl
  | bl b=>exact beq_self_eq_true _
  | int b=>exact beq_self_eq_true _
  | _=>cases h
 | succ n ih =>
  intro x h
  cases x with
  | non=>rfl
  | bl b=>exact beq_self_eq_true _
  | int b=>exact beq_self_eq_true _
  | lst xs =>
   rw [m_]
   simp only [decide_true,Bool.true_and,List.all_eq_true,List.mem_range]
   intro j hj
   have h:xs.all (eqb n)=true:=h
   rw [List.all_eq_true] at h
   have e:xs.getD j .non=xs[j]:=by simp [List.getD,List.getElem?_eq_getElem hj]
   rw [e]
   exact ih (h _ (List.getElem_mem hj))
  | tup xs =>
   rw [m9]
   simp only [decide_true,Bool.true_and,List.all_eq_true,List.mem_range]
   intro j hj
   have h:xs.all (eqb n)=true:=h
   rw [List.all_eq_true] at h
   have e:xs.getD j .non=xs[j]:=by simp [List.getD,List.getElem?_eq_getElem hj]
   rw [e]
   exact ih (h _ (List.getElem_mem hj))
  | ob _ _ _=>cases h
  | scr _=>cases h
  | exn _=>cases h
end
open SeqAt in
theorem xh {X:Cx} {C:Addr} {H:Hp} {s:Shared} {n:Nat} {A:Around} {xs ys:List D} {vs ws:List V} {its its2:List Value}
  (ih:∀ {x y:D} {v w:V} {u t:Value},eqb n x=true->eqb n y=true->Has X.K C H v x->Has X.K C H w y->RelV v u->RelV w t->EqAt A s u t (pyq n x y))
  (h1:∀ x ∈ xs,eqb n x=true) (h2:∀ x ∈ ys,eqb n x=true) (g1:HasL X.K C H vs xs) (g2:HasL X.K C H ws ys) (r:Vals vs its) (r2:Vals ws its2) (j:Nat) (h1':j < its.toArray.size) (h2':j < its2.toArray.size) :
  EqAt A s its.toArray[j] its2.toArray[j] (pyq n (xs.getD j .non) (ys.getD j .non)):=by
 have j1:j < xs.length:=by rw [<- g1.len,r.length];exact h1'
 have j2:j < ys.length:=by rw [<- g2.len,r2.length];exact h2'
 obtain ⟨vj,ev,hv⟩:=g1.get (List.getElem?_eq_getElem j1)
 obtain ⟨wj,ew,hw⟩:=g2.get (List.getElem?_eq_getElem j2)
 obtain ⟨uj,eu,ruj⟩:=r.get ev
 obtain ⟨tj,et,rtj⟩:=r2.get ew
 have eu':its.toArray[j]=uj:=(List.getElem?_eq_some_iff.mp eu).2
 have et':its2.toArray[j]=tj:=(List.getElem?_eq_some_iff.mp et).2
 have ex:xs.getD j .non=xs[j]:=by rw [List.getD,List.getElem?_eq_getElem j1];rfl
 have ey:ys.getD j .non=ys[j]:=by rw [List.getD,List.getElem?_eq_getElem j2];rfl
 rw [eu',et',ex,ey]
 exact ih (h1 _ (List.getElem_mem j1)) (h2 _ (List.getElem_mem j2)) hv hw ruj rtj
open SeqAt in
theorem qz {X:Cx} {C:Addr} {pins:List (Addr × Obj)} {σ:St} {H:Hp} {s:Shared} (I:Inv X pins σ H s):∀ (n:Nat) {A:Around} {x y:D} {v w:V} {u t:Value},A.units + n < cLine->eqb n x=true->eqb n y=true->Has X.K C H v x->Has X.K C H w y->RelV v u->RelV w t ->
  RcAt A s u t (pyq n x y)/\EqAt A s u t (pyq n x y)/\RcNeAt A s u t (!pyq n x y):=by
 intro n
 induction n with
 | zero =>
  intro A x y v w u t hu h1 h2 a b ru rt
  cases a with
  | non =>
   cases ru
   cases b with
   | non=>cases rt;exact ⟨RcAt.none_none,EqAt.same _,RcNeAt.none_none⟩
   | bl _=>cases rt;exact ⟨RcAt.none_bool _,EqAt.none_bool _,RcNeAt.none_bool _⟩
   | int _=>obtain ⟨_,rfl⟩:=rt;exact ⟨RcAt.none_int _ _,EqAt.none_int _ _,RcNeAt.none_int _ _⟩
   | _=>cases h2
  | bl _ =>
   cases ru
   cases b with
   | non=>cases rt;exact ⟨RcAt.bool_none _,EqAt.bool_none _,RcNeAt.bool_none _⟩
   | bl _=>cases rt;exact ⟨RcAt.bool_bool _ _,EqAt.bool_bool _ _,RcNeAt.bool_bool _ _⟩
   | int _=>obtain ⟨_,rfl⟩:=rt;exact ⟨RcAt.bool_int _ _ _,EqAt.bool_int _ _ _,RcNeAt.bool_int _ _ _⟩
   | _=>cases h2
  | int _ =>
   obtain ⟨_,rfl⟩:=ru
   cases b with
   | non=>cases rt;exact ⟨RcAt.int_none _ _,EqAt.int_none _ _,RcNeAt.int_none _ _⟩
   | bl _=>cases rt;exact ⟨RcAt.int_bool _ _ _,EqAt.int_bool _ _ _,RcNeAt.int_bool _ _ _⟩
   | int _=>obtain ⟨_,rfl⟩:=rt;exact ⟨RcAt.int_int _ _ _ _,EqAt.int_int _ _ _ _,RcNeAt.int_int _ _ _ _⟩
   | _=>cases h2
  | _=>cases h1
 | succ n ih =>
  intro A x y v w u t hu h1 h2 a b ru rt
  have hA:A.units < cLine:=by omega
  have hin:A.in1.units + n < cLine:=by show A.units + 1 + n < cLine;omega
  cases a with
  | non =>
   cases ru
   cases b with
   | non=>cases rt;exact ⟨RcAt.none_none,EqAt.same _,RcNeAt.none_none⟩
   | bl _=>cases rt;exact ⟨RcAt.none_bool _,EqAt.none_bool _,RcNeAt.none_bool _⟩
   | int _=>obtain ⟨_,rfl⟩:=rt;exact ⟨RcAt.none_int _ _,EqAt.none_int _ _,RcNeAt.none_int _ _⟩
   | lst e2 g2=>cases rt;obtain ⟨its,r,p,_⟩:=I.list (SqL.of e2);exact ⟨RcAt.none_list p.isList hA,EqAt.none_list p.isList hA,RcNeAt.none_list p.isList hA⟩
   | tup e2 g2=>cases rt;obtain ⟨its,r,p,_⟩:=I.tuple (SqT.of e2);exact ⟨RcAt.none_tuple p hA,EqAt.none_tuple p hA,RcNeAt.none_tuple p hA⟩
   | _=>cases h2
  | bl _ =>
   cases ru
   cases b with
   | non=>cases rt;exact ⟨RcAt.bool_none _,EqAt.bool_none _,RcNeAt.bool_none _⟩
   | bl _=>cases rt;exact ⟨RcAt.bool_bool _ _,EqAt.bool_bool _ _,RcNeAt.bool_bool _ _⟩
   | int _=>obtain ⟨_,rfl⟩:=rt;exact ⟨RcAt.bool_int _ _ _,EqAt.bool_int _ _ _,RcNeAt.bool_int _ _ _⟩
   | lst e2 g2=>cases rt;obtain ⟨its,r,p,_⟩:=I.list (SqL.of e2);exact ⟨RcAt.bool_list _ p.isList hA,EqAt.bool_list _ p.isList hA,RcNeAt.bool_list _ p.isList hA⟩
   | tup e2 g2=>cases rt;obtain ⟨its,r,p,_⟩:=I.tuple (SqT.of e2);exact ⟨RcAt.bool_tuple _ p hA,EqAt.bool_tuple _ p hA,RcNeAt.bool_tuple _ p hA⟩
   | _=>cases h2
  | int _ =>
   obtain ⟨_,rfl⟩:=ru
   cases b with
   | non=>cases rt;exact ⟨RcAt.int_none _ _,EqAt.int_none _ _,RcNeAt.int_none _ _⟩
   | bl _=>cases rt;exact ⟨RcAt.int_bool _ _ _,EqAt.int_bool _ _ _,RcNeAt.int_bool _ _ _⟩
   | int _=>obtain ⟨_,rfl⟩:=rt;exact ⟨RcAt.int_int _ _ _ _,EqAt.int_int _ _ _ _,RcNeAt.int_int _ _ _ _⟩
   | lst e2 g2=>cases rt;obtain ⟨its,r,p,_⟩:=I.list (SqL.of e2);exact ⟨RcAt.int_list _ _ p.isList hA,EqAt.int_list _ _ p.isList hA,RcNeAt.int_list _ _ p.isList hA⟩
   | tup e2 g2=>cases rt;obtain ⟨its,r,p,_⟩:=I.tuple (SqT.of e2);exact ⟨RcAt.int_tuple _ _ p hA,EqAt.int_tuple _ _ p hA,RcNeAt.int_tuple _ _ p hA⟩
   | _=>cases h2
  | @lst la vs xs e1 g1 =>
   cases ru
   obtain ⟨its,r,p,_⟩:=I.list (SqL.of e1)
   cases b with
   | non=>cases rt;exact ⟨RcAt.list_none p.isList hA,EqAt.list_none p.isList hA,RcNeAt.list_none p.isList hA⟩
   | bl _=>cases rt;exact ⟨RcAt.list_bool _ p.isList hA,EqAt.list_bool _ p.isList hA,RcNeAt.list_bool _ p.isList hA⟩
   | int _=>obtain ⟨_,rfl⟩:=rt;exact ⟨RcAt.list_int _ _ p.isList hA,EqAt.list_int _ _ p.isList hA,RcNeAt.list_int _ _ p.isList hA⟩
   | tup e2 g2=>cases rt;obtain ⟨its2,r2,p2,_⟩:=I.tuple (SqT.of e2);exact ⟨RcAt.list_tuple p.isList p2 hA,EqAt.list_tuple p.isList p2 hA,RcNeAt.list_tuple p.isList p2 hA⟩
   | @lst lb ws ys e2 g2 =>
    cases rt
    obtain ⟨its2,r2,p2,_⟩:=I.list (SqL.of e2)
    have l1:its.length=xs.length:=by rw [<- r.length,g1.len]
    have l2:its2.length=ys.length:=by rw [<- r2.length,g2.len]
    have el:=xh (A:=A.in1) (s:=s) (fun a b c d e f=>(ih hin a b c d e f).2.1) (List.all_eq_true.mp h1) (List.all_eq_true.mp h2) g1 g2 r r2
    have rc:RcAt A s (.ref la) (.ref lb) (pyq (n + 1) (.lst xs) (.lst ys)):=by
     rw [m_]
     by_cases hl:xs.length=ys.length
     ·have q:=RcAt.lists (A:=A) (s:=s) (e:=fun j=>pyq n (xs.getD j .non) (ys.getD j .non)) p.isList p2.isList (by simp [l1,l2,hl]) hA el
      have es:its.toArray.size=xs.length:=by simp [l1]
      rw [es] at q
      rw [decide_eq_true hl,Bool.true_and]
      exact q
     ·rw [decide_eq_false hl,Bool.false_and]
      exact RcAt.lists_lengths p.isList p2.isList (by simp [l1,l2,hl]) hA
    have rn:RcNeAt A s (.ref la) (.ref lb) (!pyq (n + 1) (.lst xs) (.lst ys)):=by
     rw [m_]
     by_cases hl:xs.length=ys.length
     ·have q:=RcNeAt.lists (A:=A) (s:=s) (e:=fun j=>pyq n (xs.getD j .non) (ys.getD j .non)) p.isList p2.isList (by simp [l1,l2,hl]) hA el
      have es:its.toArray.size=xs.length:=by simp [l1]
      rw [es] at q
      rw [decide_eq_true hl,Bool.true_and]
      exact q
     ·rw [decide_eq_false hl,Bool.false_and]
      exact RcNeAt.lists_lengths p.isList p2.isList (by simp [l1,l2,hl]) hA
    refine ⟨rc,?_,rn⟩
    by_cases hab:la=lb
    ·subst hab
     have:=Has.inj h1 h2 (.lst e1 g1) (.lst e2 g2)
     rw [this,oH h2]
     exact EqAt.same _
    ·exact EqAt.of_refs hab rc
   | _=>cases h2
  | @tup la vs xs e1 g1 =>
   cases ru
   obtain ⟨its,r,p,_⟩:=I.tuple (SqT.of e1)
   cases b with
   | non=>cases rt;exact ⟨RcAt.tuple_none p hA,EqAt.tuple_none p hA,RcNeAt.tuple_none p hA⟩
   | bl _=>cases rt;exact ⟨RcAt.tuple_bool _ p hA,EqAt.tuple_bool _ p hA,RcNeAt.tuple_bool _ p hA⟩
   | int _=>obtain ⟨_,rfl⟩:=rt;exact ⟨RcAt.tuple_int _ _ p hA,EqAt.tuple_int _ _ p hA,RcNeAt.tuple_int _ _ p hA⟩
   | lst e2 g2=>cases rt;obtain ⟨its2,r2,p2,_⟩:=I.list (SqL.of e2);exact ⟨RcAt.tuple_list p p2.isList hA,EqAt.tuple_list p p2.isList hA,RcNeAt.tuple_list p p2.isList hA⟩
   | @tup lb ws ys e2 g2 =>
    cases rt
    obtain ⟨its2,r2,p2,_⟩:=I.tuple (SqT.of e2)
    have l1:its.length=xs.length:=by rw [<- r.length,g1.len]
    have l2:its2.length=ys.length:=by rw [<- r2.length,g2.len]
    have el:=xh (A:=A.in1) (s:=s) (fun a b c d e f=>(ih hin a b c d e f).2.1) (List.all_eq_true.mp h1) (List.all_eq_true.mp h2) g1 g2 r r2
    have rc:RcAt A s (.ref la) (.ref lb) (pyq (n + 1) (.tup xs) (.tup ys)):=by
     rw [m9]
     have q:=RcAt.tuples (A:=A) (s:=s) (e:=fun j=>pyq n (xs.getD j .non) (ys.getD j .non)) p p2 hA el
     have es:its.toArray.size=xs.length:=by simp [l1]
     have es2:its2.toArray.size=ys.length:=by simp [l2]
     rw [es,es2] at q
     by_cases hl:xs.length=ys.length
     ·rw [hl,Nat.min_self,beq_self_eq_true,Bool.and_true] at q
      rw [decide_eq_true hl,Bool.true_and,hl]
      exact q
     ·rw [decide_eq_false hl,Bool.false_and]
      rw [show (xs.length == ys.length)=false by simpa using hl,Bool.and_false] at q
      exact q
    have rn:RcNeAt A s (.ref la) (.ref lb) (!pyq (n + 1) (.tup xs) (.tup ys)):=by
     rw [m9]
     have q:=RcNeAt.tuples (A:=A) (s:=s) (e:=fun j=>pyq n (xs.getD j .non) (ys.getD j .non)) p p2 hA el
     have es:its.toArray.size=xs.length:=by simp [l1]
     have es2:its2.toArray.size=ys.length:=by simp [l2]
     rw [es,es2] at q
     by_cases hl:xs.length=ys.length
     ·rw [hl,Nat.min_self,beq_self_eq_true,Bool.and_true] at q
      rw [decide_eq_true hl,Bool.true_and,hl]
      exact q
     ·rw [decide_eq_false hl,Bool.false_and]
      rw [show (xs.length == ys.length)=false by simpa using hl,Bool.and_false] at q
      exact q
    refine ⟨rc,?_,rn⟩
    by_cases hab:la=lb
    ·subst hab
     have:=Has.inj h1 h2 (.tup e1 g1) (.tup e2 g2)
     rw [this,oH h2]
     exact EqAt.same _
    ·exact EqAt.of_refs hab rc
   | _=>cases h2
  | _=>cases h1
open SeqAt in
theorem xg {X:Cx} {C:Addr} {pins:List (Addr × Obj)} {σ:St} {H:Hp} {s:Shared} (I:Inv X pins σ H s):∀ (n:Nat) {A:Around} {x y:D} {v w:V} {u t:Value},A.units + n < cLine->eqb n x=true->eqb n y=true->Has X.K C H v x->Has X.K C H w y->RelV v u->RelV w t ->
  RcAt A s u t (pyq n x y)/\EqAt A s u t (pyq n x y) :=
 fun n _ _ _ _ _ _ _ hu h1 h2 a b c d=>⟨(qz I n hu h1 h2 a b c d).1,(qz I n hu h1 h2 a b c d).2.1⟩
open SeqAt in
theorem zE {X:Cx} {C:Addr} {pins:List (Addr × Obj)} {σ:St} {H:Hp} {s:Shared} (I:Inv X pins σ H s):∀ (n:Nat) {A:Around} {x y:D} {v w:V} {u t:Value},A.units + n < cLine->eqb n x=true->eqb n y=true->Has X.K C H v x->Has X.K C H w y->RelV v u->RelV w t ->
  RcNeAt A s u t (!pyq n x y) :=
 fun n _ _ _ _ _ _ _ hu h1 h2 a b c d=>(qz I n hu h1 h2 a b c d).2.2
theorem Brw.has {K:PySem.W.Frag} {C:Addr} {M H:Hp} {v:V} {d:D} (s:Same M H) (h:Brw K C M H v d):Has K C H v d:=by
 cases h with
 | cl h=>exact h.mono s
 | own e h=>exact .lst e (h.mono s)
section
variable {C:Addr} {X:Cx}
noncomputable def feq (x y:D):R D:=if eqb 9 x=true/\eqb 9 y=true then .val (.bl (pyq 9 x y)) else .bad
noncomputable def fne (x y:D):R D:=if eqb 9 x=true/\eqb 9 y=true then .val (.bl (!pyq 9 x y)) else .bad
noncomputable def vG (K:PySem.W.Frag) (C:Addr) (neg:Bool):R2:=fun v w H Q=>∃ x y,eqb 9 x=true/\eqb 9 y=true/\Has K C H v x/\Has K C H w y/\Q (.bl (if neg then !pyq 9 x y else pyq 9 x y)) H
theorem t7 (hu:X.A.units + 9 < cLine):OpR X (compareOp .Eq) (vG X.K C false):=by
 intro pins s σ H x y v u Q I rx ry h
 obtain ⟨dx,dy,e1,e2,h1,h2,q⟩:=h
 exact (xg I 9 hu e1 e2 h1 h2 rx ry).1 _ _ _ _ ⟨.bl _,H,I,rfl,q⟩
theorem yc (hu:X.A.units + 9 < cLine):OpR X (compareOp .NotEq) (vG X.K C true):=by
 intro pins s σ H x y v u Q I rx ry h
 obtain ⟨dx,dy,e1,e2,h1,h2,q⟩:=h
 exact zE I 9 hu e1 e2 h1 h2 rx ry _ _ _ _ ⟨.bl _,H,I,rfl,q⟩
theorem tY:OpD C X (vG X.K C false) feq:=by
 intro ρ σ H v w x y z Q r hx hy e k
 unfold feq at e
 split at e
 ·rename_i hh
  cases e
  exact ⟨x,y,hh.1,hh.2,hx.has msk_sub,hy.has msk_sub,k _ H (Same.refl _) (.bl _)⟩
 ·cases e
theorem xZ:OpD C X (vG X.K C true) fne:=by
 intro ρ σ H v w x y z Q r hx hy e k
 unfold fne at e
 split at e
 ·rename_i hh
  cases e
  exact ⟨x,y,hh.1,hh.2,hx.has msk_sub,hy.has msk_sub,k _ H (Same.refl _) (.bl _)⟩
 ·cases e
theorem wZ:e7 feq:=fun x y c e=>by unfold feq at e;split at e <;> cases e
theorem zu:e7 fne:=fun x y c e=>by unfold fne at e;split at e <;> cases e
theorem xi {a b:Expr} {pos:Pos} {Fa Fb:Rho->R D} (hu:X.A.units + 9 < cLine) (ha:EB C X a Fa) (hb:EB C X b Fb):ED C X (.Compare a [.Eq] [b] pos) (bin feq Fa Fb):=yP (t7 (C:=C) hu) wZ tY ha hb (kS _)
theorem gK {a b:Expr} {pos:Pos} {Fa Fb:Rho->R D} (hu:X.A.units + 9 < cLine) (ha:EB C X a Fa) (hb:EB C X b Fb):TD C X (.Compare a [.Eq] [b] pos) (tst (bin feq Fa Fb)):=kG (t7 (C:=C) hu) wZ tY ha hb (kS _)
theorem d7 {a b:Expr} {pos:Pos} {Fa Fb:Rho->R D} (hu:X.A.units + 9 < cLine) (ha:EB C X a Fa) (hb:EB C X b Fb):TD C X (.Compare a [.NotEq] [b] pos) (tst (bin fne Fa Fb)):=kG (yc (C:=C) hu) zu xZ ha hb (kS _)
end
end DL
namespace DL
open PySem PySem.Spec PyProof.Rows L2
variable {C:Addr} {X:Cx}
noncomputable def Ite (K:PySem.W.Frag) (a:Addr):It :=
 ⟨fun i H=>∃ xs x,SqL K H a xs/\xs[i]?=some x,fun i H v H'=>∃ p x,H p=none/\v=.ref p/\H'=upd H p (.tup [.int (i:Int),x])/\∀ xs,SqL K H a xs->xs[i]?=some x,fun i H=>∃ xs,SqL K H a xs/\xs.length<=i⟩
theorem rV {P:Program} {w:World} {K:PySem.W.Frag} {es:List Expr} {k:Nat} {pos:Pos} (a it e:Addr) (hne:e ≠ it) :
  qA P w K (.Tuple es k pos) (Ite K a) [e,it] e (fun i h=>(∃ old,IsEnum h e it i old)/\h.IsListIter it a i) where
 mem:=by simp
 obj:=fun i h st b hb=>by
  obtain ⟨⟨old,he⟩,o,eo,c,d⟩:=st
  have hb:b=e\/b=it:=by simpa using hb
  rcases hb with rfl | rfl
  ·exact ⟨_,he,fun v z=>by have z':Data.fields _=Data.cell v:=z;cases z'⟩
  ·exact ⟨o,eo,fun v z=>by rw [d] at z;cases z⟩
 keep:=fun i h h' st kk=>by
  obtain ⟨⟨old,he⟩,st⟩:=st
  exact ⟨⟨old,kk e (by simp) _ he⟩,st.at fun o q=>kk it (by simp) o q⟩
 item:=by
  intro X hP hw hK hc i pins s σ H E I hf st hg
  subst hP hw hK
  obtain ⟨⟨old,he⟩,hit⟩:=st
  obtain ⟨xs,x,hq,hx⟩:=hg
  obtain ⟨its,rv,p,hz⟩:=I.list hq
  obtain ⟨u,hu,ru⟩:=rv.get hx
  refine wpAny_pyNext_enum_item he hit p.isList (x:=u) (by simpa using hu) hne fun h' out hit' ht hsz hk=>?_
  refine ⟨_,rfl,wpAny_letOwnedTupleGo_enum out fun h'' he'' sb=>?_⟩
  have fr:=I.fresh
  have hk2:∀ b o,b ≠ e->b ≠ it->s.heap.get? b=some o->h''.get? b=some o:=fun b o h1 h2 eo=>(sb.2 b h1).trans (hk b o h1 h2 eo)
  have hse:s.heap.objs.size ≠ e:=Nat.ne_of_gt (Heap.lt_size he)
  have ht2:h''.get? s.heap.objs.size=some { cls:=.type "tuple",data:=.seq #[.int i s.toks,u] }:=(sb.2 _ hse).trans ht
  have ne':∀ b,H b ≠ none->b ≠ e/\b ≠ it:=fun b hb=>⟨fun z=>hb (by rw [z];exact (hf e (by simp)).1),fun z=>hb (by rw [z];exact (hf it (by simp)).1)⟩
  have I1:Inv X pins σ (upd H s.heap.objs.size (.tup [.int (i:Int),x])) { s with heap:=h'',toks:=s.toks + 1 }:=by
   refine I.call' (s':={ s with heap:=h'',toks:=s.toks + 1 }) (ch:=[e,it]) rfl ⟨fun b o q n hfs hx=>hk2 b o (fun z=>hx (by simp [z])) (fun z=>hx (by simp [z])) q,fun b o q n hfs hx=>⟨o.slots,hk2 b o (fun z=>hx (by simp [z])) (fun z=>hx (by simp [z])) q⟩,
    fun b o q n hx=>?_,fun b o q hx=>⟨o,hk2 b o (fun z=>hx (by simp [z])) (fun z=>hx (by simp [z])) q⟩,fun b ys q=>?_,fun b o v q=>?_,fun b ps q=>?_⟩ (fun b o q=>?_) I.bare fun b hb=>?_
   ·rw [aE (Nat.ne_of_lt (Heap.lt_size q))];exact n
   ·rw [aE (a_ q fr)];exact q
   ·rw [aE (a_ q fr)];exact q
   ·exact ⟨#[],by rw [aE (a_ q fr),q];simp⟩
   ·by_cases hb:b=s.heap.objs.size
    ·subst hb
     rw [aU] at q;cases q
     exact ⟨by show 2<=sizeLine;decide,[.int i s.toks,u],.cons ⟨_,rfl⟩ (.cons ru .nil),⟨_,ht2,rfl,_,rfl⟩⟩
    ·rw [aE hb] at q
     refine (I.hok b o q).stay (fun c v hc qv=>?_) (fun c qc=>by rw [aE (a_ qc fr)];exact qc) fun c ys qc=>by rw [aE (a_ qc fr)];exact qc
     have hcn:H c ≠ none:=by
      rcases hc with z | z
      ·rw [z,q];simp
      ·rw [z];simp
     obtain ⟨n1,n2⟩:=ne' c hcn
     exact hk2 c v n1 n2 qv
   ·obtain ⟨g0,g1,g2,g3,g4,g5⟩:=hf b hb
    exact ⟨g3,g1,g4,g5⟩
  refine ⟨.ref s.heap.objs.size,_,I1,rfl,⟨_,x,fr,rfl,rfl,fun ys hy=>by rw [I.list_inj hy hq];exact hx⟩,⟨⟨u,?_⟩,?_⟩,fun b hb=>?_⟩
  ·have:((i:Int) + 1)=((i + 1:Nat):Int):=by push_cast;rfl
   rw [this] at he'';exact he''
  ·exact hit'.at fun o q=>(sb.2 it (Ne.symm hne)).trans q
  ·have hb':=(hf b hb).1
   have hlt:b < s.heap.objs.size:=by
    have hb:b=e\/b=it:=by simpa using hb
    rcases hb with rfl | rfl
    ·exact Heap.lt_size he
    ·obtain ⟨o,eo,_⟩:=hit;exact Heap.lt_size eo
   rw [aE (Nat.ne_of_lt hlt)];exact hb'
 done:=by
  intro X hP hw hK hc i pins s σ H E I hf st hg
  subst hP hw hK
  obtain ⟨⟨old,he⟩,hit⟩:=st
  obtain ⟨xs,hq,hx⟩:=hg
  obtain ⟨its,rv,p,hz⟩:=I.list hq
  obtain ⟨f0,f1,f2,f3,f4,f5⟩:=hf it (by simp)
  have hl:=rv.length
  exact wpAny_pyNext_enum_end (I.ok.hd hc) he hit p.isList (by simp;omega) fun h' eb=>⟨rfl,I.turned (t':=s.toks) (fun b o hb q=>eb b o hb q) f0 f1 f3 f4 f5⟩
 self:=fun _ _ _ _ _ st h=>by
  obtain ⟨⟨old,he⟩,_⟩:=st
  exact wpAny_pyIter_enum he h
noncomputable def enu:Nat->List D->List D
 | _,[]=>[]
 | k,x :: r=>.tup [.int (k:Int),x] :: enu (k + 1) r
theorem rm:∀ (k:Nat) (xs:List D),(enu k xs).length=xs.length
 | _,[]=>rfl
 | k,x :: r=>by simp [enu,rm]
theorem qm:∀ {k:Nat} {xs:List D} {i:Nat} {y:D},(enu k xs)[i]?=some y->∃ x,xs[i]?=some x/\y=.tup [.int ((k + i:Nat):Int),x]
 | _,[],_,_,e=>by simp [enu] at e
 | k,x :: r,0,y,e=>by
  simp [enu] at e
  exact ⟨x,rfl,by rw [<- e];rfl⟩
 | k,x :: r,i + 1,y,e=>by
  have e:(enu (k + 1) r)[i]?=some y:=by simpa [enu] using e
  obtain ⟨z,h1,h2⟩:=qm e
  refine ⟨z,by simpa using h1,?_⟩
  rw [h2,show k + 1 + i=k + (i + 1) by omega]
theorem rT {K:PySem.W.Frag} {a:Addr} {vs:List V} {xs:List D} {M:Hp} (e:M a=some (.lst vs)) (h:HasL K C M vs xs):ol K C (Ite K a) (enu 0 xs) M where
 go:=fun i y H2 s hy=>by
  obtain ⟨x,hx,rfl⟩:=qm hy
  obtain ⟨v,e1,h1⟩:=h.get hx
  refine ⟨⟨vs,v,SqL.of (s _ _ e),e1⟩,fun v' H3 y=>?_⟩
  obtain ⟨p,x',hp,rfl,rfl,y⟩:=y
  have e2:=y vs (SqL.of (s _ _ e))
  rw [e1] at e2;cases e2
  refine ⟨aO hp,fun ρ σ hown m=>?_⟩
  have em:msk ρ σ (upd H2 p (.tup [.int (i:Int),v])) p=some (.tup [.int (i:Int),v]):=msk_some.mpr ⟨fun z=>hown p z hp,aU⟩
  refine .tup em (.cons ?_ (.cons (h1.mono (m.trans (aX (aO hp)))) .nil))
  rw [Nat.zero_add];exact .int _
 stop:=fun H2 s=>⟨vs,SqL.of (s _ _ e),by rw [rm,h.len];exact Nat.le_refl _⟩
theorem vO {es:List Expr} {k:Nat} {tp p pos:Pos} {l:Expr} {ta:TA} (hg:Gl X "enumerate") (hm:X.mg "enumerate"=none) (ha:PA X [l] ta) (hs:starEach [l] X.env=[(false,eval l X.env)]:=by rfl) :
  PI X (.Tuple es k tp) (.Call (.Name "enumerate" p) [l] [] pos) (fun σ H R=>ta σ H fun vs H1=>∃ a xs,vs=[.ref a]/\SqL X.K H1 a xs/\R (Ite X.K a) H1):=by
 intro pins s σ H R I h
 refine Call_ (gS I hg hm boot_enumerate (PyProof.Rows.callWith_type1 (thn (ha pos pins s σ H _ I h) fun us s1 zz0=>?_) hs rfl))
 obtain ⟨vs,H1,I1,r1,q1⟩:=zz0
 obtain ⟨a,xs,e,hq,q⟩:=q1
 subst e
 cases r1 with
 | cons r rr =>
  cases rr
  cases r
  obtain ⟨its,rv,pl,hz⟩:=I1.list hq
  refine call_enumerate_list pl.isList fun h' he hit hsz kp=>?_
  have I2:Inv X pins σ H1 { s1 with heap:=h' }:=I1.kept (t':=s1.toks) kp
  refine wpAny_pyIter_enum he ?_
  have ne:s1.heap.objs.size + 1 ≠ s1.heap.objs.size:=Nat.succ_ne_self _
  refine ⟨s1.heap.objs.size + 1,[s1.heap.objs.size + 1,s1.heap.objs.size],_,_,H1,rfl,I2,rV a s1.heap.objs.size (s1.heap.objs.size + 1) ne,⟨⟨_,he⟩,hit⟩,fun b hb=>?_,q⟩
  have hb:b=s1.heap.objs.size + 1\/b=s1.heap.objs.size:=by simpa using hb
  have hle:s1.heap.objs.size<=b:=by
   rcases hb with z | z
   ·rw [z];exact Nat.le_succ _
   ·rw [z];exact Nat.le_refl _
  exact I1.fpOk hle (I1.hok.fresh hle)
noncomputable def yM:List D->R (List D)
 | [.lst xs]=>.val (enu 0 xs)
 | _=>.bad
noncomputable def fD (F:Rho->R (List D)):Rho->R (List D):=fun ρ=>(F ρ).bind yM
theorem dk {es : List Expr} {k : Nat} {tp p pos : Pos} {l : Expr} {F : Rho -> R (List D)} (hg : Gl X "enumerate") (hm : X.mg "enumerate" = none) (ha : AD C X [l] F) (hs : starEach [l] X.env = [(false, eval l X.env)] := by rfl) :
    ID C X (.Tuple es k tp) (.Call (.Name "enumerate" p) [l] [] pos) (fD F) := kt (vO hg hm ha hs) fun σ H R yy0 => by
     obtain ⟨ρ, ⟨H0, r⟩, q⟩ := yy0
     exact ⟨ρ, ⟨H0, r⟩, by
  unfold fD at q
  cases e : F ρ with
  | val ds =>
    rw [e] at q
    intro vs H1 s1 h1
    dsimp only [DL.R.bind] at q
    unfold yM at q
    split at q
    · rename_i e0
      split at e0
      · rename_i xs
        cases e0
        cases h1 with
        | cons a b =>
          cases b
          cases a with
          | lst e1 g1 => exact ⟨_, _, rfl, SqL.of (msk_sub _ _ e1), q _ H1 s1 (rT e1 g1)⟩
      · cases e0
    · rename_i e0
      split at e0 <;> cases e0
    · exact q.elim
  | exc c => rw [e] at q; exact q
  | bad => rw [e] at q; exact q⟩
noncomputable def zq:V->List V->Hp->VK->Prop:=fun x vs H Q=>∃ l xs i y,x=.ref l/\vs=[.int i,y]/\H l=some (.lst xs)/\0<=i/\i<=xs.length/\xs.length < LIM/\Q .non (upd H l (.lst (xs.take i.toNat ++ y :: xs.drop i.toNat)))
theorem sr:MtM X "list.insert" zq:=by
 intro pins s σ H x vs v us Q I rx rv h
 obtain ⟨l,xs,i,y,rfl,rfl,hH,h0,h1,hz,q⟩:=h
 cases rx
 obtain ⟨ui,uy,rfl,⟨tk,rfl⟩,ry⟩:=rv.two
 obtain ⟨z,its,n,r,hl,e⟩:=I.lstM hH
 have hfit:¬(!Builtin.List.listFitsIndex i)=true:=by
  have h63:(xs.length:Int) < 2 ^ 63:=by
   have:xs.length < 100000:=hz
   omega
  have:Builtin.List.listFitsIndex i=true:=by
   unfold Builtin.List.listFitsIndex
   rw [Bool.and_eq_true]
   exact ⟨decide_eq_true (by omega),decide_eq_true (by omega)⟩
  rw [this];simp
 refine call_meets F.slot_list_insert ⟨_,e,rfl⟩ F.entry_list_insert (F.args_list_insert_3 _ _ _) (PySem.AutoListH.list_insert_list_int_val_1 l its.toArray n i tk uy hfit (by rw [List.size_toArray,<- hl];exact z)) ⟨e,?_⟩
 have hm:min i.toNat its.length=i.toNat:=by omega
 refine ⟨.non,_,I.lset (its':=its.take i.toNat ++ uy :: its.drop i.toNat) hH e ?_ ((r.take i.toNat).append (.cons ry (r.drop i.toNat))) ?_,rfl,q⟩
 ·have hlt:¬ i < 0:=by omega
  simp only [hlt,if_false,List.size_toArray,hm]
  apply Array.ext'
  simp [hm]
  exact List.take_of_length_le (by rw [List.length_drop];exact Nat.le_refl _)
 ·rw [List.length_append,List.length_cons,List.length_take,List.length_drop]
  have:xs.length < 100000:=hz
  have h2:(100000:Nat)<=sizeLine:=by decide
  omega
noncomputable def ins (i:Nat) (k e:Rho->R D):Rho->R Out:=fun ρ=>match ρ[i]? with
 | some (some (.own xs))=>(k ρ).bind fun n=>(e ρ).bind fun d=>match n with
  | .int n=>if 0<=n/\n<=xs.length/\xs.length < LIM then .val (.nx (ρ.set i (some (.own (xs.take n.toNat ++ d :: xs.drop n.toNat))))) else .bad
  | _=>.bad
 | _=>.bad
theorem tu {i:Nat} {x:Str} {k e:Expr} {p ap cp pos:Pos} {Fk F:Rho->R D} (hv:PE X (.Name x p) (d9 i)) (hk:ED C X k Fk) (he:ED C X e F)
  (hs:∀ {to:TE} {t:TA},PE X (.Name x p) to->PA X [k,e] t->PS X (.Expr (.Call (.Attribute (.Name x p) "insert" ap) [k,e] [] cp) pos) (jK (tBM X.K "list" zq to t)):=by
   exact fun ho ha=>h8 (qR PySem.F.plainAttrs_list PySem.F.slot_list_insert PySem.F.type_list_insert sr ho ha))
  (hst:starEach [k,e] X.env=(false,eval k X.env) :: starEach [e] X.env:=by rfl) (hst2:starEach [e] X.env=(false,eval e X.env) :: starEach [] X.env:=by rfl) :
  SD C X (.Expr (.Call (.Attribute (.Name x p) "insert" ap) [k,e] [] cp) pos) (ins i Fk F) :=
 bK (hs hv (da hk (da he dP hst2) hst)) fun D σ H zz1=>by
  obtain ⟨_,H0,⟨ρ,rfl,r⟩,q⟩:=zz1
  unfold ins at q
  split at q
  ·rename_i xs e0
   obtain ⟨a,vs,e1,_,h1,h2⟩:=r.at_ i _ e0
   refine ⟨_,e1,.inl ⟨rfl,_,SqL.of h1⟩,ρ,⟨H0,r⟩,bf (P:=fun z _=>pS C X z H0 D) (fun c h=>dF r h) (fun h=>h) q fun n v H1 s1 h3 q1=>?_⟩
   refine ⟨ρ,⟨H0,r.mono s1⟩,bf (P:=fun z _=>pS C X z H0 D) (fun c h=>dF (r.mono s1) h) (fun h=>h) q1 fun d w H2 s2 h4 q2=>?_⟩
   cases n with
   | int n =>
    dsimp only at q2
    split at q2
    ·rename_i hl
     cases h3
     have h2':=h2.mono (aX (ρ:=ρ) (σ:=σ) (s1.trans s2))
     refine ⟨a,vs,n,w,rfl,rfl,s2 _ _ (s1 _ _ h1),hl.1,by rw [h2.len];exact hl.2.1,by rw [h2.len];exact hl.2.2,?_⟩
     exact q2 _ _ ⟨_,rfl,((r.mono s1).mono s2).write e0 e1 ((h2'.take _).app (.cons h4 (h2'.drop _)))⟩
    ·exact q2.elim
   | _=>exact q2.elim
  ·exact q.elim
noncomputable def zr (K:PySem.W.Frag) (C:Addr) (neg:Bool):R2:=fun v w H Q=>∃ x a vs ys,eqb 8 x=true/\ys.all (eqb 8)=true/\Has K C H v x/\w=.ref a/\H a=some (.lst vs)/\HasL K C H vs ys/\Q (.bl (if neg then !(ys.any fun y=>pyq 8 y x) else ys.any fun y=>pyq 8 y x)) H
open Classical in
theorem wl {pins:List (Addr × Obj)} {σ:St} {H:Hp} {s:Shared} (I:Inv X pins σ H s) {A:Around} (hu:A.units + 9 < cLine) {x:D} {v:V} {u:Value} {its:List Value} {vs:List V} {ys:List D} (e1:eqb 8 x=true) (e2:ys.all (eqb 8)=true) (h1:Has X.K C H v x) (rx:RelV v u)
  (h2:HasL X.K C H vs ys) (r:Vals vs its):∃ e:Value->Bool,(∀ y,y ∈ its.toArray->SeqAt.EqAt A.in1 s y u (e y))/\its.toArray.any e=ys.any fun y=>pyq 8 y x:=by
 have key:∀ (j:Nat) (t:Value) (d:D),its[j]?=some t->ys[j]?=some d->∃ w,RelV w t/\Has X.K C H w d:=fun j t d q1 q2=>by
  obtain ⟨w,g1,g2⟩:=h2.get q2
  obtain ⟨t',g3,g4⟩:=r.get g1
  rw [q1] at g3;cases g3
  exact ⟨w,g4,g2⟩
 have mem8:∀ (j:Nat) d,ys[j]?=some d->eqb 8 d=true:=fun j d q=>List.all_eq_true.mp e2 d (List.mem_of_getElem? q)
 refine ⟨fun t=>decide (∃ (j:Nat) (d:D),its[j]?=some t/\ys[j]?=some d/\pyq 8 d x=true),fun t ht=>?_,?_⟩
 ·have ht:t ∈ its:=by simpa using ht
  obtain ⟨j,hj,rfl⟩:=List.mem_iff_getElem.mp ht
  have hl:its.length=ys.length:=by rw [<- r.length,h2.len]
  have q1:its[j]?=some its[j]:=by simp [hj]
  have q2:ys[j]?=some (ys[j]'(by omega)):=by simp [show j < ys.length by omega]
  obtain ⟨w,g1,g2⟩:=key j _ _ q1 q2
  have ok:=(xg I 8 (A:=A.in1) (by show A.units + 1 + 8 < cLine;omega) (mem8 j _ q2) e1 g2 h1 g1 rx).2
  have:decide (∃ (j':Nat) (d:D),its[j']?=some its[j]/\ys[j']?=some d/\pyq 8 d x=true)=pyq 8 (ys[j]'(by omega)) x:=by
   cases hp:pyq 8 (ys[j]'(by omega)) x with
   | true=>exact decide_eq_true ⟨j,_,q1,q2,hp⟩
   | false =>
    refine decide_eq_false fun zz2=>?_
    obtain ⟨j',d,z1,z2,z3⟩:=zz2
    obtain ⟨w',g1',g2'⟩:=key j' _ _ z1 z2
    have ew:w'=w:=RelV.inj g1' g1
    subst ew
    have:=Has.inj (mem8 j' d z2) (mem8 j _ q2) g2' g2
    rw [<- this,z3] at hp;cases hp
  show SeqAt.EqAt A.in1 s its[j] u (decide (∃ (j':Nat) (d:D),its[j']?=some its[j]/\ys[j']?=some d/\pyq 8 d x=true))
  rw [this];exact ok
 ·have hl:its.length=ys.length:=by rw [<- r.length,h2.len]
  rw [Bool.eq_iff_iff]
  simp only [Array.any_eq_true,List.any_eq_true,decide_eq_true_eq]
  constructor
  ·rintro ⟨i,hi,j,d,q1,q2,q3⟩
   exact ⟨d,List.mem_of_getElem? q2,q3⟩
  ·rintro ⟨d,hd,q3⟩
   obtain ⟨j,hj,rfl⟩:=List.mem_iff_getElem.mp hd
   have hj':j < its.length:=by omega
   exact ⟨j,by simpa using hj',j,ys[j],by simp [hj'],by simp [hj],q3⟩
theorem sk (hu:X.A.units + 9 < cLine):OpR X (compareOp .NotIn) (zr X.K C true):=by
 intro pins s σ H x y v u Q I rx ry h
 obtain ⟨d,a,vs,ys,e1,e2,h1,rfl,hH,h2,q⟩:=h
 cases ry
 obtain ⟨its,r,pl,hz⟩:=I.list (SqL.of hH)
 obtain ⟨e,he,hany⟩:=wl I hu e1 e2 h1 rx h2 r
 exact SeqAt.notIn_listAt e pl.isList he ⟨.bl _,H,I,by rw [hany];rfl,q⟩
noncomputable def j5 (neg:Bool) (x y:D):R D:=match y with
 | .lst ys=>if eqb 8 x=true/\ys.all (eqb 8)=true then .val (.bl (if neg then !(ys.any fun y=>pyq 8 y x) else ys.any fun y=>pyq 8 y x)) else .bad
 | _=>.bad
theorem ya (neg:Bool):OpD C X (zr X.K C neg) (j5 neg):=by
 intro ρ σ H v w x y z Q r hx hy e k
 unfold j5 at e
 split at e
 ·rename_i ys
  split at e
  ·rename_i hh
   cases e
   obtain ⟨a,vs,rfl,e1,h2⟩:=hy.lst msk_sub
   exact ⟨x,a,vs,ys,hh.1,hh.2,hx.has msk_sub,rfl,e1,h2.mono msk_sub,k _ H (Same.refl _) (.bl _)⟩
  ·cases e
 ·cases e
theorem zx (neg:Bool):e7 (j5 neg):=fun x y c e=>by
 unfold j5 at e
 split at e
 ·split at e <;> cases e
 ·cases e
theorem xq {a b:Expr} {pos:Pos} {Fa Fb:Rho->R D} (hu:X.A.units + 9 < cLine) (ha:EB C X a Fa) (hb:EB C X b Fb) (hm:behindInMarks .NotIn b=false:=by rfl):TD C X (.Compare a [.NotIn] [b] pos) (tst (bin (j5 true) Fa Fb)):=kG (sk (C:=C) hu) (zx _) (ya _) ha hb hm
end DL
namespace DL
open PySem PySem.Spec PyProof.Rows L2
open AutoSeq1 (wpAny_loadPart')
section
variable {prog:Program} {w:World} {A:Around} {E:Value->Shared->Prop} {s:Shared}
theorem jf {Q:List Value->Shared->Prop} {r:Addr} {a b c:Int} {t u v:Tok} {n:Nat} (hh:A.handled=none) (hr:IsRange s.heap r a b c t u v) (hsmall:Builtin.Range.small a b c=true)
  (hn:Builtin.Range.rangeSize a b c=n) (hlen:n<=2 ^ 24)
  (hQ:∀ h' tk acc,(∀ b o',s.heap.get? b=some o'->h'.get? b=some o')->ItemsOf (fun i v=>∃ t,v=.int (a + i * c) t) acc n->Q acc.toList { s with heap:=h',toks:=tk }) :
  wpAny (model prog w) A (collect (.ref r)) Q E s:=by
 unfold collect
 refine wpAny_bind (wpAny_runValue (codeAny_builtin F.entry_proto_collect ?_))
 rw [Around.under_plainId F.plain_proto_collect _]
 show wpAny _ A.in1 (newList [] >>= fun l=>again (.builtin "list.__iadd__" ⟨[l,.ref r],[]⟩)) _ _ s
 refine wpAny_bind (wpAny_newObj_type ?_)
 refine wpAny_pure ⟨plainId_quiet F.plain_list_iadd _,codeAny_builtin F.entry_list_iadd ?_⟩
 rw [Around.under_plainId F.plain_list_iadd _]
 show wpAny _ A.in1 (Builtin.List.listExtendWith (.ref s.heap.objs.size) (.ref r) (.ref s.heap.objs.size)) _ _ _
 have hS:(s.heap.push { cls:=.type "list",data:=.seq ([]:List Value).toArray }).get? s.heap.objs.size=some { cls:=.type "list",data:=.seq #[] 0 }:=Heap.get?_push_size _ rfl
 have fin':∀ h' tk acc c',(∀ b o',s.heap.get? b=some o'->h'.get? b=some o')->h'.get? s.heap.objs.size=some { cls:=.type "list",dict:=none,data:=.seq acc c',slots:=#[] }->ItemsOf (fun i v=>∃ t,v=.int (a + i * c) t) acc n ->
   wpAny (model prog w) A (match Value.ref s.heap.objs.size with
   | Value.ref a=>do
    match (<- load a).data with
     | Data.seq xs _=>pure xs.toList
     | _=>unsupported "internal:collect"
   | _=>unsupported "internal:collect") Q E { s with heap:=h',toks:=tk }:=fun h' tk acc c' hk hS' hacc=>by
  show wpAny _ A (load s.heap.objs.size >>= _) _ _ _
  refine wpAny_bind (wpAny_load hS' ?_)
  exact wpAny_pure (hQ h' tk acc hk hacc)
 refine wpAny_mono (wpAny_extend_range (A:=A) (R:=fun res s'=>∃ h' tk acc c',res=.ok (.ret (.ref s.heap.objs.size))/\s'={ s with heap:=h',toks:=tk }/\(∀ b o',s.heap.get? b=some o'->h'.get? b=some o') /\
   h'.get? s.heap.objs.size=some { cls:=.type "list",dict:=none,data:=.seq acc c',slots:=#[] }/\ItemsOf (fun i v=>∃ t,v=.int (a + i * c) t) acc n)
  (s:={ s with heap:=s.heap.push { cls:=.type "list",data:=.seq ([]:List Value).toArray } }) hh (Heap.get?_push_of_some _ hr) hsmall hn hlen s.heap.objs.size _ 0 hS fun h' tk acc' c' hk hS' hacc=>⟨h',tk,acc',c',rfl,rfl,fun b o' hb=>hk b o' (Nat.ne_of_lt (Heap.lt_size hb)) (Heap.get?_push_of_some _ hb),hS',hacc⟩) (fun fin s' h=>?_) (fun e s' h=>?_)
 ·cases fin with
  | done f =>
   obtain ⟨h',tk,acc,c',e,rfl,hk,hS',hacc⟩:=h
   cases e
   exact fin' h' tk acc c' hk hS' hacc
  | again c'=>exact ⟨h.1,codeAny_mono h.2 fun r s'' hr=>by obtain ⟨h',tk,acc,c',rfl,rfl,hk,hS',hacc⟩:=hr;exact fin' h' tk acc c' hk hS' hacc⟩
 ·obtain ⟨_,_,_,_,e,_⟩:=h
  exact absurd e (by simp)
theorem g_ {Q₁:Value->Shared->Prop} {r:Addr} {a b c:Int} {t u v:Tok} {n:Nat} (hh:A.handled=none) (hr:IsRange s.heap r a b c t u v) (hsmall:Builtin.Range.small a b c=true)
  (hn:Builtin.Range.rangeSize a b c=n) (hlen:n<=2 ^ 24)
  (h:∀ (h':Heap) (tk:Nat) (acc:Array Value),(∀ b o',s.heap.get? b=some o'->h'.get? b=some o')->ItemsOf (fun i v=>∃ t,v=.int (a + i * c) t) acc n->Q₁ (.ref h'.objs.size) { s with heap:=h'.push { cls:=.type "tuple",data:=.seq acc },toks:=tk }) (hsz:n<=sizeLine) :
  codeAny (model prog w) A (.call (.builtin "tuple.__new__") ⟨[.type "tuple",.ref r],[]⟩) (wants Q₁ E) s:=by
 refine codeAny_of_tree ?_
 show wpAny _ A.in1 (do checkBuiltinCall "tuple.__new__" ⟨[.type "tuple",.ref r],[]⟩;again (.builtin "tuple.__new__" ⟨[.type "tuple",.ref r],[]⟩)) _ _ s
 refine wpAny_bind (wpAny_of_eq (F.newCall_tuple_1 _) (wpAny_pure ⟨plainId_quiet F.plain_tuple_new _,codeAny_builtin F.entry_tuple_new ?_⟩))
 rw [Around.under_plainId F.plain_tuple_new _]
 have hsub:=sub_tuple_self
 have hinit:=init_tuple_lookup
 have hmh:=madeHere_tuple
 have hTI:s.TypeIs (.ref r) "range":=⟨_,hr,rfl⟩
 have hhi:A.in1.handled=none:=hh
 wp_walk using wpAny_typeOf hTI,jf (A:=A.in1) hhi hr hsmall hn hlen
 intro h' tk acc hk hacc
 show wpAny _ _ (Builtin.Tuple.tupleExact acc.toList.toArray >>= fun v=>PySem.ret v) _ _ _
 unfold Builtin.Tuple.tupleExact
 refine wpAny_bind (wpAny_newObj_type ?_ (by show acc.toList.toArray.size<=sizeLine;simp only [Array.toArray_toList];rw [hacc.1];exact hsz))
 refine wpAny_pure ?_
 have e:acc.toList.toArray=acc:=by simp
 rw [e]
 exact h h' tk acc hk hacc
theorem jz {Q:Value->Shared->Prop} {r:Addr} {a b c:Int} {t u v:Tok} {n:Nat} (hh:A.handled=none) (hr:IsRange s.heap r a b c t u v) (hsmall:Builtin.Range.small a b c=true)
  (hn:Builtin.Range.rangeSize a b c=n) (hlen:n<=2 ^ 24)
  (h:∀ (h':Heap) (tk:Nat) (acc:Array Value),(∀ b o',s.heap.get? b=some o'->h'.get? b=some o')->ItemsOf (fun i v=>∃ t,v=.int (a + i * c) t) acc n->Q (.ref h'.objs.size) { s with heap:=h'.push { cls:=.type "tuple",data:=.seq acc },toks:=tk }) (hsz:n<=sizeLine) :
  wpAny (model prog w) A (call (.type "tuple") [.ref r]) Q E s:=by
 refine callType_codes (Q₁:=fun obj s₁=>s₁.TypeIs obj "tuple"/\Q obj s₁) F.called_tuple (F.typeCall_tuple_1 _) F.entry_object_init
  (g_ hh hr hsmall hn hlen (fun h' tk acc hm hacc=>⟨⟨_,Heap.get?_push_size _ rfl,rfl⟩,h h' tk acc hm hacc⟩) hsz) fun obj s₁ h₁=>?_
 exact ⟨h₁.1,F.args_object_init_2 obj _,object_init_meets F.called_tuple.init.lookup F.called_tuple.made (by decide) prog w A.in1 _ s₁ ⟨h₁.1,rfl,h₁.2⟩⟩
end
section
variable {C:Addr} {X:Cx}
noncomputable def Ac (ta:TA):TE:=fun σ H Q=>ta σ H fun vs H1=>∃ j:Int,vs=[.int j]/\-(2 ^ 62)<=j/\j < 2 ^ 62/\∀ r,H1 r=none->Q (.ref r) (upd H1 r (.rng 0 j))
theorem xS {a:Expr} {ta:TA} {p pos:Pos} (hg:Gl X "range") (hm:X.mg "range"=none) (ha:PA X [a] ta) (hs:starEach [a] X.env=[(false,eval a X.env)]:=by rfl):PE X (.Call (.Name "range" p) [a] [] pos) (Ac ta):=by
 intro pins s σ H Q I h
 refine Call_ (gS I hg hm boot_range (PyProof.Rows.callWith_type1 (thn (ha pos pins s σ H _ I h) fun us s1 zz0=>?_) hs rfl))
 obtain ⟨vs,H1,I1,r1,q1⟩:=zz0
 obtain ⟨j,e,q1,q2,q⟩:=q1
 subst e
 cases r1 with
 | cons r rr =>
  cases rr
  obtain ⟨t,rfl⟩:=r
  refine call_range_1 ?_
  exact ⟨.ref s1.heap.objs.size,_,I1.laid (a:=s1.heap.objs.size) (o:=.rng 0 j) (fun b u e=>Heap.get?_push_of_some _ e) (Nat.le_refl _) ⟨_,_,_,Heap.get?_push_size _ rfl⟩,rfl,q _ I1.fresh⟩
theorem pM {acc:List Value} {n:Nat} (h:acc.length=n) (hv:∀ (j:Nat) v,acc[j]?=some v->∃ t,v=.int (0 + (j:Int) * 1) t):Vals ((List.range n).map fun (k:Nat)=>V.int (0 + (k:Int))) acc:=by
 induction n generalizing acc with
 | zero=>cases acc with
  | nil=>exact .nil
  | cons x r=>simp at h
 | succ n ih =>
  have hne:acc ≠ []:=by intro z;rw [z] at h;cases h
  have e:acc=acc.dropLast ++ [acc.getLast hne]:=(List.dropLast_concat_getLast hne).symm
  have hl:acc.dropLast.length=n:=by rw [List.length_dropLast,h];rfl
  rw [List.range_succ,List.map_append,e]
  refine Vals.append (ih hl fun j v q=>?_) (.cons ?_ .nil)
  ·refine hv j v ?_
   rw [e,List.getElem?_append_left (List.getElem?_eq_some_iff.mp q).1];exact q
  ·obtain ⟨t,et⟩:=hv n (acc.getLast hne) (by rw [List.getLast_eq_getElem,List.getElem?_eq_getElem (by omega)];congr 1;simp [h])
   exact ⟨t,by rw [et];simp⟩
noncomputable def tG:List V->Hp->VK->Prop:=fun xs H Q=>∃ r j,xs=[.ref r]/\H r=some (.rng 0 j)/\-(2 ^ 62)<=j/\j<=100000/\∀ p,H p=none->Q (.ref p) (upd H p (.tup ((List.range j.toNat).map fun (k:Nat)=>V.int (0 + (k:Int)))))
theorem hE (hc:X.calm=true):jR X (.type "tuple") tG:=by
 intro pins s σ H xs us Q I r h
 obtain ⟨ra,j,rfl,hq,hj0,hj,q⟩:=h
 obtain ⟨u,rfl,rx⟩:=ot r
 cases rx
 obtain ⟨t,u',v',e⟩:=I.hok ra _ hq
 have hn:Builtin.Range.rangeSize 0 j 1=(j.toNat:Nat):=by rw [rangeSize_one];split <;> omega
 have hsm:Builtin.Range.small 0 j 1=true:=small_one (by decide) (by decide) hj0 (by omega)
 refine jz (n:=j.toNat) (I.ok.hd hc) e hsm hn (by omega) (fun h' tk acc hk hacc=>?_) (Nat.le_trans (show j.toNat<=100000 by omega) (by decide))
 have I1:Inv X pins σ H { s with heap:=h',toks:=tk }:=I.kept hk
 have hv:Vals ((List.range j.toNat).map fun (k:Nat)=>V.int (0 + (k:Int))) acc.toList:=pM (by simpa using hacc.1) fun i v q=>hacc.2 i v (by simpa using q)
 have I2:Inv X pins σ (upd H h'.objs.size (.tup ((List.range j.toNat).map fun (k:Nat)=>V.int (0 + (k:Int))))) { s with heap:=h'.push { cls:=.type "tuple",data:=.seq acc },toks:=tk } :=
  I1.laid (t':=tk) (fun b o e=>Heap.get?_push_of_some _ e) (Nat.le_refl _) (show ObjOk X.prog X.w _ _ _ (.tup _) from ⟨by rw [List.length_map,List.length_range];exact Nat.le_trans (show j.toNat<=100000 by omega) (by decide),acc.toList,hv,by simpa using IsTup.new _ _⟩)
 exact ⟨.ref h'.objs.size,_,I2,rfl,q _ I1.fresh⟩
noncomputable def rgT:List D->R D
 | [.int j]=>if -(2 ^ 62)<=j/\j<=100000 then .val (.tup (rng 0 j.toNat)) else .bad
 | _=>.bad
noncomputable def g8 (F:Rho->R (List D)):Rho->R D:=fun ρ=>(F ρ).bind rgT
theorem uC {K:PySem.W.Frag} {H:Hp} (n:Nat):HasL K C H ((List.range n).map fun (k:Nat)=>V.int (0 + (k:Int))) (rng 0 n):=by
 unfold rng
 induction List.range n with
 | nil=>exact .nil
 | cons x r ih=>exact .cons (.int _) ih
theorem pj {a : Expr} {p p2 pos pos2 : Pos} {F : Rho -> R (List D)} (hc : X.calm = true) (ha : AD C X [a] F) (hgr : Gl X "range") (hmr : X.mg "range" = none) (hgt : Gl X "tuple") (hmt : X.mg "tuple" = none)
    (hs : starEach [a] X.env = [(false, eval a X.env)] := by rfl) (hs2 : starEach [.Call (.Name "range" p2) [a] [] pos2] X.env = (false, eval (.Call (.Name "range" p2) [a] [] pos2) X.env) :: starEach [] X.env := by rfl)
    (hs3 : ∀ t : TA, PA X [.Call (.Name "range" p2) [a] [] pos2] t -> PE X (.Call (.Name "tuple" p) [.Call (.Name "range" p2) [a] [] pos2] [] pos) (tCB tG t) := by
      exact fun t ha => bp (hE (by assumption)) (by assumption) (by assumption) PySem.boot_tuple ha) :
    ED C X (.Call (.Name "tuple" p) [.Call (.Name "range" p2) [a] [] pos2] [] pos) (g8 F) :=
  aR (hs3 _ (da (xS hgr hmr ha hs) dP hs2)) fun σ H Q yy0 => by
   obtain ⟨ρ, ⟨H0, r⟩, q⟩ := yy0
   exact ⟨ρ, ⟨H0, r⟩, dQ (P := fun z H => pV X (eD C X ρ σ) z σ H Q) (fun _ h => h) (fun h => h) q fun ds vs H1 s1 h1 q1 => by
    unfold rgT at q1
    split at q1
    · rename_i j
      split at q1
      · rename_i hj
        cases h1 with
        | cons a b =>
          cases a; cases b
          refine ⟨j, rfl, hj.1, by omega, fun ra hra => ⟨ra, j, rfl, aU, hj.1, hj.2, fun pa hpa => q1 _ _ ((s1.trans (aO hra)).trans (aO hpa)) ?_⟩⟩
          exact .tup (((r.mono s1).mono (aO hra)).new hpa) (uC _)
      · exact q1.elim
    · exact q1.elim⟩
end
end DL
namespace DL
open PySem PySem.Spec PyProof.Rows L2
noncomputable def IsArr (h:Heap) (k:KA) (a:Addr):Prop:=∃ ta t1 t2 its,IsTup h a #[.int k.1 t1,.int k.2.1 t2,.ref ta]/\IsTup h ta its.toArray/\IntsAre its k.2.2
theorem o3 {prog:Program} {w:World}:∀ {its:List Value} {ks:List Int},IntsAre its ks->ItemsAre (intKind prog w) ks its
 | _,_,.nil=>.nil
 | _,_,.cons n t h=>.cons (by show Value.isInt n (.int n t)=true;simp [Value.isInt]) (o3 h)
theorem mV {prog:Program} {w:World} {h:Heap} {ta:Addr} {its:List Value} {ks:List Int} (h1:IsTup h ta its.toArray) (h2:IntsAre its ks):IsTupleKey (intKind prog w) h ks ta:=by
 obtain ⟨o,ho,hc,n,hd⟩:=h1
 exact ⟨o,its.toArray,n,ho,hc,hd,by simpa using o3 h2⟩
theorem jO:∀ {its:List Value} {ks ls:List Int},IntsAre its ks->IntsAre its ls->ks=ls
 | _,_,_,.nil,.nil=>rfl
 | _,_,_,.cons n t h,.cons _ _ h'=>by rw [jO h h']
theorem mH {h:Heap} {a:Addr} {x y:Array Value} (h1:IsTup h a x) (h2:IsTup h a y):x=y:=by
 obtain ⟨o,ho,hc,n,hd⟩:=h1
 obtain ⟨o',ho',hc',n',hd'⟩:=h2
 rw [ho] at ho';cases ho'
 rw [hd] at hd';injection hd'
theorem IsArr.inj {h:Heap} {k l:KA} {a:Addr} (h1:IsArr h k a) (h2:IsArr h l a):k=l:=by
 obtain ⟨ta,t1,t2,its,q1,q2,q3⟩:=h1
 obtain ⟨tb,u1,u2,jts,p1,p2,p3⟩:=h2
 have e:=mH q1 p1
 have e':=congrArg Array.toList e
 simp only [List.cons.injEq,Value.int.injEq,Value.ref.injEq] at e'
 obtain ⟨⟨e1,_⟩,⟨e2,_⟩,e3,_⟩:=e'
 subst e3
 have e4:=mH q2 p2
 have e5:its=jts:=by simpa using congrArg Array.toList e4
 subst e5
 have e6:=jO q3 p3
 obtain ⟨a1,a2,a3⟩:=k
 obtain ⟨b1,b2,b3⟩:=l
 simp only at e1 e2 e6
 rw [e1,e2,e6]
theorem jN {h h':Heap} {a d:Addr} {o:Obj} {es ep} {x:Array Value} (hx:IsTup h a x) (ho:h.get? d=some o) (hd:o.data=.dict es ep) (hs:Heap.SameBut d h h'):IsTup h' a x:=by
 obtain ⟨o',ho',hc,n,hd'⟩:=hx
 have hne:a ≠ d:=by
  rintro rfl
  rw [ho] at ho';cases ho'
  rw [hd] at hd';cases hd'
 exact ⟨o',(hs.2 a hne).trans ho',hc,n,hd'⟩
section
variable {prog:Program} {w:World} {A:Around} {E:Value->Shared->Prop} {s:Shared}
theorem p4 {k:KA} {a:Addr} {Q:Int->Shared->Prop} (hu:A.units + 2 < cLine) (hk:IsArr s.heap k a) (h:Q (ky k) { s with toks:=s.toks + (k.2.2.length + 4) }):wpAny (model prog w) A (pyHash (.ref a)) Q E s:=by
 obtain ⟨ta,t1,t2,its,q1,q2,q3⟩:=hk
 have hT:s.TypeIs (.ref a) "tuple":=let ⟨o,ho,hc,_⟩:=q1;⟨o,ho,hc⟩
 obtain ⟨o,ho,_,n,hd⟩:=id q1
 unfold pyHash
 first | unfold pyHashByItsType | skip
 first | refine wpAny_bind (wpAny_cRoomFor_or (.inr (by omega)) ?_) | skip
 refine wpAny_bind (wpAny_specialOf hT F.slot_tuple_hash.lookup ?_)
 show wpAny _ _ (if (some (Value.builtin "tuple.__hash__") == some Value.none)=true then _ else _) Q E s
 rw [if_neg (by rw [beq_builtin_none];exact Bool.false_ne_true)]
 refine wpAny_bind (wpAny_specialOf hT F.slot_tuple_hash.lookup ?_)
 show wpAny _ _ (callSpecialIfBoundUnlessNone? (.ref a) "__hash__" _ >>= _) Q E s
 refine wpAny_bind (wpAny_callSpecialIfBoundUnlessNone?_slot hT F.slot_tuple_hash (wpAny_call_entry F.slot_tuple_hash hT F.entry_tuple_hash ?_ (F.args_tuple_hash_1 _)))
 show wpAny _ _ (Builtin.Tuple.tupleItemsOf (.ref a) >>= _) _ _ s
 refine wpAny_bind (wpAny_tupleItemsOf ho hd ?_)
 refine wpAny_bind ?_
 rw [<- Array.forIn_toList]
 simp only [List.forIn_cons,List.forIn_nil]
 refine wpAny_bind (wpAny_bind (wpAny_pyHash_int ?_))
 refine wpAny_pure ?_
 refine wpAny_bind (wpAny_bind (wpAny_pyHash_int ?_))
 refine wpAny_pure ?_
 refine wpAny_bind (wpAny_bind (wpAny_pyHash_tuple (knd:=intKind prog w) (ks:=k.2.2) (by show A.units + 1 < cLine;omega) (mV q2 q3) ?_))
 refine wpAny_pure (wpAny_pure ?_)
 show wpAny _ _ (retInt (Builtin.Tuple.tupleHashOf _)) _ _ _
 refine wpAny_ret_mkInt ?_
 have e:((((#[]:Array Int).push (hashInt k.1)).push (hashInt k.2.1)).push (tupleKeyHash (intKind prog w) k.2.2)).toList=[hashInt k.1,hashInt k.2.1,reduceHash (Builtin.Tuple.tupleHashOf (k.2.2.map hashInt))]:=rfl
 rw [e]
 unfold ky at h
 generalize hg:Builtin.Tuple.tupleHashOf [hashInt k.1,hashInt k.2.1,reduceHash (Builtin.Tuple.tupleHashOf (k.2.2.map hashInt))]=G at h ⊢
 show wpAny _ _ (if (decide (-(2:Int) ^ 63<=G) && decide (G < 2 ^ 63))=true then _ else _) Q E _
 unfold reduceHash at h
 by_cases hr:(decide (-(2:Int) ^ 63<=G) && decide (G < 2 ^ 63))=true
 ·rw [if_pos hr]
  rw [if_pos hr] at h
  refine wpAny_pure ?_
  simpa [Nat.add_assoc,Nat.add_comm,Nat.add_left_comm] using h
 ·rw [if_neg hr]
  rw [if_neg hr] at h
  refine wpAny_bind (wpAny_rule (wpAny_pure ?_))
  simpa [Nat.add_assoc,Nat.add_comm,Nat.add_left_comm] using h
theorem uW {k l:KA} {a b:Addr} (hu:A.units + 2 < cLine) (hk:IsArr s.heap k a) (hl:IsArr s.heap l b):SeqAt.EqAt A s (.ref a) (.ref b) (decide (k=l)):=by
 by_cases hab:a=b
 ·subst hab
  rw [hk.inj hl,decide_eq_true rfl]
  exact SeqAt.EqAt.same _
 ·refine SeqAt.EqAt.of_refs hab ?_
  obtain ⟨ta,t1,t2,its,q1,q2,q3⟩:=hk
  obtain ⟨tb,u1,u2,jts,p1,p2,p3⟩:=hl
  have z:=SeqAt.RcAt.tuples (A:=A) (s:=s) (e:=fun j=>if j=0 then k.1 == l.1 else if j=1 then k.2.1 == l.2.1 else decide (k.2.2=l.2.2)) q1 p1 (by omega) fun j h1 h2=>by
   have hj:j=0\/j=1\/j=2:=by
    have:j < 3:=h1
    omega
   rcases hj with rfl | rfl | rfl
   ·exact SeqAt.EqAt.int_int _ _ _ _
   ·exact SeqAt.EqAt.int_int _ _ _ _
   ·exact fun prog w E Q hq=>wpAny_eqBool_tuple (knd:=intKind prog w) (by show A.units + 1 < cLine;omega) (mV q2 q3) (mV p2 p3) hq
  have e:((List.range (min (#[Value.int k.1 t1,.int k.2.1 t2,.ref ta]:Array Value).size (#[Value.int l.1 u1,.int l.2.1 u2,.ref tb]:Array Value).size)).all (fun j=>if j=0 then k.1 == l.1 else if j=1 then k.2.1 == l.2.1 else decide (k.2.2=l.2.2)) &&
    (#[Value.int k.1 t1,.int k.2.1 t2,.ref ta]:Array Value).size == (#[Value.int l.1 u1,.int l.2.1 u2,.ref tb]:Array Value).size)=decide (k=l):=by
   obtain ⟨a1,a2,a3⟩:=k
   obtain ⟨b1,b2,b3⟩:=l
   show ((List.range 3).all _ && true)=_
   rw [Bool.eq_iff_iff]
   simp [List.range_succ]
  rw [e] at z
  exact z
theorem se (n:Nat) {ks:List Int} {a:Addr} {Q:Bool->Shared->Prop} (hk:IsTupleKey (intKind prog w) s.heap ks a) (h:Q true s):wpAny (model prog w) A (eqIsQuiet (n + 1) (.ref a)) Q E s:=by
 have hT:=hk.typeIs
 obtain ⟨o,items,m,ho,_,hd,hi⟩:=hk
 unfold eqIsQuiet
 refine wpAny_bind (wpAny_specialOf hT F.slot_tuple_eq.lookup ?_)
 show wpAny _ _ (isInstance (.ref a) (.type "tuple") >>= _) _ _ s
 refine wpAny_bind (wpAny_isInstance hT isSubtype_tuple_tuple ?_)
 simp only [Bool.not_true,Bool.false_eq_true,if_false]
 refine wpAny_bind (wpAny_seqItems ho hd ?_)
 refine wpAny_bind ?_
 show wpAny _ _ (forIn items _ _) _ _ s
 rw [<- Array.forIn_toList]
 refine wpAny_forIn_list _ (fun rest r s'=>r.1=none/\s'=s/\∀ v ∈ rest,carriedByValue v=true) _ ?_ ?_ _ _ ⟨rfl,rfl,hi.byValue⟩
 ·rintro v rest r s' ⟨hr,rfl,hall⟩
  rw [eqIsQuiet_byValue _ (hall v List.mem_cons_self)]
  refine wpAny_bind (wpAny_pure ?_)
  simp only [Bool.not_true,Bool.false_eq_true,if_false]
  exact wpAny_pure ⟨rfl,rfl,fun u hu'=>hall u (List.mem_cons_of_mem _ hu')⟩
 ·rintro ⟨r1,r2⟩ s' ⟨hr,rfl,_⟩
  simp only at hr
  subst hr
  exact wpAny_pure h
theorem sg {k:KA} {a:Addr} {Q:Bool->Shared->Prop} (hk:IsArr s.heap k a) (h:Q true s):wpAny (model prog w) A (eqIsQuiet 8 (.ref a)) Q E s:=by
 obtain ⟨ta,t1,t2,its,q1,q2,q3⟩:=hk
 have hT:s.TypeIs (.ref a) "tuple":=let ⟨o,ho,hc,_⟩:=q1;⟨o,ho,hc⟩
 obtain ⟨o,ho,_,n,hd⟩:=id q1
 unfold eqIsQuiet
 refine wpAny_bind (wpAny_specialOf hT F.slot_tuple_eq.lookup ?_)
 show wpAny _ _ (isInstance (.ref a) (.type "tuple") >>= _) _ _ s
 refine wpAny_bind (wpAny_isInstance hT isSubtype_tuple_tuple ?_)
 simp only [Bool.not_true,Bool.false_eq_true,if_false]
 refine wpAny_bind (wpAny_seqItems ho hd ?_)
 refine wpAny_bind ?_
 show wpAny _ _ (forIn (#[Value.int k.1 t1,.int k.2.1 t2,.ref ta]:Array Value) _ _) _ _ s
 rw [<- Array.forIn_toList]
 refine wpAny_forIn_list _ (fun rest r s'=>r.1=none/\s'=s/\∀ v ∈ rest,carriedByValue v=true\/v=.ref ta) _ ?_ ?_ _ _ ⟨rfl,rfl,fun v hv=>?_⟩
 ·rintro v rest r s' ⟨hr,rfl,hall⟩
  rcases hall v List.mem_cons_self with hv | rfl
  ·rw [eqIsQuiet_byValue _ hv]
   refine wpAny_bind (wpAny_pure ?_)
   simp only [Bool.not_true,Bool.false_eq_true,if_false]
   exact wpAny_pure ⟨rfl,rfl,fun u hu'=>hall u (List.mem_cons_of_mem _ hu')⟩
  ·refine wpAny_bind (se (prog:=prog) (w:=w) 6 (mV q2 q3) ?_)
   simp only [Bool.not_true,Bool.false_eq_true,if_false]
   exact wpAny_pure ⟨rfl,rfl,fun u hu'=>hall u (List.mem_cons_of_mem _ hu')⟩
 ·rintro ⟨r1,r2⟩ s' ⟨hr,rfl,_⟩
  simp only at hr
  subst hr
  exact wpAny_pure h
 ·have hv:v ∈ [Value.int k.1 t1,.int k.2.1 t2,.ref ta]:=hv
  simp only [List.mem_cons,List.not_mem_nil,or_false] at hv
  rcases hv with rfl | rfl | rfl
  ·exact .inl rfl
  ·exact .inl rfl
  ·exact .inr rfl
end
noncomputable def kE (prog:Program) (w:World):HeapKind prog w KA where
 is:=IsArr
 hash:=ky
 draws:=fun k=>k.2.2.length + 4
 room:=fun A=>A.units + 2 < cLine
 inj:=fun hx hy=>hx.inj hy
 keeps:=fun hx ho hd hs=>by
  obtain ⟨ta,t1,t2,its,q1,q2,q3⟩:=hx
  exact ⟨ta,t1,t2,its,jN q1 ho hd hs,jN q2 ho hd hs,q3⟩
 pyHash:=fun hu hk h=>p4 hu hk h
 eqBool:=fun hu hx hy h=>uW hu hx hy _ _ _ _ h
 quiet:=fun hk h=>sg hk h
end DL
namespace DL
open PySem PySem.Spec PyProof.Rows L2
variable {C:Addr} {X:Cx}
theorem iU {pins:List (Addr × Obj)} {σ:St} {H:Hp} {s:Shared} (I:Inv X pins σ H s) {k:KA} {kb:Addr} (h:KeyIn H k kb):IsArr s.heap k kb:=by
 obtain ⟨ta,h1,h2⟩:=h
 obtain ⟨its,r,p,_⟩:=I.tuple (SqT.of h1)
 obtain ⟨jts,r2,p2,_⟩:=I.tuple (SqT.of h2)
 cases r with
 | cons a b =>
  cases b with
  | cons c d =>
   cases d with
   | cons e f =>
    cases f
    obtain ⟨t1,rfl⟩:=a
    obtain ⟨t2,rfl⟩:=c
    cases e
    exact ⟨ta,t1,t2,jts,p,p2,qe r2⟩
theorem nW {pins:List (Addr × Obj)} {σ:St} {H:Hp} {s:Shared} (I:Inv X pins σ H s) {a:Addr} {xs:List (KA × Addr × Value)} (e:H a=some (i9 a xs)) (hk:∀ x ∈ xs,KeyIn H x.1 x.2.1) (nd:(xs.map (·.1)).Nodup) :
  s.heap.DictOfH (kE X.prog X.w) a xs/\(a == sysModules)=false/\xs.length<=100001:=by
 obtain ⟨⟨h1,hl,o,es,ep,h2,h3,h4,h5⟩,_⟩:=I.hok a _ e
 exact ⟨⟨o,es,ep,h2,h3,h4,h5,fun x hx=>iU I (hk x hx),nd⟩,h1,hl⟩
noncomputable def Ak:R2:=fun x y H Q=>∃ a xs kb k p v,x=.ref a/\y=.ref kb/\H a=some (i9 a xs)/\(∀ x ∈ xs,KeyIn H x.1 x.2.1)/\(xs.map (·.1)).Nodup/\KeyIn H k kb/\atKey xs k=some p/\RelV v p.2/\Q v H
theorem yw (hu:X.A.units + 3 < cLine):IxR X Ak:=by
 intro value slice pins s σ H x y v u Q I rx ry h hs
 obtain ⟨a,xs,kb,k,p,v',rfl,rfl,e,hk,nd,hkey,hp,rp,q⟩:=h
 cases rx
 cases ry
 obtain ⟨hD,_,_⟩:=nW I e hk nd
 exact subscriptTail_builtinR (x:=p.2) hD.typeIs slot_dict_getitem.lookup
  (wpAny_getItem_heap (knd:=kE X.prog X.w) (Q:=fun r s'=>r=p.2/\EP X pins σ Q r s') (by show X.A.units + 1 + 2 < cLine;omega) (iU I hkey) hD hp ⟨rfl,v',H,I.tok _,rp,q⟩) hs
noncomputable def Al (neg:Bool):R2:=fun x y H Q=>∃ a xs kb k,x=.ref kb/\y=.ref a/\H a=some (i9 a xs)/\(∀ x ∈ xs,KeyIn H x.1 x.2.1)/\(xs.map (·.1)).Nodup/\KeyIn H k kb/\Q (.bl (if neg then !(atKey xs k).isSome else (atKey xs k).isSome)) H
theorem vZ (hu:X.A.units + 3 < cLine):OpR X (compareOp .NotIn) (Al true):=by
 intro pins s σ H x y v u Q I rx ry h
 obtain ⟨a,xs,kb,k,rfl,rfl,e,hk,nd,hkey,q⟩:=h
 cases rx
 cases ry
 obtain ⟨hD,hs,_⟩:=nW I e hk nd
 exact wpAny_notIn_heap (knd:=kE X.prog X.w) (by show X.A.units + 1 + 2 < cLine;omega) (iU I hkey) hs hD ⟨.bl _,H,I.tok _,rfl,q⟩
noncomputable def zl:wV:=fun o i v H Q=>∃ a xs kb k,o=.ref a/\i=.ref kb/\H a=some (i9 a xs)/\(∀ x ∈ xs,KeyIn H x.1 x.2.1)/\(xs.map (·.1)).Nodup/\KeyIn H k kb/\xs.length<=100000/\∀ u,RelV v u->((storedH xs k kb u).map (·.1)).Nodup->Q (upd H a (i9 a (storedH xs k kb u)))
theorem lG {a:Addr} {xs:List (KA × Addr × Value)}:∀ h1 h2:Heap,dOk a xs h1->(∀ o,h1.get? a=some o->h2.get? a=some o)->dOk a xs h2:=fun h1 h2 ⟨p1,p2,o,es,ep,e1,e2,e3,e4⟩ k=>⟨p1,p2,o,es,ep,k o e1,e2,e3,e4⟩
theorem qH (hu:X.A.units + 3 < cLine):zY X zl:=by
 intro pins s σ H o i v ov iv u Q I ro ri rv h
 obtain ⟨a,xs,kb,k,rfl,rfl,e,hk,nd,hkey,hl,q⟩:=h
 cases ro
 cases ri
 obtain ⟨hD,hs,_⟩:=nW I e hk nd
 refine wpAny_setItem_heap (knd:=kE X.prog X.w) (by show X.A.units + 1 + 2 < cLine;omega) (iU I hkey) hD (fun h' hD' sb=>?_) (Nat.le_trans hl (by decide))
 obtain ⟨o',es,ep,e1,e2,e3,e4,_,nd'⟩:=hD'
 have len:(storedH xs k kb u).length<=100001:=by
  cases z:atKey xs k with
  | none=>rw [storedH_new z];simp;omega
  | some p=>rw [storedH_old z];simp;omega
 refine ⟨_,I.write (x:=a) (e:=a) (by rw [e];exact True.intro) (.inl rfl) (fun b w hb z=>(sb.2 b hb).trans z) ⟨o',e1⟩ ?_,q u rv nd'⟩
 exact ⟨⟨hs,len,o',es,ep,e1,e2,e3,e4⟩,⟨o',e1⟩,lG⟩
noncomputable def lq (kvs:List (KA × D)) (k:KA) (d:D):List (KA × D):=if (kvs.any fun p=>decide (p.1=k))=true then kvs.map (fun p=>if p.1=k then (p.1,d) else p) else kvs ++ [(k,d)]
noncomputable def qd (kvs:List (KA × D)) (k:KA):Option D:=(kvs.find? fun p=>decide (p.1=k)).map (·.2)
noncomputable def iV:List D->Option (List Int)
 | []=>some []
 | .int i :: r=>(iV r).map (i :: ·)
 | _=>none
noncomputable def me:D->Option KA
 | .tup [.int a,.int b,.tup xs]=>(iV xs).map fun l=>(a,b,l)
 | _=>none
theorem mJ {K:PySem.W.Frag} {M:Hp}:∀ {xs:List D} {l:List Int} {vs:List V},iV xs=some l->HasL K C M vs xs->vs=l.map V.int
 | [],l,vs,e,h=>by cases e;cases h;rfl
 | x :: r,l,vs,e,h=>by
  cases x with
  | int i =>
   rw [iV] at e
   cases z:iV r with
   | none=>rw [z] at e;cases e
   | some l' =>
    rw [z] at e;cases e
    cases h with
    | cons a b=>cases a;rw [mJ z b];rfl
  | _=>cases e
theorem nv {K:PySem.W.Frag} {M:Hp} {d:D} {k:KA} {v:V} (e:me d=some k) (h:Has K C M v d):∃ kb,v=.ref kb/\KeyIn M k kb:=by
 unfold me at e
 split at e
 ·rename_i a b xs
  cases z:iV xs with
  | none=>rw [z] at e;cases e
  | some l =>
   rw [z] at e;cases e
   cases h with
   | tup q hl =>
    cases hl with
    | cons h1 hl =>
     cases h1
     cases hl with
     | cons h2 hl =>
      cases h2
      cases hl with
      | cons h3 hl =>
       cases hl
       cases h3 with
       | tup q2 g=>rw [mJ z g] at q2;exact ⟨_,rfl,_,q,q2⟩
 ·cases e
section
variable {K:PySem.W.Frag} {M:Hp}
theorem nO:∀ {kvs:List (KA × D)} {xs:List (KA × Addr × Value)} {k:KA},Paired (EntOk K C M) kvs xs->(atKey xs k).isSome=kvs.any fun p=>decide (p.1=k)
 | _,_,k,.nil=>rfl
 | _,_,k,.cons (a:=p) (b:=q) h t=>by
  have ih:=nO (k:=k) t
  have e:=h.1
  unfold atKey at ih ⊢
  rw [List.find?_cons,List.any_cons,<- e]
  by_cases z:p.1=k
  ·rw [decide_eq_true z];rfl
  ·rw [decide_eq_false z];exact ih
theorem rB:∀ {kvs:List (KA × D)} {xs:List (KA × Addr × Value)} {k:KA} {d:D},Paired (EntOk K C M) kvs xs->qd kvs k=some d->∃ p v,atKey xs k=some p/\RelV v p.2/\Has K C M v d
 | _,_,k,d,.nil,e=>by cases e
 | _,_,k,d,.cons (a:=p) (b:=q) h t,e=>by
  obtain ⟨e1,_,v,h1,h2⟩:=h
  unfold qd at e
  unfold atKey
  rw [List.find?_cons] at e ⊢
  rw [<- e1]
  by_cases z:p.1=k
  ·rw [decide_eq_true z] at e ⊢
   cases e
   exact ⟨_,v,rfl,h1,h2⟩
  ·rw [decide_eq_false z] at e ⊢
   exact rB t e
theorem gW:∀ {kvs:List (KA × D)} {xs:List (KA × Addr × Value)},Paired (EntOk K C M) kvs xs->∀ x ∈ xs,KeyIn M x.1 x.2.1
 | _,_,.nil,x,hx=>by cases hx
 | _,_,.cons h t,x,hx=>by
  rcases List.mem_cons.mp hx with rfl | hx
  ·rw [<- h.1];exact h.2.1
  ·exact gW t x hx
theorem rz {k:KA} {d:D} {u:Value} {v:V} (rv:RelV v u) (hv:Has K C M v d):∀ {kvs:List (KA × D)} {xs:List (KA × Addr × Value)},Paired (EntOk K C M) kvs xs->Paired (EntOk K C M) (kvs.map fun p=>if p.1=k then (p.1,d) else p) (xs.map (putAt k u))
 | _,_,.nil=>.nil
 | _,_,.cons (a:=p) (b:=q) h t=>by
  refine .cons ?_ (rz rv hv t)
  obtain ⟨e1,h2,v',h3,h4⟩:=h
  show EntOk K C M (if p.1=k then (p.1,d) else p) (if q.1=k then (q.1,q.2.1,u) else q)
  rw [<- e1]
  by_cases z:p.1=k
  ·rw [if_pos z,if_pos z];exact ⟨rfl,h2,v,rv,hv⟩
  ·rw [if_neg z,if_neg z];exact ⟨e1,h2,v',h3,h4⟩
theorem rq {k:KA} {d:D} {u:Value} {v:V} {kb:Addr} (rv:RelV v u) (hv:Has K C M v d) (hk:KeyIn M k kb) {kvs:List (KA × D)} {xs:List (KA × Addr × Value)} (h:Paired (EntOk K C M) kvs xs):Paired (EntOk K C M) (lq kvs k d) (storedH xs k kb u):=by
 unfold lq
 have e:=nO (k:=k) h
 by_cases z:(kvs.any fun p=>decide (p.1=k))=true
 ·rw [if_pos z]
  rw [z] at e
  obtain ⟨p,hp⟩:=Option.isSome_iff_exists.mp e
  rw [storedH_old hp]
  exact rz rv hv h
 ·rw [if_neg z]
  have:atKey xs k=none:=by
   cases q:atKey xs k with
   | none=>rfl
   | some p=>rw [q] at e;exact absurd e.symm z
  rw [storedH_new this]
  exact Paired.snoc h ⟨rfl,hk,v,rv,hv⟩
end
theorem Rel.setDic {K:PySem.W.Frag} {H0 H:Hp} {ρ:RB} {σ:St} (r:Rel K C H0 ρ σ H) {i:Nat} {a:Addr} (hn:H a=none):Rel K C H0 (ρ.put i (.dic []) [a]) (σ.set i (some (.ref a))) (upd H a (i9 a [])) :=
 r.put ki (fun j hj=>List.getElem?_set_ne fun z=>hj z.symm) (fun b hb=>.inr (by cases List.mem_singleton.mp hb;exact hn)) (fun j _=>.of (aO hn)) (fun b o e=>aO hn b o (msk_some.mp e).2)
  (fun b hb=>.inr (by cases List.mem_singleton.mp hb;exact ⟨[],aU⟩)) fun hi s=>⟨a,mY (by rw [<- r.len];exact hi),List.mem_singleton.mpr rfl,[],aU,List.nodup_nil,.nil⟩
theorem Rel.putDic {K:PySem.W.Frag} {H0 H:Hp} {ρ:RB} {σ:St} (r:Rel K C H0 ρ σ H) {i:Nat} {a:Addr} {kvs kvs':List (KA × D)} {xs':List (KA × Addr × Value)} (e:ρ.rho[i]?=some (some (.dic kvs))) (q:σ[i]?=some (some (.ref a)))
  (nd:(xs'.map (·.1)).Nodup) (h:Paired (EntOk K C (msk ρ σ H)) kvs' xs'):Rel K C H0 (ρ.put i (.dic kvs') [a]) σ (upd H a (i9 a xs')):=by
 obtain ⟨b,e1,ha,_⟩:=r.at_ i _ e
 rw [q] at e1;cases e1
 exact r.put rfl (fun j _=>rfl) (fun b hb=>.inl (by cases List.mem_singleton.mp hb;exact ha)) (fun j hj=>r.apart ha hj) (r.shown ha) (fun b hb=>.inr (by cases List.mem_singleton.mp hb;exact ⟨xs',aU⟩))
  fun hi s=>⟨a,q,List.mem_singleton.mpr rfl,xs',aU,nd,Paired.mapP h fun p q z=>z.mono s⟩
noncomputable def u3 (i:Nat):Rho->R Out:=fun ρ=>.val (.nx (ρ.set i (some (.dic []))))
theorem tV {pos:Pos}:PE X (.Dict [] [] pos) (fun _ H Q=>∀ p,H p=none->Q (.ref p) (upd H p (i9 p []))):=fun pins s σ H Q I h=>by
 have big:sysModules < s.heap.objs.size:=Nat.lt_trans (by decide) (show mainGlobals < s.heap.objs.size from (I.mod.glob.keeps I.bk).lt)
 have e1:(s.heap.push { cls:=.type "dict",data:=.dict #[] }).get? s.heap.objs.size=some { cls:=.type "dict",data:=.dict #[] }:=Heap.get?_push_size _ rfl
 have ok:dOk s.heap.objs.size [] (s.heap.push { cls:=.type "dict",data:=.dict #[] }):=⟨by simpa using (Nat.ne_of_gt big),Nat.zero_le _,_,#[],_,e1,⟨rfl,rfl,rfl⟩,rfl,rfl⟩
 exact wpAny_Dict_empty ⟨.ref s.heap.objs.size,_,I.laid (a:=s.heap.objs.size) (o:=i9 s.heap.objs.size []) (t':=s.toks) (fun _ _ q=>Heap.get?_push_of_some _ q) (Nat.le_refl _) ⟨ok,⟨_,e1⟩,lG⟩,rfl,h _ I.fresh⟩
theorem qJ {i : Nat} {x : Str} {pos pos' dp : Pos} (hN : X.N.Nodup) (hi : X.N[i]? = some x) (hx : Loc X.env.scope x) (hs : swapsWith (.Dict [] [] dp) (some (.Name x pos')) pos.line X.env = pure false := by rfl)
    (hf : X.fn x = true \/ X.env.scope.names.lookup x = some .local := by first | exact .inl rfl | exact .inr rfl | assumption) : SD C X (.Assign [.Name x pos'] (.Dict [] [] dp) pos) (u3 i) :=
  bK (kO hN hi hx tV hs hf) fun D σ H yy0 => by
   obtain ⟨_, H0, ⟨ρ, rfl, r⟩, q⟩ := yy0
   exact fun p hp => q _ _ ⟨_, rfl, r.setDic hp⟩
noncomputable def nV (i:Nat) (k e:Rho->R D):Rho->R Out:=fun ρ=>(e ρ).bind fun d=>(noE (k ρ)).bind fun kd=>match me kd with
 | some k=>match ρ[i]? with
  | some (some (.dic kvs))=>if kvs.length<=100000 then .val (.nx (ρ.set i (some (.dic (lq kvs k d))))) else .bad
  | _=>.bad
 | none=>.bad
theorem kR {K:PySem.W.Frag} {M:Hp} {kvs:List (KA × D)} {xs:List (KA × Addr × Value)} (h:Paired (EntOk K C M) kvs xs):kvs.length=xs.length:=Paired.length h
theorem qo {K:PySem.W.Frag} {M M':Hp} {kvs:List (KA × D)} {xs:List (KA × Addr × Value)} (m:Same M M') (h:Paired (EntOk K C M) kvs xs):Paired (EntOk K C M') kvs xs:=Paired.mapP h fun p q z=>z.mono m
theorem qI {i : Nat} {x : Str} {k e : Expr} {p sp pos : Pos} {Fk F : Rho -> R D} (hu : X.A.units + 3 < cLine) (hv : PE X (.Name x p) (d9 i)) (hk : ED C X k Fk) (he : ED C X e F)
    (ha : ∀ v, assign (.Subscript (.Name x p) k sp) X.env v = (do
      let ov <- holding [v] (eval (.Name x p) X.env)
      let iv <- holding [v, ov] (eval k X.env)
      standAt sp
      holding [v, ov, iv] (setItem ov iv v)
      release [v, ov, iv] []) := by intro _; rfl)
    (hs : swapsWithSole [.Subscript (.Name x p) k sp] e pos.line X.env = pure false := by rfl) (hw : swappedStores [.Subscript (.Name x p) k sp] e X.env = pure none := by rfl)
    (h1 : (assignEach [.Subscript (.Name x p) k sp] X.env).map (·.2) = [assign (.Subscript (.Name x p) k sp) X.env] := by rfl) :
    SD C X (.Assign [.Subscript (.Name x p) k sp] e pos) (nV i Fk F) :=
  bK (p7 he (tR hv hk (qH hu) ha) hs hw h1) fun D σ H yy1 => by
   obtain ⟨_, H0, ⟨ρ, rfl, r⟩, q⟩ := yy1
   exact ⟨ρ, ⟨H0, r⟩, bf (P := fun z _ => pS C X z H0 D) (fun c h => dF r h) (fun h => h) q fun d v H1 s1 h1 q1 => by
    cases ek : Fk ρ with
    | exc c => rw [ek] at q1; exact q1.elim
    | bad => rw [ek] at q1; exact q1.elim
    | val kd =>
      rw [ek] at q1
      dsimp only [DL.R.bind, noE] at q1
      split at q1
      · rename_i kk ekk
        split at q1
        · rename_i kvs ei
          split at q1
          · rename_i hl
            obtain ⟨a, ea, _, xs, eH, nd, hp⟩ := r.at_ i _ ei
            refine ⟨_, ea, ρ, ⟨H0, r.mono s1⟩, ?_⟩
            rw [ek]
            intro kv H2 s2 h2
            obtain ⟨kb, rfl, hkey⟩ := nv ekk h2
            have hp2 := qo (aX (s1.trans s2)) hp
            refine ⟨a, xs, kb, kk, rfl, rfl, s2 _ _ (s1 _ _ eH), fun x hx => (gW hp2 x hx).mono msk_sub, nd, hkey.mono msk_sub, by rw [<- kR hp]; exact hl, fun u ru nd' => ?_⟩
            exact q1 _ _ ⟨_, rfl, ((r.mono s1).mono s2).putDic ei ea nd' (rq ru (h1.mono (aX s2)) hkey hp2)⟩
          · exact q1.elim
        · exact q1.elim
      · exact q1.elim⟩
noncomputable def nX (i:Nat) (k:Rho->R D):Rho->R D:=fun ρ=>match ρ[i]? with
 | some (some (.dic kvs))=>(k ρ).bind fun kd=>match me kd with
  | some k=>match qd kvs k with
   | some d=>.val d
   | none=>.bad
  | none=>.bad
 | _=>.bad
theorem rF {i:Nat} {x:Str} {k:Expr} {p pos:Pos} {Fk:Rho->R D} (hu:X.A.units + 3 < cLine) (hv:PE X (.Name x p) (d9 i)) (hk:ED C X k Fk) (hs:jc k:=by exact fun _ _=>rfl) :
  ED C X (.Subscript (.Name x p) k pos) (nX i Fk) :=
 aR (tU (yw hu) hv hk hs) fun σ H Q zz1=>by
  obtain ⟨ρ,⟨H0,r⟩,q⟩:=zz1
  unfold nX at q
  split at q
  ·rename_i kvs ei
   obtain ⟨a,ea,_,xs,eH,nd,hp⟩:=r.at_ i _ ei
   refine ⟨_,ea,ρ,⟨H0,r⟩,bf (P:=fun z H=>pV X (eD C X ρ σ) z σ H Q) (fun _ h=>h) (fun h=>h) q fun kd kv H1 s1 h1 q1=>?_⟩
   split at q1
   ·rename_i kk ekk
    split at q1
    ·rename_i d eg
     obtain ⟨kb,rfl,hkey⟩:=nv ekk h1
     have hp2:=qo (aX s1) hp
     obtain ⟨pr,v,e1,e2,e3⟩:=rB hp2 eg
     exact ⟨a,xs,kb,kk,pr,v,rfl,rfl,s1 _ _ eH,fun x hx=>(gW hp2 x hx).mono msk_sub,nd,hkey.mono msk_sub,e1,e2,q1 v H1 s1 e3⟩
    ·exact q1.elim
   ·exact q1.elim
  ·exact q.elim
noncomputable def u0 (i:Nat) (k:Rho->R D):Rho->R Bool:=fun ρ=>(k ρ).bind fun kd=>match ρ[i]? with
 | some (some (.dic kvs))=>match me kd with
  | some k=>.val (!(kvs.any fun p=>decide (p.1=k)))
  | none=>.bad
 | _=>.bad
theorem vo {i : Nat} {x : Str} {k : Expr} {p pos : Pos} {Fk : Rho -> R D} (hu : X.A.units + 3 < cLine) (hv : PE X (.Name x p) (d9 i)) (hk : ED C X k Fk) (hm : behindInMarks .NotIn (.Name x p) = false := by rfl) :
    TD C X (.Compare k [.NotIn] [.Name x p] pos) (u0 i Fk) :=
  iM (qN (vZ hu) hk hv hm) fun σ H Q yy2 => by
   obtain ⟨ρ, ⟨H0, r⟩, q⟩ := yy2
   exact ⟨ρ, ⟨H0, r⟩, bf (P := fun z H => pB X z σ H Q) (fun _ h => h) (fun h => h) q fun kd kv H1 s1 h1 q1 => by
    split at q1
    · rename_i kvs ei
      obtain ⟨a, ea, _, xs, eH, nd, hp⟩ := r.at_ i _ ei
      split at q1
      · rename_i kk ekk
        obtain ⟨kb, rfl, hkey⟩ := nv ekk h1
        have hp2 := qo (aX s1) hp
        refine ⟨_, ea, a, xs, kb, kk, rfl, rfl, s1 _ _ eH, fun x hx => (gW hp2 x hx).mono msk_sub, nd, hkey.mono msk_sub, _, rfl, ?_⟩
        have := nO (k := kk) hp2
        rw [this]
        exact q1 H1 s1
      · exact q1.elim
    · exact q1.elim⟩
end DL
namespace DL
open PySem PySem.Spec PyProof.Rows L2
variable {C:Addr} {X:Cx}
noncomputable def fz (i:Nat) (F:Rho->R Out):Rho->R Out:=fun ρ=>F (frz i ρ)
theorem io {sts:List Stmt} {F:Rho->R Out} (i:Nat) (h:SDs C X sts F):SDs C X sts (fz i F):=vv i h
noncomputable def Fn (P:Program) (w:World) (K:PySem.W.Frag) (mg:Str->Option Value) (base:Heap) (C:Addr) (k:Nat) (x:Str) (n:Nat) (den:List D->R D):Prop :=
 ∃ f fd ps,FnOk P w K mg base CX0 k f fd ps (spD K C n den)/\mg x=some (.ref f)/\PySem.W.keepIn K (.ref f)=true/\Binds K fd ps []
theorem bj {k n:Nat} {den:List D->R D} {x:Str} {p pos:Pos} {e:Expr} {es:List Expr} {Fa:Rho->R (List D)} (F:Fn X.prog X.w X.K X.mg X.base C k x n den) (hr:Room k X.A) (hg:Gl X x) (ha:AD C X (e :: es) Fa) (hx:X.xe=fun _ _=>False)
  (hdb:(x == ("__debug__":Str))=false:=by decide) (he:starEach (e :: es) X.env=(false,eval e X.env) :: starEach es X.env:=by rfl) (hpl:(backTo pos (starEach es X.env)).any (·.1)=false:=by rfl) :
  ED C X (.Call (.Name x p) (e :: es) [] pos) (cal n den Fa):=by
 obtain ⟨f,fd,ps,h1,h2,h3,h4⟩:=F
 exact wH h1 hr hg h2 h3 h4 mF ha hdb he hpl
theorem cq {k:Nat} {A:Around} (r:Room k A):A.units + 9 < cLine:=by have:=r.un;omega
theorem mD {k:Nat} {A:Around} (r:Room k A):A.units + 3 < cLine:=by have:=r.un;omega
theorem iW (m:Nat):∀ j ∈ [m],m<=j:=fun j hj=>by rw [List.mem_singleton.mp hj];exact Nat.le_refl _
theorem Ap (m:Nat):∀ j ∈ [m,m + 1],m<=j:=fun j hj=>by
 rcases List.mem_cons.mp hj with h | h
 ·rw [h];exact Nat.le_refl _
 ·rw [List.mem_singleton.mp h];exact Nat.le_succ _
noncomputable def whD (c:Rho->R Bool) (F:Rho->R Out):Nat->Rho->R Out
 | 0,_=>.bad
 | n + 1,ρ=>(c ρ).bind fun b=>if b=true then (F ρ).bind fun o=>match o with
   | .nx ρ'=>whD c F n ρ'
   | .ct ρ'=>whD c F n ρ'
   | .bk ρ'=>.val (.nx ρ')
   | .rt d=>.val (.rt d)
  else .val (.nx ρ)
theorem tq {c : Expr} {body : List Stmt} {pos : Pos} {Fc : Rho -> R Bool} {F : Rho -> R Out} (n : Nat) (hp : PassesOwn (model X.prog X.w) X.A X.env X.xe) (hc : TD C X c Fc) (hb : SDs C X body F) : SD C X (.While c body [] pos) (whD Fc F n) :=
  bK (tJ hp hc hb) fun D σ H yy0 => by
   obtain ⟨_, H0, ⟨ρ, rfl, r⟩, q⟩ := yy0
   exact ⟨fun m σ' H' => ∃ ρ' : RB, dC C X H0 ρ' σ' H' /\ pS C X (whD Fc F m ρ') H0 D, ⟨n, ρ, r, q⟩, fun m σ' H' zz0 => by
    obtain ⟨ρ', r', q'⟩ := zz0
    cases m with
    | zero => exact q'.elim
    | succ m =>
      unfold whD at q'
      refine ⟨ρ', ⟨H0, r'⟩, iP (P := fun z _ => pS C X z H0 D) (fun c h => dF r' h) (fun h => h) q' fun b H1 s1 q1 => ?_⟩
      cases b with
      | false => exact yz (q1 σ' H1 (r'.mono s1).e)
      | true =>
        refine yx ⟨fun σ2 H2 => ∃ ρ2 : RB, dC C X H0 ρ2 σ2 H2 /\ pS C X (whD Fc F m ρ2) H0 D, fun σ2 H2 z => ⟨m, Nat.lt_succ_self _, z⟩, ρ', H0, (r'.mono s1).e, ?_⟩
        rw [if_pos rfl] at q1
        cases eF : F ρ' with
        | val o =>
          rw [eF] at q1
          cases o with
          | nx ρ2 => exact fun σ4 H4 ⟨β4, e4, r4⟩ => ⟨β4, r4, by rw [e4]; exact q1⟩
          | ct ρ2 => exact fun σ4 H4 ⟨β4, e4, r4⟩ => ⟨β4, r4, by rw [e4]; exact q1⟩
          | bk ρ2 => exact fun σ4 H4 r4 => q1 σ4 H4 r4
          | rt d => exact fun v4 H4 s4 h4 => q1 v4 H4 s4 h4
        | exc c => rw [eF] at q1; exact q1
        | bad => rw [eF] at q1; exact q1⟩
end DL
namespace DL
open PySem PySem.Spec PyProof.Rows L2
section
variable {env:Env} {r:List Expr} {p:Pos}
theorem ab {x:Str}:starEach (.Name x p :: r) env=(false,eval (.Name x p) env) :: starEach r env:=rfl
theorem aA {a k}:starEach (.Constant a k p :: r) env=(false,eval (.Constant a k p) env) :: starEach r env:=rfl
theorem c_ {a}:starEach (.List a p :: r) env=(false,eval (.List a p) env) :: starEach r env:=rfl
theorem iH {a k}:starEach (.Tuple a k p :: r) env=(false,eval (.Tuple a k p) env) :: starEach r env:=rfl
theorem bc {a b c}:starEach (.BinOp a b c p :: r) env=(false,eval (.BinOp a b c p) env) :: starEach r env:=rfl
theorem ak {a b}:starEach (.Subscript a b p :: r) env=(false,eval (.Subscript a b p) env) :: starEach r env:=rfl
theorem cz {a b}:starEach (.Attribute a b p :: r) env=(false,eval (.Attribute a b p) env) :: starEach r env:=rfl
theorem aH {a b c}:starEach (.Call a b c p :: r) env=(false,eval (.Call a b c p) env) :: starEach r env:=rfl
theorem cn {a b c}:starEach (.ListComp a b c p :: r) env=(false,eval (.ListComp a b c p) env) :: starEach r env:=rfl
theorem aq:(backTo p (starEach [] env)).any (·.1)=false:=rfl
theorem ax {e:Expr} (h:starEach (e :: r) env=(false,eval e env) :: starEach r env) (h2:(backTo p (starEach r env)).any (·.1)=false):(backTo p (starEach (e :: r) env)).any (·.1)=false:=by
 rw [h];exact h2
theorem bV {e:Expr} (h:starEach [e] env=(false,eval e env) :: starEach [] env):starEach [e] env=[(false,eval e env)]:=h.trans rfl
end
end DL
namespace DL
open PySem PySem.Spec PyProof.Rows L2
section
variable {K:PySem.W.Frag} {C:Addr} {H0 H:Hp} {ρ:RB} {σ:St}
noncomputable def RB.del (ρ:RB) (i:Nat):RB:=⟨ρ.rho.set i none,fun j=>if j=i then [] else ρ.ad j⟩
theorem mK {l:Rho} {i j:Nat} {sl:Slt} (h:(l.set i none)[j]?=some (some sl)):i ≠ j/\l[j]?=some (some sl):=by
 rw [List.getElem?_set] at h
 split at h
 ·split at h <;> cases h
 ·exact ⟨by assumption,h⟩
theorem iy {i j:Nat} {a:Addr} (h:a ∈ (ρ.del i).ad j):j ≠ i/\a ∈ ρ.ad j:=by
 unfold RB.del at h
 dsimp only at h
 split at h
 ·cases h
 ·exact ⟨‹_›,h⟩
theorem kB {i j:Nat} (h:j ≠ i):(ρ.del i).ad j=ρ.ad j:=by
 unfold RB.del
 dsimp only
 rw [if_neg h]
theorem Own.forget {i:Nat} {b:Addr} (h:Own (ρ.del i) σ b):Own ρ σ b:=by
 obtain ⟨j,h⟩:=h
 exact ⟨j,(iy h).2⟩
theorem Rel.forget (r:Rel K C H0 ρ σ H) (i:Nat):Rel K C H0 (ρ.del i) σ H:=by
 have sub:Same (msk ρ σ H) (msk (ρ.del i) σ H):=fun b o e=>msk_some.mpr ⟨fun z=>(msk_some.mp e).1 z.forget,(msk_some.mp e).2⟩
 refine ⟨?_,r.keep.trans sub,fun j sl e=>?_,fun j k a x y=>r.inj j k a (iy x).2 (iy y).2,fun j a x=>r.kin j a (iy x).2,fun j a x=>?_⟩
 ·show (ρ.rho.set i none).length=_
  rw [List.length_set];exact r.len
 ·obtain ⟨hj,e⟩:=mK e
  rw [kB fun z=>hj z.symm]
  exact (r.at_ j sl e).mono (Same.refl _) sub
 ·show j < (ρ.rho.set i none).length
  rw [List.length_set];exact r.bnd j a (iy x).2
end
noncomputable def spM (K:PySem.W.Frag) (C:Addr) (den:List D->R D):Sp:=fun vs H Q _=>∃ a us xs,vs=[.ref a]/\H a=some (.lst us)/\HasL K C (cut [a] H) us xs/\match den xs with
 | .val d=>∀ v H',Same (cut [a] H) H'->Has K C H' v d->Q v H'
 | _=>False
noncomputable def Mv (P:Program) (w:World) (K:PySem.W.Frag) (mg:Str->Option Value) (base:Heap) (C:Addr) (k:Nat) (x:Str) (den:List D->R D):Prop :=
 ∃ f fd p,FnOk P w K mg base CX0 k f fd [p] (spM K C den)/\mg x=some (.ref f)/\PySem.W.keepIn K (.ref f)=true/\Binds K fd [p] []
noncomputable def st1 (N:List Str) (xs:List D):Rho:=some (.own xs) :: List.replicate (N.length - 1) none
theorem xu {N:List Str} {xs:List D} {i:Nat} {sl:Slt} (h:(st1 N xs)[i]?=some (some sl)):i=0/\sl=.own xs:=by
 cases i with
 | zero=>unfold st1 at h;simp at h;exact ⟨rfl,h.symm⟩
 | succ n =>
  unfold st1 at h
  rw [List.getElem?_cons_succ,List.getElem?_replicate] at h
  split at h <;> cases h
section
variable {P:Program} {w:World} {K:PySem.W.Frag} {mg:Str->Option Value} {base:Heap} {C:Addr}
theorem pZ {H:Hp} {N:List Str} {a:Addr} {us:List V} {xs:List D} (e:H a=some (.lst us)) (h:HasL K C (cut [a] H) us xs):sO K C (cut [a] H) (st1 N xs) (L2.start N [.ref a]) H:=by
 have s0:(L2.start N [V.ref a])[0]?=some (some (.ref a)):=by unfold L2.start;simp
 have own:∀ {i:Nat} {b:Addr},b ∈ (⟨st1 N xs,fun j=>if j=0 then [a] else []⟩:RB).ad i->i=0/\b=a:=fun {i b} z=>by
  dsimp only at z
  split at z
  ·exact ⟨‹_›,List.mem_singleton.mp z⟩
  ·cases z
 have sub:Same (cut [a] H) (msk ⟨st1 N xs,fun j=>if j=0 then [a] else []⟩ (L2.start N [.ref a]) H):=fun b o e1=>by
  obtain ⟨h1,h2⟩:=cut_some.mp e1
  exact msk_some.mpr ⟨fun ⟨i,z⟩=>h1 (List.mem_singleton.mpr (own z).2),h2⟩
 refine ⟨⟨st1 N xs,fun j=>if j=0 then [a] else []⟩,rfl,?_,sub,fun i sl e1=>?_,fun i j b x y=>(own x).1.trans (own y).1.symm,fun i b x=>.inl ?_,fun i b x=>?_⟩
 ·show (st1 N xs).length=_
  unfold st1 L2.start;simp
 ·obtain ⟨rfl,rfl⟩:=xu e1
  exact ⟨a,us,s0,List.mem_singleton.mpr rfl,e,h.mono sub⟩
 ·rw [(own x).2];exact ⟨us,e⟩
 ·rw [(own x).1];exact Nat.succ_pos _
theorem zG {x qual p:Str} {st:Stmt} {f:Addr} {fd:FuncData} {N:List Str} {k:Nat} {den:Rho->R Out} (F:Fun K x qual st f fd) (sc:aP N [p] (ah st))
  (hb:∀ (cdv:Value) (A:Around) (outer:List Env) (s:Shared) (H:Hp) (E:XK),Room k (A.deeper (envOfC qual (ah st) s.heap.objs.size f cdv)) ->
   SDs C (cw CX0 P w K mg base N qual (ah st) f cdv A outer s H E).nox (ay st) den) :
  FnOk P w K mg base CX0 (k + 1) f fd [p] (spM K C fun xs=>fin (den (st1 N xs))):=by
 refine F.ok sc (fun vs H Q E h=>?_) (fun cdv A outer s H vs Q E hr h=>⟨_,hb cdv A outer s H E hr,?_⟩)
 ·obtain ⟨a,us,xs,rfl,_⟩:=h
  rfl
 obtain ⟨a,us,xs,rfl,e0,h,q⟩:=h
 refine ⟨st1 N xs,cut [a] H,pZ e0 h,?_⟩
 dsimp only at q
 cases e:den (st1 N xs) with
 | val o =>
  rw [e] at q
  cases o with
  | nx ρ'=>exact fun σ' H' ⟨_,_,r⟩=>q _ H' (r.keep.trans msk_sub) .non
  | rt d=>exact fun v H' s' h'=>q v H' s' h'
  | bk ρ'=>exact q.elim
  | ct ρ'=>exact q.elim
 | exc c=>rw [e] at q;exact q.elim
 | bad=>rw [e] at q;exact q.elim
end
section
variable {C:Addr} {X:Cx}
noncomputable def v7 (i:Nat) (den:List D->R D):Rho->R Out:=fun ρ=>match ρ[i]? with
 | some (some (.own xs))=>(noex (den xs)).bind fun d=>.val (.nx (ρ.set i (some (.shr d))))
 | _=>.bad
theorem vQ {k i:Nat} {x y:Str} {p p' pos:Pos} {den:List D->R D} (F:Mv X.prog X.w X.K X.mg X.base C k x den) (hr:Room k X.A) (hg:Gl X x) (hv:PE X (.Name y p') (d9 i)) (hdb:(x == ("__debug__":Str))=false:=by decide) :
  PE X (.Call (.Name x p) [.Name y p'] [] pos) (fun σ H Q=>∃ (ρ:RB) (H0:Hp) (xs:List D) (d:D),dC C X H0 ρ σ H/\ρ.rho[i]?=some (some (.own xs))/\den xs=.val d/\∀ v H',dC C X H0 (ρ.del i) σ H'->eD C X (ρ.del i) σ H' v d->Q v H'):=by
 obtain ⟨f,fd,pn,hF,hm,hk,hb⟩:=F
 rintro pins s σ H Q I ⟨ρ,H0,xs,d,r0,e0,ed,q⟩
 obtain ⟨a,vs,e1,ha,h1,h2⟩:=r0.at_ i _ e0
 refine wpAny_Call_Name_kw (gq I hg hm ?_ hdb)
 refine PySem.W.callWith_K (h₀:=X.base) I.ok.mod.kin hk (thn ((da hv dP ab) pos pins s σ H (fun us H1=>us=[.ref a]/\H1=H) I ⟨_,e1,rfl,rfl⟩) fun us s1 ⟨ws,H1,I1,rv,ew,eh⟩=>⟨I1.kIn,?_⟩) ab aq
 subst ew;subst eh
 have rf:=r0.forget i
 have Z:=Rel.hid rf I1
 have J:=I1.hide Z
 have nz:a ∉ dq (ρ.del i) σ:=fun z=>by
  obtain ⟨j,z⟩:=(fm rf.bnd).mp z
  exact (iy z).1 (r0.inj j i a (iy z).2 ha)
 have sub:Same (msk ρ σ H1) (cut [a] (cut (dq (ρ.del i) σ) H1)):=fun b o eb=>by
  obtain ⟨g1,g2⟩:=msk_some.mp eb
  refine cut_some.mpr ⟨fun z=>g1 ?_,cut_some.mpr ⟨fun z=>g1 ((fm rf.bnd).mp z).forget,g2⟩⟩
  rw [List.mem_singleton.mp z]
  exact ⟨i,ha⟩
 refine thn (kM (E:=E0) (Q:=fun v M'=>Same (cut [a] (cut (dq (ρ.del i) σ) H1)) M'/\Has X.K C M' v d) hF hr hb .nil mF J rv ?_) fun u s2 ⟨v,M',J2,ru,sm,hv'⟩=>?_
 ·rw [List.append_nil]
  refine ⟨a,vs,xs,rfl,cut_some.mpr ⟨nz,h1⟩,h2.mono sub,?_⟩
  rw [ed]
  exact fun v H' s2 h2=>⟨s2,h2⟩
 ·obtain ⟨I2,mz⟩:=I1.show' Z J2
  have em:msk (ρ.del i) σ (jn (dq (ρ.del i) σ) H1 M')=M':=by
   rw [gm rf.bnd]
   funext b
   by_cases hb:b ∈ dq (ρ.del i) σ
   ·rw [fy hb,mz b hb]
   ·unfold cut;rw [if_neg hb,cx hb]
  have sM:Same (msk ρ σ H1) M':=sub.trans sm
  have keep:∀ j b,b ∈ (ρ.del i).ad j->jn (dq (ρ.del i) σ) H1 M' b=H1 b:=fun j b hb=>ik ((fm rf.bnd).mpr ⟨j,hb⟩)
  have tup:∀ b us,H1 b=some (.tup us)->jn (dq (ρ.del i) σ) H1 M' b=some (.tup us):=fun b us eb=>by
   have nb:b ∉ dq (ρ.del i) σ:=fun z=>rf.tups eb ((fm rf.bnd).mp z)
   rw [cx nb]
   exact sM b _ (msk_some.mpr ⟨r0.tups eb,eb⟩)
  refine ⟨v,_,I2,ru,q v _ ⟨rf.len,by rw [em];exact r0.keep.trans sM,fun j sl ej=>?_,rf.inj,fun j b hb=>by rw [keep j b hb];exact rf.kin j b hb,rf.bnd⟩ (by show Has _ _ (msk _ σ _) v d;rw [em];exact hv')⟩
  rw [em]
  obtain ⟨hj,ej'⟩:=mK ej
  have qq:=r0.at_ j sl ej'
  rw [<- kB (ρ:=ρ) (i:=i) fun z=>hj z.symm] at qq
  exact qq.stay ⟨fun b hb o eo=>by rw [keep j b hb];exact eo,tup⟩ sM
theorem vy {k i:Nat} {x y:Str} {p p' cp pos pos':Pos} {den:List D->R D} (F:Mv X.prog X.w X.K X.mg X.base C k x den) (hr:Room k X.A) (hg:Gl X x) (hv:PE X (.Name y p') (d9 i)) (hN:X.N.Nodup) (hi:X.N[i]?=some y) (hx:Loc X.env.scope y)
  (hs:swapsWith (.Call (.Name x p) [.Name y p'] [] cp) (some (.Name y pos')) pos.line X.env=pure false) (hdb:(x == ("__debug__":Str))=false:=by decide)
  (hf:X.fn y=true\/X.env.scope.names.lookup y=some .local:=by first | exact .inl rfl | exact .inr rfl | assumption):SD C X (.Assign [.Name y pos'] (.Call (.Name x p) [.Name y p'] [] cp) pos) (v7 i den) :=
 bK (kO hN hi hx (vQ F hr hg hv hdb) hs hf) fun D σ H zz1=>by
  obtain ⟨_,H0,⟨ρ,rfl,r⟩,q⟩:=zz1
  unfold v7 at q
  split at q
  ·rename_i xs e0
   cases ed:den xs with
   | val d =>
    rw [ed] at q
    refine ⟨ρ,H0,xs,d,r,e0,ed,fun v H' r' h'=>?_⟩
    refine q _ _ ⟨_,?_,r'.setShr (i:=i) h'⟩
    show (ρ.rho.set i none).set i _=_
    rw [List.set_set]
   | exc c=>rw [ed] at q;exact q.elim
   | bad=>rw [ed] at q;exact q.elim
  ·exact q.elim
noncomputable def oW:List D->List (KA × D)->Option (List (KA × D))
 | [],kvs=>some kvs
 | x :: r,kvs=>match me x with
  | some k=>if kvs.length<=100000 then oW r (lq kvs k (.bl true)) else none
  | none=>none
noncomputable def ly (il ix idd:Nat):Rho->R Out:=fun ρ=>match ρ[il]?,ρ[idd]? with
 | some (some (.own xs)),some (some (.dic kvs))=>match oW xs kvs with
  | some kvs'=>if ix < ρ.length then .val (.nx ((ρ.set ix none).set idd (some (.dic kvs')))) else .bad
  | none=>.bad
 | _,_=>.bad
theorem rZ {il ix idd:Nat} {x l d:Str} {px pl pd px2 sp pos2 pos cp:Pos} {j:Nat} (hu:X.A.units + 3 < cLine) (hp:PassesOwn (model X.prog X.w) X.A X.env X.xe) (hc:X.calm=true) (hl:PE X (.Name l pl) (d9 il)) (hg:PG X (.Name x px) (gT ix)) (hd:PE X (.Name d pd) (d9 idd)) (hx:PE X (.Name x px2) (d9 ix))
  (n1:ix ≠ il:=by decide) (n2:ix ≠ idd:=by decide) (n3:il ≠ idd:=by decide)
  (ha:∀ v,assign (.Subscript (.Name d pd) (.Name x px2) sp) X.env v=(do
   let ov <- holding [v] (eval (.Name d pd) X.env)
   let iv <- holding [v,ov] (eval (.Name x px2) X.env)
   standAt sp
   holding [v,ov,iv] (setItem ov iv v)
   release [v,ov,iv] []):=by intro _;rfl)
  (hs:swapsWithSole [.Subscript (.Name d pd) (.Name x px2) sp] (.Constant (.bool true) j cp) pos2.line X.env=pure false:=by rfl) (hw:swappedStores [.Subscript (.Name d pd) (.Name x px2) sp] (.Constant (.bool true) j cp) X.env=pure none:=by rfl)
  (h1:(assignEach [.Subscript (.Name d pd) (.Name x px2) sp] X.env).map (·.2)=[assign (.Subscript (.Name d pd) (.Name x px2) sp) X.env]:=by rfl)
  (hfs:∀ x,foldedSetIterable (.Name l pl) X.env x=pure x:=by intro _;rfl) :
  SD C X (.For (.Name x px) (.Name l pl) [.Assign [.Subscript (.Name d pd) (.Name x px2) sp] (.Constant (.bool true) j cp) pos2] [] pos) (ly il ix idd) :=
 bK (tM hp hc (vN hl) hg (iN (p7 w5 (tR hd hx (qH hu) ha) hs hw h1)) hfs) fun Dn σ H zz2=>by
  obtain ⟨_,H0,⟨ρ,rfl,r⟩,q⟩:=zz2
  unfold ly at q
  split at q
  ·rename_i xs kvs el ed
   split at q
   ·rename_i kvsf em
    have hix:ix < ρ.rho.length:=by
     by_cases hix:ix < ρ.rho.length
     ·exact hix
     ·rw [if_neg hix] at q;exact q.elim
    rw [if_pos hix] at q
    obtain ⟨a,vs,ea,haA,eH,hL⟩:=r.at_ il _ el
    have hdl:idd < ρ.rho.length:=(List.getElem?_eq_some_iff.mp ed).1
    refine ⟨_,ea,a,rfl,⟨_,SqL.of eH⟩,uF (K:=X.K) (a:=a) (xs:=vs) (fun i σ' H'=>∃ kvs' β,β.rho=(ρ.rho.set ix none).set idd (some (.dic kvs'))/\dC C X H0 β σ' H'/\a ∈ β.ad il/\σ'[il]?=some (some (.ref a))/\H' a=some (.lst vs)/\oW (xs.drop i) kvs'=some kvsf) ⟨kvs,ρ.del ix,?_,r.forget ix,by rw [kB (Ne.symm n1)];exact haA,ea,eH,em⟩ (fun i σ' H' _ ⟨kvs',β,eb,r',hb,e1,e2,e3⟩=>SqL.of e2) ?_ ?_⟩
    ·have e1:(ρ.rho.set ix none)[idd]?=some (some (.dic kvs)):=by rw [List.getElem?_set_ne n2];exact ed
     show ρ.rho.set ix none=_
     apply List.ext_getElem?
     intro m
     by_cases hm:idd=m
     ·subst hm
      rw [List.getElem?_set_self (List.getElem?_eq_some_iff.mp e1).1,e1]
     ·rw [List.getElem?_set_ne hm]
    ·rintro i v σ' H' hi ⟨kvs',β,eβ,r',hbA,e1,e2,e3⟩
     have l1:β.rho[il]?=some (some (.own xs)):=by
      rw [eβ,List.getElem?_set_ne (Ne.symm n3),List.getElem?_set_ne n1];exact el
     obtain ⟨a',vs',g1,ga,g2,g3⟩:=r'.at_ il _ l1
     rw [e1] at g1;cases g1
     rw [e2] at g2;cases g2
     obtain ⟨x0,hx0,hv0⟩:=g3.get' hi
     have hlt:i < xs.length:=(List.getElem?_eq_some_iff.mp hx0).1
     have edr:xs.drop i=x0 :: xs.drop (i + 1):=by
      rw [List.drop_eq_getElem_cons hlt]
      have:=(List.getElem?_eq_some_iff.mp hx0).2
      rw [this]
     rw [edr] at e3
     unfold oW at e3
     split at e3
     ·rename_i kk ekk
      split at e3
      ·rename_i hlen
       have rs:=r'.setShr (i:=ix) hv0
       have ed':(β.put ix (.shr x0) []).rho[idd]?=some (some (.dic kvs')):=by
        show (β.rho.set ix _)[idd]?=_
        rw [List.getElem?_set_ne n2,eβ,List.getElem?_set_self (by simpa using hdl)]
       obtain ⟨b,eb,hbb,ys,eY,nd,hpd⟩:=rs.at_ idd _ ed'
       rw [km (Ne.symm n2)] at hbb
       obtain ⟨kb,rfl,hkey⟩:=nv ekk hv0
       have hxl:ix < σ'.length:=by have:=r'.len;rw [eβ] at this;simp at this;omega
       have ex2:(σ'.set ix (some (V.ref kb)))[ix]?=some (some (.ref kb)):=List.getElem?_set_self hxl
       have hkey2:KeyIn (msk (β.put ix (.shr x0) []) (σ'.set ix (some (V.ref kb))) H') kk kb:=hkey.mono qT
       refine ⟨_,eb,_,ex2,b,ys,kb,kk,rfl,rfl,eY,fun z hz=>(gW hpd z hz).mono msk_sub,nd,hkey.mono msk_sub,by rw [<- kR hpd];exact hlen,fun u ru nd'=>?_⟩
       have r2:=(rs.putDic ed' eb nd' (rq ru (.bl true) hkey2 hpd)).forget ix
       refine ⟨lq kvs' kk (.bl true),_,?_,r2,?_,?_,?_,e3⟩
       ·show (((β.rho.set ix (some (.shr x0))).set idd (some (.dic (lq kvs' kk (.bl true))))).set ix none)=_
        rw [eβ]
        apply List.ext_getElem?
        intro m
        simp only [List.getElem?_set,List.length_set]
        by_cases h1:ix=m
        ·subst h1
         simp [Ne.symm n2]
        ·by_cases h2:idd=m
         ·subst h2;simp [h1]
         ·simp [h1,h2]
       ·rw [kB (Ne.symm n1),km n3,km (Ne.symm n1)];exact hbA
       ·rw [List.getElem?_set_ne n1];exact e1
       ·have:a ≠ b:=fun z=>n3 (r'.inj il idd a hbA (z ▸ hbb))
        rw [aE this];exact e2
      ·cases e3
     ·cases e3
    ·rintro σ' H' ⟨kvs',β,eβ,r',_,e1,e2,e3⟩
     have:vs.length=xs.length:=hL.len
     rw [this,List.drop_length] at e3
     cases e3
     exact q _ _ ⟨β,eβ,r'⟩
   ·exact q.elim
  ·exact q.elim
end
end DL
namespace DL
open PySem PySem.Spec PyProof.Rows L2
section
variable {K:PySem.W.Frag} {C:Addr} {H:Hp} {x C' dx:Addr} {fs:List (Str × V)} {o':HO}
theorem jl {a:Addr} {o:HO} (hx:H x=some (.ins C' dx fs)) (h:H a=some o) (ho:∀ c d f,o=.ins c d f->f.length=3) (hl:fs.length < 3):a ≠ x:=fun z=>by
 subst z;rw [hx] at h;cases h
 have:=ho _ _ _ rfl
 omega
mutual
theorem Has.upd_ins (hx:H x=some (.ins C' dx fs)) (hl:fs.length < 3):∀ {v:V} {d:D},Has K C H v d->Has K C (upd H x o') v d
 | _,_,.non=>.non
 | _,_,.bl b=>.bl b
 | _,_,.int i=>.int i
 | _,_,.lst q h=>.lst (by rw [aE (jl hx q (fun _ _ _ z=>by cases z) hl)];exact q) (HasL.upd_ins hx hl h)
 | _,_,.tup q h=>.tup (by rw [aE (jl hx q (fun _ _ _ z=>by cases z) hl)];exact q) (HasL.upd_ins hx hl h)
 | _,_,.scr q=>.scr (by
   rcases q with (h | ⟨o,h⟩) | h
   ·exact .inl (.inl (by rw [aE (jl hx h (fun _ _ _ z=>by cases z) hl)];exact h))
   ·exact .inl (.inr ⟨o,by rw [aE (jl hx h (fun _ _ _ z=>by cases z) hl)];exact h⟩)
   ·exact .inr h)
 | _,_,.exn q=>.exn (by rw [aE (jl hx q (fun _ _ _ z=>by cases z) hl)];exact q)
 | _,_,.ob q a b c=>.ob (by rw [aE (jl hx q (fun _ _ _ z=>by cases z;rfl) hl)];exact q) (Has.upd_ins hx hl a) (Has.upd_ins hx hl b) (Has.upd_ins hx hl c)
theorem HasL.upd_ins (hx:H x=some (.ins C' dx fs)) (hl:fs.length < 3):∀ {vs:List V} {ds:List D},HasL K C H vs ds->HasL K C (upd H x o') vs ds
 | _,_,.nil=>.nil
 | _,_,.cons a b=>.cons (Has.upd_ins hx hl a) (HasL.upd_ins hx hl b)
end
end
theorem oZ (f:Str) (v:V):∀ fs:List (Str × V),(gk f v fs).length<=fs.length + 1
 | []=>Nat.le_refl _
 | (g,x) :: r=>by
  unfold gk
  split
  ·simp
  ·simpa using oZ f v r
noncomputable def sN:List (Rho->R D)->Rho->R Unit
 | [],_=>.val ()
 | c :: cs,ρ=>(c ρ).bind fun _=>sN cs ρ
noncomputable def wJ (cs:List (Rho->R D)) (f1 f2 f3:Rho->R (List D)):Rho->R D:=fun ρ=>(sN cs ρ).bind fun _=>(f1 ρ).bind fun es=>(f2 ρ).bind fun rs=>(f3 ρ).bind fun ts=>.val (.ob (.lst es) (.lst rs) (.lst ts))
noncomputable def ig (e r t:D):Rho:=[none,some (.shr e),some (.shr r),some (.shr t)]
noncomputable def spI (K:PySem.W.Frag) (C:Addr) (den:Rho->R D):Sp:=fun vs H Q _=>∃ x dx ve vr vt e r t,vs=[.ref x,ve,vr,vt]/\H x=some (.ins C dx [])/\Has K C H ve e/\Has K C H vr r/\Has K C H vt t/\match den (ig e r t) with
 | .val d=>∀ H',(∀ b o,H b=some o->b ≠ x->H' b=some o)->Has K C H' (.ref x) d->Q .non H'
 | _=>False
section
variable {C:Addr} {X:Cx}
variable (C X) in
noncomputable def tCk:List (Rho->R D)->TS->TS
 | [],t=>t
 | c :: cs,t=>vp (jK (teB C X c)) (tCk cs t)
theorem iq {st:Stmt} {rest:List Stmt} {c:Rho->R D} {cs:List (Rho->R D)} {t:TS} (h1:PS X st (jK (teB C X c))) (h2:PSs X rest (tCk C X cs t)):PSs X (st :: rest) (tCk C X (c :: cs) t):=gN h1 h2
theorem kP {e:Expr} {pos:Pos} {F:Rho->R D} (he:EB C X e F) (hs:swapsWith e none pos.line X.env=pure false:=by rfl):PS X (.Expr e pos) (jK (teB C X F)):=h8 he hs
theorem rN {ρ:RB} {t:TS} {Dn:je} {σ:St}:∀ {cs:List (Rho->R D)} {H H0:Hp},dC C X H0 ρ σ H->sN cs ρ=.val ()->(∀ H1,Same H H1->t Dn σ H1)->tCk C X cs t Dn σ H
 | [],H,H0,r,_,k=>k H (Same.refl _)
 | c :: cs,H,H0,r,e,k=>by
  unfold sN at e
  cases ec:c ρ with
  | val d =>
   rw [ec] at e
   show teB C X c σ H _
   refine ⟨ρ,⟨H0,r⟩,?_⟩
   rw [ec]
   exact fun v H1 s1 _=>rN (r.mono s1) e fun H2 s2=>k H2 (s1.trans s2)
  | exc c=>rw [ec] at e;cases e
  | bad=>rw [ec] at e;cases e
variable (C X) in
noncomputable def tI (f1 f2 f3:Rho->R (List D)):TS:=vp (m7 X.K (d9 0) (teF C X f1) "ends") (vp (m7 X.K (d9 0) (teF C X f2) "rests") (m7 X.K (d9 0) (teF C X f3) "table"))
theorem zz {s1 s2 s3:Stmt} {f1 f2 f3:Rho->R (List D)} (h1:PS X s1 (m7 X.K (d9 0) (teF C X f1) "ends")) (h2:PS X s2 (m7 X.K (d9 0) (teF C X f2) "rests")) (h3:PS X s3 (m7 X.K (d9 0) (teF C X f3) "table")):PSs X [s1,s2,s3] (tCk C X [] (tI C X f1 f2 f3)):=by
 have h:=gN h1 (gN h2 (iN h3))
 exact h
theorem tK {o value:Expr} {f:Str} {pos pos':Pos} {i:Nat} {F:Rho->R (List D)} (ho:PE X o (d9 i)) (hv:FD C X value F) (hs:swapsWith value (some (.Attribute o f pos')) pos.line X.env=pure false:=by rfl):PS X (.Assign [.Attribute o f pos'] value pos) (m7 X.K (d9 i) (teF C X F) f):=xK ho hv hs
noncomputable def rb3 (e r t:D):RB:=⟨ig e r t,fun _=>[]⟩
theorem zk {K:PySem.W.Frag} {H:Hp} {x:Addr} {ve vr vt:V} {e r t:D} (h1:Has K C H ve e) (h2:Has K C H vr r) (h3:Has K C H vt t):Rel K C H (rb3 e r t) [some (.ref x),some ve,some vr,some vt] H:=by
 have sub:Same H (msk (rb3 e r t) [some (.ref x),some ve,some vr,some vt] H):=fun b o eb=>msk_some.mpr ⟨fun ⟨_,z⟩=>(List.not_mem_nil z).elim,eb⟩
 refine ⟨rfl,sub,fun i sl h=>?_,fun i j a z=>(List.not_mem_nil z).elim,fun i a z=>(List.not_mem_nil z).elim,fun i a z=>(List.not_mem_nil z).elim⟩
 match i,h with
 | 0,h=>cases h
 | 1,h=>cases h;exact ⟨ve,rfl,h1.mono sub⟩
 | 2,h=>cases h;exact ⟨vr,rfl,h2.mono sub⟩
 | 3,h=>cases h;exact ⟨vt,rfl,h3.mono sub⟩
 | n + 4,h=>unfold rb3 ig at h;simp at h
theorem lz {F:Rho->R (List D)} {f:Str} {Dn:je} {H:Hp} {x dx:Addr} {fs:List (Str × V)} {ve vr vt:V} {e r t:D} {xs:List D} (hx:H x=some (.ins C dx fs)) (hl:fs.length < 3) (c:Cls X.K C) (n:NoAttr X.K C f) (h1:Has X.K C H ve e) (h2:Has X.K C H vr r) (h3:Has X.K C H vt t)
  (eF:F (ig e r t)=.val xs)
  (k:∀ l H',H' x=some (.ins C dx (gk f (.ref l) fs))->(∀ b o,H b=some o->b ≠ x->H' b=some o)->(∀ v d,Has X.K C H v d->Has X.K C H' v d)->Has X.K C H' (.ref l) (.lst xs)->Dn.nx [some (.ref x),some ve,some vr,some vt] H') :
  m7 X.K (d9 0) (teF C X F) f Dn [some (.ref x),some ve,some vr,some vt] H:=by
 refine ⟨rb3 e r t,⟨H,zk h1 h2 h3⟩,?_⟩
 show pF _ (F (ig e r t)) _ _ _
 rw [eF]
 intro l vs H1 s1 hn hv
 have hv':HasL X.K C H1 vs xs:=hv.mono msk_sub
 have nx:l ≠ x:=fun z=>by subst z;rw [s1 _ _ hx] at hn;cases hn
 have hx2:(upd H1 l (.lst vs)) x=some (.ins C dx fs):=by rw [aE (Ne.symm nx)];exact s1 _ _ hx
 refine ⟨_,rfl,x,C,dx,fs,rfl,hx2,c,n,by omega,k l _ aU (fun b o eb nb=>?_) (fun v d hd=>?_) ?_⟩
 ·rw [aE nb];exact aO hn _ _ (s1 _ _ eb)
 ·exact ((hd.mono s1).mono (aO hn)).upd_ins hx2 hl
 ·exact Has.upd_ins hx2 hl (.lst aU (hv'.mono (aO hn)))
end
section
variable {P:Program} {w:World} {K:PySem.W.Frag} {mg:Str->Option Value} {base:Heap} {C:Addr}
theorem wg {st:Stmt} {f:Addr} {fd:FuncData} {k:Nat} {cs:List (Rho->R D)} {f1 f2 f3:Rho->R (List D)} (F:Fun K "__init__" "Hall.__init__" st f fd) (sc:aP ["self","ends","rests","table"] ["self","ends","rests","table"] (ah st))
  (cl:Cls K C) (nE:NoAttr K C "ends") (nR:NoAttr K C "rests") (nT:NoAttr K C "table")
  (hb:∀ (cdv:Value) (A:Around) (outer:List Env) (s:Shared) (H:Hp) (E:XK),Room k (A.deeper (envOfC "Hall.__init__" (ah st) s.heap.objs.size f cdv)) ->
   PSs (cw CX0 P w K mg base ["self","ends","rests","table"] "Hall.__init__" (ah st) f cdv A outer s H E).nox (ay st) (tCk C (cw CX0 P w K mg base ["self","ends","rests","table"] "Hall.__init__" (ah st) f cdv A outer s H E).nox cs (tI C (cw CX0 P w K mg base ["self","ends","rests","table"] "Hall.__init__" (ah st) f cdv A outer s H E).nox f1 f2 f3))) :
  FnOk P w K mg base CX0 (k + 1) f fd ["self","ends","rests","table"] (spI K C (wJ cs f1 f2 f3)):=by
 refine F.ok sc (fun vs H Q E h=>?_) (fun cdv A outer s H vs Q E hr h=>⟨_,hb cdv A outer s H E hr,?_⟩)
 ·obtain ⟨x,dx,ve,vr,vt,e,r,t,rfl,_⟩:=h
  rfl
 obtain ⟨x,dx,ve,vr,vt,e,r,t,rfl,hx,h1,h2,h3,q⟩:=h
 unfold wJ at q
 cases ec:sN cs (ig e r t) with
 | exc c=>rw [ec] at q;exact q.elim
 | bad=>rw [ec] at q;exact q.elim
 | val u =>
  rw [ec] at q
  cases e1:f1 (ig e r t) with
  | exc c=>dsimp only [DL.R.bind] at q;rw [e1] at q;exact q.elim
  | bad=>dsimp only [DL.R.bind] at q;rw [e1] at q;exact q.elim
  | val es =>
   cases e2:f2 (ig e r t) with
   | exc c=>dsimp only [DL.R.bind] at q;rw [e1,e2] at q;exact q.elim
   | bad=>dsimp only [DL.R.bind] at q;rw [e1,e2] at q;exact q.elim
   | val rs =>
    cases e3:f3 (ig e r t) with
    | exc c=>dsimp only [DL.R.bind] at q;rw [e1,e2,e3] at q;exact q.elim
    | bad=>dsimp only [DL.R.bind] at q;rw [e1,e2,e3] at q;exact q.elim
    | val ts =>
     dsimp only [DL.R.bind] at q
     rw [e1,e2,e3] at q
     dsimp only [DL.R.bind] at q
     refine rN (H0:=H) (ρ:=rb3 e r t) (zk h1 h2 h3) ec fun H1 s1=>?_
     refine lz (s1 _ _ hx) (by decide) cl nE (h1.mono s1) (h2.mono s1) (h3.mono s1) e1 fun l1 Ha xa fa ka ha=>?_
     refine lz xa (by show 1 < 3;decide) cl nR (ka _ _ (h1.mono s1)) (ka _ _ (h2.mono s1)) (ka _ _ (h3.mono s1)) e2 fun l2 Hb xb fb kb hb2=>?_
     refine lz xb (Nat.lt_of_le_of_lt (oZ _ _ _) (by show 2 < 3;decide)) cl nT (kb _ _ (ka _ _ (h1.mono s1))) (kb _ _ (ka _ _ (h2.mono s1))) (kb _ _ (ka _ _ (h3.mono s1))) e3 fun l3 Hc xc fc kc hc=>?_
     refine q Hc (fun b o eb nb=>fc _ _ (fb _ _ (fa _ _ (s1 _ _ eb) nb) nb) nb) ?_
     exact .ob (dx:=dx) (ve:=.ref l1) (vr:=.ref l2) (vt:=.ref l3) xc (kc _ _ (kb _ _ ha)) (kc _ _ hb2) hc
end
noncomputable def FnH (P:Program) (w:World) (K:PySem.W.Frag) (mg:Str->Option Value) (base:Heap) (C:Addr) (k:Nat) (den:Rho->R D):Prop :=
 ∃ f fd,Mk K C f/\FnOk P w K mg base CX0 k f fd ["self","ends","rests","table"] (spI K C den)/\mg "Hall"=some (.ref C)/\Binds K fd ["self","ends","rests","table"] []
section
variable {C:Addr} {X:Cx}
noncomputable def mkH (den:Rho->R D) (Fa:Rho->R (List D)):Rho->R D:=fun ρ=>(Fa ρ).bind fun ds=>match ds with
 | [e,r,t]=>noex (den (ig e r t))
 | _=>.bad
theorem wG {k:Nat} {den:Rho->R D} {p pos:Pos} {e:Expr} {es:List Expr} {Fa:Rho->R (List D)} (F:FnH X.prog X.w X.K X.mg X.base C k den) (hr:Room (k + 1) X.A) (hg:Gl X "Hall") (ha:AD C X (e :: es) Fa) (hx:X.xe=fun _ _=>False)
  (he:starEach (e :: es) X.env=(false,eval e X.env) :: starEach es X.env:=by rfl) (hpl:(backTo pos (starEach es X.env)).any (·.1)=false:=by rfl):ED C X (.Call (.Name "Hall" p) (e :: es) [] pos) (mkH den Fa):=by
 obtain ⟨f,fd,hM,hF,hm,hb⟩:=F
 rintro pins s σ H Q I ⟨ρ,⟨H0,r0⟩,q⟩
 refine wpAny_Call_Name_kw (gq I hg hm ?_ (by decide))
 refine PySem.W.callWith_K (h₀:=X.base) I.ok.mod.kin hM.kp (thn (ha pos pins s σ H (fun vs H1=>∃ a b c d,Same H H1/\jd C X ρ σ H1 vs [a,b,c]/\den (ig a b c)=.val d/\∀ v H',Same H H'->eD C X ρ σ H' v d->Q v H') I
  ⟨ρ,⟨H0,r0⟩,dQ (P:=fun z H=>pV X (eD C X ρ σ) z σ H Q) (fun _ h=>h) (fun h=>h) q fun ds vs H1 s1 h1 q1=>?_⟩) fun us s1 ⟨vs,H1,I1,rv,a,b,c,d,s1',h1,e1,q1⟩=>⟨I1.kIn,?_⟩) he hpl
 ·split at q1
  ·rename_i a b c
   cases e1:den (ig a b c) with
   | val d=>rw [e1] at q1;exact ⟨a,b,c,d,s1,h1,e1,q1⟩
   | exc c=>rw [e1] at q1;exact q1.elim
   | bad=>rw [e1] at q1;exact q1.elim
  ·exact q1.elim
 ·have r1:=r0.mono s1'
  have Z:=Rel.hid r1 I1
  have J:=I1.hide Z
  refine thn (tx (E:=E0) (Q:=fun v M'=>Same (cut (dq ρ σ) H1) M'/\Has X.K C M' v d) hM hF hr hb .nil mF J rv fun x dx nx ndx nex=>?_) fun u s2 ⟨v,M',J2,ru,sm,hv⟩=>?_
  ·rw [List.append_nil]
   have h1:HasL X.K C (msk ρ σ H1) vs [a,b,c]:=h1
   rw [gm r0.bnd] at h1
   have s0:Same (cut (dq ρ σ) H1) (upd (upd (cut (dq ρ σ) H1) dx (.own x)) x (.ins C dx [])):=fun b o eb=>by
    rw [aE (a_ eb nx),aE (a_ eb ndx)];exact eb
   cases h1 with
   | @cons va _ _ _ ga h1=>cases h1 with
    | @cons vb _ _ _ gb h1=>cases h1 with
     | @cons vc _ _ _ gc h1 =>
      cases h1
      refine ⟨x,dx,va,vb,vc,a,b,c,rfl,aU,ga.mono s0,gb.mono s0,gc.mono s0,?_⟩
      rw [e1]
      exact fun H' fr hH=>⟨rfl,fun b o eb=>fr b o (s0 _ _ eb) (a_ eb nx),hH⟩
  ·obtain ⟨I2,mz⟩:=I1.show' Z J2
   have sj:Same H1 (jn (dq ρ σ) H1 M'):=fun b o eb=>by
    by_cases hb:b ∈ dq ρ σ
    ·rw [ik hb];exact eb
    ·rw [cx hb];exact sm b o (cut_some.mpr ⟨hb,eb⟩)
   have em:msk ρ σ (jn (dq ρ σ) H1 M')=M':=by
    rw [gm r0.bnd]
    funext b
    by_cases hb:b ∈ dq ρ σ
    ·rw [fy hb,mz b hb]
    ·unfold cut;rw [if_neg hb,cx hb]
   exact ⟨v,_,I2,ru,q1 v _ (s1'.trans sj) (by show Has _ _ (msk ρ σ _) v d;rw [em];exact hv)⟩
structure IsH (K:PySem.W.Frag) (C:Addr):Prop where
 cl:Cls K C
 ha:PySem.W.findIn K (.ref C) "__class__"=some (some (.builtin "object.__class__"))
 hn:PySem.W.specialIn K (.builtin "object.__class__") "__get__"=some (some (.builtin "getset_descriptor.__get__"))
 htk:PySem.W.takesIn K (.builtin "object.__class__")=some true
 hm:PySem.W.mroIn K C (.type "object")=some true
end
end DL
namespace DL
open PySem PySem.Spec PyProof.Rows L2
section
variable {P:Program} {w:World} {K:PySem.W.Frag} {mg:Str->Option Value} {base:Heap} {C:Addr}
end
section
variable {C:Addr} {X:Cx}
end
end DL
namespace DL
open PySem PySem.Spec PyProof.Rows L2
section
variable {C:Addr} {X:Cx}
end
end DL
namespace DL
open PySem PySem.Spec PyProof.Rows L2
section
variable {prog:Program} {w:World} {A:Around} {E:Value->Shared->Prop} {K:PySem.W.Frag} {h:Heap} {g:Array GenState} {d:Drawn} {t:Nat} {os:OsState} {x Cc:Addr} {ox:Obj}
end
end DL
namespace DL
open PySem PySem.Spec PyProof.Rows L2
section
variable {C:Addr} {X:Cx}
theorem xU {e:Expr} {T:Str} {T':String} {p p2 pos:Pos} {te:TE} (hg:Gl X "isinstance") (hm:X.mg "isinstance"=none) (hgT:Gl X T) (hmT:X.mg T=none) (hbT:bootBuiltins T=some (.type T')) (he:PE X e te) (hst:starEach [e,.Name T p2] X.env=(false,eval e X.env) :: starEach [.Name T p2] X.env)
  (hn:T ≠ "__name__":=by decide) (hdb:(T == ("__debug__":Str))=false:=by decide) :
  PE X (.Call (.Name "isinstance" p) [e,.Name T p2] [] pos) (fun σ H Q=>te σ H fun v H1=>∃ b,(∀ (pins:List (Addr × Obj)) (s:Shared) (u:Value) (Q':Value->Shared->Prop) (E':Value->Shared->Prop),Inv X pins σ H1 s->RelV v u->(∀ tk,Q' (.bool b) { s with toks:=tk })->wpAny (model X.prog X.w) X.A (call (.builtin "isinstance") [u,.type T']) Q' E' s)/\Q (.bl b) H1):=by
 intro pins s σ H Q I h
 refine wpAny_Call_Name_kw (gS I hg hm boot_isinstance ?_)
 refine PyProof.Rows.callWith_builtin1 ?_ hst (ax ab aq)
 rw [hst]
 refine Calls.spliced_cons (thn (he pins s σ H _ I h) fun u s1 zz0=>?_)
 obtain ⟨v,H1,I1,rv,b,hb,q⟩:=zz0
 rw [ab]
 refine Calls.spliced_cons (gS I1 hgT hmT hbT ?_ hn hdb)
 refine Calls.spliced_nil ?_
 exact hb pins s1 u _ _ I1 rv fun tk=>⟨.bl b,H1,I1.tok _,rfl,q⟩
noncomputable def hG:List D->Option (List Bool)
 | []=>some []
 | .bl b :: r=>(hG r).map (b :: ·)
 | _=>none
theorem lw {K:PySem.W.Frag} {M:Hp}:∀ {xs:List D} {l:List Bool} {vs:List V},hG xs=some l->HasL K C M vs xs->vs=l.map V.bl
 | [],l,vs,e,h=>by cases e;cases h;rfl
 | x :: r,l,vs,e,h=>by
  cases x with
  | bl i =>
   rw [hG] at e
   cases z:hG r with
   | none=>rw [z] at e;cases e
   | some l' =>
    rw [z] at e;cases e
    cases h with
    | cons a b=>cases a;rw [lw z b];rfl
  | _=>cases e
theorem kF:∀ {bs:List Bool} {us:List Value},Vals (bs.map V.bl) us->us=bs.map Value.bool
 | [],_,.nil=>rfl
 | b :: bs,_,.cons r t=>by rw [kF t];cases (show _=Value.bool b from r);rfl
end
end DL
namespace DL
open PySem PySem.Spec PyProof.Rows L2
section
variable {X:Cx} {pins pins':List (Addr × Obj)} {σ:St} {H:Hp} {s:Shared} {A:Around} {cm:Bool} {xe:Value->Shared->Prop}
end
end DL
namespace DL
open PySem PySem.Spec PyProof.Rows L2
section
variable {P:Program} {w:World} {K:PySem.W.Frag} {mg:Str->Option Value} {base:Heap} {C:Addr}
end
section
variable {C:Addr} {X:Cx}
end
end DL
namespace DL
open PySem PySem.Spec PyProof.Rows L2
structure KTy (K:PySem.W.Frag) (T:String):Prop where
 i:PySem.W.kitOne K (.type "int") (.type T)=some (decide (T="int"))
 b:PySem.W.kitOne K (.type "bool") (.type T)=some (decide (T="int") || decide (T="bool"))
 n:PySem.W.kitOne K (.type "NoneType") (.type T)=some false
 l:PySem.W.kitOne K (.type "list") (.type T)=some (decide (T="list"))
 t:PySem.W.kitOne K (.type "tuple") (.type T)=some (decide (T="tuple"))
noncomputable def jt (T:String):D->R D
 | .int _=>.val (.bl (decide (T="int")))
 | .bl _=>.val (.bl (decide (T="int") || decide (T="bool")))
 | .non=>.val (.bl false)
 | .lst _=>.val (.bl (decide (T="list")))
 | .tup _=>.val (.bl (decide (T="tuple")))
 | _=>.bad
section
variable {C:Addr} {X:Cx}
theorem nQ {e : Expr} {T : Str} {T' : String} {p p2 pos : Pos} {F : Rho -> R D} (KT : KTy X.K T') (hg : Gl X "isinstance") (hm : X.mg "isinstance" = none) (hgT : Gl X T) (hmT : X.mg T = none) (hbT : bootBuiltins T = some (.type T')) (he : EB C X e F) (hst : starEach [e, .Name T p2] X.env = (false, eval e X.env) :: starEach [.Name T p2] X.env)
    (hn : T ≠ "__name__" := by decide) (hdb : (T == ("__debug__" : Str)) = false := by decide) : ED C X (.Call (.Name "isinstance" p) [e, .Name T p2] [] pos) (una (jt T') F) :=
  aR (xU hg hm hgT hmT hbT he hst hn hdb) fun σ H Q yy1 => by
   obtain ⟨ρ, r0, q⟩ := yy1
   exact ⟨ρ, r0, bf (P := fun z H => pV X (eD C X ρ σ) z σ H Q) (fun _ h => h) (fun h => h) q fun y v H1 s1 h1 q1 => by
    have go : ∀ {t : Value} {b : Bool}, jH X.K H1 v t -> PySem.W.kitOne X.K t (.type T') = some b -> (∀ v H', Same H H' -> eD C X ρ σ H' v (.bl b) -> Q v H') -> ∃ b, (∀ (pins : List (Addr × Obj)) (s : Shared) (u : Value) (Q' : Value -> Shared -> Prop) (E' : Value -> Shared -> Prop), Inv X pins σ H1 s -> RelV v u -> (∀ tk, Q' (.bool b) { s with toks := tk }) -> wpAny (model X.prog X.w) X.A (call (.builtin "isinstance") [u, .type T']) Q' E' s) /\ Q (.bl b) H1 :=
      fun {t b} ty ek kq => ⟨b, fun pins s u Q' E' I rv hQ => sw I rv ty ek hQ, kq _ H1 s1 (.bl b)⟩
    cases y with
    | int i => obtain rfl := h1.int; exact go (.int i) KT.i q1
    | bl i => obtain rfl := h1.bl; exact go (.bl i) KT.b q1
    | non =>
      have hv : v = .non := by cases h1 with | cl h => cases h; rfl
      subst hv
      exact go .non KT.n q1
    | lst xs =>
      obtain ⟨a, vs, rfl, e1, _⟩ := h1.lst msk_sub
      exact go (.lst e1) KT.l q1
    | tup xs =>
      obtain ⟨a, vs, rfl, e1, _⟩ := h1.tup msk_sub
      exact go (.tup e1) KT.t q1
    | _ => exact q1.elim⟩
theorem pC:bootBuiltins "list"=some (.type "list"):=by decide +kernel
end
end DL
namespace DL
open PySem PySem.Spec PyProof.Rows L2
noncomputable def pc:D->R D
 | .lst xs=>match hG xs with
  | some bs=>.val (.bl (bs.all id))
  | none=>.bad
 | _=>.bad
noncomputable def zp:List D->List D->List D
 | x :: xs,y :: ys=>.tup [x,y] :: zp xs ys
 | _,_=>[]
noncomputable def z_:List D->R (List D)
 | [.lst xs,.lst ys]=>.val (zp xs ys)
 | _=>.bad
noncomputable def wr (F:Rho->R (List D)):Rho->R (List D):=fun ρ=>(F ρ).bind z_
section
variable {C:Addr} {X:Cx}
noncomputable def Am:List V->Hp->VK->Prop:=fun vs H Q=>∃ (l:Addr) (bs:List Bool),vs=[.ref l]/\H l=some (.lst (bs.map V.bl))/\Q (.bl (bs.all id)) H
theorem sL (bs:List Bool):(List.range bs.length).all (fun i=>bs.getD i false)=bs.all id:=by
 rw [Bool.eq_iff_iff,List.all_eq_true,List.all_eq_true]
 constructor
 ·intro h b hb
  obtain ⟨i,hi,rfl⟩:=List.mem_iff_getElem.mp hb
  have:=h i (List.mem_range.mpr hi)
  rw [List.getD_eq_getElem?_getD,List.getElem?_eq_getElem hi] at this
  exact this
 ·intro h i hi
  have hi:=List.mem_range.mp hi
  rw [List.getD_eq_getElem?_getD,List.getElem?_eq_getElem hi]
  exact h _ (List.getElem_mem hi)
theorem u8 (hc:X.calm=true):jR X (.builtin "all") Am:=by
 intro pins s σ H xs us Q I rv h
 obtain ⟨l,bs,rfl,e,q⟩:=h
 obtain ⟨u,rfl,ru⟩:=ot rv
 obtain rfl:=(show u=Value.ref l from ru)
 obtain ⟨z,its,m,r,hl,eo⟩:=I.lstM e
 obtain rfl:=kF r
 have hL:s.heap.IsList l (bs.map Value.bool).toArray:=⟨_,eo,rfl,m,rfl⟩
 have hne:l ≠ s.heap.objs.size:=Nat.ne_of_lt (Heap.lt_size eo)
 have W:=Walks.list (prog:=X.prog) (w:=X.w) (A:=X.A.in1) (I.ok.hd hc) s.heap.objs.size l hne (bs.map Value.bool).toArray
 refine call_all_walk (wpAny_pyIter_list hL ⟨_,_,_,_,_,_,fun i=>bs.getD i false,rfl,W,⟨⟨_,Heap.get?_push_size _ rfl,rfl,rfl⟩,hL.push _⟩,fun i v s2 Q2 E2 hP hQ=>?_,fun h' tk hk=>?_⟩)
 ·have hP':(bs.map Value.bool)[i]?=some v:=by simpa using hP
  rw [List.getElem?_map] at hP'
  cases z2:bs[i]? with
  | none=>rw [z2] at hP';cases hP'
  | some b =>
   rw [z2] at hP'
   cases hP'
   have hb:bs.getD i false=b:=by rw [List.getD_eq_getElem?_getD,z2];rfl
   dsimp only at hQ
   rw [hb] at hQ
   exact wpAny_truthy_bool hQ
 ·have hz:(bs.map Value.bool).toArray.size=bs.length:=by simp
  rw [hz,sL]
  refine ⟨.bl (bs.all id),H,I.kept fun b o eo2=>hk b o (fun hm=>?_) (Heap.get?_push_of_some _ eo2),rfl,q⟩
  have:=Heap.lt_size eo2
  rw [List.mem_singleton.mp hm] at this
  exact Nat.lt_irrefl _ this
theorem yR {e : Expr} {p pos : Pos} {F : Rho -> R D} (hc : X.calm = true) (hg : Gl X "all") (hm : X.mg "all" = none) (hst : starEach [e] X.env = (false, eval e X.env) :: starEach [] X.env) (he : EB C X e F) :
    ED C X (.Call (.Name "all" p) [e] [] pos) (una pc F) :=
  aR (aG (u8 hc) hg hm boot_all (da he dP hst) (he := hst) (hpl := aq)) fun σ H Q yy0 => by
   obtain ⟨ρ, r0, q⟩ := yy0
   exact ⟨ρ, r0, bf (P := fun z H => pV X (eD C X ρ σ) z σ H Q) (fun _ h => h) (fun h => h) q fun y v H1 s1 h1 q1 => by
    cases y with
    | lst xs =>
      unfold pc at q1
      dsimp only at q1
      cases eb : hG xs with
      | none => rw [eb] at q1; exact q1.elim
      | some bs =>
        rw [eb] at q1
        obtain ⟨a, vs, rfl, e1, h2⟩ := h1.lst msk_sub
        obtain rfl := lw eb h2
        exact ⟨a, bs, rfl, e1, q1 _ H1 s1 (.bl _)⟩
    | _ => exact q1.elim⟩
noncomputable def Itz (K:PySem.W.Frag) (a b:Addr):It :=
 ⟨fun i H=>∃ xs ys x y,SqL K H a xs/\SqL K H b ys/\xs[i]?=some x/\ys[i]?=some y,fun i H v H'=>∃ p x y,H p=none/\v=.ref p/\H'=upd H p (.tup [x,y])/\(∀ xs,SqL K H a xs->xs[i]?=some x)/\∀ ys,SqL K H b ys->ys[i]?=some y,fun i H=>∃ xs ys,SqL K H a xs/\SqL K H b ys/\(xs.length<=i\/ys.length<=i)⟩
theorem sY {P:Program} {w:World} {K:PySem.W.Frag} {es:List Expr} {k:Nat} {pos:Pos} (a b z TI TO i1 i2:Addr) (D:ZipApart z TI TO i1 i2 a b) :
  qA P w K (.Tuple es k pos) (Itz K a b) [z,TI,TO,i1,i2] z (fun i h=>IsZip h z TI TO .none/\IsPair h TI (.ref i1) (.ref i2)/\(∃ x y,IsPair h TO x y)/\h.IsListIter i1 a i/\h.IsListIter i2 b i) where
 mem:=by simp
 obj:=fun i h st c hc=>by
  obtain ⟨hz,hTI,⟨x,y,hTO⟩,⟨o1,e1,c1,d1⟩,o2,e2,c2,d2⟩:=st
  have hc:c=z\/c=TI\/c=TO\/c=i1\/c=i2:=by simpa using hc
  rcases hc with rfl | rfl | rfl | rfl | rfl
  ·exact ⟨_,hz,fun v q=>by have q':Data.fields _=Data.cell v:=q;cases q'⟩
  ·exact ⟨_,hTI,fun v q=>by have q':Data.seq _ _=Data.cell v:=q;cases q'⟩
  ·exact ⟨_,hTO,fun v q=>by have q':Data.seq _ _=Data.cell v:=q;cases q'⟩
  ·exact ⟨o1,e1,fun v q=>by rw [d1] at q;cases q⟩
  ·exact ⟨o2,e2,fun v q=>by rw [d2] at q;cases q⟩
 keep:=fun i h h' st kk=>by
  obtain ⟨hz,hTI,⟨x,y,hTO⟩,h1,h2⟩:=st
  exact ⟨kk z (by simp) _ hz,kk TI (by simp) _ hTI,⟨x,y,kk TO (by simp) _ hTO⟩,h1.at fun o q=>kk i1 (by simp) o q,h2.at fun o q=>kk i2 (by simp) o q⟩
 item:=by
  intro X hP hw hK hc i pins s σ H E I hf st hg
  subst hP hw hK
  obtain ⟨hz,hTI,⟨x0,y0,hTO⟩,h1,h2⟩:=st
  obtain ⟨xs,ys,x,y,hq1,hq2,hx,hy⟩:=hg
  obtain ⟨its1,rv1,p1,hz1⟩:=I.list hq1
  obtain ⟨its2,rv2,p2,hz2⟩:=I.list hq2
  obtain ⟨u1,hu1,ru1⟩:=rv1.get hx
  obtain ⟨u2,hu2,ru2⟩:=rv2.get hy
  refine wpAny_pyNext_zip_item D hz hTI hTO h1 h2 p1.isList p2.isList (x:=u1) (y:=u2) (by simpa using hu1) (by simpa using hu2) fun h' a1 a2 a3 a4 a5 a6 hk=>?_
  refine ⟨_,rfl,wpAny_letOwnedTupleGo_zip a1 fun h'' hz'' sb=>?_⟩
  have fr:=I.fresh
  have hk2:∀ c o,c ≠ z->c ≠ TO->c ≠ i1->c ≠ i2->s.heap.get? c=some o->h''.get? c=some o:=fun c o n1 n2 n3 n4 eo=>(sb.2 c n1).trans (hk c o n1 n2 n3 n4 eo)
  have hse:s.heap.objs.size ≠ z:=Nat.ne_of_gt (Heap.lt_size hz)
  have ht2:h''.get? s.heap.objs.size=some { cls:=.type "tuple",data:=.seq #[u1,u2] }:=(sb.2 _ hse).trans a5
  have ne':∀ c,H c ≠ none->c ≠ z/\c ≠ TO/\c ≠ i1/\c ≠ i2:=fun c hb=>⟨fun q=>hb (by rw [q];exact (hf z (by simp)).1),fun q=>hb (by rw [q];exact (hf TO (by simp)).1),fun q=>hb (by rw [q];exact (hf i1 (by simp)).1),fun q=>hb (by rw [q];exact (hf i2 (by simp)).1)⟩
  have out:∀ c,c ∉ [z,TO,i1,i2]->c ≠ z/\c ≠ TO/\c ≠ i1/\c ≠ i2:=fun c h=>⟨fun q=>h (by simp [q]),fun q=>h (by simp [q]),fun q=>h (by simp [q]),fun q=>h (by simp [q])⟩
  have hk3:∀ c o,c ∉ [z,TO,i1,i2]->s.heap.get? c=some o->h''.get? c=some o:=fun c o h eo=>by
   obtain ⟨n1,n2,n3,n4⟩:=out c h
   exact hk2 c o n1 n2 n3 n4 eo
  have I1:Inv X pins σ (upd H s.heap.objs.size (.tup [x,y])) { s with heap:=h'' }:=by
   refine I.call' (s':={ s with heap:=h'' }) (ch:=[z,TO,i1,i2]) rfl ⟨fun b o q n hfs hx=>hk3 b o hx q,fun b o q n hfs hx=>⟨o.slots,hk3 b o hx q⟩,
    fun b o q n hx=>?_,fun b o q hx=>⟨o,hk3 b o hx q⟩,fun b ys q=>?_,fun b o v q=>?_,fun b ps q=>?_⟩ (fun b o q=>?_) I.bare fun b hb=>?_
   ·rw [aE (Nat.ne_of_lt (Heap.lt_size q))];exact n
   ·rw [aE (a_ q fr)];exact q
   ·rw [aE (a_ q fr)];exact q
   ·exact ⟨#[],by rw [aE (a_ q fr),q];simp⟩
   ·by_cases hb:b=s.heap.objs.size
    ·subst hb
     rw [aU] at q;cases q
     exact ⟨by show 2<=sizeLine;decide,[u1,u2],.cons ru1 (.cons ru2 .nil),⟨_,ht2,rfl,_,rfl⟩⟩
    ·rw [aE hb] at q
     refine (I.hok b o q).stay (fun c v hc qv=>?_) (fun c qc=>by rw [aE (a_ qc fr)];exact qc) fun c ys qc=>by rw [aE (a_ qc fr)];exact qc
     have hcn:H c ≠ none:=by
      rcases hc with q | q
      ·rw [q,‹H b=some o›];simp
      ·rw [q];simp
     obtain ⟨n1,n2,n3,n4⟩:=ne' c hcn
     exact hk2 c v n1 n2 n3 n4 qv
   ·have hb':b ∈ [z,TI,TO,i1,i2]:=by
     have hb:b=z\/b=TO\/b=i1\/b=i2:=by simpa using hb
     rcases hb with q | q | q | q <;> simp [q]
    obtain ⟨g0,g1,g2,g3,g4,g5⟩:=hf b hb'
    exact ⟨g3,g1,g4,g5⟩
  have lt1:i1 < s.heap.objs.size:=by obtain ⟨o,eo,_⟩:=h1;exact Heap.lt_size eo
  have lt2:i2 < s.heap.objs.size:=by obtain ⟨o,eo,_⟩:=h2;exact Heap.lt_size eo
  refine ⟨.ref s.heap.objs.size,_,I1,rfl,⟨_,x,y,fr,rfl,rfl,fun zs hz=>by rw [I.list_inj hz hq1];exact hx,fun zs hz=>by rw [I.list_inj hz hq2];exact hy⟩,⟨hz'',(sb.2 _ D.TIz).trans (hk _ _ D.TIz D.TITO D.TIi1 D.TIi2 hTI),⟨_,_,(sb.2 _ D.TOz).trans a2⟩,a3.at fun o q=>(sb.2 _ D.i1z).trans q,a4.at fun o q=>(sb.2 _ D.i2z).trans q⟩,fun c hc=>?_⟩
  have hb':=(hf c hc).1
  have hlt:c < s.heap.objs.size:=by
   have hc:c=z\/c=TI\/c=TO\/c=i1\/c=i2:=by simpa using hc
   rcases hc with rfl | rfl | rfl | rfl | rfl
   ·exact Heap.lt_size hz
   ·exact Heap.lt_size hTI
   ·exact Heap.lt_size hTO
   ·exact lt1
   ·exact lt2
  rw [aE (Nat.ne_of_lt hlt)];exact hb'
 done:=by
  intro X hP hw hK hc i pins s σ H E I hf st hg
  subst hP hw hK
  obtain ⟨hz,hTI,⟨x0,y0,hTO⟩,h1,h2⟩:=st
  obtain ⟨xs,ys,hq1,hq2,hx⟩:=hg
  obtain ⟨its1,rv1,p1,hz1⟩:=I.list hq1
  obtain ⟨its2,rv2,p2,hz2⟩:=I.list hq2
  have l1:=rv1.length
  have l2:=rv2.length
  refine wpAny_pyNext_zip_end (I.ok.hd hc) D hz hTI hTO h1 h2 p1.isList p2.isList ?_ fun h' hk=>⟨rfl,?_⟩
  ·rcases hx with h | h
   ·exact .inl (by simp;omega)
   ·exact .inr (by simp;omega)
  ·have out:∀ c,c ∉ [z,TO,i1,i2]->c ≠ z/\c ≠ TO/\c ≠ i1/\c ≠ i2:=fun c h=>⟨fun q=>h (by simp [q]),fun q=>h (by simp [q]),fun q=>h (by simp [q]),fun q=>h (by simp [q])⟩
   have hk3:∀ c o,c ∉ [z,TO,i1,i2]->s.heap.get? c=some o->h'.get? c=some o:=fun c o h eo=>by
    obtain ⟨n1,n2,n3,n4⟩:=out c h
    exact hk c o n1 n2 n3 n4 eo
   have ne':∀ c,H c ≠ none->c ≠ z/\c ≠ TO/\c ≠ i1/\c ≠ i2:=fun c hb=>⟨fun q=>hb (by rw [q];exact (hf z (by simp)).1),fun q=>hb (by rw [q];exact (hf TO (by simp)).1),fun q=>hb (by rw [q];exact (hf i1 (by simp)).1),fun q=>hb (by rw [q];exact (hf i2 (by simp)).1)⟩
   refine I.call' (s':={ s with heap:=h' }) (ch:=[z,TO,i1,i2]) rfl ⟨fun b o q n hfs hx=>hk3 b o hx q,fun b o q n hfs hx=>⟨o.slots,hk3 b o hx q⟩,
    fun b o q n hx=>n,fun b o q hx=>⟨o,hk3 b o hx q⟩,fun b ys q=>q,fun b o v q=>q,fun b ps q=>⟨#[],by rw [q];simp⟩⟩ (fun b o q=>?_) I.bare fun b hb=>?_
   ·refine (I.hok b o q).stay (fun c v hc qv=>?_) (fun c qc=>qc) fun c ys qc=>qc
    have hcn:H c ≠ none:=by
     rcases hc with q | q
     ·rw [q,‹H b=some o›];simp
     ·rw [q];simp
    obtain ⟨n1,n2,n3,n4⟩:=ne' c hcn
    exact hk c v n1 n2 n3 n4 qv
   ·have hb':b ∈ [z,TI,TO,i1,i2]:=by
     have hb:b=z\/b=TO\/b=i1\/b=i2:=by simpa using hb
     rcases hb with q | q | q | q <;> simp [q]
    obtain ⟨g0,g1,g2,g3,g4,g5⟩:=hf b hb'
    exact ⟨g3,g1,g4,g5⟩
 self:=fun _ _ _ _ _ st h=>wpAny_pyIter_zip st.1 h
theorem sQ:∀ {xs ys:List D} {i:Nat} {d:D},(zp xs ys)[i]?=some d->∃ x y,xs[i]?=some x/\ys[i]?=some y/\d=.tup [x,y]
 | [],_,_,_,e=>by unfold zp at e;simp at e
 | _ :: _,[],_,_,e=>by unfold zp at e;simp at e
 | x :: xs,y :: ys,0,d,e=>by
  unfold zp at e
  rw [List.getElem?_cons_zero] at e
  cases e
  exact ⟨x,y,rfl,rfl,rfl⟩
 | x :: xs,y :: ys,i + 1,d,e=>by
  unfold zp at e
  rw [List.getElem?_cons_succ] at e
  obtain ⟨x',y',h1,h2,h3⟩:=sQ e
  exact ⟨x',y',by rw [List.getElem?_cons_succ];exact h1,by rw [List.getElem?_cons_succ];exact h2,h3⟩
theorem sR:∀ (xs ys:List D),xs.length<=(zp xs ys).length\/ys.length<=(zp xs ys).length
 | [],_=>.inl (Nat.zero_le _)
 | _ :: _,[]=>.inr (Nat.zero_le _)
 | x :: xs,y :: ys=>by
  unfold zp
  rw [List.length_cons,List.length_cons,List.length_cons]
  rcases sR xs ys with h | h
  ·exact .inl (Nat.succ_le_succ h)
  ·exact .inr (Nat.succ_le_succ h)
theorem sS {K:PySem.W.Frag} {a b:Addr} {vs ws:List V} {xs ys:List D} {M:Hp} (e:M a=some (.lst vs)) (h:HasL K C M vs xs) (e':M b=some (.lst ws)) (h':HasL K C M ws ys):ol K C (Itz K a b) (zp xs ys) M where
 go:=fun i d H2 s hy=>by
  obtain ⟨x,y,hx,hy',rfl⟩:=sQ hy
  obtain ⟨v,e1,h1⟩:=h.get hx
  obtain ⟨v',e1',h1'⟩:=h'.get hy'
  refine ⟨⟨vs,ws,v,v',SqL.of (s _ _ e),SqL.of (s _ _ e'),e1,e1'⟩,fun u H3 q=>?_⟩
  obtain ⟨p,x',y',hp,rfl,rfl,q1,q2⟩:=q
  have e2:=q1 vs (SqL.of (s _ _ e))
  rw [e1] at e2;cases e2
  have e3:=q2 ws (SqL.of (s _ _ e'))
  rw [e1'] at e3;cases e3
  refine ⟨aO hp,fun ρ σ hown m=>?_⟩
  have em:msk ρ σ (upd H2 p (.tup [v,v'])) p=some (.tup [v,v']):=msk_some.mpr ⟨fun z=>hown p z hp,aU⟩
  exact .tup em (.cons (h1.mono (m.trans (aX (aO hp)))) (.cons (h1'.mono (m.trans (aX (aO hp)))) .nil))
 stop:=fun H2 s=>⟨vs,ws,SqL.of (s _ _ e),SqL.of (s _ _ e'),by rw [h.len,h'.len];exact sR xs ys⟩
theorem xN {es:List Expr} {k:Nat} {tp p pos:Pos} {l m:Expr} {ta:TA} (hg:Gl X "zip") (hm:X.mg "zip"=none) (ha:PA X [l,m] ta) (he:starEach [l,m] X.env=(false,eval l X.env) :: starEach [m] X.env) (hpl:(backTo pos (starEach [m] X.env)).any (·.1)=false) :
  PI X (.Tuple es k tp) (.Call (.Name "zip" p) [l,m] [] pos) (fun σ H R=>ta σ H fun vs H1=>∃ a b xs ys,vs=[.ref a,.ref b]/\SqL X.K H1 a xs/\SqL X.K H1 b ys/\R (Itz X.K a b) H1):=by
 intro pins s σ H R I h
 refine Call_ (gS I hg hm boot_zip (PyProof.Rows.callWith_type1 (thn (ha pos pins s σ H _ I h) fun us s1 zz0=>?_) he hpl))
 obtain ⟨vs,H1,I1,r1,q1⟩:=zz0
 obtain ⟨a,b,xs,ys,e,hq,hq',q⟩:=q1
 subst e
 cases r1 with
 | cons r rr =>
  cases rr with
  | cons r' rr =>
   cases rr
   cases r
   cases r'
   obtain ⟨its,rv,pl,hz⟩:=I1.list hq
   obtain ⟨its',rv',pl',hz'⟩:=I1.list hq'
   have la:a < s1.heap.objs.size:=by obtain ⟨_,e,_⟩:=pl.isList;exact Heap.lt_size e
   have lb:b < s1.heap.objs.size:=by obtain ⟨_,e,_⟩:=pl'.isList;exact Heap.lt_size e
   refine call_zip_2 pl.isList pl'.isList fun h' iz iTI iTO i1 i2 hsz kp=>?_
   have I2:Inv X pins σ H1 { s1 with heap:=h' }:=I1.kept (t':=s1.toks) kp
   refine wpAny_pyIter_zip iz ?_
   refine ⟨s1.heap.objs.size + 4,[s1.heap.objs.size + 4,s1.heap.objs.size + 2,s1.heap.objs.size + 3,s1.heap.objs.size,s1.heap.objs.size + 1],_,_,H1,rfl,I2,sY a b _ _ _ _ _ (zipApart_new la lb),⟨iz,iTI,⟨_,_,iTO⟩,i1,i2⟩,fun c hc=>?_,q⟩
   have hle:s1.heap.objs.size<=c:=by
    have hc:c=s1.heap.objs.size + 4\/c=s1.heap.objs.size + 2\/c=s1.heap.objs.size + 3\/c=s1.heap.objs.size\/c=s1.heap.objs.size + 1:=by simpa using hc
    rcases hc with z | z | z | z | z <;> rw [z]
    ·exact Nat.le_add_right _ _
    ·exact Nat.le_add_right _ _
    ·exact Nat.le_add_right _ _
    ·exact Nat.le_refl _
    ·exact Nat.le_add_right _ _
   exact I1.fpOk hle (I1.hok.fresh hle)
theorem yD {es : List Expr} {k : Nat} {tp p pos : Pos} {l m : Expr} {F : Rho -> R (List D)} (hg : Gl X "zip") (hm : X.mg "zip" = none) (ha : AD C X [l, m] F) (he : starEach [l, m] X.env = (false, eval l X.env) :: starEach [m] X.env) (hpl : (backTo pos (starEach [m] X.env)).any (·.1) = false) :
    ID C X (.Tuple es k tp) (.Call (.Name "zip" p) [l, m] [] pos) (wr F) := kt (xN hg hm ha he hpl) fun σ H R yy0 => by
     obtain ⟨ρ, ⟨H0, r⟩, q⟩ := yy0
     refine ⟨ρ, ⟨H0, r⟩, ?_⟩
     unfold wr at q
     cases e : F ρ with
     | val ds =>
       rw [e] at q
       intro vs H1 s1 h1
       dsimp only [DL.R.bind] at q
       cases h1 with
       | nil => exact q.elim
       | @cons v1 d1 vs1 ds1 a1 h1 =>
         cases h1 with
         | nil => cases d1 <;> exact q.elim
         | @cons v2 d2 vs2 ds2 a2 h1 =>
           cases h1 with
           | cons _ _ => cases d1 <;> cases d2 <;> exact q.elim
           | nil =>
             cases a1 with
             | lst e1 g1 =>
               cases a2 with
               | lst e2 g2 => exact ⟨_, _, _, _, rfl, SqL.of (msk_sub _ _ e1), SqL.of (msk_sub _ _ e2), q _ H1 s1 (sS e1 g1 e2 g2)⟩
               | _ => exact q.elim
             | _ => cases d2 <;> exact q.elim
     | exc c => rw [e] at q; exact q
     | bad => rw [e] at q; exact q
end
end DL
namespace DL
open PySem PySem.Spec PyProof.Rows L2
section
variable (C:Addr) (X:Cx)
noncomputable abbrev y_ (H:Hp) (v:V) (d:D):Prop:=Has X.K C H v d
noncomputable abbrev pJ (H:Hp) (v:List V) (d:List D):Prop:=HasL X.K C H v d
noncomputable def teR (F:Rho->R D):TE:=fun σ H Q=>∃ ρ:RB,(∃ H0,dC C X H0 ρ σ H)/\pV X (y_ C X) (F ρ) σ H Q
noncomputable def taR (F:Rho->R (List D)):TA:=fun σ H Q=>∃ ρ:RB,(∃ H0,dC C X H0 ρ σ H)/\pL X (pJ C X) (F ρ) σ H Q
noncomputable def ER (e:Expr) (F:Rho->R D):Prop:=PE X e (teR C X F)
noncomputable def AR (es:List Expr) (F:Rho->R (List D)):Prop:=PA X es (taR C X F)
end
section
variable {C:Addr} {X:Cx} {ρ:RB} {σ:St} {H H':Hp}
theorem jQ {e:Expr} {F:Rho->R D} (h:EB C X e F):ER C X e F:=aR h fun σ H Q ⟨ρ,r,q⟩=>⟨ρ,r,by
 cases z:F ρ with
 | val d=>rw [z] at q;exact fun v H' s h=>q v H' s (h.has msk_sub)
 | exc c=>rw [z] at q;exact q
 | bad=>rw [z] at q;exact q⟩
noncomputable def va (i:Nat):Rho->R D:=fun ρ=>match ρ[i]? with
 | some (some (.shr d))=>.val d
 | some (some (.own xs))=>.val (.lst xs)
 | some (some (.tre _ d))=>.val d
 | _=>.bad
theorem ql {i:Nat} {x:Str} {pos:Pos} (h:PE X (.Name x pos) (d9 i)):ER C X (.Name x pos) (va i):=by
 refine aR h fun σ H Q zz1=>?_
 obtain ⟨ρ,⟨H0,r⟩,q⟩:=zz1
 unfold va at q
 split at q
 ·rename_i d e
  obtain ⟨v,e1,h1⟩:=r.at_ i _ e
  exact ⟨v,e1,q v H (Same.refl _) (h1.mono msk_sub)⟩
 ·rename_i xs e
  obtain ⟨a,vs,e1,_,h1,h2⟩:=r.at_ i _ e
  exact ⟨_,e1,q _ H (Same.refl _) (.lst h1 (h2.mono msk_sub))⟩
 ·rename_i k d e
  obtain ⟨v,B,e1,_,h1⟩:=r.at_ i _ e
  exact ⟨_,e1,q _ H (Same.refl _) (h1.has msk_sub)⟩
 ·exact q.elim
noncomputable def flF (F:Rho->R D):Rho->R D:=fun ρ=>(F ρ).bind fun d=>match d with
 | .int i=>.val (.int i)
 | .bl b=>.val (.bl b)
 | .non=>.val .non
 | _=>.bad
theorem rE {e:Expr} {F:Rho->R D} (h:ER C X e F):ED C X e (flF F):=aR h fun σ H Q ⟨ρ,r,q⟩=>⟨ρ,r,by
 unfold flF at q
 cases z:F ρ with
 | val d =>
  rw [z] at q
  intro v H' s h
  cases d with
  | int i=>cases h;exact q _ H' s (.int i)
  | bl i=>cases h;exact q _ H' s (.bl i)
  | non=>cases h;exact q _ H' s .non
  | _=>exact q.elim
 | exc c=>rw [z] at q;exact q
 | bad=>rw [z] at q;exact q⟩
theorem qy:AR C X [] aN:=ku dP fun σ H Q ⟨ρ,r0,q⟩=>q [] H (Same.refl _) .nil
theorem fg {e:Expr} {es:List Expr} {Fa:Rho->R D} {Fr:Rho->R (List D)} (ha:ER C X e Fa) (hr:AR C X es Fr) (hs:starEach (e :: es) X.env=(false,eval e X.env) :: starEach es X.env:=by rfl):AR C X (e :: es) (aC Fa Fr) :=
 ku (da ha hr hs) fun σ H Q ⟨ρ,⟨H0,r0⟩,q⟩=>⟨ρ,⟨H0,r0⟩,bf (P:=fun z H=>pL X (pJ C X) z σ H Q) (fun _ h=>h) (fun h=>h) q fun x v H1 s1 h1 q1 =>
  ⟨ρ,⟨H0,r0.mono s1⟩,dQ (P:=fun z H=>pL X (pJ C X) z σ H Q) (fun _ h=>h) (fun h=>h) (q1.mono s1) fun xs vs H2 s2 h2 q2=>q2 _ H2 s2 (.cons (h1.mono s2) h2)⟩⟩
theorem xf {k n:Nat} {den:List D->R D} {x:Str} {p pos:Pos} {e:Expr} {es:List Expr} {Fa:Rho->R (List D)} (F:Fn X.prog X.w X.K X.mg X.base C k x n den) (hr:Room k X.A) (hg:Gl X x) (ha:AR C X (e :: es) Fa)
  (hdb:(x == ("__debug__":Str))=false:=by decide) (he:starEach (e :: es) X.env=(false,eval e X.env) :: starEach es X.env:=by rfl) (hpl:(backTo pos (starEach es X.env)).any (·.1)=false:=by rfl) :
  ER C X (.Call (.Name x p) (e :: es) [] pos) (cal n den Fa):=by
 obtain ⟨f,fd,ps,F,hm,hk,hb⟩:=F
 rintro pins s σ H Q I ⟨ρ,⟨H0,r0⟩,q⟩
 refine wpAny_Call_Name_kw (gq I hg hm ?_ hdb)
 refine PySem.W.callWith_K (h₀:=X.base) I.ok.mod.kin hk (thn (ha pos pins s σ H (fun vs H1=>∃ ds d,ds.length=n/\Same H H1/\pJ C X H1 vs ds/\den ds=.val d/\∀ v H',Same H H'->y_ C X H' v d->Q v H') I
  ⟨ρ,⟨H0,r0⟩,dQ (P:=fun z H=>pV X (y_ C X) z σ H Q) (fun _ h=>h) (fun h=>h) q fun ds vs H1 s1 h1 q1=>?_⟩) fun us s1 ⟨vs,H1,I1,rv,ds,d,hl,s1',h1,e1,q1⟩=>⟨I1.kIn,?_⟩) he hpl
 ·split at q1
  ·rename_i hl
   cases e1:den ds with
   | val d=>rw [e1] at q1;exact ⟨ds,d,hl,s1,h1,e1,q1⟩
   | exc c=>rw [e1] at q1;exact q1.elim
   | bad=>rw [e1] at q1;exact q1.elim
  ·exact q1.elim
 ·refine thn (kM (E:=E0) (Q:=fun v M'=>Same H1 M'/\Has X.K C M' v d) F hr hb .nil mF I1 rv ?_) fun u s2 ⟨v,M',J2,ru,sm,hv⟩=>⟨v,M',J2,ru,q1 v M' (s1'.trans sm) hv⟩
  rw [List.append_nil]
  refine ⟨h1.len.trans hl,ds,h1,?_⟩
  rw [e1]
  exact fun v H' s2 h2=>⟨s2,h2⟩
end
end DL
namespace DL
open PySem PySem.Spec PyProof.Rows L2
noncomputable def spK (K:PySem.W.Frag) (C:Addr) (n:Nat) (kr:OK) (den:List D->R D):Sp:=fun vs H Q _=>vs.length=n/\∃ ds,HasL K C H vs ds/\match den ds with
 | .val d=>∀ v H' A,Same H H'->(∀ a ∈ A,H a=none)->Tre K C (cut A H') H' kr v d A->Q v H'
 | _=>False
noncomputable def FnK (P:Program) (w:World) (K:PySem.W.Frag) (mg:Str->Option Value) (base:Heap) (C:Addr) (k:Nat) (x:Str) (n:Nat) (kr:OK) (den:List D->R D):Prop :=
 ∃ f fd ps,FnOk P w K mg base CX0 k f fd ps (spK K C n kr den)/\mg x=some (.ref f)/\PySem.W.keepIn K (.ref f)=true/\Binds K fd ps []
section
variable (C:Addr) (X:Cx)
noncomputable def pR (kr:OK) (r:R D) (H0:Hp) (Q:VK):Prop:=match r with
 | .val d=>∀ v H' A,Same H0 H'->(∀ a ∈ A,H0 a=none)->Tre X.K C (cut A H') H' kr v d A->Q v H'
 | _=>False
noncomputable def tsK (kr:OK) (F:Rho->R D):TS:=fun Dn σ H=>∃ ρ H0,qB C X H0 ρ σ H/\pR C X kr (F ρ) H0 Dn.rt
noncomputable def om (kr:OK) (st:List Stmt) (F:Rho->R D):Prop:=PSs X st (tsK C X kr F)
end
noncomputable def sqK (F:Rho->R Out) (G:Rho->R D):Rho->R D:=fun ρ=>match F ρ with
 | .val (.nx ρ')=>G ρ'
 | _=>.bad
noncomputable def rtK (i:Nat) (kr:OK):Rho->R D:=fun ρ=>match ρ[i]? with
 | some (some (.tre k d))=>if k=kr then .val d else .bad
 | _=>.bad
section
variable {C:Addr} {X:Cx}
theorem fV {kr:OK} {st:Stmt} {rest:List Stmt} {F:Rho->R Out} {G:Rho->R D} (h1:SD C X st F) (h2:om C X kr rest G):om C X kr (st :: rest) (sqK F G) :=
 fW (gN h1 h2) fun D σ H ⟨ρ,H0,r,q⟩=>by
  refine ⟨ρ,H0,r,?_⟩
  unfold sqK at q
  cases e:F ρ with
  | val o =>
   rw [e] at q
   cases o with
   | nx ρ'=>exact fun σ' H' r'=>⟨ρ',H0,r',q⟩
   | rt d=>exact q.elim
   | bk ρ'=>exact q.elim
   | ct ρ'=>exact q.elim
  | exc c=>rw [e] at q;exact q.elim
  | bad=>rw [e] at q;exact q.elim
theorem vw {kr:OK} {e:Expr} {pos:Pos} {F:Rho->R D} (he:KD C X kr e F):om C X kr [.Return (some e) pos] F :=
 fW (iN (p5 he)) fun D σ H ⟨_,H0,⟨ρ,er,r⟩,q⟩=>by
  subst er
  refine ⟨ρ,⟨H0,r⟩,?_⟩
  cases z:F ρ with
  | val d =>
   rw [z] at q
   exact fun v H' A s hA h=>q v H' A ((r.keep.trans msk_sub).trans s) (fun a ha=>dH (r.keep.trans msk_sub) (hA a ha)) (h.stay (fun b o e=>cut_some.mpr ⟨(cut_some.mp e).1,(msk_some.mp (cut_some.mp e).2).2⟩) (.of (Same.refl _)))
  | exc c=>rw [z] at q;exact q.elim
  | bad=>rw [z] at q;exact q.elim
theorem oA {kr:OK} {i:Nat} {x:Str} {p pos:Pos} (hv:PE X (.Name x p) (d9 i)):om C X kr [.Return (some (.Name x p)) pos] (rtK i kr) :=
 fW (iN (p5 hv)) fun D σ H ⟨_,H0,⟨ρ,er,r⟩,q⟩=>by
  subst er
  unfold rtK at q
  split at q
  ·rename_i k d e
   split at q
   ·rename_i ek
    subst ek
    obtain ⟨v,B,e1,hB,h⟩:=r.at_ i _ e
    refine ⟨v,e1,q v H B (r.keep.trans msk_sub) (fun a ha=>?_) (h.stay (fun b o eb=>cut_some.mpr ⟨fun hb=>(msk_some.mp eb).1 ⟨i,hB b hb⟩,(msk_some.mp eb).2⟩) (.of (Same.refl _)))⟩
    cases z:H0 a with
    | none=>rfl
    | some o=>exact absurd ⟨i,hB a ha⟩ (msk_some.mp (r.keep a o z)).1
   ·exact q.elim
  ·exact q.elim
theorem ut {k n:Nat} {kr:OK} {den:List D->R D} {x:Str} {p pos:Pos} {e:Expr} {es:List Expr} {Fa:Rho->R (List D)} (F:FnK X.prog X.w X.K X.mg X.base C k x n kr den) (hr:Room k X.A) (hg:Gl X x) (ha:AD C X (e :: es) Fa)
  (hdb:(x == ("__debug__":Str))=false:=by decide) (he:starEach (e :: es) X.env=(false,eval e X.env) :: starEach es X.env:=by rfl) (hpl:(backTo pos (starEach es X.env)).any (·.1)=false:=by rfl) :
  KD C X kr (.Call (.Name x p) (e :: es) [] pos) (cal n den Fa):=by
 obtain ⟨f,fd,ps,F,hm,hk,hb⟩:=F
 rintro pins s σ H Q I ⟨ρ,⟨H0,r0⟩,q⟩
 refine wpAny_Call_Name_kw (gq I hg hm ?_ hdb)
 refine PySem.W.callWith_K (h₀:=X.base) I.ok.mod.kin hk (thn (ha pos pins s σ H (fun vs H1=>∃ ds d,ds.length=n/\Same H H1/\jd C X ρ σ H1 vs ds/\den ds=.val d/\∀ v H' A,Same H H'->(∀ a ∈ A,H a=none)->Tre X.K C (cut A (msk ρ σ H')) H' kr v d A->Q v H') I
  ⟨ρ,⟨H0,r0⟩,dQ (P:=fun z H=>pK C X kr ρ z σ H Q) (fun _ h=>h) (fun h=>h) q fun ds vs H1 s1 h1 q1=>?_⟩) fun us s1 ⟨vs,H1,I1,rv,ds,d,hl,s1',h1,e1,q1⟩=>⟨I1.kIn,?_⟩) he hpl
 ·split at q1
  ·rename_i hl
   cases e1:den ds with
   | val d=>rw [e1] at q1;exact ⟨ds,d,hl,s1,h1,e1,q1⟩
   | exc c=>rw [e1] at q1;exact q1.elim
   | bad=>rw [e1] at q1;exact q1.elim
  ·exact q1.elim
 ·have r1:=r0.mono s1'
  have Z:=Rel.hid r1 I1
  have J:=I1.hide Z
  refine thn (kM (E:=E0) (Q:=fun v M'=>∃ A,Same (cut (dq ρ σ) H1) M'/\(∀ a ∈ A,cut (dq ρ σ) H1 a=none)/\Tre X.K C (cut A M') M' kr v d A) F hr hb .nil mF J rv ?_) fun u s2 ⟨v,M',J2,ru,A,sm,hA,hv⟩=>?_
  ·rw [List.append_nil]
   refine ⟨h1.len.trans hl,ds,by rw [<- gm r0.bnd];exact h1,?_⟩
   rw [e1]
   exact fun v H' A s2 hA h2=>⟨A,s2,hA,h2⟩
  ·obtain ⟨I2,mz⟩:=I1.show' Z J2
   have sj:Same H1 (jn (dq ρ σ) H1 M'):=fun b o eb=>by
    by_cases hb:b ∈ dq ρ σ
    ·rw [ik hb];exact eb
    ·rw [cx hb];exact sm b o (cut_some.mpr ⟨hb,eb⟩)
   have em:msk ρ σ (jn (dq ρ σ) H1 M')=M':=by
    rw [gm r0.bnd]
    funext b
    by_cases hb:b ∈ dq ρ σ
    ·rw [fy hb,mz b hb]
    ·unfold cut;rw [if_neg hb,cx hb]
   have nz:∀ b o,M' b=some o->jn (dq ρ σ) H1 M' b=some o:=fun b o eb=>by
    rw [cx fun hb=>by rw [mz b hb] at eb;cases eb];exact eb
   refine ⟨v,_,I2,ru,q1 v _ A (s1'.trans sj) (fun a ha=>?_) (by rw [em];exact hv.stay (Same.refl _) (.of nz))⟩
   obtain ⟨us,ea⟩:=hv.lists a ha
   have na:a ∉ dq ρ σ:=fun hb=>by rw [mz a hb] at ea;cases ea
   have:=hA a ha
   unfold cut at this
   rw [if_neg na] at this
   exact dH s1' this
noncomputable def o7:D->Bool
 | .int _=>true
 | .bl _=>true
 | .non=>true
 | _=>false
noncomputable def d8:OK->D->Bool
 | .s,d=>o7 d
 | .l k,.lst xs=>xs.all (d8 k)
 | .p j k,.tup [a,b]=>d8 j a && d8 k b
 | _,_=>false
noncomputable def o6:List OK->List D->Bool
 | k :: ks,d :: ds=>d8 k d && o6 ks ds
 | [],[]=>true
 | _,_=>false
theorem mL {k:OK} {α:Type}:∀ {vs:List α} {ds:List D},vs.length=ds.length->ds.all (d8 k)=true->o6 (vs.map fun _=>k) ds=true
 | [],[],_,_=>rfl
 | _ :: vs,d :: ds,hl,h=>by
  rw [List.all_cons,Bool.and_eq_true] at h
  show (d8 k d && o6 _ ds)=true
  rw [h.1,mL (Nat.succ.inj hl) h.2];rfl
 | [],_ :: _,hl,_=>by cases hl
 | _ :: _,[],hl,_=>by cases hl
mutual
theorem Tre.remask {K:PySem.W.Frag} {M M' H:Hp}:∀ {k:OK} {v:V} {d:D} {A:List Addr},Tre K C M H k v d A->d8 k d=true->Tre K C M' H k v d A
 | _,_,d,_,.s h,f=>by
  unfold d8 at f
  cases h with
  | int i=>exact .s (.int i)
  | bl i=>exact .s (.bl i)
  | non=>exact .s .non
  | _=>cases f
 | _,_,_,_,.l (k:=k) e h n,f=>by
  unfold d8 at f
  exact .l e (TreP.remask h (mL h.len.1 f)) n
 | _,_,_,_,.p (j:=j) (k:=k) e h,f=>by
  refine .p e (TreP.remask h ?_)
  cases h with
  | cons h1 t _=>cases t with
   | cons h2 t _=>cases t with
    | nil =>
     unfold d8 at f
     rw [Bool.and_eq_true] at f
     show (d8 j _ && (d8 k _ && true))=true
     rw [f.1,f.2];rfl
theorem TreP.remask {K:PySem.W.Frag} {M M' H:Hp}:∀ {ks:List OK} {vs:List V} {ds:List D} {A:List Addr},TreP K C M H ks vs ds A->o6 ks ds=true->TreP K C M' H ks vs ds A
 | _,_,_,_,.nil,_=>.nil
 | _,_,_,_,.cons h t n,f=>by
  have f:(d8 _ _ && o6 _ _)=true:=f
  rw [Bool.and_eq_true] at f
  exact .cons (Tre.remask h f.1) (TreP.remask t f.2) n
end
noncomputable def flK (k:OK) (F:Rho->R D):Rho->R D:=fun ρ=>(F ρ).bind fun d=>if d8 k d=true then .val d else .bad
theorem yt {k n:Nat} {kr:OK} {den:List D->R D} {x:Str} {p pos:Pos} {e:Expr} {es:List Expr} {Fa:Rho->R (List D)} (F:FnK X.prog X.w X.K X.mg X.base C k x n kr den) (hr:Room k X.A) (hg:Gl X x) (ha:AR C X (e :: es) Fa)
  (hdb:(x == ("__debug__":Str))=false:=by decide) (he:starEach (e :: es) X.env=(false,eval e X.env) :: starEach es X.env:=by rfl) (hpl:(backTo pos (starEach es X.env)).any (·.1)=false:=by rfl) :
  KD C X kr (.Call (.Name x p) (e :: es) [] pos) (flK kr (cal n den Fa)):=by
 obtain ⟨f,fd,ps,F,hm,hk,hb⟩:=F
 rintro pins s σ H Q I ⟨ρ,⟨H0,r0⟩,q⟩
 refine wpAny_Call_Name_kw (gq I hg hm ?_ hdb)
 refine PySem.W.callWith_K (h₀:=X.base) I.ok.mod.kin hk (thn (ha pos pins s σ H (fun vs H1=>∃ ds d,ds.length=n/\Same H H1/\pJ C X H1 vs ds/\den ds=.val d/\d8 kr d=true/\∀ v H' A,Same H H'->(∀ a ∈ A,H a=none)->Tre X.K C (cut A (msk ρ σ H')) H' kr v d A->Q v H') I
  ⟨ρ,⟨H0,r0⟩,?_⟩) fun us s1 ⟨vs,H1,I1,rv,ds,d,hl,s1',h1,e1,hf,q1⟩=>⟨I1.kIn,?_⟩) he hpl
 ·unfold flK cal at q
  cases ea:Fa ρ with
  | exc c=>rw [ea] at q;exact q
  | bad=>rw [ea] at q;exact q
  | val ds =>
   rw [ea] at q
   dsimp only [DL.R.bind] at q
   intro vs H1 s1 h1
   by_cases hl:ds.length=n
   ·rw [if_pos hl] at q
    cases e1:den ds with
    | val d =>
     rw [e1] at q
     dsimp only [noex,DL.R.bind] at q
     by_cases hf:d8 kr d=true
     ·rw [if_pos hf] at q;exact ⟨ds,d,hl,s1,h1,e1,hf,q⟩
     ·rw [if_neg hf] at q;exact q.elim
    | exc c=>rw [e1] at q;exact q.elim
    | bad=>rw [e1] at q;exact q.elim
   ·rw [if_neg hl] at q;exact q.elim
 ·refine thn (kM (E:=E0) (Q:=fun v M'=>∃ A,Same H1 M'/\(∀ a ∈ A,H1 a=none)/\Tre X.K C (cut A M') M' kr v d A) F hr hb .nil mF I1 rv ?_) fun u s2 ⟨v,M',J2,ru,A,sm,hA,hv⟩=>⟨v,M',J2,ru,q1 v M' A (s1'.trans sm) (fun a ha=>dH s1' (hA a ha)) (hv.remask hf)⟩
  rw [List.append_nil]
  refine ⟨h1.len.trans hl,ds,h1,?_⟩
  rw [e1]
  exact fun v H' A s2 hA h2=>⟨A,s2,hA,h2⟩
end
section
variable {P:Program} {w:World} {K:PySem.W.Frag} {mg:Str->Option Value} {base:Heap} {C:Addr}
theorem nZ {x qual:Str} {st:Stmt} {f:Addr} {fd:FuncData} {N ps:List Str} {k:Nat} {kr:OK} {den:Rho->R D} (F:Fun K x qual st f fd) (sc:aP N ps (ah st))
  (hb:∀ (cdv:Value) (A:Around) (outer:List Env) (s:Shared) (H:Hp) (E:XK),Room k (A.deeper (envOfC qual (ah st) s.heap.objs.size f cdv)) ->
   om C (cw CX0 P w K mg base N qual (ah st) f cdv A outer s H E).nox kr (ay st) den) :
  FnOk P w K mg base CX0 (k + 1) f fd ps (spK K C ps.length kr fun ds=>den (st0 N ds)):=by
 refine F.ok sc (fun vs H Q E h=>h.1) (fun cdv A outer s H vs Q E hr h=>⟨_,hb cdv A outer s H E hr,?_⟩)
 obtain ⟨_,ds,h,q⟩:=h
 exact ⟨st0 N ds,H,mE h,q⟩
end
end DL
namespace DL
open PySem PySem.Spec PyProof.Rows L2
noncomputable def jT:D->List Nat->Option D
 | d,[]=>some d
 | .lst xs,j :: p=>match xs[j]? with
  | some d=>jT d p
  | none=>none
 | .tup xs,j :: p=>match xs[j]? with
  | some d=>jT d p
  | none=>none
 | _,_ :: _=>none
noncomputable def jV:D->List Nat->D->D
 | _,[],e=>e
 | .lst xs,j :: p,e=>match xs[j]? with
  | some d=>.lst (xs.set j (jV d p e))
  | none=>.lst xs
 | .tup xs,j :: p,e=>match xs[j]? with
  | some d=>.tup (xs.set j (jV d p e))
  | none=>.tup xs
 | d,_ :: _,_=>d
noncomputable def gh:OK->List Nat->Option OK
 | k,[]=>some k
 | .l k,_ :: p=>gh k p
 | .p j _,0 :: p=>gh j p
 | .p _ k,1 :: p=>gh k p
 | _,_ :: _=>none
inductive Reach (H:Hp):V->List Nat->V->Prop where
 | nil {v:V}:Reach H v [] v
 | lst {a:Addr} {vs:List V} {j:Nat} {p:List Nat} {v w:V}:H a=some (.lst vs)->vs[j]?=some v->Reach H v p w->Reach H (.ref a) (j :: p) w
 | tup {a:Addr} {vs:List V} {j:Nat} {p:List Nat} {v w:V}:H a=some (.tup vs)->vs[j]?=some v->Reach H v p w->Reach H (.ref a) (j :: p) w
section
variable {K:PySem.W.Frag} {C:Addr} {M M' H H':Hp}
theorem Reach.mono (s:Same H H') {v w:V} {p:List Nat} (h:Reach H v p w):Reach H' v p w:=by
 induction h with
 | nil=>exact .nil
 | lst e q _ ih=>exact .lst (s _ _ e) q ih
 | tup e q _ ih=>exact .tup (s _ _ e) q ih
structure z4 (A B:List Addr) (H H':Hp):Prop where
 at_:∀ a ∈ A,a ∉ B->∀ o,H a=some o->H' a=some o
 tup:∀ a vs,H a=some (.tup vs)->H' a=some (.tup vs)
theorem TreP.pick:∀ {ks:List OK} {vs:List V} {ds:List D} {A:List Addr} {j:Nat} {d:D},TreP K C M H ks vs ds A->ds[j]?=some d->∃ k v A1,ks[j]?=some k/\vs[j]?=some v/\Tre K C M H k v d A1/\(∀ a ∈ A1,a ∈ A) /\
  ∀ {M' H':Hp} {d':D} {A2:List Addr},Same M M'->z4 A A1 H H'->Tre K C M' H' k v d' A2->(∀ a ∈ A2,a ∈ A1\/a ∉ A)->∃ A',TreP K C M' H' ks vs (ds.set j d') A'/\∀ a ∈ A',a ∈ A\/a ∈ A2
 | _,_,_,_,_,_,.nil,e=>by simp at e
 | _,_,_,_,0,d,.cons (k:=k) (v:=v) (A:=A1) (B:=A3) h t n,e=>by
  rw [List.getElem?_cons_zero] at e
  cases e
  refine ⟨k,v,A1,rfl,rfl,h,fun a ha=>List.mem_append_left _ ha,fun {M' H' d' A2} s w h2 f=>⟨A2 ++ A3,.cons h2 (t.stay s ⟨fun a ha o q=>w.at_ a (List.mem_append_right _ ha) (fun z=>n a z ha) o q,w.tup⟩) fun a ha hb=>?_,fun a ha=>?_⟩⟩
  ·rcases f a ha with z | z
   ·exact n a z hb
   ·exact z (List.mem_append_right _ hb)
  ·rcases List.mem_append.mp ha with z | z
   ·exact .inr z
   ·exact .inl (List.mem_append_right _ z)
 | _,_,_,_,j + 1,d,.cons (k:=k0) (v:=v0) (d:=d0) (A:=A0) (B:=A3) h t n,e=>by
  rw [List.getElem?_cons_succ] at e
  obtain ⟨k,v,A1,e1,e2,h1,s1,up⟩:=TreP.pick t e
  refine ⟨k,v,A1,e1,e2,h1,fun a ha=>List.mem_append_right _ (s1 a ha),fun {M' H' d' A2} s w h2 f=>?_⟩
  obtain ⟨A',h3,s3⟩:=up (M':=M') (H':=H') s ⟨fun a ha na o q=>w.at_ a (List.mem_append_right _ ha) na o q,w.tup⟩ h2 fun a ha=>(f a ha).imp id fun z y=>z (List.mem_append_right _ y)
  refine ⟨A0 ++ A',.cons (h.stay s ⟨fun a ha o q=>w.at_ a (List.mem_append_left _ ha) (fun z=>n a ha (s1 a z)) o q,w.tup⟩) h3 fun a ha hb=>?_,fun a ha=>?_⟩
  ·rcases s3 a hb with z | z
   ·exact n a ha z
   ·rcases f a z with y | y
    ·exact n a ha (s1 a y)
    ·exact y (List.mem_append_left _ ha)
  ·rcases List.mem_append.mp ha with z | z
   ·exact .inl (List.mem_append_left _ z)
   ·exact (s3 a z).imp (fun y=>List.mem_append_right _ y) id
theorem wb {α:Type} {k k':OK} {vs:List α} {j:Nat} (h:(vs.map fun _=>k)[j]?=some k'):k'=k:=by
 rw [List.getElem?_map] at h
 cases e:vs[j]? with
 | none=>rw [e] at h;cases h
 | some v=>rw [e] at h;exact (Option.some.inj h).symm
theorem Tre.path:∀ {pp:List Nat} {k k':OK} {v:V} {d d':D} {A:List Addr},Tre K C M H k v d A->jT d pp=some d'->gh k pp=some k'->∃ v' A1,Tre K C M H k' v' d' A1/\(∀ a ∈ A1,a ∈ A)/\Reach H v pp v' /\
  ∀ {M' H':Hp} {e:D} {A2:List Addr},Same M M'->z4 A A1 H H'->Tre K C M' H' k' v' e A2->(∀ a ∈ A2,a ∈ A1\/a ∉ A)->∃ A',Tre K C M' H' k v (jV d pp e) A'/\∀ a ∈ A',a ∈ A\/a ∈ A2
 | [],k,k',v,d,d',A,h,ed,ek=>by
  unfold jT at ed
  unfold gh at ek
  cases ed;cases ek
  exact ⟨v,A,h,fun a ha=>ha,.nil,fun {M' H' e A2} _ _ h2 _=>⟨A2,by unfold jV;exact h2,fun a ha=>.inr ha⟩⟩
 | j :: pp,_,k',_,_,d',_,.s h,ed,ek=>by unfold gh at ek;cases ek
 | j :: pp,_,k',_,_,d',_,.l (k:=k) (a:=a) (vs:=vs) (xs:=xs) (A:=A) ha hp hn,ed,ek=>by
  unfold jT at ed
  unfold gh at ek
  split at ed
  ·rename_i d0 e0
   obtain ⟨k0,v0,A0,q1,q2,h0,s0,up0⟩:=hp.pick e0
   have:=wb q1
   subst this
   obtain ⟨v',A1,h1,s1,rc,up1⟩:=Tre.path h0 ed ek
   refine ⟨v',A1,h1,fun b hb=>List.mem_cons_of_mem _ (s0 b (s1 b hb)),.lst ha q2 rc,fun {M' H' e A2} s w h2 f=>?_⟩
   obtain ⟨A3,h3,s3⟩:=up1 (M':=M') (H':=H') s ⟨fun b hb nb o q=>w.at_ b (List.mem_cons_of_mem _ (s0 b hb)) nb o q,w.tup⟩ h2 fun b hb=>(f b hb).imp id fun z y=>z (List.mem_cons_of_mem _ (s0 b y))
   have f3:∀ b ∈ A3,b ∈ A0\/b ∉ A:=fun b hb=>by
    rcases s3 b hb with z | z
    ·exact .inl z
    ·rcases f b z with y | y
     ·exact .inl (s1 b y)
     ·exact .inr fun x=>y (List.mem_cons_of_mem _ x)
   obtain ⟨A4,h4,s4⟩:=up0 (M':=M') (H':=H') s ⟨fun b hb nb o q=>w.at_ b (List.mem_cons_of_mem _ hb) (fun z=>nb (s1 b z)) o q,w.tup⟩ h3 f3
   have na:a ∉ A2:=fun z=>by
    rcases f a z with y | y
    ·exact hn (s0 a (s1 a y))
    ·exact y List.mem_cons_self
   refine ⟨a :: A4,?_,fun b hb=>?_⟩
   ·unfold jV
    rw [e0]
    refine .l (w.at_ a List.mem_cons_self (fun z=>hn (s0 a (s1 a z))) _ ha) h4 fun z=>?_
    rcases s4 a z with y | y
    ·exact hn y
    ·rcases s3 a y with x | x
     ·exact hn (s0 a x)
     ·exact na x
   ·rcases List.mem_cons.mp hb with rfl | hb
    ·exact .inl List.mem_cons_self
    ·rcases s4 b hb with y | y
     ·exact .inl (List.mem_cons_of_mem _ y)
     ·exact (s3 b y).imp (fun x=>List.mem_cons_of_mem _ (s0 b x)) id
  ·cases ed
 | j :: pp,_,k',_,_,d',_,.p (j:=k1) (k:=k2) (a:=a) (vs:=vs) (xs:=xs) (A:=A) ha hp,ed,ek=>by
  unfold jT at ed
  split at ed
  ·rename_i d0 e0
   obtain ⟨k0,v0,A0,q1,q2,h0,s0,up0⟩:=hp.pick e0
   have ek0:gh k0 pp=some k':=by
    match j,q1,ek with
    | 0,q1,ek=>cases q1;unfold gh at ek;exact ek
    | 1,q1,ek=>cases q1;unfold gh at ek;exact ek
    | n + 2,q1,ek=>cases q1
   obtain ⟨v',A1,h1,s1,rc,up1⟩:=Tre.path h0 ed ek0
   refine ⟨v',A1,h1,fun b hb=>s0 b (s1 b hb),.tup ha q2 rc,fun {M' H' e A2} s w h2 f=>?_⟩
   obtain ⟨A3,h3,s3⟩:=up1 (M':=M') (H':=H') s ⟨fun b hb nb o q=>w.at_ b (s0 b hb) nb o q,w.tup⟩ h2 fun b hb=>(f b hb).imp id fun z y=>z (s0 b y)
   have f3:∀ b ∈ A3,b ∈ A0\/b ∉ A:=fun b hb=>by
    rcases s3 b hb with z | z
    ·exact .inl z
    ·rcases f b z with y | y
     ·exact .inl (s1 b y)
     ·exact .inr y
   obtain ⟨A4,h4,s4⟩:=up0 (M':=M') (H':=H') s ⟨fun b hb nb o q=>w.at_ b hb (fun z=>nb (s1 b z)) o q,w.tup⟩ h3 f3
   refine ⟨A4,?_,fun b hb=>?_⟩
   ·unfold jV
    rw [e0]
    exact .p (w.tup _ _ ha) h4
   ·rcases s4 b hb with y | y
    ·exact .inl y
    ·exact (s3 b y).imp (fun x=>s0 b x) id
  ·cases ed
end
end DL
namespace DL
open PySem PySem.Spec PyProof.Rows L2
section
variable {K:PySem.W.Frag} {C:Addr} {H0 H:Hp} {ρ:RB} {σ:St}
theorem Rel.node (r:Rel K C H0 ρ σ H) {i:Nat} {k k':OK} {d:D} {pp:List Nat} {xs:List D} (e:ρ.rho[i]?=some (some (.tre k d))) (ek:gh k pp=some (.l k')) (ed:jT d pp=some (.lst xs)) :
  ∃ v a vs A0,σ[i]?=some (some v)/\Reach H v pp (.ref a)/\H a=some (.lst vs)/\TreP K C (msk ρ σ H) H (vs.map fun _=>k') vs xs A0/\a ∉ A0 /\
   ∀ {H2:Hp} {ws:List V} {ys:List D} {N B:List Addr},Same H H2->(∀ b ∈ N,H b=none)->TreP K C (cut N (msk ρ σ H2)) (upd H2 a (.lst ws)) (ws.map fun _=>k') ws ys B->(∀ b ∈ B,b ∈ A0\/b ∈ N) ->
    Rel K C H0 (ρ.put i (.tre k (jV d pp (.lst ys))) (ρ.ad i ++ B)) σ (upd H2 a (.lst ws)):=by
 obtain ⟨v,Bt,e1,hB,h⟩:=r.at_ i _ e
 obtain ⟨v',A1,h1,s1,rc,up⟩:=h.path ed ek
 cases h1 with
 | @l _ a vs _ A0 ha hp hn =>
  have aI:a ∈ ρ.ad i:=hB a (s1 a List.mem_cons_self)
  have A0I:∀ b ∈ A0,b ∈ ρ.ad i:=fun b hb=>hB b (s1 b (List.mem_cons_of_mem _ hb))
  refine ⟨v,a,vs,A0,e1,rc,ha,hp,hn,fun {H2 ws ys N B} s hN ht hs=>?_⟩
  have nN:∀ b,b ∈ ρ.ad i->b ∉ N:=fun b hb z=>by
   have:=r.ownAt (σ:=σ) ⟨i,hb⟩
   exact this (hN b z)
  have ne:∀ b vs',H b=some (.tup vs')->b ≠ a:=fun b vs' q z=>by rw [z,ha] at q;cases q
  refine r.put rfl (fun j _=>rfl) (fun b hb=>?_) (fun j hj=>⟨fun b hb o q=>?_,fun b vs' q=>?_⟩) (fun b o q=>?_) (fun b hb=>?_) fun hi sub=>?_
  ·rcases List.mem_append.mp hb with hb | hb
   ·exact .inl hb
   ·rcases hs b hb with z | z
    ·exact .inl (A0I b z)
    ·exact .inr (hN b z)
  ·rw [aE fun (z:b=a)=>hj (r.inj j i b hb (z ▸ aI))];exact s b o q
  ·rw [aE (ne b vs' q)];exact s b _ q
  ·obtain ⟨g1,g2⟩:=msk_some.mp q
   rw [aE fun (z:b=a)=>g1 ⟨i,z ▸ aI⟩];exact s b o g2
  ·by_cases z:b=a
   ·exact .inl ⟨ws,by rw [z];exact aU⟩
   ·rcases List.mem_append.mp hb with hb | hb
    ·rw [aE z]
     exact (r.kin i b hb).imp (fun ⟨us,q⟩=>⟨us,s _ _ q⟩) fun ⟨us,q⟩=>⟨us,s _ _ q⟩
    ·exact .inl (ht.lists b hb)
  ·have aB:a ∉ B:=fun z=>by
    rcases hs a z with y | y
    ·exact hn y
    ·exact nN a aI y
   obtain ⟨A',h3,s3⟩:=up (M':=msk (ρ.put i (.tre k (jV d pp (.lst ys))) (ρ.ad i ++ B)) σ (upd H2 a (.lst ws))) (H':=upd H2 a (.lst ws)) sub ⟨fun b hb nb o q=>by rw [aE fun (z:b=a)=>nb (z ▸ List.mem_cons_self)];exact s b o q,fun b vs' q=>by rw [aE (ne b vs' q)];exact s b _ q⟩
    (.l (k:=k') aU (ht.stay (fun b o q=>by
     obtain ⟨g1,g2⟩:=cut_some.mp q
     obtain ⟨g3,g4⟩:=msk_some.mp g2
     refine msk_some.mpr ⟨fun ⟨j,z⟩=>?_,by rw [aE fun (z:b=a)=>g3 ⟨i,z ▸ aI⟩];exact g4⟩
     rcases eQ z with ⟨_,_,z⟩ | ⟨_,z⟩
     ·rcases List.mem_append.mp z with z | z
      ·exact g3 ⟨i,z⟩
      ·rcases hs b z with y | y
       ·exact g3 ⟨i,A0I b y⟩
       ·exact g1 y
     ·exact g3 ⟨j,z⟩) (.of (Same.refl _))) aB) (fun b hb=>by
     rcases List.mem_cons.mp hb with z | z
     ·exact .inl (z ▸ List.mem_cons_self)
     ·rcases hs b z with y | y
      ·exact .inl (List.mem_cons_of_mem _ y)
      ·exact .inr fun x=>nN b (hB b x) y)
   refine ⟨v,A',e1,fun b hb=>?_,h3⟩
   rcases s3 b hb with z | z
   ·exact List.mem_append_left _ (hB b z)
   ·rcases List.mem_cons.mp z with z | z
    ·exact List.mem_append_left _ (z ▸ aI)
    ·exact List.mem_append_right _ z
theorem Reach.det {v:V} {pp:List Nat} {w w':V} (h:Reach H v pp w) (h':Reach H v pp w'):w=w':=by
 induction h with
 | nil=>cases h';rfl
 | lst e q _ ih =>
  cases h' with
  | lst e' q' h'=>rw [e] at e';cases e';rw [q] at q';cases q';exact ih h'
  | tup e' q' h'=>rw [e] at e';cases e'
 | tup e q _ ih =>
  cases h' with
  | lst e' q' h'=>rw [e] at e';cases e'
  | tup e' q' h'=>rw [e] at e';cases e';rw [q] at q';cases q';exact ih h'
theorem Reach.snocL {v u:V} {pp:List Nat} {w:V} {a:Addr} {vs:List V} {j:Nat} (h:Reach H v pp w) (ew:w=.ref a) (e:H a=some (.lst vs)) (q:vs[j]?=some u):Reach H v (pp ++ [j]) u:=by
 induction h with
 | nil=>subst ew;exact .lst e q .nil
 | lst e' q' _ ih=>exact .lst e' q' (ih ew)
 | tup e' q' _ ih=>exact .tup e' q' (ih ew)
theorem Reach.snocT {v u:V} {pp:List Nat} {w:V} {a:Addr} {vs:List V} {j:Nat} (h:Reach H v pp w) (ew:w=.ref a) (e:H a=some (.tup vs)) (q:vs[j]?=some u):Reach H v (pp ++ [j]) u:=by
 induction h with
 | nil=>subst ew;exact .tup e q .nil
 | lst e' q' _ ih=>exact .lst e' q' (ih ew)
 | tup e' q' _ ih=>exact .tup e' q' (ih ew)
end
section
variable {C:Addr} {X:Cx}
noncomputable def pN0 (i:Nat):Rho->R (List Nat):=fun ρ=>match ρ[i]? with
 | some (some (.tre _ _))=>.val []
 | _=>.bad
noncomputable def pIx (k:OK) (d:D) (pp:List Nat) (n:Int):R (List Nat):=match gh k pp,jT d pp with
 | some (.l _),some (.lst xs)=>match ixN xs.length n with
  | some j=>.val (pp ++ [j])
  | none=>.bad
 | some (.p _ _),some (.tup xs)=>match ixN xs.length n with
  | some j=>.val (pp ++ [j])
  | none=>.bad
 | _,_=>.bad
noncomputable def pN (i:Nat) (P:Rho->R (List Nat)) (b:Rho->R D):Rho->R (List Nat):=fun ρ=>(P ρ).bind fun pp=>(b ρ).bind fun n=>match ρ[i]?,n with
 | some (some (.tre k d)),.int n=>pIx k d pp n
 | _,_=>.bad
variable (C X) in
noncomputable def teN (i:Nat) (P:Rho->R (List Nat)):TE:=fun σ H Q=>∃ ρ:RB,(∃ H0,dC C X H0 ρ σ H)/\match P ρ with
 | .val pp=>∀ v w H',σ[i]?=some (some v)->Same H H'->Reach H' v pp w->Q w H'
 | .exc c=>XE X c σ H
 | .bad=>False
variable (C X) in
noncomputable def ND (i:Nat) (o:Expr) (P:Rho->R (List Nat)):Prop:=PE X o (teN C X i P)
theorem ni {i:Nat} {x:Str} {pos:Pos} (h:PE X (.Name x pos) (d9 i)):ND C X i (.Name x pos) (pN0 i):=by
 refine aR h fun σ H Q ⟨ρ,⟨H0,r⟩,q⟩=>?_
 unfold pN0 at q
 split at q
 ·rename_i e
  split at e
  ·rename_i k d e0
   cases e
   obtain ⟨v,B,e1,_,_⟩:=r.at_ i _ e0
   exact ⟨v,e1,q v v H e1 (Same.refl _) .nil⟩
  ·cases e
 ·rename_i e
  split at e <;> cases e
 ·exact q.elim
theorem vg {α:Type} {vs:List α} {n:Int} {j:Nat} (e:ixN vs.length n=some j):atI vs n=vs[j]?:=by
 unfold atI
 rw [e]
 rfl
theorem ux {m j:Nat} {n:Int} (e:ixN m n=some j):j < m:=by
 unfold ixN at e
 split at e
 ·split at e
  ·cases e;omega
  ·cases e
 ·split at e
  ·cases e;omega
  ·cases e
theorem zF {i:Nat} {o b:Expr} {pos:Pos} {P:Rho->R (List Nat)} {Fb:Rho->R D} (ho:ND C X i o P) (hb:ED C X b Fb) (hs:jc b:=by exact fun _ _=>rfl):ND C X i (.Subscript o b pos) (pN i P Fb) :=
 aR (tU uw ho hb hs) fun σ H Q ⟨ρ,⟨H0,r⟩,q⟩=>by
  refine ⟨ρ,⟨H0,r⟩,?_⟩
  unfold pN at q
  cases eP:P ρ with
  | exc c=>rw [eP] at q;exact q
  | bad=>rw [eP] at q;exact q
  | val pp =>
   rw [eP] at q
   dsimp only [DL.R.bind] at q
   intro v w H1 e1 s1 rc
   refine ⟨ρ,⟨H0,r.mono s1⟩,?_⟩
   cases eb:Fb ρ with
   | exc c=>rw [eb] at q;exact XE.mono s1 q
   | bad=>rw [eb] at q;exact q
   | val n =>
    rw [eb] at q
    dsimp only at q
    intro y H2 s2 hy
    split at q
    ·rename_i pq e0
     split at e0
     ·rename_i k d n' er
      cases hy
      unfold pIx at e0
      obtain ⟨v0,B,e2,_,h⟩:=r.at_ i _ er
      rw [e1] at e2;cases e2
      split at e0
      ·rename_i k1 xs ek ed
       split at e0
       ·rename_i j ej
        cases e0
        obtain ⟨v',A1,h1,_,rc',_⟩:=h.path ed ek
        have:=Reach.det (rc'.mono s1) rc
        subst this
        cases h1 with
        | @l _ a vs _ A0 ha hp hn =>
         have ha2:=s2 _ _ (s1 _ _ ha)
         have hl:vs.length=xs.length:=hp.len.1
         have hj:j < vs.length:=by rw [hl];exact ux ej
         exact .inl ⟨a,vs,n',vs[j],rfl,rfl,SqL.of ha2,by rw [vg (j:=j) (by rw [hl];exact ej)];exact List.getElem?_eq_getElem hj,q v _ H2 e1 (s1.trans s2) ((rc.mono s2).snocL rfl ha2 (List.getElem?_eq_getElem hj))⟩
       ·cases e0
      ·rename_i k1 k2 xs ek ed
       split at e0
       ·rename_i j ej
        cases e0
        obtain ⟨v',A1,h1,_,rc',_⟩:=h.path ed ek
        have:=Reach.det (rc'.mono s1) rc
        subst this
        cases h1 with
        | @p _ _ a vs _ A0 ha hp =>
         have ha2:=s2 _ _ (s1 _ _ ha)
         have hl:vs.length=xs.length:=hp.len.1
         have hj:j < vs.length:=by rw [hl];exact ux ej
         exact .inr (.inl ⟨a,vs,n',vs[j],rfl,rfl,SqT.of ha2,by rw [vg (j:=j) (by rw [hl];exact ej)];exact List.getElem?_eq_getElem hj,q v _ H2 e1 (s1.trans s2) ((rc.mono s2).snocT rfl ha2 (List.getElem?_eq_getElem hj))⟩)
       ·cases e0
      ·cases e0
     ·cases e0
    ·rename_i c e0
     exfalso
     split at e0
     ·unfold pIx at e0
      split at e0
      ·split at e0 <;> cases e0
      ·split at e0 <;> cases e0
      ·cases e0
     ·cases e0
    ·exact q.elim
end
end DL
namespace DL
open PySem PySem.Spec PyProof.Rows L2
section
variable (C:Addr) (X:Cx)
noncomputable def pI (σ:St) (z:R Rho) (H0:Hp) (Dn:je):Prop:=match z with
 | .val ρ'=>∀ H',qB C X H0 ρ' σ H'->Dn.nx σ H'
 | .exc c=>XS X c H0
 | .bad=>False
noncomputable def tsI (F:Rho->R Rho):TS:=fun Dn σ H=>∃ ρ H0,qB C X H0 ρ σ H/\pI C X σ (F ρ) H0 Dn
noncomputable def SDi (st:Stmt) (F:Rho->R Rho):Prop:=PS X st (tsI C X F)
end
section
variable {K:PySem.W.Frag} {C:Addr} {M H:Hp}
end
noncomputable def sX (i:Nat) (k':OK) (pp:List Nat) (f:List D->R (List D)):Rho->R Rho:=fun ρ=>match ρ[i]? with
 | some (some (.tre k d))=>if gh k pp=some (.l k') then (match jT d pp with
  | some (.lst xs)=>(f xs).bind fun ys=>.val (ρ.set i (some (.tre k (jV d pp (.lst ys)))))
  | _=>.bad) else .bad
 | _=>.bad
noncomputable def apF (x:D) (xs:List D):R (List D):=if xs.length < LIM then .val (xs ++ [x]) else .bad
theorem yX {x:D}:∀ xs c,apF x xs ≠ .exc c:=fun xs c e=>by unfold apF at e;split at e <;> cases e
noncomputable def apP (i:Nat) (k':OK) (P:Rho->R (List Nat)) (e:Rho->R D):Rho->R Rho:=fun ρ=>(P ρ).bind fun pp=>(noE (e ρ)).bind fun x=>sX i k' pp (apF x) ρ
section
variable {C:Addr} {X:Cx}
noncomputable def asO (F:Rho->R Rho):Rho->R Out:=fun ρ=>(F ρ).bind fun ρ'=>.val (.nx ρ')
theorem xv {st:Stmt} {F:Rho->R Rho} (h:SDi C X st F):SD C X st (asO F):=bK h fun D σ H ⟨ρ,H0,r,q⟩=>⟨ρ,H0,r,by
 unfold asO at q
 cases e:F ρ with
 | val ρ'=>rw [e] at q;exact fun H' r'=>q σ H' r'
 | exc c=>rw [e] at q;exact q
 | bad=>rw [e] at q;exact q⟩
theorem tX {H0:Hp} {Dn:je} {c:Nat} {ρ:RB} {σ:St} {H:Hp} (r:dC C X H0 ρ σ H) (h:pI C X σ (.exc c) H0 Dn):XE X c σ H:=XS.xe (r.keep.trans msk_sub) h
theorem sW {i:Nat} {k':OK} {pp:List Nat} {f:List D->R (List D)} {ρ:RB} {σ:St} {H H0:Hp} {D:je} (hf:∀ xs c,f xs ≠ .exc c) (r:dC C X H0 ρ σ H) (q:pI C X σ (sX i k' pp f ρ) H0 D) :
  ∃ xs ys v a vs A0,f xs=.val ys/\σ[i]?=some (some v)/\Reach H v pp (.ref a)/\H a=some (.lst vs)/\TreP X.K C (msk ρ σ H) H (vs.map fun _=>k') vs xs A0/\a ∉ A0 /\
   ∀ {H2:Hp} {ws:List V} {N B:List Addr},Same H H2->(∀ b ∈ N,H b=none)->TreP X.K C (cut N (msk ρ σ H2)) (upd H2 a (.lst ws)) (ws.map fun _=>k') ws ys B->(∀ b ∈ B,b ∈ A0\/b ∈ N)->D.nx σ (upd H2 a (.lst ws)):=by
 unfold sX at q
 split at q
 ·rename_i k d er
  by_cases ek:gh k pp=some (.l k')
  ·rw [if_pos ek] at q
   split at q
   ·rename_i xs ed
    cases ef:f xs with
    | val ys =>
     rw [ef] at q
     obtain ⟨v,a,vs,A0,e1,rc,ha,hp,hn,up⟩:=r.node er ek ed
     exact ⟨xs,ys,v,a,vs,A0,ef,e1,rc,ha,hp,hn,fun {H2 ws N B} s hN ht hs=>q _ ⟨_,rfl,up s hN ht hs⟩⟩
    | exc c=>exact (hf xs c ef).elim
    | bad=>rw [ef] at q;exact q.elim
   ·exact q.elim
  ·rw [if_neg ek] at q;exact q.elim
 ·exact q.elim
theorem so {k':OK} {ρ:RB} {σ:St} {H H0 H2:Hp} {a:Addr} {vs ws:List V} {xs:List D} {A0 N:List Addr} (r:dC C X H0 ρ σ H) (s:Same H H2) (ha:H a=some (.lst vs)) (hn:a ∉ A0) (hN:∀ b ∈ N,H b=none) (hp:TreP X.K C (msk ρ σ H) H (vs.map fun _=>k') vs xs A0) :
  TreP X.K C (cut N (msk ρ σ H2)) (upd H2 a (.lst ws)) (vs.map fun _=>k') vs xs A0 :=
 hp.stay (fun b o e=>cut_some.mpr ⟨fun z=>Option.some_ne_none _ ((msk_some.mp e).2.symm.trans (hN b z)),aX s b o e⟩)
  ⟨fun b hb o e=>by rw [aE fun (z:b=a)=>hn (z ▸ hb)];exact s b o e,fun b us e=>by rw [aE fun (z:b=a)=>by rw [z,ha] at e;cases e];exact s b _ e⟩
theorem ua {k':OK} {ρ:RB} {σ:St} {H H1 H2:Hp} {a:Addr} {vs ws:List V} {y:V} {x:D} {N:List Addr} (ha:H a=some (.lst vs)) (s1:Same H H1) (s2:Same H1 H2) (hN:∀ b ∈ N,H b=none) (h:Tre X.K C (cut N (msk ρ σ H1)) H1 k' y x N) :
  Tre X.K C (cut N (msk ρ σ H2)) (upd H2 a (.lst ws)) k' y x N :=
 h.stay (fun b o e=>cut_some.mpr ⟨(cut_some.mp e).1,aX s2 b o (cut_some.mp e).2⟩)
  ⟨fun b hb o e=>by rw [aE fun (z:b=a)=>Option.some_ne_none _ (ha.symm.trans (z ▸ hN b hb))];exact s2 b o e,fun b us e=>by rw [aE fun (z:b=a)=>by rw [z,s1 _ _ ha] at e;cases e];exact s2 b _ e⟩
theorem sJ {k':OK} {ρ:RB} {σ:St} {H:Hp} {vs:List V} {xs:List D} {A0 N:List Addr} (hN:∀ b ∈ N,H b=none) (hp:TreP X.K C (msk ρ σ H) H (vs.map fun _=>k') vs xs A0):∀ b ∈ A0,b ∉ N:=fun b hb z=>by
 obtain ⟨us,e⟩:=hp.lists b hb
 rw [hN b z] at e;cases e
theorem oB {i:Nat} {k':OK} {o e:Expr} {ap cp pos:Pos} {P:Rho->R (List Nat)} {F:Rho->R D} (ho:ND C X i o P) (he:KD C X k' e F)
  (hs:∀ {to:TE} {t:TA},PE X o to->PA X [e] t->PS X (.Expr (.Call (.Attribute o "append" ap) [e] [] cp) pos) (jK (tBM X.K "list" kl to t)):=by
   exact fun ho ha=>h8 (qR PySem.F.plainAttrs_list PySem.F.slot_list_append PySem.F.type_list_append ia ho ha))
  (hst:starEach [e] X.env=(false,eval e X.env) :: starEach [] X.env:=by rfl) :
  SDi C X (.Expr (.Call (.Attribute o "append" ap) [e] [] cp) pos) (apP i k' P F) :=
 bK (hs ho (da he dP hst)) fun D σ H ⟨_,H0,⟨ρ,er,r⟩,q⟩=>by
  subst er
  refine ⟨ρ,⟨H0,r⟩,?_⟩
  unfold apP at q
  cases eP:P ρ with
  | exc c=>rw [eP] at q;exact tX r q
  | bad=>rw [eP] at q;exact q.elim
  | val pp =>
   rw [eP] at q
   dsimp only [DL.R.bind] at q
   intro v w H1 e1 s1 rc
   cases eF:F ρ with
   | exc c=>rw [eF] at q;exact q.elim
   | bad=>rw [eF] at q;exact q.elim
   | val x =>
    rw [eF] at q
    obtain ⟨xs,ys,v0,a,vs,A0,ef,e2,rc0,ha,hp,hn,up⟩:=sW yX r q
    rw [e1] at e2;cases e2
    have:=Reach.det (rc0.mono s1) rc
    subst this
    unfold apF at ef
    by_cases hl:xs.length < LIM
    ·rw [if_pos hl] at ef
     cases ef
     refine ⟨.inl ⟨rfl,_,SqL.of (s1 _ _ ha)⟩,ρ,⟨H0,r.mono s1⟩,?_⟩
     rw [eF]
     intro y H2 N s2 hN hy
     have hN':∀ b ∈ N,H b=none:=fun b hb=>dH s1 (hN b hb)
     refine ⟨a,vs,y,rfl,rfl,s2 _ _ (s1 _ _ ha),by rw [hp.len.1];exact Nat.lt_of_lt_of_le hl (by decide),?_⟩
     obtain ⟨B,hB,h3⟩:=TreP.app (ua (ws:=vs ++ [y]) ha (s1.trans s2) (Same.refl _) hN' hy) (so (ws:=vs ++ [y]) r (s1.trans s2) ha hn hN' hp) (sJ hN' hp)
     exact up (s1.trans s2) hN' (by rw [List.map_append];exact h3) fun b hb=>(hB b).mp hb
    ·rw [if_neg hl] at ef;cases ef
end
end DL
namespace DL
open PySem PySem.Spec PyProof.Rows L2
section
variable {K:PySem.W.Frag} {C:Addr} {M M' H:Hp}
end
section
variable (C:Addr) (X:Cx)
end
section
variable {C:Addr} {X:Cx} {m:Nat}
end
section
variable {P:Program} {w:World} {K:PySem.W.Frag} {mg:Str->Option Value} {base:Heap} {C:Addr}
end
end DL
namespace DL
open PySem PySem.Spec PyProof.Rows L2
section
variable {C:Addr} {X:Cx}
end
end DL
namespace DL
open PySem PySem.Spec PyProof.Rows L2
section
variable {C:Addr} {X:Cx}
end
end DL
namespace DL
open PySem PySem.Spec PyProof.Rows L2
section
variable {C:Addr} {X:Cx}
noncomputable def pFR (C:Addr) (X:Cx) (r:R (List D)) (σ:St) (H:Hp) (Q:VK):Prop:=match r with
 | .val xs=>∀ a vs H1,Same H H1->H1 a=none->HasL X.K C H1 vs xs->Q (.ref a) (upd H1 a (.lst vs))
 | .exc c=>XE X c σ H
 | .bad=>False
variable (C X) in
noncomputable def Aa (F:Rho->R (List D)):TE:=fun σ H Q=>∃ ρ:RB,(∃ H0,dC C X H0 ρ σ H)/\pFR C X (F ρ) σ H Q
variable (C X) in
noncomputable def FR (e:Expr) (F:Rho->R (List D)):Prop:=PE X e (Aa C X F)
theorem o5 {K:PySem.W.Frag} {H H':Hp}:∀ {vs:List V} {xs:List D},xs.all o7=true->HasL K C H vs xs->HasL K C H' vs xs
 | _,_,_,.nil=>.nil
 | _,_,f,.cons a b=>by
  rw [List.all_cons,Bool.and_eq_true] at f
  refine .cons ?_ (o5 f.2 b)
  cases a with
  | int i=>exact .int i
  | bl i=>exact .bl i
  | non=>exact .non
  | _=>cases f.1
noncomputable def flL (F:Rho->R (List D)):Rho->R (List D):=fun ρ=>(F ρ).bind fun xs=>if xs.all o7=true then .val xs else .bad
theorem zS {e:Expr} {F:Rho->R (List D)} (h:FR C X e F):FD C X e (flL F):=aR h fun σ H Q ⟨ρ,r0,q⟩=>⟨ρ,r0,by
 unfold flL at q
 cases z:F ρ with
 | val xs =>
  rw [z] at q
  dsimp only [DL.R.bind] at q
  by_cases hf:xs.all o7=true
  ·rw [if_pos hf] at q;exact fun a vs H1 s1 hn h1=>q a vs H1 s1 hn (o5 hf h1)
  ·rw [if_neg hf] at q;exact q.elim
 | exc c=>rw [z] at q;exact q
 | bad=>rw [z] at q;exact q⟩
noncomputable def sC (Fa Fb:Rho->R D):Rho->R (List D):=fun ρ=>(Fa ρ).bind fun x=>(Fb ρ).bind fun y=>match x,y with
 | .lst xs,.lst ys=>if xs.length + ys.length<=LIM then .val (xs ++ ys) else .bad
 | _,_=>.bad
theorem yG {a b:Expr} {pos:Pos} {Fa Fb:Rho->R D} (ha:ER C X a Fa) (hb:ER C X b Fb):FR C X (.BinOp a .Add b pos) (sC Fa Fb) :=
 aR (w4 t8 ha hb) fun σ H Q ⟨ρ,⟨H0,r0⟩,q⟩=>⟨ρ,⟨H0,r0⟩,bf (P:=fun z H=>pFR C X z σ H Q) (fun _ h=>h) (fun h=>h) q fun x v H1 s1 h1 q1=>by
  refine ⟨ρ,⟨H0,r0.mono s1⟩,?_⟩
  cases z:Fb ρ with
  | exc c=>rw [z] at q1;exact XE.mono s1 q1
  | bad=>rw [z] at q1;exact q1
  | val y =>
   rw [z] at q1
   dsimp only [DL.R.bind] at q1
   intro w H2 s2 h2
   cases h1 with
   | lst e1 g1 =>
    cases h2 with
    | lst e2 g2 =>
     dsimp only at q1
     split at q1
     ·rename_i hl
      exact ⟨_,_,_,_,rfl,rfl,s2 _ _ e1,e2,by rw [g1.len,g2.len];exact ln hl,fun p hp=>q1 p _ H2 (s1.trans s2) hp ((g1.mono s2).app g2)⟩
     ·exact q1.elim
    | _=>exact q1.elim
   | _=>cases h2 <;> exact q1.elim⟩
end
theorem wQ:bootBuiltins "int"=some (.type "int"):=by decide +kernel
theorem u_:bootBuiltins "bool"=some (.type "bool"):=by decide +kernel
end DL
namespace DL
open PySem PySem.Spec PyProof.Rows L2
section
variable {C:Addr} {X:Cx}
noncomputable def eL1 (F:Rho->R D):Rho->R D:=fun ρ=>(F ρ).bind fun d=>.val (.lst [d])
theorem wc {k:OK} {e:Expr} {pos:Pos} {F:Rho->R D} (h:KD C X k e F) (hst:starEach [e] X.env=(false,eval e X.env) :: starEach [] X.env:=by rfl):KD C X (.l k) (.List [e] pos) (eL1 F) :=
 aR (ng (da h dP hst)) fun σ H Q yy=>by
  obtain ⟨ρ,⟨H0,r0⟩,q⟩:=yy
  refine ⟨ρ,⟨H0,r0⟩,?_⟩
  unfold eL1 at q
  cases z:F ρ with
  | exc c=>rw [z] at q;exact q
  | bad=>rw [z] at q;exact q
  | val d =>
   rw [z] at q
   intro v H1 A s1 hA ht
   refine ⟨(show 1<=sizeLine by decide),fun p hp=>?_⟩
   have np:p ∉ A:=fun hm=>by
    obtain ⟨us,e⟩:=ht.lists p hm
    rw [hp] at e;cases e
   refine q (.ref p) (upd H1 p (.lst [v])) (p :: (A ++ [])) (s1.trans (aO hp)) (fun b hb=>?_) (.l aU (.cons (ht.stay (fun b o e=>?_) (.of (aO hp))) .nil fun a _=>List.not_mem_nil) (by rw [List.append_nil];exact np))
   ·rcases List.mem_cons.mp hb with rfl | hb
    ·exact dH s1 hp
    ·rw [List.append_nil] at hb;exact hA b hb
   ·obtain ⟨e1,e2⟩:=cut_some.mp e
    refine cut_some.mpr ⟨fun hb=>?_,aX (aO hp) b o e2⟩
    rcases List.mem_cons.mp hb with rfl | hb
    ·rw [(msk_some.mp e2).2] at hp;cases hp
    ·rw [List.append_nil] at hb;exact e1 hb
end
end DL
namespace DL
open PySem PySem.Spec PyProof.Rows L2
section
variable {K:PySem.W.Frag} {C:Addr} {H0 H M:Hp} {ρ:RB} {σ:St}
theorem SlotOk.wide {A B:List Addr} {sl:Slt} {o:Option (Option V)} (s:∀ a ∈ A,a ∈ B) (h:SlotOk K C M H A sl o):SlotOk K C M H B sl o:=by
 cases sl with
 | shr d=>exact h
 | own xs=>obtain ⟨a,vs,e,n,q,h⟩:=h;exact ⟨a,vs,e,s a n,q,h⟩
 | dic kvs=>obtain ⟨a,e,n,h⟩:=h;exact ⟨a,e,s a n,h⟩
 | tre k d=>obtain ⟨v,B',e,n,h⟩:=h;exact ⟨v,B',e,fun b hb=>s b (n b hb),h⟩
noncomputable def RB.give (ρ:RB) (i j:Nat):RB:=⟨ρ.rho.set j none,fun m=>if m=i then ρ.ad i ++ ρ.ad j else if m=j then [] else ρ.ad m⟩
theorem gs {i j m:Nat} {a:Addr} (h:a ∈ (ρ.give i j).ad m):(m=i/\(a ∈ ρ.ad i\/a ∈ ρ.ad j))\/(m ≠ i/\m ≠ j/\a ∈ ρ.ad m):=by
 have h:a ∈ (if m=i then ρ.ad i ++ ρ.ad j else if m=j then [] else ρ.ad m):=h
 by_cases e:m=i
 ·rw [if_pos e] at h
  exact .inl ⟨e,List.mem_append.mp h⟩
 ·rw [if_neg e] at h
  by_cases e2:m=j
  ·rw [if_pos e2] at h;cases h
  ·rw [if_neg e2] at h;exact .inr ⟨e,e2,h⟩
theorem lx {i j:Nat} (hij:i ≠ j) {b:Addr}:Own (ρ.give i j) σ b ↔ Own ρ σ b:=by
 constructor
 ·rintro ⟨m,z⟩
  rcases gs z with ⟨_,z | z⟩ | ⟨_,_,z⟩
  ·exact ⟨i,z⟩
  ·exact ⟨j,z⟩
  ·exact ⟨m,z⟩
 ·rintro ⟨m,z⟩
  by_cases e:m=i
  ·subst e
   exact ⟨m,by show b ∈ (if m=m then _ else _);rw [if_pos rfl];exact List.mem_append_left _ z⟩
  ·by_cases e2:m=j
   ·subst e2
    exact ⟨i,by show b ∈ (if i=i then _ else _);rw [if_pos rfl];exact List.mem_append_right _ z⟩
   ·exact ⟨m,by show b ∈ (if m=i then _ else _);rw [if_neg e,if_neg e2];exact z⟩
theorem iX {i j:Nat} (hij:i ≠ j):msk (ρ.give i j) σ H=msk ρ σ H:=by
 funext b
 unfold msk
 by_cases h:Own ρ σ b
 ·rw [if_pos h,if_pos ((lx hij).mpr h)]
 ·rw [if_neg h,if_neg fun z=>h ((lx hij).mp z)]
theorem Rel.give (r:Rel K C H0 ρ σ H) {i j:Nat} (hij:i ≠ j) (hi:i < ρ.rho.length):Rel K C H0 (ρ.give i j) σ H:=by
 refine ⟨?_,by rw [iX hij];exact r.keep,fun m sl e=>?_,fun m n a x y=>?_,fun m a x=>?_,fun m a x=>?_⟩
 ·show (ρ.rho.set j none).length=_
  rw [List.length_set];exact r.len
 ·have e:(ρ.rho.set j none)[m]?=some (some sl):=e
  rw [iX hij]
  by_cases ej:j=m
  ·subst ej
   rw [List.getElem?_set] at e
   simp only [if_true] at e
   split at e <;> cases e
  ·rw [List.getElem?_set_ne ej] at e
   refine (r.at_ m sl e).wide fun a ha=>?_
   show a ∈ (if m=i then _ else _)
   by_cases e1:m=i
   ·subst e1;rw [if_pos rfl];exact List.mem_append_left _ ha
   ·rw [if_neg e1,if_neg fun z=>ej z.symm];exact ha
 ·rcases gs x with ⟨em,u⟩ | ⟨x1,x2,u⟩
  ·rcases gs y with ⟨en,_⟩ | ⟨y1,y2,w⟩
   ·rw [em,en]
   ·rcases u with u | u
    ·rw [em];exact r.inj _ _ a u w
    ·exact absurd (r.inj _ _ a u w).symm y2
  ·rcases gs y with ⟨en,w | w⟩ | ⟨y1,y2,w⟩
   ·rw [en];exact r.inj _ _ a u w
   ·exact absurd (r.inj _ _ a u w) x2
   ·exact r.inj _ _ a u w
 ·rcases gs x with ⟨_,x | x⟩ | ⟨_,_,x⟩
  ·exact r.kin _ a x
  ·exact r.kin _ a x
  ·exact r.kin _ a x
 ·show m < (ρ.rho.set j none).length
  rw [List.length_set]
  rcases gs x with ⟨rfl,_⟩ | ⟨_,_,x⟩
  ·exact hi
  ·exact r.bnd _ a x
end
end DL
namespace DL
open PySem PySem.Spec PyProof.Rows L2
section
variable {K:PySem.W.Frag} {C:Addr} {H0 H M:Hp} {ρ:RB} {σ:St}
theorem yF {i j:Nat}:(ρ.give i j).ad i=ρ.ad i ++ ρ.ad j:=if_pos rfl
theorem Rel.nodeM (r:Rel K C H0 ρ σ H) {i j:Nat} (hij:i ≠ j) {k k':OK} {d:D} {pp:List Nat} {xs:List D} (e:ρ.rho[i]?=some (some (.tre k d))) (ek:gh k pp=some (.l k')) (ed:jT d pp=some (.lst xs)) :
  ∃ v a vs A0,σ[i]?=some (some v)/\Reach H v pp (.ref a)/\H a=some (.lst vs)/\TreP K C (msk ρ σ H) H (vs.map fun _=>k') vs xs A0/\a ∉ A0/\a ∈ ρ.ad i/\(∀ b ∈ A0,b ∈ ρ.ad i) /\
   ∀ {H2:Hp} {ws:List V} {ys:List D} {B:List Addr},Same H H2->TreP K C (msk ρ σ H2) (upd H2 a (.lst ws)) (ws.map fun _=>k') ws ys B->(∀ b ∈ B,b ∈ A0\/b ∈ ρ.ad j) ->
    Rel K C H0 ((ρ.give i j).put i (.tre k (jV d pp (.lst ys))) (ρ.ad i ++ ρ.ad j)) σ (upd H2 a (.lst ws)):=by
 obtain ⟨v,Bt,e1,hB,h⟩:=r.at_ i _ e
 obtain ⟨v',A1,h1,s1,rc,up⟩:=h.path ed ek
 have hi:i < ρ.rho.length:=(List.getElem?_eq_some_iff.mp e).1
 have r':=r.give hij hi
 cases h1 with
 | @l _ a vs _ A0 ha hp hn =>
  have aI:a ∈ ρ.ad i:=hB a (s1 a List.mem_cons_self)
  have A0I:∀ b ∈ A0,b ∈ ρ.ad i:=fun b hb=>hB b (s1 b (List.mem_cons_of_mem _ hb))
  refine ⟨v,a,vs,A0,e1,rc,ha,hp,hn,aI,A0I,fun {H2 ws ys B} s ht hs=>?_⟩
  have ne:∀ b vs',H b=some (.tup vs')->b ≠ a:=fun b vs' q z=>by rw [z,ha] at q;cases q
  have nj:∀ b,b ∈ ρ.ad i->b ∉ ρ.ad j:=fun b hb z=>hij (r.inj _ _ b hb z)
  refine r'.put rfl (fun m _=>rfl) (fun b hb=>?_) (fun m hm=>⟨fun b hb o q=>?_,fun b vs' q=>?_⟩) (fun b o q=>?_) (fun b hb=>?_) fun hi' sub=>?_
  ·exact .inl (by rw [yF];exact hb)
  ·rcases gs hb with ⟨z,_⟩ | ⟨_,_,z⟩
   ·exact absurd z hm
   ·rw [aE fun (y:b=a)=>hm (r.inj m i b z (y ▸ aI))];exact s b o q
  ·rw [aE (ne b vs' q)];exact s b _ q
  ·rw [iX hij] at q
   obtain ⟨g1,g2⟩:=msk_some.mp q
   rw [aE fun (z:b=a)=>g1 ⟨i,z ▸ aI⟩];exact s b o g2
  ·by_cases z:b=a
   ·exact .inl ⟨ws,by rw [z];exact aU⟩
   ·rw [aE z]
    rcases List.mem_append.mp hb with hb | hb
    ·exact (r.kin i b hb).imp (fun ⟨us,q⟩=>⟨us,s _ _ q⟩) fun ⟨us,q⟩=>⟨us,s _ _ q⟩
    ·exact (r.kin j b hb).imp (fun ⟨us,q⟩=>⟨us,s _ _ q⟩) fun ⟨us,q⟩=>⟨us,s _ _ q⟩
  ·have aB:a ∉ B:=fun z=>by
    rcases hs a z with y | y
    ·exact hn y
    ·exact nj a aI y
   rw [iX hij] at sub
   obtain ⟨A',h3,s3⟩:=up (M':=msk ((ρ.give i j).put i (.tre k (jV d pp (.lst ys))) (ρ.ad i ++ ρ.ad j)) σ (upd H2 a (.lst ws))) (H':=upd H2 a (.lst ws)) sub ⟨fun b hb nb o q=>by rw [aE fun (z:b=a)=>nb (z ▸ List.mem_cons_self)];exact s b o q,fun b vs' q=>by rw [aE (ne b vs' q)];exact s b _ q⟩
    (.l (k:=k') aU (ht.stay (fun b o q=>by
     obtain ⟨g3,g4⟩:=msk_some.mp q
     refine msk_some.mpr ⟨fun ⟨m,z⟩=>?_,by rw [aE fun (z:b=a)=>g3 ⟨i,z ▸ aI⟩];exact g4⟩
     rcases eQ z with ⟨_,_,z⟩ | ⟨_,z⟩
     ·rcases List.mem_append.mp z with z | z
      ·exact g3 ⟨i,z⟩
      ·exact g3 ⟨j,z⟩
     ·exact g3 ((lx hij).mp ⟨m,z⟩)) (.of (Same.refl _))) aB) (fun b hb=>by
     rcases List.mem_cons.mp hb with z | z
     ·exact .inl (z ▸ List.mem_cons_self)
     ·rcases hs b z with y | y
      ·exact .inl (List.mem_cons_of_mem _ y)
      ·exact .inr fun w=>nj b (hB b w) y)
   refine ⟨v,A',e1,fun b hb=>?_,h3⟩
   rcases s3 b hb with z | z
   ·exact List.mem_append_left _ (hB b z)
   ·rcases List.mem_cons.mp z with z | z
    ·exact List.mem_append_left _ (z ▸ aI)
    ·rcases hs b z with y | y
     ·exact List.mem_append_left _ (A0I b y)
     ·exact List.mem_append_right _ y
end
end DL
namespace DL
open PySem PySem.Spec PyProof.Rows L2
section
variable {C:Addr} {X:Cx}
noncomputable def apM (i j:Nat) (k':OK) (P:Rho->R (List Nat)):Rho->R Rho:=fun ρ=>(P ρ).bind fun pp=>match ρ[i]?,ρ[j]? with
 | some (some (.tre k d)),some (some (.tre kj dj))=>if i ≠ j/\kj=k'/\gh k pp=some (.l k') then (match jT d pp with
  | some (.lst xs)=>if xs.length < LIM then .val ((ρ.set j none).set i (some (.tre k (jV d pp (.lst (xs ++ [dj])))))) else .bad
  | _=>.bad) else .bad
 | _,_=>.bad
theorem tm {i j:Nat} {k':OK} {o:Expr} {y:Str} {p ap cp pos:Pos} {P:Rho->R (List Nat)} (ho:ND C X i o P) (hy:PE X (.Name y p) (d9 j))
  (hs:∀ {to:TE} {t:TA},PE X o to->PA X [.Name y p] t->PS X (.Expr (.Call (.Attribute o "append" ap) [.Name y p] [] cp) pos) (jK (tBM X.K "list" kl to t)):=by
   exact fun ho ha=>h8 (qR PySem.F.plainAttrs_list PySem.F.slot_list_append PySem.F.type_list_append ia ho ha))
  (hst:starEach [.Name y p] X.env=(false,eval (.Name y p) X.env) :: starEach [] X.env:=by rfl) :
  SDi C X (.Expr (.Call (.Attribute o "append" ap) [.Name y p] [] cp) pos) (apM i j k' P) :=
 bK (hs ho (da hy dP hst)) fun D σ H ⟨_,H0,⟨ρ,er,r⟩,q⟩=>by
  subst er
  refine ⟨ρ,⟨H0,r⟩,?_⟩
  unfold apM at q
  cases eP:P ρ with
  | exc c=>rw [eP] at q;exact tX r q
  | bad=>rw [eP] at q;exact q.elim
  | val pp =>
   rw [eP] at q
   dsimp only [DL.R.bind] at q
   intro v w H1 e1 s1 rc
   split at q
   ·rename_i k d kj dj ei ej
    by_cases hc:i ≠ j/\kj=k'/\gh k pp=some (.l k')
    ·rw [if_pos hc] at q
     obtain ⟨hij,ekj,ek⟩:=hc
     subst ekj
     split at q
     ·rename_i xs ed
      by_cases hl:xs.length < LIM
      ·rw [if_pos hl] at q
       obtain ⟨v0,a,vs,A0,e2,rc0,ha,hp,hn,aI,A0I,up⟩:=r.nodeM hij ei ek ed
       rw [e1] at e2;cases e2
       have:=Reach.det (rc0.mono s1) rc
       subst this
       obtain ⟨u,Bj,eu,hBj,htj⟩:=r.at_ j _ ej
       refine ⟨.inl ⟨rfl,_,SqL.of (s1 _ _ ha)⟩,u,eu,?_⟩
       refine ⟨a,vs,u,rfl,rfl,s1 _ _ ha,by rw [hp.len.1];exact Nat.lt_of_lt_of_le hl (by decide),?_⟩
       have ne:∀ b us,H b=some (.tup us)->b ≠ a:=fun b us q z=>by rw [z,ha] at q;cases q
       have st:∀ A:List Addr,(∀ b ∈ A,b ≠ a)->Stay A H (upd H1 a (.lst (vs ++ [u]))):=fun A hA=>⟨fun b hb o q=>by rw [aE (hA b hb)];exact s1 b o q,fun b us q=>by rw [aE (ne b us q)];exact s1 b _ q⟩
       obtain ⟨B,hB,h3⟩:=TreP.app (htj.stay (aX s1) (st Bj fun b hb z=>hij (r.inj _ _ a aI (z ▸ hBj b hb)))) (hp.stay (aX s1) (st A0 fun b hb z=>hn (z ▸ hb))) fun b hb z=>hij (r.inj _ _ b (A0I b hb) (hBj b z))
       exact q _ ⟨_,rfl,up s1 (by rw [List.map_append];exact h3) fun b hb=>((hB b).mp hb).imp id (hBj b)⟩
      ·rw [if_neg hl] at q;exact q.elim
     ·exact q.elim
    ·rw [if_neg hc] at q;exact q.elim
   ·exact q.elim
end
end DL
namespace DL
open PySem PySem.Spec PyProof.Rows L2
section
variable {C:Addr} {X:Cx}
theorem yr {k:OK} {pos:Pos}:KD C X (.l k) (.List [] pos) (eLs (eM aN)) :=
 aR (ng dP) fun σ H Q yy=>by
  obtain ⟨ρ,⟨H0,r0⟩,q⟩:=yy
  exact ⟨(show 0<=sizeLine by decide),fun p hp=>q (.ref p) (upd H p (.lst [])) [p] (aO hp) (fun b hb=>by cases List.mem_singleton.mp hb;exact hp) (.l aU .nil List.not_mem_nil)⟩
end
end DL
namespace Ar
noncomputable abbrev Arr:=Nat × Nat × List Nat
noncomputable def Ok (sz:List Nat) (x:Arr):Prop:=∃ n m,sz[x.1]?=some n/\sz[x.2.1]?=some m/\x.2.2.length=n/\∀ y ∈ x.2.2,y < m
noncomputable def comp (x y:Arr):Arr:=(x.1,y.2.1,x.2.2.map fun i=>y.2.2.getD i 0)
noncomputable def idm (sz:List Nat) (b:Nat):Arr:=(b,b,List.range (sz.getD b 0))
noncomputable def funs:Nat->Nat->List (List Nat)
 | 0,_=>[[]]
 | n + 1,m=>(List.range m).flatMap fun y=>(funs n m).map fun l=>y :: l
theorem oY:∀ {l:List Nat} {m:Nat},(∀ y ∈ l,y < m)->l ∈ funs l.length m
 | [],m,_=>by simp [funs]
 | y :: l,m,h=>by
  have h1:y < m:=h y (by simp)
  have h2:l ∈ funs l.length m:=oY fun z hz=>h z (by simp [hz])
  show y :: l ∈ funs (l.length + 1) m
  simp only [funs,List.mem_flatMap,List.mem_map,List.mem_range]
  exact ⟨y,h1,l,h2,rfl⟩
noncomputable def xm (sz:List Nat):List Arr:=(List.range sz.length).flatMap fun a=>(List.range sz.length).flatMap fun b=>(funs (sz.getD a 0) (sz.getD b 0)).map fun f=>(a,b,f)
theorem oX {sz:List Nat} {x:Arr} (h:Ok sz x):x ∈ xm sz:=by
 obtain ⟨a,b,f⟩:=x
 obtain ⟨n,m,h1,h2,h3,h4⟩:=h
 have ha:a < sz.length:=(List.getElem?_eq_some_iff.mp h1).1
 have hb:b < sz.length:=(List.getElem?_eq_some_iff.mp h2).1
 simp only [xm,List.mem_flatMap,List.mem_map,List.mem_range]
 refine ⟨a,ha,b,hb,f,?_,rfl⟩
 have e1:sz.getD a 0=n:=by simp only [List.getD,h1];rfl
 have e2:sz.getD b 0=m:=by simp only [List.getD,h2];rfl
 rw [e1,e2,<- h3]
 exact oY h4
theorem fH {α:Type} [DecidableEq α]:∀ {l u:List α},l.Nodup->(∀ x ∈ l,x ∈ u)->l.length<=u.length
 | [],_,_,_=>by simp
 | x :: l,u,nd,h=>by
  obtain ⟨h1,h2⟩:=List.nodup_cons.mp nd
  have hx:x ∈ u:=h x (by simp)
  have hl:l.length<=(u.erase x).length:=fH h2 fun y hy=>by
   have:y ≠ x:=fun e=>h1 (e ▸ hy)
   exact (List.mem_erase_of_ne this).mpr (h y (by simp [hy]))
  rw [List.length_erase_of_mem hx] at hl
  have:0 < u.length:=List.length_pos_of_mem hx
  simp only [List.length_cons];omega
noncomputable def szs:List (List Nat):=[[1],[1,1],[1,1,1],[1,1,1,1],[1,2],[2,1],[2,2],[0,2],[2],[3],[1,1,2],[0,1,2],[1,2,2],[2,1,0]]
theorem oy:∀ sz ∈ szs,(xm sz).length<=27:=by decide +kernel
theorem hZ:∀ sz ∈ szs,1<=sz.length/\sz.length<=4/\∀ n ∈ sz,n<=3:=by decide +kernel
noncomputable def mr (kn:List Arr) (x:Arr):List Arr:=if x ∈ kn then kn else kn ++ [x]
noncomputable def gL (kn:List Arr) (f s:Arr):List Arr:=if f.2.1=s.1 then mr kn (comp f s) else kn
noncomputable def jg (k:Arr) (kn:List Arr) (o:Arr):List Arr:=gL (gL kn k o) o k
noncomputable def nh (k:Arr) (kn snap:List Arr):List Arr:=snap.foldl (jg k) kn
theorem pG (kn:List Arr) (x:Arr):kn <+: mr kn x:=by
 unfold mr;split
 ·exact List.prefix_refl _
 ·exact List.prefix_append _ _
theorem vi (kn:List Arr) (x:Arr):x ∈ mr kn x:=by
 unfold mr;split
 ·assumption
 ·simp
theorem jh (kn:List Arr) (f s:Arr):kn <+: gL kn f s:=by
 unfold gL;split
 ·exact pG _ _
 ·exact List.prefix_refl _
theorem ou (k:Arr) (kn:List Arr) (o:Arr):kn <+: jg k kn o:=(jh kn k o).trans (jh _ o k)
theorem gO (k:Arr):∀ (snap kn:List Arr),kn <+: nh k kn snap
 | [],kn=>List.prefix_refl _
 | o :: r,kn=>(ou k kn o).trans (gO k r _)
structure Kn (sz:List Nat) (kn:List Arr):Prop where
 nd:kn.Nodup
 ok:∀ x ∈ kn,Ok sz x
theorem wM {sz:List Nat} {x y:Arr} (hx:Ok sz x) (hy:Ok sz y) (e:x.2.1=y.1):Ok sz (comp x y):=by
 obtain ⟨n,m,h1,h2,h3,h4⟩:=hx
 obtain ⟨n',m',g1,g2,g3,g4⟩:=hy
 refine ⟨n,m',h1,g2,by simp [comp,h3],fun z hz=>?_⟩
 simp only [comp,List.mem_map] at hz
 obtain ⟨i,hi,rfl⟩:=hz
 have hm:m=n':=by rw [e] at h2;rw [h2] at g1;exact Option.some.inj g1
 have:i < y.2.2.length:=by rw [g3,<- hm];exact h4 i hi
 have e3:y.2.2.getD i 0=y.2.2[i]:=by simp [List.getD,List.getElem?_eq_getElem this]
 rw [e3]
 exact g4 _ (List.getElem_mem this)
theorem rR {sz kn x} (h:Kn sz kn) (hx:Ok sz x):Kn sz (mr kn x):=by
 unfold mr;split
 ·exact h
 ·rename_i hn
  refine ⟨?_,fun y hy=>?_⟩
  ·rw [List.nodup_append]
   refine ⟨h.nd,by simp,fun a ha b hb=>?_⟩
   simp at hb;subst hb
   exact fun e=>hn (e ▸ ha)
  ·rcases List.mem_append.mp hy with q | q
   ·exact h.ok y q
   ·simp at q;subst q;exact hx
theorem kH {sz kn f s} (h:Kn sz kn) (hf:Ok sz f) (hs:Ok sz s):Kn sz (gL kn f s):=by
 unfold gL;split
 ·exact rR h (wM hf hs ‹_›)
 ·exact h
theorem qC {sz k kn o} (h:Kn sz kn) (hk:Ok sz k) (ho:Ok sz o):Kn sz (jg k kn o):=kH (kH h hk ho) ho hk
theorem qS {sz k} (hk:Ok sz k):∀ {snap kn:List Arr},Kn sz kn->(∀ o ∈ snap,Ok sz o)->Kn sz (nh k kn snap)
 | [],kn,h,_=>h
 | o :: r,kn,h,hs=>qS hk (snap:=r) (qC h hk (hs o (by simp))) fun q hq=>hs q (by simp [hq])
theorem mC {kn f s} (e:f.2.1=s.1):comp f s ∈ gL kn f s:=by
 unfold gL;rw [if_pos e];exact vi _ _
theorem sZ {k kn o}:(k.2.1=o.1->comp k o ∈ jg k kn o)/\(o.2.1=k.1->comp o k ∈ jg k kn o) :=
 ⟨fun e=>(jh _ o k).subset (mC e),fun e=>mC e⟩
theorem kQ {k}:∀ {snap kn:List Arr} {o:Arr},o ∈ snap->(k.2.1=o.1->comp k o ∈ nh k kn snap)/\(o.2.1=k.1->comp o k ∈ nh k kn snap)
 | q :: r,kn,o,h=>by
  rcases List.mem_cons.mp h with e | h
  ·subst e
   have t:=sZ (k:=k) (kn:=kn) (o:=o)
   exact ⟨fun e=>(gO k r _).subset (t.1 e),fun e=>(gO k r _).subset (t.2 e)⟩
  ·exact kQ (snap:=r) (kn:=jg k kn q) h
noncomputable def Cl (kn:List Arr) (n:Nat):Prop:=∀ i j x y,i < n->j < n->kn[i]?=some x->kn[j]?=some y->x.2.1=y.1->comp x y ∈ kn
theorem qO {α:Type} {l l':List α} (h:l <+: l') {i:Nat} {x:α} (e:l[i]?=some x):l'[i]?=some x:=by
 obtain ⟨t,rfl⟩:=h
 rw [List.getElem?_append_left (List.getElem?_eq_some_iff.mp e).1];exact e
theorem vT {kn:List Arr} {n:Nat} {k:Arr} (h:Cl kn n) (hk:kn[n]?=some k):Cl (nh k kn kn) (n + 1):=by
 have pre:=gO k kn kn
 have hn:n < kn.length:=(List.getElem?_eq_some_iff.mp hk).1
 have back:∀ {i x},i < n + 1->(nh k kn kn)[i]?=some x->kn[i]?=some x:=fun {i x} hi e=>by
  have hl:i < kn.length:=by omega
  have:kn[i]?=some kn[i]:=by simp [hl]
  rw [qO pre this] at e;rw [this];exact e
 intro i j x y hi hj hx hy e
 have hx':=back hi hx
 have hy':=back hj hy
 by_cases ei:i=n
 ·subst ei
  rw [hk] at hx';cases hx'
  exact (kQ (List.mem_of_getElem? hy')).1 e
 ·by_cases ej:j=n
  ·subst ej
   rw [hk] at hy';cases hy'
   exact (kQ (List.mem_of_getElem? hx')).2 e
  ·exact pre.subset (h i j x y (by omega) (by omega) hx' hy' e)
theorem yT {kn:List Arr} (h:Cl kn kn.length):∀ x ∈ kn,∀ y ∈ kn,x.2.1=y.1->comp x y ∈ kn:=by
 intro x hx y hy e
 obtain ⟨i,hi,rfl⟩:=List.mem_iff_getElem.mp hx
 obtain ⟨j,hj,rfl⟩:=List.mem_iff_getElem.mp hy
 exact h i j _ _ hi hj (by simp [hi]) (by simp [hj]) e
structure Good (sz:List Nat) (kn:List Arr):Prop where
 szm:sz ∈ szs
 nd:kn.Nodup
 ok:∀ x ∈ kn,Ok sz x
 rest:∀ b,b < sz.length->idm sz b ∈ kn
 cl:∀ x ∈ kn,∀ y ∈ kn,x.2.1=y.1->comp x y ∈ kn
theorem Good.few {sz kn} (g:Good sz kn):kn.length<=27 :=
 Nat.le_trans (fH g.nd fun x hx=>oX (g.ok x hx)) (oy sz g.szm)
theorem Good.perm {sz kn kn'} (g:Good sz kn) (p:kn'.Perm kn):Good sz kn' :=
 ⟨g.szm,p.nodup_iff.mpr g.nd,fun x hx=>g.ok x (p.mem_iff.mp hx),fun b hb=>p.mem_iff.mpr (g.rest b hb),fun x hx y hy e=>p.mem_iff.mpr (g.cl x (p.mem_iff.mp hx) y (p.mem_iff.mp hy) e)⟩
end Ar
namespace Ar
theorem bn {α:Type} {l:List α} {i:Nat} {d:α} (h:i < l.length):l.getD i d=l[i]:=by
 rw [List.getD_eq_getElem?_getD,List.getElem?_eq_getElem h];rfl
structure cN (en:List (Nat × Nat)) (re:List Nat) (tb:List (List Int)):Prop where
 nb1:1<=re.length
 nb6:re.length<=6
 na1:1<=en.length
 na40:en.length<=40
 eb:∀ i,i < en.length->(en.getD i (0,0)).1 < re.length/\(en.getD i (0,0)).2 < re.length
 rs:∀ b,b < re.length->re.getD b 0 < en.length/\en.getD (re.getD b 0) (0,0)=(b,b)
 tl:tb.length=en.length
 rl:∀ i,i < en.length->(tb.getD i []).length=en.length
 tp:∀ i j,i < en.length->j < en.length->(en.getD i (0,0)).2=(en.getD j (0,0)).1 ->
  ∃ k,k < en.length/\(tb.getD i []).getD j (-1)=(k:Int)/\en.getD k (0,0)=((en.getD i (0,0)).1,(en.getD j (0,0)).2)
 tn:∀ i j,i < en.length->j < en.length->(en.getD i (0,0)).2 ≠ (en.getD j (0,0)).1->(tb.getD i []).getD j (-1)=-1
 ul:∀ i,i < en.length->(tb.getD (re.getD (en.getD i (0,0)).1 0) []).getD i (-1)=(i:Int)
 ur:∀ i,i < en.length->(tb.getD i []).getD (re.getD (en.getD i (0,0)).2 0) (-1)=(i:Int)
 as:∀ i j k x y:Nat,i < en.length->j < en.length->k < en.length->(tb.getD i []).getD j (-1)=(x:Int)->(tb.getD j []).getD k (-1)=(y:Int) ->
  (tb.getD x []).getD k (-1)=(tb.getD i []).getD y (-1)
noncomputable def gI (kn:List Arr):List (Nat × Nat):=kn.map fun x=>(x.1,x.2.1)
noncomputable def gj (sz:List Nat) (kn:List Arr):List Nat:=(List.range sz.length).map fun b=>kn.idxOf (idm sz b)
noncomputable def mk (kn:List Arr) (x y:Arr):Int:=if x.2.1=y.1 then (kn.idxOf (comp x y):Int) else -1
noncomputable def fU (kn:List Arr):List (List Int):=kn.map fun x=>kn.map fun y=>mk kn x y
theorem qr {sz:List Nat} {x y z:Arr} (hx:Ok sz x) (hy:Ok sz y) (hz:Ok sz z) (e:x.2.1=y.1) (e':y.2.1=z.1):comp (comp x y) z=comp x (comp y z):=by
 obtain ⟨n,m,h1,h2,h3,h4⟩:=hx
 obtain ⟨n',m',g1,g2,g3,g4⟩:=hy
 have hm:m=n':=by rw [e] at h2;rw [h2] at g1;exact Option.some.inj g1
 simp only [comp,List.map_map,Prod.mk.injEq,true_and]
 refine List.map_congr_left fun i hi=>?_
 have hl:i < y.2.2.length:=by rw [g3,<- hm];exact h4 i hi
 simp only [Function.comp,List.getD_eq_getElem?_getD,List.getElem?_map]
 rw [List.getElem?_eq_getElem hl]
 simp
theorem ll (l:List Nat):(List.range l.length).map (fun i=>l.getD i 0)=l:=by
 apply List.ext_getElem
 ·simp
 ·intro i h1 h2
  simp only [List.getElem_map,List.getElem_range]
  exact bn h2
theorem u6 {sz:List Nat} {x:Arr} (hx:Ok sz x):comp (idm sz x.1) x=x:=by
 obtain ⟨n,m,h1,h2,h3,h4⟩:=hx
 have e:sz.getD x.1 0=x.2.2.length:=by rw [List.getD_eq_getElem?_getD,h1,h3];rfl
 simp only [comp,idm,e,ll]
theorem u5 {sz:List Nat} {x:Arr} (hx:Ok sz x):comp x (idm sz x.2.1)=x:=by
 obtain ⟨n,m,h1,h2,h3,h4⟩:=hx
 have e:sz.getD x.2.1 0=m:=by rw [List.getD_eq_getElem?_getD,h2];rfl
 have:(x.2.2.map fun i=>(List.range m).getD i 0)=x.2.2:=by
  conv=>rhs;rw [<- List.map_id x.2.2]
  refine List.map_congr_left fun i hi=>?_
  have:=h4 i hi
  rw [bn (by simpa using this)];simp
 simp only [comp,idm,e,this]
section
variable {sz:List Nat} {kn:List Arr}
theorem dY:(gI kn).length=kn.length:=by simp [gI]
theorem kN:(gj sz kn).length=sz.length:=by simp [gj]
theorem gX {i:Nat} (h:i < kn.length):(gI kn).getD i (0,0)=(kn[i].1,kn[i].2.1):=by
 rw [bn (by rw [dY];exact h)];simp [gI]
theorem s_ {i:Nat} (h:i < kn.length):(fU kn).getD i []=kn.map fun y=>mk kn kn[i] y:=by
 rw [bn (by simp [fU];exact h)];simp [fU]
theorem jJ {i j:Nat} (h:i < kn.length) (h':j < kn.length):((fU kn).getD i []).getD j (-1)=mk kn kn[i] kn[j]:=by
 rw [s_ h,bn (by simpa using h')];simp
theorem tE {b:Nat} (h:b < sz.length):(gj sz kn).getD b 0=kn.idxOf (idm sz b):=by
 rw [bn (by rw [kN];exact h)];simp [gj]
theorem oO {x:Arr} (h:Ok sz x):x.1 < sz.length/\x.2.1 < sz.length:=by
 obtain ⟨n,m,h1,h2,_⟩:=h
 exact ⟨(List.getElem?_eq_some_iff.mp h1).1,(List.getElem?_eq_some_iff.mp h2).1⟩
theorem js {x:Arr} (h:x ∈ kn):∃ hl:kn.idxOf x < kn.length,kn[kn.idxOf x]=x :=
 ⟨List.idxOf_lt_length_of_mem h,List.getElem_idxOf _⟩
theorem ud {x y:Arr} {k:Nat} (h:mk kn x y=(k:Int)):x.2.1=y.1/\k=kn.idxOf (comp x y):=by
 unfold mk at h
 split at h
 ·exact ⟨‹_›,by omega⟩
 ·omega
theorem q_ (g:Good sz kn):cN (gI kn) (gj sz kn) (fU kn):=by
 have few:=g.few
 obtain ⟨s1,s4,_⟩:=hZ sz g.szm
 have okat:∀ {i} (h:i < kn.length),Ok sz kn[i]:=fun h=>g.ok _ (List.getElem_mem h)
 have n1:1<=kn.length:=List.length_pos_of_mem (g.rest 0 (by omega))
 have idn:∀ {i} (h:i < kn.length),kn.idxOf kn[i]=i:=fun {i} h=>g.nd.idxOf_getElem i h
 refine ⟨by rw [kN];exact s1,by rw [kN];omega,by rw [dY];exact n1,by rw [dY];omega,?_,?_,?_,?_,?_,?_,?_,?_,?_⟩
 ·intro i h
  rw [dY] at h
  rw [gX h,kN]
  exact oO (okat h)
 ·intro b h
  rw [kN] at h
  obtain ⟨hl,e⟩:=js (g.rest b h)
  rw [tE h,dY,gX hl,e]
  exact ⟨hl,rfl⟩
 ·simp [fU,dY]
 ·intro i h
  rw [dY] at h
  rw [s_ h,dY];simp
 ·intro i j hi hj e
  rw [dY] at hi hj
  rw [gX hi,gX hj] at e
  obtain ⟨hl,ek⟩:=js (g.cl _ (List.getElem_mem hi) _ (List.getElem_mem hj) e)
  refine ⟨kn.idxOf (comp kn[i] kn[j]),by rw [dY];exact hl,?_,?_⟩
  ·rw [jJ hi hj,mk,if_pos e]
  ·rw [gX hl,ek,gX hi,gX hj];rfl
 ·intro i j hi hj e
  rw [dY] at hi hj
  rw [gX hi,gX hj] at e
  rw [jJ hi hj,mk,if_neg e]
 ·intro i h
  rw [dY] at h
  have o:=okat h
  obtain ⟨hl,e⟩:=js (g.rest _ (oO o).1)
  rw [gX h,tE (oO o).1,jJ hl h,e,mk,if_pos (show (idm sz kn[i].1).2.1=kn[i].1 from rfl),u6 o,idn h]
 ·intro i h
  rw [dY] at h
  have o:=okat h
  obtain ⟨hl,e⟩:=js (g.rest _ (oO o).2)
  rw [gX h,tE (oO o).2,jJ h hl,e,mk,if_pos (show kn[i].2.1=(idm sz kn[i].2.1).1 from rfl),u5 o,idn h]
 ·intro i j k x y hi hj hk hx hy
  rw [dY] at hi hj hk
  rw [jJ hi hj] at hx
  rw [jJ hj hk] at hy
  obtain ⟨e1,rfl⟩:=ud hx
  obtain ⟨e2,rfl⟩:=ud hy
  obtain ⟨l1,q1⟩:=js (g.cl _ (List.getElem_mem hi) _ (List.getElem_mem hj) e1)
  obtain ⟨l2,q2⟩:=js (g.cl _ (List.getElem_mem hj) _ (List.getElem_mem hk) e2)
  rw [jJ l1 hk,jJ hi l2,q1,q2]
  have a1:(comp kn[i] kn[j]).2.1=kn[k].1:=e2
  have a2:kn[i].2.1=(comp kn[j] kn[k]).1:=e1
  rw [mk,mk,if_pos a1,if_pos a2,qr (okat hi) (okat hj) (okat hk) e1 e2]
end
end Ar
namespace Ar
section
variable {en:List (Nat × Nat)} {re:List Nat} {tb:List (List Int)}
end
end Ar
namespace DL
open L2
section
variable {α β:Type}
@[simp] theorem ae (a:α) (f:α->R β):(R.val a).bind f=f a:=Eq.trans rfl rfl
@[simp] theorem iQ (a:α):noE (R.val a)=.val a:=Eq.trans rfl rfl
@[simp] theorem zD (a:D):noex (R.val a)=.val a:=Eq.trans rfl rfl
end
section
variable (ρ:Rho)
@[simp] theorem be (a b:Rho->R Out):sq a b ρ=(a ρ).bind fun o=>match o with
 | .nx ρ'=>b ρ'
 | o=>.val o:=Eq.trans rfl rfl
@[simp] theorem gQ:nxt ρ=.val (.nx ρ):=Eq.trans rfl rfl
@[simp] theorem fA (i:Nat) (e:Rho->R D):asg i e ρ=(e ρ).bind fun d=>.val (.nx (ρ.set i (some (.shr d)))):=Eq.trans rfl rfl
@[simp] theorem xY (i:Nat) (e:Rho->R (List D)):own i e ρ=(e ρ).bind fun d=>.val (.nx (ρ.set i (some (.own d)))):=Eq.trans rfl rfl
@[simp] theorem fj (e:Rho->R D):ret e ρ=(e ρ).bind fun d=>.val (.rt d):=Eq.trans rfl rfl
@[simp] theorem yS (e:Rho->R D):drp e ρ=(e ρ).bind fun _=>.val (.nx ρ):=Eq.trans rfl rfl
@[simp] theorem cV (t:Rho->R Bool) (a b:Rho->R Out):DL.iff t a b ρ=(t ρ).bind fun c=>if c=true then a ρ else b ρ:=Eq.trans rfl rfl
@[simp] theorem cK (F:Rho->R D):tst F ρ=(F ρ).bind asB:=Eq.trans rfl rfl
@[simp] theorem lS (b:Bool):asB (.bl b)=.val b:=Eq.trans rfl rfl
@[simp] theorem z9 (a b:Rho->R Bool):yZ a b ρ=(a ρ).bind fun x=>if x=true then b ρ else .val false:=Eq.trans rfl rfl
@[simp] theorem gP (a b:Rho->R Bool):orB a b ρ=(a ρ).bind fun x=>if x=true then .val true else b ρ:=Eq.trans rfl rfl
@[simp] theorem eG (a:Rho->R Bool):dw a ρ=(a ρ).bind fun x=>.val (!x):=Eq.trans rfl rfl
@[simp] theorem AL (i:Nat):vr i ρ=match ρ[i]? with
 | some (some (.shr d))=>.val d
 | _=>.bad:=Eq.trans rfl rfl
@[simp] theorem zd (i:Nat):vb i ρ=match ρ[i]? with
 | some (some (.shr d))=>.val d
 | some (some (.own xs))=>.val (.lst xs)
 | some (some (.tre (.l .s) (.lst xs)))=>.val (.lst xs)
 | _=>.bad:=Eq.trans rfl rfl
@[simp] theorem f_ (d:D):kd d ρ=.val d:=Eq.trans rfl rfl
@[simp] theorem aS (f:D->D->R D) (a b:Rho->R D):bin f a b ρ=(a ρ).bind fun x=>(b ρ).bind fun y=>f x y:=Eq.trans rfl rfl
@[simp] theorem gJ (f:D->R D) (a:Rho->R D):una f a ρ=(a ρ).bind f:=Eq.trans rfl rfl
@[simp] theorem lT:aN ρ=.val []:=Eq.trans rfl rfl
@[simp] theorem eO (a:Rho->R D) (r:Rho->R (List D)):aC a r ρ=(a ρ).bind fun x=>(r ρ).bind fun xs=>.val (x :: xs):=Eq.trans rfl rfl
@[simp] theorem pk (a:Rho->R (List D)):eT a ρ=(a ρ).bind mkT:=Eq.trans rfl rfl
@[simp] theorem AN (a:Rho->R (List D)):eL a ρ=(a ρ).bind mkL:=Eq.trans rfl rfl
@[simp] theorem AS (a b:D):mkT [a,b]=.val (.tup [a,b]):=Eq.trans rfl rfl
@[simp] theorem AQ (a b c:D):mkT [a,b,c]=.val (.tup [a,b,c]):=Eq.trans rfl rfl
@[simp] theorem AO (a b c d e:D):mkT [a,b,c,d,e]=.val (.tup [a,b,c,d,e]):=Eq.trans rfl rfl
@[simp] theorem AT (a b:D):mkL [a,b]=.val (.lst [a,b]):=Eq.trans rfl rfl
@[simp] theorem dZ (F:Rho->R (List D)):eLs F ρ=(F ρ).bind fun xs=>.val (.lst xs):=Eq.trans rfl rfl
@[simp] theorem zT:eM aN ρ=.val []:=Eq.trans rfl rfl
@[simp] theorem yK (F:Rho->R D):fIt F ρ=(F ρ).bind itD:=Eq.trans rfl rfl
@[simp] theorem z6 (xs:List D):itD (.lst xs)=.val xs:=Eq.trans rfl rfl
@[simp] theorem z5 (xs:List D):itD (.tup xs)=.val xs:=Eq.trans rfl rfl
@[simp] theorem u9 (n:Nat) (den:List D->R D) (a:Rho->R (List D)):cal n den a ρ=(a ρ).bind fun ds=>if ds.length=n then noex (den ds) else .bad:=Eq.trans rfl rfl
@[simp] theorem w9 (i:Nat) (F:Rho->R Out):fz i F ρ=F (frz i ρ):=Eq.trans rfl rfl
@[simp] theorem dD (src:Rho->R (List D)) (T:D->Rho->Option Rho) (F:Rho->R Out):bE src T F ρ=(src ρ).bind fun xs=>b_ T F xs ρ:=Eq.trans rfl rfl
@[simp] theorem i3 (F:Rho->R (List D)):dl F ρ=(F ρ).bind lV:=Eq.trans rfl rfl
@[simp] theorem z8 (F:Rho->R (List D)):fD F ρ=(F ρ).bind yM:=Eq.trans rfl rfl
@[simp] theorem zc (F:Rho->R (List D)):g8 F ρ=(F ρ).bind rgT:=Eq.trans rfl rfl
@[simp] theorem rG (F:Rho->R (List D)):nS F ρ=(F ρ).bind wp:=Eq.trans rfl rfl
@[simp] theorem rd (i j:Int):wp [.int i,.int j]=.val (.int (if j > i then j else i)):=Eq.trans rfl rfl
@[simp] theorem AB (d:D):fin (.val (.rt d))=.val d:=Eq.trans rfl rfl
@[simp] theorem AC (ρ:Rho):fin (.val (.nx ρ))=.val .non:=Eq.trans rfl rfl
@[simp] theorem yj (den:Rho->R D) (Fa:Rho->R (List D)):mkH den Fa ρ=(Fa ρ).bind fun ds=>match ds with
 | [e,r,t]=>noex (den (ig e r t))
 | _=>.bad:=Eq.trans rfl rfl
@[simp] theorem uJ (xs:List D):aJ (.lst xs)=.val (.int xs.length):=Eq.trans rfl rfl
@[simp] theorem Au (xs:List D):ii (.lst xs)=.val (.tup xs):=Eq.trans rfl rfl
@[simp] theorem z7 (i:Int):nF (.int i)=.val (.int (-i)):=Eq.trans rfl rfl
@[simp] theorem gd (f:Int->Int->R D) (i j:Int):iI f (.int i) (.int j)=f i j:=Eq.trans rfl rfl
@[simp] theorem Av (i j:Int):flt i j=.val (.bl (decide (i < j))):=Eq.trans rfl rfl
@[simp] theorem AE (i j:Int):fgt i j=.val (.bl (decide (j < i))):=Eq.trans rfl rfl
@[simp] theorem kz (i j:Int):bb (.int i) (.int j)=.val (.int (i + j)):=Eq.trans rfl rfl
theorem eI {i j:Int} (h:0 < j):ba i j=.val (.int (i % j)):=if_pos h
theorem nK {i j:Int} (h:0 < j/\j < 1073741824):dz i j=.val (.int (i / j)):=if_pos h
theorem iZ {i j:Int} (h:-(2 ^ 64) < j/\j < 2 ^ 64):df i j=.val (.int (i * j)):=if_pos (.inr h)
@[simp] theorem AG (f g:Int->Int->Bool) (a b c:Rho->R D):chn f g a b c ρ=(a ρ).bind fun x=>(b ρ).bind fun y=>match x,y with
 | .int i,.int j=>if f i j=true then (c ρ).bind fun z=>match z with
   | .int k=>.val (.bl (g j k))
   | _=>.bad
  else .val (.bl false)
 | _,_=>.bad:=Eq.trans rfl rfl
end
theorem oi {α:Type} (xs:List α) (i:Nat):atI xs (i:Int)=xs[i]?:=by
 unfold atI ixN
 rw [if_pos (Int.natCast_nonneg i)]
 by_cases h:i < xs.length
 ·rw [if_pos (by exact_mod_cast h)];simp
 ·rw [if_neg (by intro z;exact h (by exact_mod_cast z))]
  simp at h
  simp [List.getElem?_eq_none h]
theorem im {xs:List D} {i:Nat} {d:D} (h:xs[i]?=some d):fix (.lst xs) (.int (i:Int))=.val d:=by
 show (match atI xs (i:Int) with | some d=>R.val d | none=>.bad)=_
 rw [oi,h]
theorem rg {xs:List D} {i:Nat} {d:D} (h:xs[i]?=some d):fix (.tup xs) (.int (i:Int))=.val d:=by
 show (match atI xs (i:Int) with | some d=>R.val d | none=>.bad)=_
 rw [oi,h]
theorem w_ {xs:List Int} {i:Nat} {d:Int} (h:xs[i]?=some d):fix (.scr xs) (.int (i:Int))=.val (.int d):=by
 show (match atI xs (i:Int) with | some d=>R.val (D.int d) | none=>R.bad)=_
 rw [oi,h]
@[simp] theorem qi (a:D) (r:List D):fix (.tup (a :: r)) (.int 0)=.val a:=rg (i:=0) rfl
@[simp] theorem lA (a b:D) (r:List D):fix (.tup (a :: b :: r)) (.int 1)=.val b:=rg (i:=1) rfl
@[simp] theorem qh (a b c:D) (r:List D):fix (.tup (a :: b :: c :: r)) (.int 2)=.val c:=rg (i:=2) rfl
theorem pw {T:D->Rho->Option Rho} {e:Rho->R D} {g:D->D} {ρ:Rho}:∀ {xs:List D},(∀ x ∈ xs,∃ ρ1,T x ρ=some ρ1/\e ρ1=.val (g x))->hC T tT e xs ρ=.val (xs.map g)
 | [],_=>rfl
 | x :: r,h=>by
  obtain ⟨ρ1,h1,h2⟩:=h x (by simp)
  have ih:=pw (T:=T) (e:=e) (g:=g) (ρ:=ρ) (xs:=r) fun y hy=>h y (by simp [hy])
  unfold hC
  rw [h1]
  show (noE (tT ρ1)).bind _=_
  simp [tT,h2,ih]
theorem fX {T:D->Rho->Option Rho} {F:Rho->R Out} (I:Nat->Rho->Prop) {xs:List D} (step:∀ (i:Nat) x ρ,xs[i]?=some x->I i ρ->∃ ρ1 ρ2,T x ρ=some ρ1/\F ρ1=.val (.nx ρ2)/\I (i + 1) ρ2) {ρ:Rho} (h:I 0 ρ):∃ ρ',b_ T F xs ρ=.val (.nx ρ')/\I xs.length ρ':=by
 suffices ∀ (n k:Nat) (ρ:Rho),k + n=xs.length->I k ρ->∃ ρ',b_ T F (xs.drop k) ρ=.val (.nx ρ')/\I xs.length ρ' by
  have:=this xs.length 0 ρ (by omega) h
  rwa [List.drop_zero] at this
 intro n
 induction n with
 | zero =>
  intro k ρ hk hI
  have hk:k=xs.length:=by omega
  subst hk
  rw [List.drop_length]
  exact ⟨ρ,rfl,hI⟩
 | succ n ih =>
  intro k ρ hk hI
  have hlt:k < xs.length:=by omega
  obtain ⟨ρ1,ρ2,h1,h2,h3⟩:=step k xs[k] ρ (by simp [hlt]) hI
  rw [List.drop_eq_getElem_cons hlt]
  unfold b_
  rw [h1]
  show ∃ ρ',(F ρ1).bind _=_/\_
  rw [h2]
  exact ih (k + 1) ρ2 (by omega) h3
end DL
namespace DL
open L2 Ar
noncomputable def pln:Nat->D->Bool
 | _,.non=>true
 | _,.int _=>true
 | n + 1,.lst xs=>xs.all (pln n)
 | n + 1,.tup xs=>xs.all (pln n)
 | _,_=>false
theorem eE:∀ {n:Nat} {x:D},pln n x=true->eqb n x=true:=by
 intro n
 induction n with
 | zero =>
  intro x h
  cases x with
  | non=>rfl
  | int _=>rfl
  | _=>cases h
 | succ n ih =>
  intro x h
  cases x with
  | non=>rfl
  | int _=>rfl
  | lst xs=>exact List.all_eq_true.mpr fun y hy=>ih (List.all_eq_true.mp h y hy)
  | tup xs=>exact List.all_eq_true.mpr fun y hy=>ih (List.all_eq_true.mp h y hy)
  | _=>cases h
theorem oI {n:Nat} (ih:∀ {x y:D},pln n x=true->pln n y=true->(pyq n x y=true ↔ x=y)) {xs ys:List D} (hx:xs.all (pln n)=true) (hy:ys.all (pln n)=true) :
  (decide (xs.length=ys.length) && (List.range xs.length).all fun j=>pyq n (xs.getD j .non) (ys.getD j .non))=true ↔ xs=ys:=by
 rw [Bool.and_eq_true,decide_eq_true_iff,List.all_eq_true]
 rw [List.all_eq_true] at hx hy
 constructor
 ·rintro ⟨hl,h⟩
  apply List.ext_getElem hl
  intro j h1 h2
  have:=h j (List.mem_range.mpr h1)
  rw [bn h1,bn h2] at this
  exact (ih (hx _ (List.getElem_mem h1)) (hy _ (List.getElem_mem h2))).mp this
 ·rintro rfl
  refine ⟨rfl,fun j hj=>?_⟩
  have h1:=List.mem_range.mp hj
  rw [bn h1]
  exact (ih (hx _ (List.getElem_mem h1)) (hx _ (List.getElem_mem h1))).mpr rfl
theorem dU {p q:Prop} (h:¬ p) (g:¬ q):p ↔ q:=⟨fun x=>absurd x h,fun x=>absurd x g⟩
theorem q9 {a b:Int}:(a == b)=true ↔ D.int a=D.int b:=beq_iff_eq.trans ⟨congrArg D.int,fun h=>by cases h;rfl⟩
theorem h7:∀ (n:Nat) {x y:D},pln n x=true->pln n y=true->(pyq n x y=true ↔ x=y):=by
 intro n
 induction n with
 | zero =>
  intro x y hx hy
  cases x with
  | non =>
   cases y with
   | non=>exact ⟨fun _=>rfl,fun _=>rfl⟩
   | int b=>exact dU Bool.false_ne_true (fun h=>by cases h)
   | _=>cases hy
  | int a =>
   cases y with
   | int b=>exact q9
   | non=>exact dU Bool.false_ne_true (fun h=>by cases h)
   | _=>cases hy
  | _=>cases hx
 | succ n ih =>
  intro x y hx hy
  cases x with
  | lst xs =>
   cases y with
   | lst ys=>rw [m_,oI ih hx hy];exact ⟨congrArg D.lst,fun h=>by cases h;rfl⟩
   | non=>exact dU Bool.false_ne_true (fun h=>by cases h)
   | int _=>exact dU Bool.false_ne_true (fun h=>by cases h)
   | tup _=>exact dU Bool.false_ne_true (fun h=>by cases h)
   | _=>cases hy
  | tup xs =>
   cases y with
   | tup ys=>rw [m9,oI ih hx hy];exact ⟨congrArg D.tup,fun h=>by cases h;rfl⟩
   | non=>exact dU Bool.false_ne_true (fun h=>by cases h)
   | int _=>exact dU Bool.false_ne_true (fun h=>by cases h)
   | lst _=>exact dU Bool.false_ne_true (fun h=>by cases h)
   | _=>cases hy
  | non =>
   cases y with
   | non=>exact ⟨fun _=>rfl,fun _=>rfl⟩
   | int b=>exact dU Bool.false_ne_true (fun h=>by cases h)
   | lst _=>exact dU Bool.false_ne_true (fun h=>by cases h)
   | tup _=>exact dU Bool.false_ne_true (fun h=>by cases h)
   | _=>cases hy
  | int a =>
   cases y with
   | int b=>exact q9
   | non=>exact dU Bool.false_ne_true (fun h=>by cases h)
   | lst _=>exact dU Bool.false_ne_true (fun h=>by cases h)
   | tup _=>exact dU Bool.false_ne_true (fun h=>by cases h)
   | _=>cases hy
  | _=>cases hx
theorem o9 {x:D} (h:pln 9 x=true):feq x x=.val (.bl true):=by
 unfold feq;rw [if_pos ⟨eE h,eE h⟩,(h7 9 h h).mpr rfl]
theorem o_ {x y:D} (h:pln 9 x=true) (h':pln 9 y=true) (e:x ≠ y):feq x y=.val (.bl false):=by
 unfold feq;rw [if_pos ⟨eE h,eE h'⟩]
 cases q:pyq 9 x y with
 | false=>rfl
 | true=>exact absurd ((h7 9 h h').mp q) e
theorem iY {x:D} (h:pln 9 x=true):fne x x=.val (.bl false):=by
 unfold fne;rw [if_pos ⟨eE h,eE h⟩,(h7 9 h h).mpr rfl];rfl
theorem uH {x y:D} (h:pln 9 x=true) (h':pln 9 y=true) (e:x ≠ y):fne x y=.val (.bl true):=by
 unfold fne;rw [if_pos ⟨eE h,eE h'⟩]
 cases q:pyq 9 x y with
 | false=>rfl
 | true=>exact absurd ((h7 9 h h').mp q) e
@[simp] theorem nI (a b:Int):feq (.int a) (.int b)=.val (.bl (decide (a=b))):=by
 by_cases h:a=b
 ·subst h;rw [o9 rfl];simp
 ·rw [o_ rfl rfl (by simpa using h)];simp [h]
@[simp] theorem qg (a b:Int):fne (.int a) (.int b)=.val (.bl (decide (a ≠ b))):=by
 by_cases h:a=b
 ·subst h;rw [iY rfl];simp
 ·rw [uH rfl rfl (by simpa using h)];simp [h]
noncomputable abbrev nD (n:Nat):D:=.int (n:Int)
noncomputable def az (x:Arr):D:=.tup [nD x.1,nD x.2.1,.tup (x.2.2.map nD)]
noncomputable def eR (p:Nat × Nat):D:=.tup [nD p.1,nD p.2]
noncomputable def cZ (en:List (Nat × Nat)):D:=.lst (en.map eR)
noncomputable def aw (re:List Nat):D:=.lst (re.map nD)
noncomputable def bo (r:List Int):D:=.lst (r.map D.int)
noncomputable def bw (tb:List (List Int)):D:=.lst (tb.map bo)
theorem nD_inj {a b:Nat}:nD a=nD b ↔ a=b:=by
 simp only [nD,D.int.injEq];omega
theorem endD_inj {p q:Nat × Nat}:eR p=eR q ↔ p=q:=by
 obtain ⟨a,b⟩:=p
 obtain ⟨c,d⟩:=q
 simp only [eR,nD,D.tup.injEq,List.cons.injEq,D.int.injEq,and_true,Prod.mk.injEq];omega
theorem qY {α:Type} {f:α->D} (hf:∀ a b,f a=f b->a=b):∀ {l m:List α},l.map f=m.map f->l=m
 | [],[],_=>rfl
 | [],_ :: _,h=>by simp at h
 | _ :: _,[],h=>by simp at h
 | a :: l,b :: m,h=>by
  simp only [List.map_cons,List.cons.injEq] at h
  rw [hf _ _ h.1,qY hf h.2]
theorem arrD_inj {x y:Arr}:az x=az y ↔ x=y:=by
 obtain ⟨a,b,l⟩:=x
 obtain ⟨c,d,m⟩:=y
 constructor
 ·intro h
  simp only [az,nD,D.tup.injEq,List.cons.injEq,D.int.injEq,Int.natCast_inj,and_true] at h
  obtain ⟨h1,h2,h3⟩:=h
  rw [h1,h2,qY (fun a b e=>nD_inj.mp e) h3]
 ·rintro h;rw [h]
theorem all_map {α:Type} {f:α->D} {n:Nat} (h:∀ a,pln n (f a)=true) (l:List α):(l.map f).all (pln n)=true:=by
 rw [List.all_eq_true]
 intro y hy
 obtain ⟨a,_,rfl⟩:=List.mem_map.mp hy
 exact h a
theorem oK {k:Nat} (n:Nat):pln k (nD n)=true:=by unfold nD pln;rfl
theorem ko {k:Nat} {xs:List D} (h:xs.all (pln k)=true):pln (k + 1) (.tup xs)=true:=h
theorem qP {k:Nat} {xs:List D} (h:xs.all (pln k)=true):pln (k + 1) (.lst xs)=true:=h
theorem iO {k:Nat} (p:Nat × Nat):pln (k + 1) (eR p)=true:=ko (by simp [oK])
theorem h9 {k:Nat} (x:Arr):pln (k + 2) (az x)=true:=ko (by simp [oK];exact ko (all_map (fun a=>oK a) _))
theorem vK {k:Nat} (re:List Nat):pln (k + 1) (aw re)=true:=qP (all_map (fun p=>oK p) _)
theorem fo {α:Type} {f:α->D} {l:List α} {i:Nat} {d:α} (h:i < l.length):(l.map f)[i]?=some (f (l.getD i d)):=by
 rw [bn h];simp [h]
theorem fG {en:List (Nat × Nat)} {i:Nat} (h:i < en.length):fix (cZ en) (.int (i:Int))=.val (eR (en.getD i (0,0))):=im (fo h)
theorem dE {re:List Nat} {i:Nat} (h:i < re.length):fix (aw re) (.int (i:Int))=.val (nD (re.getD i 0)):=im (fo h)
theorem gt {tb:List (List Int)} {i:Nat} (h:i < tb.length):fix (bw tb) (.int (i:Int))=.val (bo (tb.getD i [])):=im (fo h)
theorem gu {r:List Int} {i:Nat} (h:i < r.length):fix (bo r) (.int (i:Int))=.val (.int (r.getD i (-1))):=im (fo h)
@[simp] theorem Ax (p:Nat × Nat):fix (eR p) (.int 0)=.val (nD p.1):=qi _ _
@[simp] theorem Aw (p:Nat × Nat):fix (eR p) (.int 1)=.val (nD p.2):=lA _ _ _
@[simp] theorem AA (x:Arr):fix (az x) (.int 0)=.val (nD x.1):=qi _ _
@[simp] theorem Az (x:Arr):fix (az x) (.int 1)=.val (nD x.2.1):=lA _ _ _
@[simp] theorem Ay (x:Arr):fix (az x) (.int 2)=.val (.tup (x.2.2.map nD)):=qh _ _ _ _
@[simp] theorem uK (en:List (Nat × Nat)):aJ (cZ en)=.val (.int en.length):=by unfold cZ;simp
@[simp] theorem dW (re:List Nat):aJ (aw re)=.val (.int re.length):=by unfold aw;simp
@[simp] theorem zP (r:List Int):aJ (bo r)=.val (.int r.length):=by unfold bo;simp
@[simp] theorem zO (r:List (List Int)):aJ (bw r)=.val (.int r.length):=by unfold bw;simp
@[simp] theorem zQ (p:Nat × Nat):aJ (eR p)=.val (.int 2):=Eq.trans rfl rfl
theorem lm {F:Rho->R Out} {i j:Nat} (I:Rho->Prop) {xs:List D} (step:∀ (k:Nat) x ρ,xs[k]?=some x->I ρ->∃ ρ2,F ((ρ.set i (some (.shr (.int (k:Int))))).set j (some (.shr x)))=.val (.nx ρ2)/\I ρ2) {ρ:Rho} (h:I ρ) :
  ∃ ρ',b_ (tg2 i j) F (enu 0 xs) ρ=.val (.nx ρ')/\I ρ':=by
 refine fX (fun _=>I) (fun k y ρ e hI=>?_) h
 obtain ⟨x,e1,rfl⟩:=qm e
 rw [Nat.zero_add]
 obtain ⟨ρ2,h1,h2⟩:=step k x ρ e1 hI
 exact ⟨_,ρ2,rfl,h1,h2⟩
theorem gR {F:Rho->R Out} {i n:Nat} (I:Nat->Rho->Prop) (step:∀ (k:Nat) ρ,k < n->I k ρ->∃ ρ2,F (ρ.set i (some (.shr (.int (k:Int)))))=.val (.nx ρ2)/\I (k + 1) ρ2) {ρ:Rho} (h:I 0 ρ) :
  ∃ ρ',b_ (tgN i) F (rng 0 n) ρ=.val (.nx ρ')/\I n ρ':=by
 have hl:(rng 0 n).length=n:=by unfold rng;simp
 obtain ⟨ρ',h1,h2⟩:=fX (T:=tgN i) (F:=F) I (xs:=rng 0 n) (fun k y ρ e hI=>by
  have hk:k < n:=by rw [<- hl];exact (List.getElem?_eq_some_iff.mp e).1
  have:y=.int (k:Int):=by
   unfold rng at e
   rw [List.getElem?_map,List.getElem?_range hk] at e
   simp at e;exact e.symm
  subst this
  obtain ⟨ρ2,h1,h2⟩:=step k ρ hk hI
  exact ⟨_,ρ2,rfl,h1,h2⟩) h
 exact ⟨ρ',h1,by rw [hl] at h2;exact h2⟩
theorem dO {n:Nat} (h:n<=100000):lV [.int (n:Int)]=.val (rng 0 n):=by
 have:-(2 ^ 62)<=(n:Int)/\(n:Int) < 2 ^ 62:=by constructor <;> omega
 unfold lV
 dsimp only
 rw [if_pos this,Int.toNat_natCast]
theorem tD {z:Int} (h:0<=z) (h':z<=100000):lV [.int z]=.val (rng 0 z.toNat):=by
 have:-(2 ^ 62)<=z/\z < 2 ^ 62:=by constructor <;> omega
 unfold lV
 dsimp only
 rw [if_pos this]
theorem vD (n:Nat):(rng 0 n).length=n:=by unfold rng;simp
theorem v_ {n:Nat} {x:D} (h:x ∈ rng 0 n):∃ k:Nat,k < n/\x=.int (k:Int):=by
 unfold rng at h
 obtain ⟨k,hk,rfl⟩:=List.mem_map.mp h
 exact ⟨k,List.mem_range.mp hk,by simp⟩
theorem i4 {src:Rho->R (List D)} {m n:Nat} {e:Rho->R D} {g:Nat->D} {ρ:Rho} {i:Nat} (hs:src ρ=.val (rng 0 m)) (hl:m<=100000) (h:∀ k:Nat,k < m->e ((ρ ++ List.replicate n none).set i (some (.shr (.int (k:Int)))))=.val (g k)) :
  b0 src n (tgN i) tT e ρ=.val ((List.range m).map g):=by
 unfold b0
 rw [hs,ae,if_pos (show (rng 0 m).length<=LIM by rw [vD];exact hl)]
 have:hC (tgN i) tT e (rng 0 m) (ρ ++ List.replicate n none)=.val ((rng 0 m).map fun x=>match x with | .int z=>g z.toNat | _=>.non):=pw fun x hx=>by
  obtain ⟨k,hk,rfl⟩:=v_ hx
  exact ⟨_,rfl,by rw [h k hk];simp⟩
 rw [this,iQ]
 unfold rng
 rw [List.map_map]
 congr 1
 apply List.map_congr_left
 intro k hk
 simp
theorem ge {α:Type} {src:Rho->R (List D)} {n:Nat} {e:Rho->R D} {f g:α->D} {l:List α} {ρ:Rho} {i:Nat} (hs:src ρ=.val (l.map f)) (hl:l.length<=100000) (h:∀ a ∈ l,e ((ρ ++ List.replicate n none).set i (some (.shr (f a))))=.val (g a)) :
  b0 src n (tgN i) tT e ρ=.val (l.map g):=by
 unfold b0
 rw [hs,ae,if_pos (show (l.map f).length<=LIM by rw [List.length_map];exact hl)]
 suffices ∀ l:List α,(∀ a ∈ l,e ((ρ ++ List.replicate n none).set i (some (.shr (f a))))=.val (g a))->hC (tgN i) tT e (l.map f) (ρ ++ List.replicate n none)=.val (l.map g) by
  rw [this l h];rfl
 intro l
 induction l with
 | nil=>intro _;rfl
 | cons a r ih =>
  intro h
  have h1:=h a (by simp)
  have h2:=ih fun b hb=>h b (by simp [hb])
  rw [List.map_cons]
  unfold hC
  show (noE (tT _)).bind _=_
  rw [h2]
  simp only [tT,iQ,ae,if_true]
  rw [h1];rfl
end DL
namespace DL
open PySem PySem.Spec PyProof.Rows L2
structure Txt (K:PySem.W.Frag) (mg:Str->Option Value) (C:Addr):Prop where
 cl:Cls K C
 nE:NoAttr K C "ends"
 nR:NoAttr K C "rests"
 nT:NoAttr K C "table"
 len:mg "len"=none
 list:mg "list"=none
 tuple:mg "tuple"=none
 range:mg "range"=none
 enumerate:mg "enumerate"=none
 max:mg "max"=none
 isinstance:mg "isinstance"=none
 all:mg "all"=none
 zip:mg "zip"=none
 int:mg "int"=none
 bool:mg "bool"=none
 ih:IsH K C
 hall:mg "Hall"=some (.ref C)
 most_boxes:∃ t,mg "MOST_BOXES"=some (.int 6 t)
 most_arrows:∃ t,mg "MOST_ARROWS"=some (.int 40 t)
 most_places:∃ t,mg "MOST_PLACES"=some (.int 3 t)
 most_ties:∃ t,mg "MOST_TIES"=some (.int 4 t)
 kt_int:KTy K "int"
 kt_bool:KTy K "bool"
 kt_list:KTy K "list"
seal ED EB TD AD FD ID GD WD pH SD SDs ER AR FR KD ND SDi om
variable {P:Program} {w:World} {K:PySem.W.Frag} {mg:Str->Option Value} {base:Heap} {C:Addr}
noncomputable abbrev cU:Stmt:=PySem.Challenge.pw_arrowhall_k05_views.main.body.getD 8 (.Pass ⟨0,0,0,0⟩)
noncomputable abbrev iG:List Str:=["number","count"]
theorem oF:aP iG ["number","count"] (ah cU):=⟨rfl,rfl,rfl,by decide +kernel,rfl,by decide +kernel,by decide +kernel⟩
noncomputable def gB:Rho->R Out:=(ret (chn (fun i j=>decide (i<=j)) (fun i j=>decide (i < j)) (kd (.int 0)) (vb 0) (vb 1)))
noncomputable def aF (ds:List D):R D:=fin (gB (st0 iG ds))
theorem mq {f:Addr}  (T:Txt K mg C) (cdv:Value) (A:Around) (outer:List Env) (s:Shared) (H:Hp) (E:XK) (hr:Room 0 (A.deeper (envOfC "is_below" (ah cU) s.heap.objs.size f cdv))) :
  SDs C (cw CX0 P w K mg base iG "is_below" (ah cU) f cdv A outer s H E).nox (ay cU) gB :=
 (ao (bJ (uZ (f:=fun i j=>decide (i<=j)) (g:=fun i j=>decide (i < j)) oN w6 (EB.of al) (ai (pv 0)) (ai (pv 1)))))
theorem oV {a:Addr} {fd:FuncData}  (T:Txt K mg C) (F:Fun K "is_below" "is_below" cU a fd) (hm:mg "is_below"=some (.ref a)) (hb:Binds K fd ["number","count"] []):Fn P w K mg base C 1 "is_below" 2 aF :=
 ⟨a,fd,_,bL F oF (fun cdv A outer s H E hr=>mq  T cdv A outer s H E hr),hm,F.kp,hb⟩
noncomputable abbrev bC:Stmt:=PySem.Challenge.pw_arrowhall_k05_views.main.body.getD 9 (.Pass ⟨0,0,0,0⟩)
noncomputable abbrev fC:List Str:=["ends","rests"]
theorem jU:aP fC ["ends","rests"] (ah bC):=⟨rfl,rfl,rfl,by decide +kernel,rfl,by decide +kernel,by decide +kernel⟩
noncomputable def eB:Rho->R Out:=(sq (iff (dw (tst (chn (fun i j=>decide (i<=j)) (fun i j=>decide (i<=j)) (kd (.int 1)) (una aJ (vb 1)) (kd (.int 6)))))
 bad
 nxt)
 (iff (dw (tst (chn (fun i j=>decide (i<=j)) (fun i j=>decide (i<=j)) (kd (.int 1)) (una aJ (vb 0)) (kd (.int 40)))))
 bad
 nxt))
noncomputable def bI (ds:List D):R D:=fin (eB (st0 fC ds))
theorem jb {f:Addr}  (T:Txt K mg C) (cdv:Value) (A:Around) (outer:List Env) (s:Shared) (H:Hp) (E:XK) (hr:Room 0 (A.deeper (envOfC "check_counts" (ah bC) s.heap.objs.size f cdv))) :
  SDs C (cw CX0 P w K mg base fC "check_counts" (ah bC) f cdv A outer s H E).nox (ay bC) eB :=
 (ar (bF (dc (ow (f:=fun i j=>decide (i<=j)) (g:=fun i j=>decide (i<=j)) oN oN (EB.of al) (EB.of (aZ (ai (pv 1)) rfl T.len ab (fun t ha=>aG av rfl T.len PySem.boot_len ha (he:=ab) (hpl:=aq)))) (EB.of (i8 rfl T.most_boxes.choose_spec))))
 (ao dM)
 aV)
 (ao (bF (dc (ow (f:=fun i j=>decide (i<=j)) (g:=fun i j=>decide (i<=j)) oN oN (EB.of al) (EB.of (aZ (ai (pv 0)) rfl T.len ab (fun t ha=>aG av rfl T.len PySem.boot_len ha (he:=ab) (hpl:=aq)))) (EB.of (i8 rfl T.most_arrows.choose_spec))))
 (ao dM)
 aV)))
theorem j3 {a:Addr} {fd:FuncData}  (T:Txt K mg C) (F:Fun K "check_counts" "check_counts" bC a fd) (hm:mg "check_counts"=some (.ref a)) (hb:Binds K fd ["ends","rests"] []):Fn P w K mg base C 1 "check_counts" 2 bI :=
 ⟨a,fd,_,bL F jU (fun cdv A outer s H E hr=>jb  T cdv A outer s H E hr),hm,F.kp,hb⟩
noncomputable abbrev cj:Stmt:=PySem.Challenge.pw_arrowhall_k05_views.main.body.getD 10 (.Pass ⟨0,0,0,0⟩)
noncomputable abbrev gF:List Str:=["ends","boxes","arrow","pair"]
theorem sc_check_ends:aP gF ["ends","boxes"] (ah cj):=⟨rfl,rfl,rfl,by decide +kernel,rfl,by decide +kernel,by decide +kernel⟩
noncomputable def fw:Rho->R Out:=(bE (fD (aC (vr 0) aN)) (tg2 2 3)
 (iff (orB (tst (bin fne (una aJ (vb 3)) (kd (.int 2)))) (orB (dw (tst (cal 2 aF (aC (bin fix (vb 3) (kd (.int 0))) (aC (vr 1) aN))))) (dw (tst (cal 2 aF (aC (bin fix (vb 3) (kd (.int 1))) (aC (vr 1) aN)))))))
 bad
 nxt))
noncomputable def cu (ds:List D):R D:=fin (fw (st0 gF ds))
theorem kh {f:Addr} (fn_is_below:Fn P w K mg base C 1 "is_below" 2 aF) (T:Txt K mg C) (cdv:Value) (A:Around) (outer:List Env) (s:Shared) (H:Hp) (E:XK) (hr:Room 1 (A.deeper (envOfC "check_ends" (ah cj) s.heap.objs.size f cdv))) :
  SDs C (cw CX0 P w K mg base gF "check_ends" (ah cj) f cdv A outer s H E).nox (ay cj) fw :=
 (ao (bz PassesOwn.never rfl (dk rfl T.enumerate (ag (aj (pv 0)) am ab) (bV ab)) (dv rfl (aQ (i:=2) sc_check_ends.nd rfl (Or.inl rfl)) (aQ (i:=3) sc_check_ends.nd rfl (Or.inl rfl)))
 (ao (bF (jS (fE (d7 (cq hr) (EB.of (aZ (ai (pv 3)) rfl T.len ab (fun t ha=>aG av rfl T.len PySem.boot_len ha (he:=ab) (hpl:=aq)))) (EB.of al)) (fE (dc (db (bj fn_is_below (hr.mono (by decide)) rfl (ag (aD (ai (pv 3)) (EB.of al)) (ag (aj (pv 1)) am ab) ak) rfl (he:=ak) (hpl:=(ax ab aq))))) (fi (dc (db (bj fn_is_below (hr.mono (by decide)) rfl (ag (aD (ai (pv 3)) (EB.of al)) (ag (aj (pv 1)) am ab) ak) rfl (he:=ak) (hpl:=(ax ab aq)))))))))
 (ao dM)
 aV))))
theorem l_ {a:Addr} {fd:FuncData} (fn_is_below:Fn P w K mg base C 1 "is_below" 2 aF) (T:Txt K mg C) (F:Fun K "check_ends" "check_ends" cj a fd) (hm:mg "check_ends"=some (.ref a)) (hb:Binds K fd ["ends","boxes"] []):Fn P w K mg base C 2 "check_ends" 2 cu :=
 ⟨a,fd,_,bL F sc_check_ends (fun cdv A outer s H E hr=>kh fn_is_below T cdv A outer s H E hr),hm,F.kp,hb⟩
noncomputable abbrev bQ:Stmt:=PySem.Challenge.pw_arrowhall_k05_views.main.body.getD 11 (.Pass ⟨0,0,0,0⟩)
noncomputable abbrev fS:List Str:=["ends","rests","box","rest"]
theorem sc_check_rests:aP fS ["ends","rests"] (ah bQ):=⟨rfl,rfl,rfl,by decide +kernel,rfl,by decide +kernel,by decide +kernel⟩
noncomputable def eW:Rho->R Out:=(bE (fD (aC (vr 1) aN)) (tg2 2 3)
 (iff (orB (dw (tst (cal 2 aF (aC (vr 3) (aC (una aJ (vb 0)) aN))))) (tst (bin fne (bin fix (vb 0) (vb 3)) (eT (aC (vr 2) (aC (vr 2) aN))))))
 bad
 nxt))
noncomputable def bY (ds:List D):R D:=fin (eW (st0 fS ds))
theorem jE {f:Addr} (fn_is_below:Fn P w K mg base C 1 "is_below" 2 aF) (T:Txt K mg C) (cdv:Value) (A:Around) (outer:List Env) (s:Shared) (H:Hp) (E:XK) (hr:Room 1 (A.deeper (envOfC "check_rests" (ah bQ) s.heap.objs.size f cdv))) :
  SDs C (cw CX0 P w K mg base fS "check_rests" (ah bQ) f cdv A outer s H E).nox (ay bQ) eW :=
 (ao (bz PassesOwn.never rfl (dk rfl T.enumerate (ag (aj (pv 1)) am ab) (bV ab)) (dv rfl (aQ (i:=2) sc_check_rests.nd rfl (Or.inl rfl)) (aQ (i:=3) sc_check_rests.nd rfl (Or.inl rfl)))
 (ao (bF (jS (fE (dc (db (bj fn_is_below (hr.mono (by decide)) rfl (ag (aj (pv 3)) (ag (aZ (ai (pv 0)) rfl T.len ab (fun t ha=>aG av rfl T.len PySem.boot_len ha (he:=ab) (hpl:=aq))) am aH) ab) rfl (he:=ab) (hpl:=(ax aH aq))))) (fi (d7 (cq hr) (EB.of (aD (ai (pv 0)) (ai (pv 3)))) (EB.of (dg (ag (aj (pv 2)) (ag (aj (pv 2)) am ab) ab)))))))
 (ao dM)
 aV))))
theorem lh {a:Addr} {fd:FuncData} (fn_is_below:Fn P w K mg base C 1 "is_below" 2 aF) (T:Txt K mg C) (F:Fun K "check_rests" "check_rests" bQ a fd) (hm:mg "check_rests"=some (.ref a)) (hb:Binds K fd ["ends","rests"] []):Fn P w K mg base C 2 "check_rests" 2 bY :=
 ⟨a,fd,_,bL F sc_check_rests (fun cdv A outer s H E hr=>jE fn_is_below T cdv A outer s H E hr),hm,F.kp,hb⟩
noncomputable abbrev ci:Stmt:=PySem.Challenge.pw_arrowhall_k05_views.main.body.getD 12 (.Pass ⟨0,0,0,0⟩)
noncomputable abbrev fh:List Str:=["table","arrows","one","row"]
theorem sc_check_form:aP fh ["table","arrows"] (ah ci):=⟨rfl,rfl,rfl,by decide +kernel,rfl,by decide +kernel,by decide +kernel⟩
noncomputable def fv:Rho->R Out:=(sq (iff (tst (bin fne (una aJ (vb 0)) (vb 1)))
 bad
 nxt)
 (bE (fD (aC (vr 0) aN)) (tg2 2 3)
 (iff (tst (bin fne (una aJ (vb 3)) (vb 1)))
 bad
 nxt)))
noncomputable def cr (ds:List D):R D:=fin (fv (st0 fh ds))
theorem kg {f:Addr}  (T:Txt K mg C) (cdv:Value) (A:Around) (outer:List Env) (s:Shared) (H:Hp) (E:XK) (hr:Room 0 (A.deeper (envOfC "check_form" (ah ci) s.heap.objs.size f cdv))) :
  SDs C (cw CX0 P w K mg base fh "check_form" (ah ci) f cdv A outer s H E).nox (ay ci) fv :=
 (ar (bF (d7 (cq hr) (EB.of (aZ (ai (pv 0)) rfl T.len ab (fun t ha=>aG av rfl T.len PySem.boot_len ha (he:=ab) (hpl:=aq)))) (ai (pv 1)))
 (ao dM)
 aV)
 (ao (bz PassesOwn.never rfl (dk rfl T.enumerate (ag (aj (pv 0)) am ab) (bV ab)) (dv rfl (aQ (i:=2) sc_check_form.nd rfl (Or.inl rfl)) (aQ (i:=3) sc_check_form.nd rfl (Or.inl rfl)))
 (ao (bF (d7 (cq hr) (EB.of (aZ (ai (pv 3)) rfl T.len ab (fun t ha=>aG av rfl T.len PySem.boot_len ha (he:=ab) (hpl:=aq)))) (ai (pv 1)))
 (ao dM)
 aV)))))
theorem l0 {a:Addr} {fd:FuncData}  (T:Txt K mg C) (F:Fun K "check_form" "check_form" ci a fd) (hm:mg "check_form"=some (.ref a)) (hb:Binds K fd ["table","arrows"] []):Fn P w K mg base C 1 "check_form" 2 cr :=
 ⟨a,fd,_,bL F sc_check_form (fun cdv A outer s H E hr=>kg  T cdv A outer s H E hr),hm,F.kp,hb⟩
noncomputable abbrev bR:Stmt:=PySem.Challenge.pw_arrowhall_k05_views.main.body.getD 14 (.Pass ⟨0,0,0,0⟩)
noncomputable abbrev fT:List Str:=["ends","one","other","made"]
theorem kK:aP fT ["ends","one","other","made"] (ah bR):=⟨rfl,rfl,rfl,by decide +kernel,rfl,by decide +kernel,by decide +kernel⟩
noncomputable def eX:Rho->R Out:=(iff (tst (bin fne (bin fix (bin fix (vb 0) (vb 1)) (kd (.int 1))) (bin fix (bin fix (vb 0) (vb 2)) (kd (.int 0)))))
 (iff (tst (bin fne (vb 3) (una nF (kd (.int 1)))))
 bad
 nxt)
 (iff (orB (dw (tst (cal 2 aF (aC (vr 3) (aC (una aJ (vb 0)) aN))))) (tst (bin fne (bin fix (vb 0) (vb 3)) (eT (aC (bin fix (bin fix (vb 0) (vb 1)) (kd (.int 0))) (aC (bin fix (bin fix (vb 0) (vb 2)) (kd (.int 1))) aN))))))
 bad
 nxt))
noncomputable def bZ (ds:List D):R D:=fin (eX (st0 fT ds))
theorem jF {f:Addr} (fn_is_below:Fn P w K mg base C 1 "is_below" 2 aF) (T:Txt K mg C) (cdv:Value) (A:Around) (outer:List Env) (s:Shared) (H:Hp) (E:XK) (hr:Room 1 (A.deeper (envOfC "check_entry" (ah bR) s.heap.objs.size f cdv))) :
  SDs C (cw CX0 P w K mg base fT "check_entry" (ah bR) f cdv A outer s H E).nox (ay bR) eX :=
 (ao (bF (d7 (cq hr) (EB.of (aD (EB.of (aD (ai (pv 0)) (ai (pv 1)))) (EB.of al))) (EB.of (aD (EB.of (aD (ai (pv 0)) (ai (pv 2)))) (EB.of al))))
 (ao (bF (d7 (cq hr) (ai (pv 3)) (EB.of (nP (EB.of al))))
 (ao dM)
 aV))
 (ao (bF (jS (fE (dc (db (bj fn_is_below (hr.mono (by decide)) rfl (ag (aj (pv 3)) (ag (aZ (ai (pv 0)) rfl T.len ab (fun t ha=>aG av rfl T.len PySem.boot_len ha (he:=ab) (hpl:=aq))) am aH) ab) rfl (he:=ab) (hpl:=(ax aH aq))))) (fi (d7 (cq hr) (EB.of (aD (ai (pv 0)) (ai (pv 3)))) (EB.of (dg (ag (aD (EB.of (aD (ai (pv 0)) (ai (pv 1)))) (EB.of al)) (ag (aD (EB.of (aD (ai (pv 0)) (ai (pv 2)))) (EB.of al)) am ak) ak)))))))
 (ao dM)
 aV))))
theorem li {a:Addr} {fd:FuncData} (fn_is_below:Fn P w K mg base C 1 "is_below" 2 aF) (T:Txt K mg C) (F:Fun K "check_entry" "check_entry" bR a fd) (hm:mg "check_entry"=some (.ref a)) (hb:Binds K fd ["ends","one","other","made"] []):Fn P w K mg base C 2 "check_entry" 4 bZ :=
 ⟨a,fd,_,bL F kK (fun cdv A outer s H E hr=>jF fn_is_below T cdv A outer s H E hr),hm,F.kp,hb⟩
noncomputable abbrev bP:Stmt:=PySem.Challenge.pw_arrowhall_k05_views.main.body.getD 13 (.Pass ⟨0,0,0,0⟩)
noncomputable abbrev fR:List Str:=["ends","table","one","row","other","made"]
theorem sc_check_table:aP fR ["ends","table"] (ah bP):=⟨rfl,rfl,rfl,by decide +kernel,rfl,by decide +kernel,by decide +kernel⟩
noncomputable def eV:Rho->R Out:=(bE (fD (aC (vr 1) aN)) (tg2 2 3)
 (bE (fD (aC (vr 3) aN)) (tg2 4 5)
 (drp (cal 4 bZ (aC (vr 0) (aC (vr 2) (aC (vr 4) (aC (vr 5) aN))))))))
noncomputable def bX (ds:List D):R D:=fin (eV (st0 fR ds))
theorem jD {f:Addr} (fn_check_entry:Fn P w K mg base C 2 "check_entry" 4 bZ) (T:Txt K mg C) (cdv:Value) (A:Around) (outer:List Env) (s:Shared) (H:Hp) (E:XK) (hr:Room 2 (A.deeper (envOfC "check_table" (ah bP) s.heap.objs.size f cdv))) :
  SDs C (cw CX0 P w K mg base fR "check_table" (ah bP) f cdv A outer s H E).nox (ay bP) eV :=
 (ao (bz PassesOwn.never rfl (dk rfl T.enumerate (ag (aj (pv 1)) am ab) (bV ab)) (dv rfl (aQ (i:=2) sc_check_table.nd rfl (Or.inl rfl)) (aQ (i:=3) sc_check_table.nd rfl (Or.inl rfl)))
 (ao (bz PassesOwn.never rfl (dk rfl T.enumerate (ag (aj (pv 3)) am ab) (bV ab)) (dv rfl (aQ (i:=4) sc_check_table.nd rfl (Or.inl rfl)) (aQ (i:=5) sc_check_table.nd rfl (Or.inl rfl)))
 (ao (h6 (EB.of (bj fn_check_entry (hr.mono (by decide)) rfl (ag (aj (pv 0)) (ag (aj (pv 2)) (ag (aj (pv 4)) (ag (aj (pv 5)) am ab) ab) ab) ab) rfl (he:=ab) (hpl:=(ax ab (ax ab (ax ab aq))))))))))))
theorem lg {a:Addr} {fd:FuncData} (fn_check_entry:Fn P w K mg base C 2 "check_entry" 4 bZ) (T:Txt K mg C) (F:Fun K "check_table" "check_table" bP a fd) (hm:mg "check_table"=some (.ref a)) (hb:Binds K fd ["ends","table"] []):Fn P w K mg base C 3 "check_table" 2 bX :=
 ⟨a,fd,_,bL F sc_check_table (fun cdv A outer s H E hr=>jD fn_check_entry T cdv A outer s H E hr),hm,F.kp,hb⟩
noncomputable abbrev aW:Stmt:=PySem.Challenge.pw_arrowhall_k05_views.main.body.getD 15 (.Pass ⟨0,0,0,0⟩)
noncomputable abbrev dh:List Str:=["ends","rests","table","arrow","pair"]
theorem sc_check_beside_rests:aP dh ["ends","rests","table"] (ah aW):=⟨rfl,rfl,rfl,by decide +kernel,rfl,by decide +kernel,by decide +kernel⟩
noncomputable def cY:Rho->R Out:=(bE (fD (aC (vr 0) aN)) (tg2 3 4)
 (iff (orB (tst (bin fne (bin fix (bin fix (vb 2) (bin fix (vb 1) (bin fix (vb 4) (kd (.int 0))))) (vb 3)) (vb 3))) (tst (bin fne (bin fix (bin fix (vb 2) (vb 3)) (bin fix (vb 1) (bin fix (vb 4) (kd (.int 1))))) (vb 3))))
 bad
 nxt))
noncomputable def aY (ds:List D):R D:=fin (cY (st0 dh ds))
theorem gf {f:Addr}  (T:Txt K mg C) (cdv:Value) (A:Around) (outer:List Env) (s:Shared) (H:Hp) (E:XK) (hr:Room 0 (A.deeper (envOfC "check_beside_rests" (ah aW) s.heap.objs.size f cdv))) :
  SDs C (cw CX0 P w K mg base dh "check_beside_rests" (ah aW) f cdv A outer s H E).nox (ay aW) cY :=
 (ao (bz PassesOwn.never rfl (dk rfl T.enumerate (ag (aj (pv 0)) am ab) (bV ab)) (dv rfl (aQ (i:=3) sc_check_beside_rests.nd rfl (Or.inl rfl)) (aQ (i:=4) sc_check_beside_rests.nd rfl (Or.inl rfl)))
 (ao (bF (jS (fE (d7 (cq hr) (EB.of (aD (EB.of (aD (ai (pv 2)) (EB.of (aD (ai (pv 1)) (EB.of (aD (ai (pv 4)) (EB.of al))))))) (ai (pv 3)))) (ai (pv 3))) (fi (d7 (cq hr) (EB.of (aD (EB.of (aD (ai (pv 2)) (ai (pv 3)))) (EB.of (aD (ai (pv 1)) (EB.of (aD (ai (pv 4)) (EB.of al))))))) (ai (pv 3))))))
 (ao dM)
 aV))))
theorem gG {a:Addr} {fd:FuncData}  (T:Txt K mg C) (F:Fun K "check_beside_rests" "check_beside_rests" aW a fd) (hm:mg "check_beside_rests"=some (.ref a)) (hb:Binds K fd ["ends","rests","table"] []):Fn P w K mg base C 1 "check_beside_rests" 3 aY :=
 ⟨a,fd,_,bL F sc_check_beside_rests (fun cdv A outer s H E hr=>gf  T cdv A outer s H E hr),hm,F.kp,hb⟩
noncomputable abbrev bB:Stmt:=PySem.Challenge.pw_arrowhall_k05_views.main.body.getD 17 (.Pass ⟨0,0,0,0⟩)
noncomputable abbrev d6:List Str:=["table","one","other","made","third","later"]
theorem sc_check_thirds:aP d6 ["table","one","other","made"] (ah bB):=⟨rfl,rfl,rfl,by decide +kernel,rfl,by decide +kernel,by decide +kernel⟩
noncomputable def ez:Rho->R Out:=(bE (fD (aC (bin fix (vb 0) (vb 2)) aN)) (tg2 4 5)
 (iff (yZ (tst (bin fne (vb 5) (una nF (kd (.int 1))))) (tst (bin fne (bin fix (bin fix (vb 0) (vb 3)) (vb 4)) (bin fix (bin fix (vb 0) (vb 1)) (vb 5)))))
 bad
 nxt))
noncomputable def bH (ds:List D):R D:=fin (ez (st0 d6 ds))
theorem ja {f:Addr}  (T:Txt K mg C) (cdv:Value) (A:Around) (outer:List Env) (s:Shared) (H:Hp) (E:XK) (hr:Room 0 (A.deeper (envOfC "check_thirds" (ah bB) s.heap.objs.size f cdv))) :
  SDs C (cw CX0 P w K mg base d6 "check_thirds" (ah bB) f cdv A outer s H E).nox (ay bB) ez :=
 (ao (bz PassesOwn.never rfl (dk rfl T.enumerate (ag (aD (ai (pv 0)) (ai (pv 2))) am ak) (bV ak)) (dv rfl (aQ (i:=4) sc_check_thirds.nd rfl (Or.inl rfl)) (aQ (i:=5) sc_check_thirds.nd rfl (Or.inl rfl)))
 (ao (bF (jS (xl (d7 (cq hr) (ai (pv 5)) (EB.of (nP (EB.of al)))) (vm (d7 (cq hr) (EB.of (aD (EB.of (aD (ai (pv 0)) (ai (pv 3)))) (ai (pv 4)))) (EB.of (aD (EB.of (aD (ai (pv 0)) (ai (pv 1)))) (ai (pv 5))))))))
 (ao dM)
 aV))))
theorem j0 {a:Addr} {fd:FuncData}  (T:Txt K mg C) (F:Fun K "check_thirds" "check_thirds" bB a fd) (hm:mg "check_thirds"=some (.ref a)) (hb:Binds K fd ["table","one","other","made"] []):Fn P w K mg base C 1 "check_thirds" 4 bH :=
 ⟨a,fd,_,bL F sc_check_thirds (fun cdv A outer s H E hr=>ja  T cdv A outer s H E hr),hm,F.kp,hb⟩
noncomputable abbrev bA:Stmt:=PySem.Challenge.pw_arrowhall_k05_views.main.body.getD 16 (.Pass ⟨0,0,0,0⟩)
noncomputable abbrev fB:List Str:=["table","one","row","other","made"]
theorem sc_check_threes:aP fB ["table"] (ah bA):=⟨rfl,rfl,rfl,by decide +kernel,rfl,by decide +kernel,by decide +kernel⟩
noncomputable def d_:Rho->R Out:=(bE (fD (aC (vr 0) aN)) (tg2 1 2)
 (bE (fD (aC (vr 2) aN)) (tg2 3 4)
 (iff (tst (bin fne (vb 4) (una nF (kd (.int 1)))))
 (drp (cal 4 bH (aC (vr 0) (aC (vr 1) (aC (vr 3) (aC (vr 4) aN))))))
 nxt)))
noncomputable def bG (ds:List D):R D:=fin (d_ (st0 fB ds))
theorem i_ {f:Addr} (fn_check_thirds:Fn P w K mg base C 1 "check_thirds" 4 bH) (T:Txt K mg C) (cdv:Value) (A:Around) (outer:List Env) (s:Shared) (H:Hp) (E:XK) (hr:Room 1 (A.deeper (envOfC "check_threes" (ah bA) s.heap.objs.size f cdv))) :
  SDs C (cw CX0 P w K mg base fB "check_threes" (ah bA) f cdv A outer s H E).nox (ay bA) d_ :=
 (ao (bz PassesOwn.never rfl (dk rfl T.enumerate (ag (aj (pv 0)) am ab) (bV ab)) (dv rfl (aQ (i:=1) sc_check_threes.nd rfl (Or.inl rfl)) (aQ (i:=2) sc_check_threes.nd rfl (Or.inl rfl)))
 (ao (bz PassesOwn.never rfl (dk rfl T.enumerate (ag (aj (pv 2)) am ab) (bV ab)) (dv rfl (aQ (i:=3) sc_check_threes.nd rfl (Or.inl rfl)) (aQ (i:=4) sc_check_threes.nd rfl (Or.inl rfl)))
 (ao (bF (d7 (cq hr) (ai (pv 4)) (EB.of (nP (EB.of al))))
 (ao (h6 (EB.of (bj fn_check_thirds (hr.mono (by decide)) rfl (ag (aj (pv 0)) (ag (aj (pv 1)) (ag (aj (pv 3)) (ag (aj (pv 4)) am ab) ab) ab) ab) rfl (he:=ab) (hpl:=(ax ab (ax ab (ax ab aq))))))))
 aV))))))
theorem jZ {a:Addr} {fd:FuncData} (fn_check_thirds:Fn P w K mg base C 1 "check_thirds" 4 bH) (T:Txt K mg C) (F:Fun K "check_threes" "check_threes" bA a fd) (hm:mg "check_threes"=some (.ref a)) (hb:Binds K fd ["table"] []):Fn P w K mg base C 2 "check_threes" 1 bG :=
 ⟨a,fd,_,bL F sc_check_threes (fun cdv A outer s H E hr=>i_ fn_check_thirds T cdv A outer s H E hr),hm,F.kp,hb⟩
noncomputable abbrev bq:Stmt:=wm (PySem.Challenge.pw_arrowhall_k05_views.main.body.getD 18 (.Pass ⟨0,0,0,0⟩)) 0
noncomputable abbrev eK:List Str:=["self","ends","rests","table"]
theorem kL:aP eK ["self","ends","rests","table"] (ah bq):=⟨rfl,rfl,rfl,by decide +kernel,rfl,by decide +kernel,by decide +kernel⟩
noncomputable abbrev Nc_Hall___init_0:List Str:=["self","ends","rests","table","row"]
theorem jp:Nc_Hall___init_0.Nodup:=by decide +kernel
noncomputable def fx:Rho->R D:=wJ [(cal 2 bI (aC (vr 1) (aC (vr 2) aN))),(cal 2 cu (aC (vr 1) (aC (una aJ (vb 2)) aN))),(cal 2 bY (aC (vr 1) (aC (vr 2) aN))),(cal 2 cr (aC (vr 3) (aC (una aJ (vb 1)) aN))),(cal 2 bX (aC (vr 1) (aC (vr 3) aN))),(cal 3 aY (aC (vr 1) (aC (vr 2) (aC (vr 3) aN)))),(cal 1 bG (aC (vr 3) aN))] (fIt (vb 1)) (fIt (vb 2)) (b0 (fIt (vr 3)) 1 (tgN 4) tT (eLs (fIt (vb 4))))
theorem jG {f:Addr} (fn_check_beside_rests:Fn P w K mg base C 1 "check_beside_rests" 3 aY) (fn_check_counts:Fn P w K mg base C 1 "check_counts" 2 bI) (fn_check_ends:Fn P w K mg base C 2 "check_ends" 2 cu) (fn_check_form:Fn P w K mg base C 1 "check_form" 2 cr) (fn_check_rests:Fn P w K mg base C 2 "check_rests" 2 bY) (fn_check_table:Fn P w K mg base C 3 "check_table" 2 bX) (fn_check_threes:Fn P w K mg base C 2 "check_threes" 1 bG) (T:Txt K mg C) (cdv:Value) (A:Around) (outer:List Env) (s:Shared) (H:Hp) (E:XK) (hr:Room 3 (A.deeper (envOfC "Hall.__init__" (ah bq) s.heap.objs.size f cdv))) :
  PSs (cw CX0 P w K mg base eK "Hall.__init__" (ah bq) f cdv A outer s H E).nox (ay bq) (tCk C (cw CX0 P w K mg base eK "Hall.__init__" (ah bq) f cdv A outer s H E).nox [(cal 2 bI (aC (vr 1) (aC (vr 2) aN))),(cal 2 cu (aC (vr 1) (aC (una aJ (vb 2)) aN))),(cal 2 bY (aC (vr 1) (aC (vr 2) aN))),(cal 2 cr (aC (vr 3) (aC (una aJ (vb 1)) aN))),(cal 2 bX (aC (vr 1) (aC (vr 3) aN))),(cal 3 aY (aC (vr 1) (aC (vr 2) (aC (vr 3) aN)))),(cal 1 bG (aC (vr 3) aN))] (tI C (cw CX0 P w K mg base eK "Hall.__init__" (ah bq) f cdv A outer s H E).nox (fIt (vb 1)) (fIt (vb 2)) (b0 (fIt (vr 3)) 1 (tgN 4) tT (eLs (fIt (vb 4)))))) :=
 (iq (kP (EB.of (bj fn_check_counts (hr.mono (by decide)) rfl (ag (aj (pv 1)) (ag (aj (pv 2)) am ab) ab) rfl (he:=ab) (hpl:=(ax ab aq)))))
 (iq (kP (EB.of (bj fn_check_ends (hr.mono (by decide)) rfl (ag (aj (pv 1)) (ag (aZ (ai (pv 2)) rfl T.len ab (fun t ha=>aG av rfl T.len PySem.boot_len ha (he:=ab) (hpl:=aq))) am aH) ab) rfl (he:=ab) (hpl:=(ax aH aq)))))
 (iq (kP (EB.of (bj fn_check_rests (hr.mono (by decide)) rfl (ag (aj (pv 1)) (ag (aj (pv 2)) am ab) ab) rfl (he:=ab) (hpl:=(ax ab aq)))))
 (iq (kP (EB.of (bj fn_check_form (hr.mono (by decide)) rfl (ag (aj (pv 3)) (ag (aZ (ai (pv 1)) rfl T.len ab (fun t ha=>aG av rfl T.len PySem.boot_len ha (he:=ab) (hpl:=aq))) am aH) ab) rfl (he:=ab) (hpl:=(ax aH aq)))))
 (iq (kP (EB.of (bj fn_check_table (hr.mono (by decide)) rfl (ag (aj (pv 1)) (ag (aj (pv 3)) am ab) ab) rfl (he:=ab) (hpl:=(ax ab aq)))))
 (iq (kP (EB.of (bj fn_check_beside_rests (hr.mono (by decide)) rfl (ag (aj (pv 1)) (ag (aj (pv 2)) (ag (aj (pv 3)) am ab) ab) ab) rfl (he:=ab) (hpl:=(ax ab (ax ab aq))))))
 (iq (kP (EB.of (bj fn_check_threes (hr.mono (by decide)) rfl (ag (aj (pv 3)) am ab) rfl (he:=ab) (hpl:=aq))))
 (zz (tK (pv 0) (e_ (ai (pv 1)) rfl T.list ab (fun t ha=>bp bU rfl T.list boot_list ha (he:=ab) (hpl:=aq)))) (tK (pv 0) (e_ (ai (pv 2)) rfl T.list ab (fun t ha=>bp bU rfl T.list boot_list ha (he:=ab) (hpl:=aq)))) (tK (pv 0) (dX (N':=Nc_Hall___init_0) (n:=1) rfl rfl rfl (iW 4) dL (cW (aj (pv 3))) (fun L cs s H fp=>(bg (i:=4) jp rfl (Or.inl rfl))) (fun L cs s H fp=>dR) (fun L cs s H fp=>(eN (e_ (ai (pv 4)) rfl T.list ab (fun t ha=>bp bU rfl T.list boot_list ha (he:=ab) (hpl:=aq)))))))))))))))
theorem lj {a:Addr} {fd:FuncData} (fn_check_beside_rests:Fn P w K mg base C 1 "check_beside_rests" 3 aY) (fn_check_counts:Fn P w K mg base C 1 "check_counts" 2 bI) (fn_check_ends:Fn P w K mg base C 2 "check_ends" 2 cu) (fn_check_form:Fn P w K mg base C 1 "check_form" 2 cr) (fn_check_rests:Fn P w K mg base C 2 "check_rests" 2 bY) (fn_check_table:Fn P w K mg base C 3 "check_table" 2 bX) (fn_check_threes:Fn P w K mg base C 2 "check_threes" 1 bG) (T:Txt K mg C) (F:Fun K "__init__" "Hall.__init__" bq a fd) (M:Mk K C a) (hb:Binds K fd ["self","ends","rests","table"] []):FnH P w K mg base C 4 fx :=
 ⟨a,fd,M,wg F kL T.cl T.nE T.nR T.nT (fun cdv A outer s H E hr=>jG fn_check_beside_rests fn_check_counts fn_check_ends fn_check_form fn_check_rests fn_check_table fn_check_threes T cdv A outer s H E hr),T.hall,hb⟩
noncomputable abbrev cE:Stmt:=PySem.Challenge.pw_arrowhall_k05_views.main.body.getD 19 (.Pass ⟨0,0,0,0⟩)
noncomputable abbrev hX:List Str:=["hall","box"]
theorem m6:aP hX ["hall","box"] (ah cE):=⟨rfl,rfl,rfl,by decide +kernel,rfl,by decide +kernel,by decide +kernel⟩
noncomputable def fN:Rho->R Out:=(iff (dw (tst (cal 2 aF (aC (vr 1) (aC (una aJ (una (i0 1) (vb 0))) aN)))))
 bad
 nxt)
noncomputable def bh (ds:List D):R D:=fin (fN (st0 hX ds))
theorem lQ {f:Addr} (fn_is_below:Fn P w K mg base C 1 "is_below" 2 aF) (T:Txt K mg C) (cdv:Value) (A:Around) (outer:List Env) (s:Shared) (H:Hp) (E:XK) (hr:Room 1 (A.deeper (envOfC "check_box" (ah cE) s.heap.objs.size f cdv))) :
  SDs C (cw CX0 P w K mg base hX "check_box" (ah cE) f cdv A outer s H E).nox (ay cE) fN :=
 (ao (bF (dc (db (bj fn_is_below (hr.mono (by decide)) rfl (ag (aj (pv 1)) (ag (aZ (EB.of (jv (k:=1) (ai (pv 0)) T.cl T.nR rfl (fun _ _ _=>rfl))) rfl T.len cz (fun t ha=>aG av rfl T.len PySem.boot_len ha (he:=cz) (hpl:=aq))) am aH) ab) rfl (he:=ab) (hpl:=(ax aH aq)))))
 (ao dM)
 aV))
theorem nr {a:Addr} {fd:FuncData} (fn_is_below:Fn P w K mg base C 1 "is_below" 2 aF) (T:Txt K mg C) (F:Fun K "check_box" "check_box" cE a fd) (hm:mg "check_box"=some (.ref a)) (hb:Binds K fd ["hall","box"] []):Fn P w K mg base C 2 "check_box" 2 bh :=
 ⟨a,fd,_,bL F m6 (fun cdv A outer s H E hr=>lQ fn_is_below T cdv A outer s H E hr),hm,F.kp,hb⟩
noncomputable abbrev di:Stmt:=PySem.Challenge.pw_arrowhall_k05_views.main.body.getD 20 (.Pass ⟨0,0,0,0⟩)
noncomputable abbrev jI:List Str:=["hall","box","other"]
theorem pX:aP jI ["hall","box","other"] (ah di):=⟨rfl,rfl,rfl,by decide +kernel,rfl,by decide +kernel,by decide +kernel⟩
noncomputable abbrev Nc_between_0:List Str:=["hall","box","other","arrow","pair"]
theorem iR:Nc_between_0.Nodup:=by decide +kernel
noncomputable def g9:Rho->R Out:=(sq (drp (cal 2 bh (aC (vr 0) (aC (vr 1) aN))))
 (sq (drp (cal 2 bh (aC (vr 0) (aC (vr 2) aN))))
 (ret (eLs (b0 (fD (aC (una (i0 0) (vb 0)) aN)) 2 (tg2 3 4) (tst (bin feq (vb 4) (eT (aC (vr 1) (aC (vr 2) aN))))) (vr 3))))))
noncomputable def cJ (ds:List D):R D:=fin (g9 (st0 jI ds))
theorem oh {f:Addr} (fn_check_box:Fn P w K mg base C 2 "check_box" 2 bh) (T:Txt K mg C) (cdv:Value) (A:Around) (outer:List Env) (s:Shared) (H:Hp) (E:XK) (hr:Room 2 (A.deeper (envOfC "between" (ah di) s.heap.objs.size f cdv))) :
  SDs C (cw CX0 P w K mg base jI "between" (ah di) f cdv A outer s H E).nox (ay di) g9 :=
 (ar (h6 (EB.of (bj fn_check_box (hr.mono (by decide)) rfl (ag (aj (pv 0)) (ag (aj (pv 1)) am ab) ab) rfl (he:=ab) (hpl:=(ax ab aq)))))
 (ar (h6 (EB.of (bj fn_check_box (hr.mono (by decide)) rfl (ag (aj (pv 0)) (ag (aj (pv 2)) am ab) ab) rfl (he:=ab) (hpl:=(ax ab aq)))))
 (ao (bJ (eN (dX (N':=Nc_between_0) (n:=2) rfl rfl rfl (Ap 3) xp (dk rfl T.enumerate (ag (jv (k:=0) (ai (pv 0)) T.cl T.nE rfl (fun _ _ _=>rfl)) am cz) (bV cz)) (fun L cs s H fp=>(dv rfl (aQ (i:=3) iR rfl (Or.inl rfl)) (aQ (i:=4) iR rfl (Or.inl rfl)))) (fun L cs s H fp=>(kx (gK (cq hr) (ai (pv 4)) (EB.of (dg (ag (aj (pv 1)) (ag (aj (pv 2)) am ab) ab)))))) (fun L cs s H fp=>(aj (pv 3)))))))))
theorem p_ {a:Addr} {fd:FuncData} (fn_check_box:Fn P w K mg base C 2 "check_box" 2 bh) (T:Txt K mg C) (F:Fun K "between" "between" di a fd) (hm:mg "between"=some (.ref a)) (hb:Binds K fd ["hall","box","other"] []):Fn P w K mg base C 3 "between" 3 cJ :=
 ⟨a,fd,_,bL F pX (fun cdv A outer s H E hr=>oh fn_check_box T cdv A outer s H E hr),hm,F.kp,hb⟩
noncomputable abbrev dN:Stmt:=PySem.Challenge.pw_arrowhall_k05_views.main.body.getD 25 (.Pass ⟨0,0,0,0⟩)
noncomputable abbrev lU:List Str:=["hall","places","tie"]
theorem sd:aP lU ["hall","places","tie"] (ah dN):=⟨rfl,rfl,rfl,by decide +kernel,rfl,by decide +kernel,by decide +kernel⟩
noncomputable def iw:Rho->R Out:=(sq (iff (orB (tst (bin fne (una aJ (vb 2)) (kd (.int 3)))) (orB (dw (tst (cal 2 aF (aC (bin fix (vb 2) (kd (.int 0))) (aC (una aJ (vb 1)) aN))))) (dw (tst (cal 2 aF (aC (bin fix (vb 2) (kd (.int 1))) (aC (una aJ (vb 1)) aN)))))))
 (ret (kd (.bl false)))
 nxt)
 (ret (yY (cal 2 aF (aC (bin fix (vb 2) (kd (.int 2))) (aC (una aJ (una (i0 0) (vb 0))) aN))) (bin feq (bin fix (una (i0 0) (vb 0)) (bin fix (vb 2) (kd (.int 2)))) (eT (aC (bin fix (vb 1) (bin fix (vb 2) (kd (.int 0)))) (aC (bin fix (vb 1) (bin fix (vb 2) (kd (.int 1)))) aN)))))))
noncomputable def dI (ds:List D):R D:=fin (iw (st0 lU ds))
theorem pD {f:Addr} (fn_is_below:Fn P w K mg base C 1 "is_below" 2 aF) (T:Txt K mg C) (cdv:Value) (A:Around) (outer:List Env) (s:Shared) (H:Hp) (E:XK) (hr:Room 1 (A.deeper (envOfC "is_tie" (ah dN) s.heap.objs.size f cdv))) :
  SDs C (cw CX0 P w K mg base lU "is_tie" (ah dN) f cdv A outer s H E).nox (ay dN) iw :=
 (ar (bF (jS (fE (d7 (cq hr) (EB.of (aZ (ai (pv 2)) rfl T.len ab (fun t ha=>aG av rfl T.len PySem.boot_len ha (he:=ab) (hpl:=aq)))) (EB.of al)) (fE (dc (db (bj fn_is_below (hr.mono (by decide)) rfl (ag (aD (ai (pv 2)) (EB.of al)) (ag (aZ (ai (pv 1)) rfl T.len ab (fun t ha=>aG av rfl T.len PySem.boot_len ha (he:=ab) (hpl:=aq))) am aH) ak) rfl (he:=ak) (hpl:=(ax aH aq))))) (fi (dc (db (bj fn_is_below (hr.mono (by decide)) rfl (ag (aD (ai (pv 2)) (EB.of al)) (ag (aZ (ai (pv 1)) rfl T.len ab (fun t ha=>aG av rfl T.len PySem.boot_len ha (he:=ab) (hpl:=aq))) am aH) ak) rfl (he:=ak) (hpl:=(ax aH aq)))))))))
 (ao (bJ gZ))
 aV)
 (ao (bJ (yQ (bj fn_is_below (hr.mono (by decide)) rfl (ag (aD (ai (pv 2)) (EB.of al)) (ag (aZ (EB.of (jv (k:=0) (ai (pv 0)) T.cl T.nE rfl (fun _ _ _=>rfl))) rfl T.len cz (fun t ha=>aG av rfl T.len PySem.boot_len ha (he:=cz) (hpl:=aq))) am aH) ak) rfl (he:=ak) (hpl:=(ax aH aq))) (yO (xi (cq hr) (EB.of (aD (EB.of (jv (k:=0) (ai (pv 0)) T.cl T.nE rfl (fun _ _ _=>rfl))) (EB.of (aD (ai (pv 2)) (EB.of al))))) (EB.of (dg (ag (aD (ai (pv 1)) (EB.of (aD (ai (pv 2)) (EB.of al)))) (ag (aD (ai (pv 1)) (EB.of (aD (ai (pv 2)) (EB.of al)))) am ak) ak)))))))))
theorem ss {a:Addr} {fd:FuncData} (fn_is_below:Fn P w K mg base C 1 "is_below" 2 aF) (T:Txt K mg C) (F:Fun K "is_tie" "is_tie" dN a fd) (hm:mg "is_tie"=some (.ref a)) (hb:Binds K fd ["hall","places","tie"] []):Fn P w K mg base C 2 "is_tie" 3 dI :=
 ⟨a,fd,_,bL F sd (fun cdv A outer s H E hr=>pD fn_is_below T cdv A outer s H E hr),hm,F.kp,hb⟩
noncomputable abbrev bu:Stmt:=PySem.Challenge.pw_arrowhall_k05_views.main.body.getD 24 (.Pass ⟨0,0,0,0⟩)
noncomputable abbrev eZ:List Str:=["hall","places","ties","place","box","number","tie"]
theorem sc_check_picture:aP eZ ["hall","places","ties"] (ah bu):=⟨rfl,rfl,rfl,by decide +kernel,rfl,by decide +kernel,by decide +kernel⟩
noncomputable def d5:Rho->R Out:=(sq (iff (orB (tst (bin (iI fgt) (una aJ (vb 1)) (kd (.int 3)))) (tst (bin (iI fgt) (una aJ (vb 2)) (kd (.int 4)))))
 bad
 nxt)
 (sq (bE (fD (aC (vr 1) aN)) (tg2 3 4)
 (iff (dw (tst (cal 2 aF (aC (vr 4) (aC (una aJ (una (i0 1) (vb 0))) aN)))))
 bad
 nxt))
 (bE (fD (aC (vr 2) aN)) (tg2 5 6)
 (iff (dw (tst (cal 3 dI (aC (vr 0) (aC (vr 1) (aC (vr 6) aN))))))
 bad
 nxt))))
noncomputable def bv (ds:List D):R D:=fin (d5 (st0 eZ ds))
theorem iA {f:Addr} (fn_is_below:Fn P w K mg base C 1 "is_below" 2 aF) (fn_is_tie:Fn P w K mg base C 2 "is_tie" 3 dI) (T:Txt K mg C) (cdv:Value) (A:Around) (outer:List Env) (s:Shared) (H:Hp) (E:XK) (hr:Room 2 (A.deeper (envOfC "check_picture" (ah bu) s.heap.objs.size f cdv))) :
  SDs C (cw CX0 P w K mg base eZ "check_picture" (ah bu) f cdv A outer s H E).nox (ay bu) d5 :=
 (ar (bF (jS (fE (my (EB.of (aZ (ai (pv 1)) rfl T.len ab (fun t ha=>aG av rfl T.len PySem.boot_len ha (he:=ab) (hpl:=aq)))) (EB.of (i8 rfl T.most_places.choose_spec))) (fi (my (EB.of (aZ (ai (pv 2)) rfl T.len ab (fun t ha=>aG av rfl T.len PySem.boot_len ha (he:=ab) (hpl:=aq)))) (EB.of (i8 rfl T.most_ties.choose_spec))))))
 (ao dM)
 aV)
 (ar (bz PassesOwn.never rfl (dk rfl T.enumerate (ag (aj (pv 1)) am ab) (bV ab)) (dv rfl (aQ (i:=3) sc_check_picture.nd rfl (Or.inl rfl)) (aQ (i:=4) sc_check_picture.nd rfl (Or.inl rfl)))
 (ao (bF (dc (db (bj fn_is_below (hr.mono (by decide)) rfl (ag (aj (pv 4)) (ag (aZ (EB.of (jv (k:=1) (ai (pv 0)) T.cl T.nR rfl (fun _ _ _=>rfl))) rfl T.len cz (fun t ha=>aG av rfl T.len PySem.boot_len ha (he:=cz) (hpl:=aq))) am aH) ab) rfl (he:=ab) (hpl:=(ax aH aq)))))
 (ao dM)
 aV)))
 (ao (bz PassesOwn.never rfl (dk rfl T.enumerate (ag (aj (pv 2)) am ab) (bV ab)) (dv rfl (aQ (i:=5) sc_check_picture.nd rfl (Or.inl rfl)) (aQ (i:=6) sc_check_picture.nd rfl (Or.inl rfl)))
 (ao (bF (dc (db (bj fn_is_tie (hr.mono (by decide)) rfl (ag (aj (pv 0)) (ag (aj (pv 1)) (ag (aj (pv 6)) am ab) ab) ab) rfl (he:=ab) (hpl:=(ax ab (ax ab aq))))))
 (ao dM)
 aV))))))
theorem jq {a:Addr} {fd:FuncData} (fn_is_below:Fn P w K mg base C 1 "is_below" 2 aF) (fn_is_tie:Fn P w K mg base C 2 "is_tie" 3 dI) (T:Txt K mg C) (F:Fun K "check_picture" "check_picture" bu a fd) (hm:mg "check_picture"=some (.ref a)) (hb:Binds K fd ["hall","places","ties"] []):Fn P w K mg base C 3 "check_picture" 3 bv :=
 ⟨a,fd,_,bL F sc_check_picture (fun cdv A outer s H E hr=>iA fn_is_below fn_is_tie T cdv A outer s H E hr),hm,F.kp,hb⟩
noncomputable abbrev cD:Stmt:=PySem.Challenge.pw_arrowhall_k05_views.main.body.getD 26 (.Pass ⟨0,0,0,0⟩)
noncomputable abbrev hW:List Str:=["hall","arrows","tie"]
theorem m4:aP hW ["hall","arrows","tie"] (ah cD):=⟨rfl,rfl,rfl,by decide +kernel,rfl,by decide +kernel,by decide +kernel⟩
noncomputable def fM:Rho->R Out:=(ret (bin feq (bin fix (bin fix (una (i0 2) (vb 0)) (bin fix (vb 1) (bin fix (vb 2) (kd (.int 0))))) (bin fix (vb 2) (kd (.int 2)))) (bin fix (vb 1) (bin fix (vb 2) (kd (.int 1))))))
noncomputable def bD (ds:List D):R D:=fin (fM (st0 hW ds))
theorem lP {f:Addr}  (T:Txt K mg C) (cdv:Value) (A:Around) (outer:List Env) (s:Shared) (H:Hp) (E:XK) (hr:Room 0 (A.deeper (envOfC "keeps_tie" (ah cD) s.heap.objs.size f cdv))) :
  SDs C (cw CX0 P w K mg base hW "keeps_tie" (ah cD) f cdv A outer s H E).nox (ay cD) fM :=
 (ao (bJ (xi (cq hr) (EB.of (aD (EB.of (aD (EB.of (jv (k:=2) (ai (pv 0)) T.cl T.nT rfl (fun _ _ _=>rfl))) (EB.of (aD (ai (pv 1)) (EB.of (aD (ai (pv 2)) (EB.of al))))))) (EB.of (aD (ai (pv 2)) (EB.of al))))) (EB.of (aD (ai (pv 1)) (EB.of (aD (ai (pv 2)) (EB.of al))))))))
theorem nq {a:Addr} {fd:FuncData}  (T:Txt K mg C) (F:Fun K "keeps_tie" "keeps_tie" cD a fd) (hm:mg "keeps_tie"=some (.ref a)) (hb:Binds K fd ["hall","arrows","tie"] []):Fn P w K mg base C 1 "keeps_tie" 3 bD :=
 ⟨a,fd,_,bL F m4 (fun cdv A outer s H E hr=>lP  T cdv A outer s H E hr),hm,F.kp,hb⟩
noncomputable abbrev e9:Stmt:=PySem.Challenge.pw_arrowhall_k05_views.main.body.getD 28 (.Pass ⟨0,0,0,0⟩)
noncomputable abbrev oq:List Str:=["hall","begun","arrows","due","longer","told","arrow","more"]
theorem sc_grown:aP oq ["hall","begun","arrows","due"] (ah e9):=⟨rfl,rfl,rfl,by decide +kernel,rfl,by decide +kernel,by decide +kernel⟩
noncomputable abbrev Nc_grown_0:List Str:=["hall","begun","arrows","due","longer","told","arrow","more","tie"]
theorem p9:Nc_grown_0.Nodup:=by decide +kernel
noncomputable def jx:Rho->R D:=(sqK (trS 4 (.l (.l .s)) (eLs (eM aN)))
 (sqK (bE (fIt (vr 1)) (tgN 5)
 (bE (fIt (vr 2)) (tgN 6)
 (sq (trS 7 (.l .s) (eLs (flL (sC (vb 5) (eL (aC (vr 6) aN))))))
 (iff (tst (una pc (eLs (b0 (fIt (vr 3)) 1 (tgN 8) tT (flF (cal 3 bD (aC (vb 0) (aC (va 7) (aC (vb 8) aN)))))))))
 (asO (apM 4 7 (.l .s) (pN0 4)))
 nxt))))
 (rtK 4 (.l (.l .s)))))
noncomputable def dA (ds:List D):R D:=jx (st0 oq ds)
theorem qx {f:Addr} (fn_keeps_tie:Fn P w K mg base C 1 "keeps_tie" 3 bD) (T:Txt K mg C) (cdv:Value) (A:Around) (outer:List Env) (s:Shared) (H:Hp) (E:XK) (hr:Room 1 (A.deeper (envOfC "grown" (ah e9) s.heap.objs.size f cdv))) :
  om C (cw CX0 P w K mg base oq "grown" (ah e9) f cdv A outer s H E).nox (.l (.l .s)) (ay e9) jx :=
 (fV (kI (i:=4) sc_grown.nd rfl (Or.inl rfl) yr)
 (fV (bz PassesOwn.never rfl (cW (aj (pv 1))) (bg (i:=5) sc_grown.nd rfl (Or.inl rfl))
 (ao (bz PassesOwn.never rfl (cW (aj (pv 2))) (bg (i:=6) sc_grown.nd rfl (Or.inl rfl))
 (ar (kI (i:=7) sc_grown.nd rfl (Or.inr rfl) (uu (zS (yG (jQ (ai (pv 5))) (jQ (EB.of (cy (ag (aj (pv 6)) am ab))))))))
 (ao (bF (db (yR rfl rfl T.all cn (EB.of (eN (dX (N':=Nc_grown_0) (n:=1) rfl rfl rfl (iW 8) dL (cW (aj (pv 3))) (fun L cs s H fp=>(bg (i:=8) p9 rfl (Or.inl rfl))) (fun L cs s H fp=>dR) (fun L cs s H fp=>(rE (xf fn_keeps_tie (hr.mono (by decide)) rfl (fg (jQ (ai (pv 0))) (fg (ql (pv 7)) (fg (jQ (ai (pv 8))) qy ab) ab) ab) (he:=ab) (hpl:=(ax ab (ax ab aq)))))))))))
 (ao (xv (tm (k':=(.l .s)) (ni (pv 4)) (pv 7) (hst:=ab))))
 aV))))))
 (oA (pv 4))))
theorem ue {a:Addr} {fd:FuncData} (fn_keeps_tie:Fn P w K mg base C 1 "keeps_tie" 3 bD) (T:Txt K mg C) (F:Fun K "grown" "grown" e9 a fd) (hm:mg "grown"=some (.ref a)) (hb:Binds K fd ["hall","begun","arrows","due"] []):FnK P w K mg base C 2 "grown" 4 (.l (.l .s)) dA :=
 ⟨a,fd,_,nZ F sc_grown (fun cdv A outer s H E hr=>qx fn_keeps_tie T cdv A outer s H E hr),hm,F.kp,hb⟩
noncomputable abbrev cb:Stmt:=PySem.Challenge.pw_arrowhall_k05_views.main.body.getD 27 (.Pass ⟨0,0,0,0⟩)
noncomputable abbrev gC:List Str:=["hall","places","ties","box","begun","place","goal","due"]
theorem sc_views_from:aP gC ["hall","places","ties","box"] (ah cb):=⟨rfl,rfl,rfl,by decide +kernel,rfl,by decide +kernel,by decide +kernel⟩
noncomputable abbrev Nc_views_from_0:List Str:=["hall","places","ties","box","begun","place","goal","due","tie"]
theorem jW:Nc_views_from_0.Nodup:=by decide +kernel
noncomputable def fq:Rho->R D:=(sqK (trS 4 (.l (.l .s)) (eL1 (eLs (eM aN))))
 (sqK (bE (fD (aC (vr 1) aN)) (tg2 5 6)
 (sq (asg 7 (eLs (b0 (fIt (vr 2)) 1 (tgN 8) (tst (bin feq (nS (aC (bin fix (vb 8) (kd (.int 0))) (aC (bin fix (vb 8) (kd (.int 1))) aN))) (vb 5))) (vr 8))))
 (trS 4 (.l (.l .s)) (flK (.l (.l .s)) (cal 4 dA (aC (vb 0) (aC (va 4) (aC (cal 3 cJ (aC (vr 0) (aC (vr 3) (aC (vr 6) aN)))) (aC (vb 7) aN)))))))))
 (rtK 4 (.l (.l .s)))))
noncomputable def cI (ds:List D):R D:=fq (st0 gC ds)
theorem j_ {f:Addr} (fn_between:Fn P w K mg base C 3 "between" 3 cJ) (fn_grown:FnK P w K mg base C 2 "grown" 4 (.l (.l .s)) dA) (T:Txt K mg C) (cdv:Value) (A:Around) (outer:List Env) (s:Shared) (H:Hp) (E:XK) (hr:Room 3 (A.deeper (envOfC "views_from" (ah cb) s.heap.objs.size f cdv))) :
  om C (cw CX0 P w K mg base gC "views_from" (ah cb) f cdv A outer s H E).nox (.l (.l .s)) (ay cb) fq :=
 (fV (kI (i:=4) sc_views_from.nd rfl (Or.inl rfl) (wc (uu (gU am)) c_))
 (fV (bz PassesOwn.never rfl (dk rfl T.enumerate (ag (aj (pv 1)) am ab) (bV ab)) (dv rfl (aQ (i:=5) sc_views_from.nd rfl (Or.inr rfl)) (aQ (i:=6) sc_views_from.nd rfl (Or.inl rfl)))
 (ar (mZ (gl (i:=7) (aQ (i:=7) sc_views_from.nd rfl (Or.inl rfl)) (N':=Nc_views_from_0) (n:=1) rfl rfl rfl (iW 8) dL (cW (aj (pv 2))) (fun L cs s H fp=>(bg (i:=8) jW rfl (Or.inl rfl))) (fun L cs s H fp=>(kx (gK (cq hr) (EB.of (uY rfl (ag (aD (ai (pv 8)) (EB.of al)) (ag (aD (ai (pv 8)) (EB.of al)) am ak) ak) rfl T.max (fun t ha=>aG (jA rfl) rfl T.max boot_max ha (he:=ak) (hpl:=(ax ak aq))))) (ai (pv 5))))) (fun L cs s H fp=>(aj (pv 8))) rfl))
 (ao (kI (i:=4) sc_views_from.nd rfl (Or.inl rfl) (yt fn_grown (hr.mono (by decide)) rfl (fg (jQ (ai (pv 0))) (fg (ql (pv 4)) (fg (jQ (EB.of (bj fn_between (hr.mono (by decide)) rfl (ag (aj (pv 0)) (ag (aj (pv 3)) (ag (aj (pv 6)) am ab) ab) ab) rfl (he:=ab) (hpl:=(ax ab (ax ab aq)))))) (fg (jQ (ai (pv 7))) qy ab) aH) ab) ab) (he:=ab) (hpl:=(ax ab (ax aH (ax ab aq)))))))))
 (oA (pv 4))))
theorem lX {a:Addr} {fd:FuncData} (fn_between:Fn P w K mg base C 3 "between" 3 cJ) (fn_grown:FnK P w K mg base C 2 "grown" 4 (.l (.l .s)) dA) (T:Txt K mg C) (F:Fun K "views_from" "views_from" cb a fd) (hm:mg "views_from"=some (.ref a)) (hb:Binds K fd ["hall","places","ties","box"] []):FnK P w K mg base C 4 "views_from" 4 (.l (.l .s)) cI :=
 ⟨a,fd,_,nZ F sc_views_from (fun cdv A outer s H E hr=>j_ fn_between fn_grown T cdv A outer s H E hr),hm,F.kp,hb⟩
noncomputable abbrev e8:Stmt:=PySem.Challenge.pw_arrowhall_k05_views.main.body.getD 29 (.Pass ⟨0,0,0,0⟩)
noncomputable abbrev oo:List Str:=["hall","places","ties","box"]
theorem tw:aP oo ["hall","places","ties","box"] (ah e8):=⟨rfl,rfl,rfl,by decide +kernel,rfl,by decide +kernel,by decide +kernel⟩
noncomputable def jw:Rho->R D:=(sqK (drp (cal 3 bv (aC (vr 0) (aC (vr 1) (aC (vr 2) aN)))))
 (sqK (drp (cal 2 bh (aC (vr 0) (aC (vr 3) aN))))
 (cal 4 cI (aC (vr 0) (aC (vr 1) (aC (vr 2) (aC (vr 3) aN)))))))
noncomputable def cM (ds:List D):R D:=jw (st0 oo ds)
theorem qw {f:Addr} (fn_check_box:Fn P w K mg base C 2 "check_box" 2 bh) (fn_check_picture:Fn P w K mg base C 3 "check_picture" 3 bv) (fn_views_from:FnK P w K mg base C 4 "views_from" 4 (.l (.l .s)) cI) (T:Txt K mg C) (cdv:Value) (A:Around) (outer:List Env) (s:Shared) (H:Hp) (E:XK) (hr:Room 4 (A.deeper (envOfC "views" (ah e8) s.heap.objs.size f cdv))) :
  om C (cw CX0 P w K mg base oo "views" (ah e8) f cdv A outer s H E).nox (.l (.l .s)) (ay e8) jw :=
 (fV (h6 (EB.of (bj fn_check_picture (hr.mono (by decide)) rfl (ag (aj (pv 0)) (ag (aj (pv 1)) (ag (aj (pv 2)) am ab) ab) ab) rfl (he:=ab) (hpl:=(ax ab (ax ab aq))))))
 (fV (h6 (EB.of (bj fn_check_box (hr.mono (by decide)) rfl (ag (aj (pv 0)) (ag (aj (pv 3)) am ab) ab) rfl (he:=ab) (hpl:=(ax ab aq)))))
 (vw (ut fn_views_from (hr.mono (by decide)) rfl (ag (aj (pv 0)) (ag (aj (pv 1)) (ag (aj (pv 2)) (ag (aj (pv 3)) am ab) ab) ab) ab) (he:=ab) (hpl:=(ax ab (ax ab (ax ab aq))))))))
theorem uc {a:Addr} {fd:FuncData} (fn_check_box:Fn P w K mg base C 2 "check_box" 2 bh) (fn_check_picture:Fn P w K mg base C 3 "check_picture" 3 bv) (fn_views_from:FnK P w K mg base C 4 "views_from" 4 (.l (.l .s)) cI) (T:Txt K mg C) (F:Fun K "views" "views" e8 a fd) (hm:mg "views"=some (.ref a)) (hb:Binds K fd ["hall","places","ties","box"] []):FnK P w K mg base C 5 "views" 4 (.l (.l .s)) cM :=
 ⟨a,fd,_,nZ F tw (fun cdv A outer s H E hr=>qw fn_check_box fn_check_picture fn_views_from T cdv A outer s H E hr),hm,F.kp,hb⟩
noncomputable abbrev cT:Stmt:=PySem.Challenge.pw_arrowhall_k05_views.main.body.getD 31 (.Pass ⟨0,0,0,0⟩)
noncomputable abbrev iF:List Str:=["script","k","base"]
theorem sc_law_cell:aP iF ["script","k"] (ah cT):=⟨rfl,rfl,rfl,by decide +kernel,rfl,by decide +kernel,by decide +kernel⟩
noncomputable def gA:Rho->R Out:=(sq (iff (tst (bin (iI flt) (vb 1) (una aJ (vb 0))))
 (ret (bin fix (vb 0) (vb 1)))
 nxt)
 (sq (asg 2 (kd (.int 0)))
 (sq (iff (tst (bin (iI fgt) (una aJ (vb 0)) (kd (.int 0))))
 (asg 2 (bin fix (vb 0) (kd (.int 0))))
 nxt)
 (ret (bin (iI ba) (bin bb (bin (iI df) (bin (iI ba) (vb 2) (kd (.int 65521))) (kd (.int 48271))) (bin (iI df) (vb 1) (kd (.int 30103)))) (kd (.int 65521)))))))
noncomputable def au (ds:List D):R D:=fin (gA (st0 iF ds))
theorem mo {f:Addr}  (T:Txt K mg C) (cdv:Value) (A:Around) (outer:List Env) (s:Shared) (H:Hp) (E:XK) (hr:Room 0 (A.deeper (envOfC "_law_cell" (ah cT) s.heap.objs.size f cdv))) :
  SDs C (cw CX0 P w K mg base iF "_law_cell" (ah cT) f cdv A outer s H E).nox (ay cT) gA :=
 (ar (bF (wX (ai (pv 1)) (EB.of (aZ (ai (pv 0)) rfl T.len ab (fun t ha=>aG av rfl T.len PySem.boot_len ha (he:=ab) (hpl:=aq)))))
 (ao (bJ (aD (ai (pv 0)) (ai (pv 1)))))
 aV)
 (ar (bx (i:=2) sc_law_cell.nd rfl (Or.inl rfl) al)
 (ar (bF (my (EB.of (aZ (ai (pv 0)) rfl T.len ab (fun t ha=>aG av rfl T.len PySem.boot_len ha (he:=ab) (hpl:=aq)))) (EB.of al))
 (ao (bx (i:=2) sc_law_cell.nd rfl (Or.inl rfl) (aD (ai (pv 0)) (EB.of al))))
 aV)
 (ao (bJ (cL (EB.of (cX (EB.of (iu (EB.of (cL (ai (pv 2)) (EB.of al))) (EB.of al))) (EB.of (iu (ai (pv 1)) (EB.of al))))) (EB.of al)))))))
theorem oU {a:Addr} {fd:FuncData}  (T:Txt K mg C) (F:Fun K "_law_cell" "_law_cell" cT a fd) (hm:mg "_law_cell"=some (.ref a)) (hb:Binds K fd ["script","k"] []):Fn P w K mg base C 1 "_law_cell" 2 au :=
 ⟨a,fd,_,bL F sc_law_cell (fun cdv A outer s H E hr=>mo  T cdv A outer s H E hr),hm,F.kp,hb⟩
noncomputable abbrev cR:Stmt:=PySem.Challenge.pw_arrowhall_k05_views.main.body.getD 32 (.Pass ⟨0,0,0,0⟩)
noncomputable abbrev iD:List Str:=["found","due","k"]
theorem sc_law_ints:aP iD ["found","due"] (ah cR):=⟨rfl,rfl,rfl,by decide +kernel,rfl,by decide +kernel,by decide +kernel⟩
noncomputable def gy:Rho->R Out:=(sq (iff (orB (dw (tst (una (jt "list") (vb 0)))) (tst (bin fne (una aJ (vb 0)) (una aJ (vb 1)))))
 (ret (kd (.bl false)))
 nxt)
 (sq (bE (dl (aC (una aJ (vb 1)) aN)) (tgN 2)
 (iff (orB (dw (tst (una (jt "int") (bin fix (vb 0) (vb 2))))) (orB (tst (una (jt "bool") (bin fix (vb 0) (vb 2)))) (tst (bin fne (bin fix (vb 0) (vb 2)) (bin fix (vb 1) (vb 2))))))
 (ret (kd (.bl false)))
 nxt))
 (ret (kd (.bl true)))))
noncomputable def cO (ds:List D):R D:=fin (gy (st0 iD ds))
theorem ml {f:Addr}  (T:Txt K mg C) (cdv:Value) (A:Around) (outer:List Env) (s:Shared) (H:Hp) (E:XK) (hr:Room 0 (A.deeper (envOfC "_law_ints" (ah cR) s.heap.objs.size f cdv))) :
  SDs C (cw CX0 P w K mg base iD "_law_ints" (ah cR) f cdv A outer s H E).nox (ay cR) gy :=
 (ar (bF (jS (fE (dc (db (nQ T.kt_list rfl T.isinstance rfl T.list pC (ai (pv 0)) ab))) (fi (d7 (cq hr) (EB.of (aZ (ai (pv 0)) rfl T.len ab (fun t ha=>aG av rfl T.len PySem.boot_len ha (he:=ab) (hpl:=aq)))) (EB.of (aZ (ai (pv 1)) rfl T.len ab (fun t ha=>aG av rfl T.len PySem.boot_len ha (he:=ab) (hpl:=aq))))))))
 (ao (bJ gZ))
 aV)
 (ar (bz PassesOwn.never rfl (dd rfl T.range (ag (aZ (ai (pv 1)) rfl T.len ab (fun t ha=>aG av rfl T.len PySem.boot_len ha (he:=ab) (hpl:=aq))) am aH) (bV aH)) (bg (i:=2) sc_law_ints.nd rfl (Or.inl rfl))
 (ao (bF (jS (fE (dc (db (nQ T.kt_int rfl T.isinstance rfl T.int wQ (EB.of (aD (ai (pv 0)) (ai (pv 2)))) ak))) (fE (db (nQ T.kt_bool rfl T.isinstance rfl T.bool u_ (EB.of (aD (ai (pv 0)) (ai (pv 2)))) ak)) (fi (d7 (cq hr) (EB.of (aD (ai (pv 0)) (ai (pv 2)))) (EB.of (aD (ai (pv 1)) (ai (pv 2)))))))))
 (ao (bJ gZ))
 aV)))
 (ao (bJ gZ))))
theorem oR {a:Addr} {fd:FuncData}  (T:Txt K mg C) (F:Fun K "_law_ints" "_law_ints" cR a fd) (hm:mg "_law_ints"=some (.ref a)) (hb:Binds K fd ["found","due"] []):Fn P w K mg base C 1 "_law_ints" 2 cO :=
 ⟨a,fd,_,bL F sc_law_ints (fun cdv A outer s H E hr=>ml  T cdv A outer s H E hr),hm,F.kp,hb⟩
noncomputable abbrev bm:Stmt:=PySem.Challenge.pw_arrowhall_k05_views.main.body.getD 33 (.Pass ⟨0,0,0,0⟩)
noncomputable abbrev eC:List Str:=["found","due","one","other"]
theorem sc_law_lists_like:aP eC ["found","due"] (ah bm):=⟨rfl,rfl,rfl,by decide +kernel,rfl,by decide +kernel,by decide +kernel⟩
noncomputable def dG:Rho->R Out:=(sq (iff (orB (dw (tst (una (jt "list") (vb 0)))) (tst (bin fne (una aJ (vb 0)) (una aJ (vb 1)))))
 (ret (kd (.bl false)))
 nxt)
 (sq (bE (wr (aC (vr 0) (aC (vr 1) aN))) (tg2 2 3)
 (iff (dw (tst (cal 2 cO (aC (vr 2) (aC (vr 3) aN)))))
 (ret (kd (.bl false)))
 nxt))
 (ret (kd (.bl true)))))
noncomputable def aL (ds:List D):R D:=fin (dG (st0 eC ds))
theorem ij {f:Addr} (fn_law_ints:Fn P w K mg base C 1 "_law_ints" 2 cO) (T:Txt K mg C) (cdv:Value) (A:Around) (outer:List Env) (s:Shared) (H:Hp) (E:XK) (hr:Room 1 (A.deeper (envOfC "_law_lists_like" (ah bm) s.heap.objs.size f cdv))) :
  SDs C (cw CX0 P w K mg base eC "_law_lists_like" (ah bm) f cdv A outer s H E).nox (ay bm) dG :=
 (ar (bF (jS (fE (dc (db (nQ T.kt_list rfl T.isinstance rfl T.list pC (ai (pv 0)) ab))) (fi (d7 (cq hr) (EB.of (aZ (ai (pv 0)) rfl T.len ab (fun t ha=>aG av rfl T.len PySem.boot_len ha (he:=ab) (hpl:=aq)))) (EB.of (aZ (ai (pv 1)) rfl T.len ab (fun t ha=>aG av rfl T.len PySem.boot_len ha (he:=ab) (hpl:=aq))))))))
 (ao (bJ gZ))
 aV)
 (ar (bz PassesOwn.never rfl (yD rfl T.zip (ag (aj (pv 0)) (ag (aj (pv 1)) am ab) ab) ab (ax ab aq)) (dv rfl (aQ (i:=2) sc_law_lists_like.nd rfl (Or.inl rfl)) (aQ (i:=3) sc_law_lists_like.nd rfl (Or.inl rfl)))
 (ao (bF (dc (db (bj fn_law_ints (hr.mono (by decide)) rfl (ag (aj (pv 2)) (ag (aj (pv 3)) am ab) ab) rfl (he:=ab) (hpl:=(ax ab aq)))))
 (ao (bJ gZ))
 aV)))
 (ao (bJ gZ))))
theorem iT {a:Addr} {fd:FuncData} (fn_law_ints:Fn P w K mg base C 1 "_law_ints" 2 cO) (T:Txt K mg C) (F:Fun K "_law_lists_like" "_law_lists_like" bm a fd) (hm:mg "_law_lists_like"=some (.ref a)) (hb:Binds K fd ["found","due"] []):Fn P w K mg base C 2 "_law_lists_like" 2 aL :=
 ⟨a,fd,_,bL F sc_law_lists_like (fun cdv A outer s H E hr=>ij fn_law_ints T cdv A outer s H E hr),hm,F.kp,hb⟩
noncomputable abbrev cQ:Stmt:=PySem.Challenge.pw_arrowhall_k05_views.main.body.getD 34 (.Pass ⟨0,0,0,0⟩)
noncomputable abbrev iC:List Str:=["step"]
theorem oC:aP iC ["step"] (ah cQ):=⟨rfl,rfl,rfl,by decide +kernel,rfl,by decide +kernel,by decide +kernel⟩
noncomputable def gx:Rho->R Out:=(ret (bin (iI ba) (bin bb (bin (iI df) (vb 0) (kd (.int 48271))) (kd (.int 11))) (kd (.int 2147483647))))
noncomputable def aM (ds:List D):R D:=fin (gx (st0 iC ds))
theorem mj {f:Addr}  (T:Txt K mg C) (cdv:Value) (A:Around) (outer:List Env) (s:Shared) (H:Hp) (E:XK) (hr:Room 0 (A.deeper (envOfC "_law_next" (ah cQ) s.heap.objs.size f cdv))) :
  SDs C (cw CX0 P w K mg base iC "_law_next" (ah cQ) f cdv A outer s H E).nox (ay cQ) gx :=
 (ao (bJ (cL (EB.of (cX (EB.of (iu (ai (pv 0)) (EB.of al))) (EB.of al))) (EB.of al))))
theorem oQ {a:Addr} {fd:FuncData}  (T:Txt K mg C) (F:Fun K "_law_next" "_law_next" cQ a fd) (hm:mg "_law_next"=some (.ref a)) (hb:Binds K fd ["step"] []):Fn P w K mg base C 1 "_law_next" 1 aM :=
 ⟨a,fd,_,bL F oC (fun cdv A outer s H E hr=>mj  T cdv A outer s H E hr),hm,F.kp,hb⟩
noncomputable abbrev cB:Stmt:=PySem.Challenge.pw_arrowhall_k05_views.main.body.getD 35 (.Pass ⟨0,0,0,0⟩)
noncomputable abbrev hU:List Str:=["script","k","cell","way"]
theorem sc_law_sizes:aP hU ["script","k"] (ah cB):=⟨rfl,rfl,rfl,by decide +kernel,rfl,by decide +kernel,by decide +kernel⟩
noncomputable abbrev Nc_law_sizes_0:List Str:=["script","k","cell","way","box"]
theorem kW:Nc_law_sizes_0.Nodup:=by decide +kernel
noncomputable def fJ:Rho->R Out:=(sq (asg 2 (cal 2 au (aC (vr 0) (aC (vr 1) aN))))
 (sq (asg 3 (bin (iI ba) (vb 2) (kd (.int 4))))
 (sq (iff (tst (bin feq (vb 3) (kd (.int 0))))
 (ret (eLs (b0 (dl (aC (bin bb (kd (.int 1)) (bin (iI ba) (bin (iI dz) (vb 2) (kd (.int 4))) (kd (.int 4)))) aN)) 1 (tgN 4) tT (kd (.int 1)))))
 nxt)
 (sq (iff (tst (bin feq (vb 3) (kd (.int 1))))
 (ret (bin fix (eL (aC (eL (aC (kd (.int 1)) (aC (kd (.int 2)) aN))) (aC (eL (aC (kd (.int 2)) (aC (kd (.int 1)) aN))) (aC (eL (aC (kd (.int 2)) (aC (kd (.int 2)) aN))) (aC (eL (aC (kd (.int 0)) (aC (kd (.int 2)) aN))) (aC (eL (aC (kd (.int 2)) aN)) (aC (eL (aC (kd (.int 1)) aN)) aN))))))) (bin (iI ba) (bin (iI dz) (vb 2) (kd (.int 4))) (kd (.int 6)))))
 nxt)
 (sq (iff (tst (bin feq (vb 3) (kd (.int 2))))
 (ret (eL (aC (kd (.int 3)) aN)))
 nxt)
 (ret (bin fix (eL (aC (eL (aC (kd (.int 1)) (aC (kd (.int 1)) (aC (kd (.int 2)) aN)))) (aC (eL (aC (kd (.int 0)) (aC (kd (.int 1)) (aC (kd (.int 2)) aN)))) (aC (eL (aC (kd (.int 1)) (aC (kd (.int 2)) (aC (kd (.int 2)) aN)))) (aC (eL (aC (kd (.int 2)) (aC (kd (.int 1)) (aC (kd (.int 0)) aN)))) (aC (eL (aC (kd (.int 2)) (aC (kd (.int 2)) aN))) aN)))))) (bin (iI ba) (bin (iI dz) (vb 2) (kd (.int 4))) (kd (.int 5))))))))))
noncomputable def cG (ds:List D):R D:=fin (fJ (st0 hU ds))
theorem lN {f:Addr} (fn_law_cell:Fn P w K mg base C 1 "_law_cell" 2 au) (T:Txt K mg C) (cdv:Value) (A:Around) (outer:List Env) (s:Shared) (H:Hp) (E:XK) (hr:Room 1 (A.deeper (envOfC "_law_sizes" (ah cB) s.heap.objs.size f cdv))) :
  SDs C (cw CX0 P w K mg base hU "_law_sizes" (ah cB) f cdv A outer s H E).nox (ay cB) fJ :=
 (ar (bx (i:=2) sc_law_sizes.nd rfl (Or.inl rfl) (bj fn_law_cell (hr.mono (by decide)) rfl (ag (aj (pv 0)) (ag (aj (pv 1)) am ab) ab) rfl (he:=ab) (hpl:=(ax ab aq))))
 (ar (bx (i:=3) sc_law_sizes.nd rfl (Or.inl rfl) (cL (ai (pv 2)) (EB.of al)))
 (ar (bF (gK (cq hr) (ai (pv 3)) (EB.of al))
 (ao (bJ (eN (dX (N':=Nc_law_sizes_0) (n:=1) rfl rfl rfl (iW 4) dL (dd rfl T.range (ag (cX (EB.of al) (EB.of (cL (EB.of (ff (ai (pv 2)) (EB.of al))) (EB.of al)))) am bc) (bV bc)) (fun L cs s H fp=>(bg (i:=4) kW rfl (Or.inl rfl))) (fun L cs s H fp=>dR) (fun L cs s H fp=>al)))))
 aV)
 (ar (bF (gK (cq hr) (ai (pv 3)) (EB.of al))
 (ao (bJ (aD (EB.of (cy (ag (cy (ag al (ag al am aA) aA)) (ag (cy (ag al (ag al am aA) aA)) (ag (cy (ag al (ag al am aA) aA)) (ag (cy (ag al (ag al am aA) aA)) (ag (cy (ag al am aA)) (ag (cy (ag al am aA)) am c_) c_) c_) c_) c_) c_))) (EB.of (cL (EB.of (ff (ai (pv 2)) (EB.of al))) (EB.of al))))))
 aV)
 (ar (bF (gK (cq hr) (ai (pv 3)) (EB.of al))
 (ao (bJ (cy (ag al am aA))))
 aV)
 (ao (bJ (aD (EB.of (cy (ag (cy (ag al (ag al (ag al am aA) aA) aA)) (ag (cy (ag al (ag al (ag al am aA) aA) aA)) (ag (cy (ag al (ag al (ag al am aA) aA) aA)) (ag (cy (ag al (ag al (ag al am aA) aA) aA)) (ag (cy (ag al (ag al am aA) aA)) am c_) c_) c_) c_) c_))) (EB.of (cL (EB.of (ff (ai (pv 2)) (EB.of al))) (EB.of al)))))))))))
theorem nn {a:Addr} {fd:FuncData} (fn_law_cell:Fn P w K mg base C 1 "_law_cell" 2 au) (T:Txt K mg C) (F:Fun K "_law_sizes" "_law_sizes" cB a fd) (hm:mg "_law_sizes"=some (.ref a)) (hb:Binds K fd ["script","k"] []):Fn P w K mg base C 2 "_law_sizes" 2 cG :=
 ⟨a,fd,_,bL F sc_law_sizes (fun cdv A outer s H E hr=>lN fn_law_cell T cdv A outer s H E hr),hm,F.kp,hb⟩
noncomputable abbrev ce:Stmt:=PySem.Challenge.pw_arrowhall_k05_views.main.body.getD 36 (.Pass ⟨0,0,0,0⟩)
noncomputable abbrev gD:List Str:=["known","met","arrow","at","other","first","second","made"]
theorem sc_law_closed:aP gD ["known"] (ah ce):=⟨rfl,rfl,rfl,by decide +kernel,rfl,by decide +kernel,by decide +kernel⟩
noncomputable abbrev Nc_law_closed_0:List Str:=["known","met","arrow","at","other","first","second","made","x"]
theorem jX:Nc_law_closed_0.Nodup:=by decide +kernel
noncomputable def ft:Rho->R Out:=(sq (u3 1)
 (sq (ly 0 2 1)
 (sq (asg 3 (kd (.int 0)))
 (sq (whD (tst (bin (iI flt) (vb 3) (una aJ (vb 0))))
 (sq (bE (fIt (eLs (fIt (vb 0)))) (tgN 4)
 (bE (fIt (eL (aC (eT (aC (bin fix (vb 0) (vb 3)) (aC (vr 4) aN))) (aC (eT (aC (vr 4) (aC (bin fix (vb 0) (vb 3)) aN))) aN)))) (tg2 5 6)
 (iff (tst (bin feq (bin fix (vb 5) (kd (.int 1))) (bin fix (vb 6) (kd (.int 0)))))
 (sq (asg 7 (eT (aC (bin fix (vb 5) (kd (.int 0))) (aC (bin fix (vb 6) (kd (.int 1))) (aC (una ii (eLs (b0 (fIt (bin fix (vb 5) (kd (.int 2)))) 1 (tgN 8) tT (bin fix (bin fix (vb 6) (kd (.int 2))) (vb 8))))) aN)))))
 (iff (u0 1 (vr 7))
 (sq (nV 1 (vr 7) (kd (.bl true)))
 (app 0 (vr 7)))
 nxt))
 nxt)))
 (asg 3 (bin bb (vb 3) (kd (.int 1))))) 30)
 (fz 0 (ret (vr 0)))))))
noncomputable def bT (xs:List D):R D:=fin (ft (st1 gD xs))
theorem ke {f:Addr}  (T:Txt K mg C) (cdv:Value) (A:Around) (outer:List Env) (s:Shared) (H:Hp) (E:XK) (hr:Room 0 (A.deeper (envOfC "_law_closed" (ah ce) s.heap.objs.size f cdv))) :
  SDs C (cw CX0 P w K mg base gD "_law_closed" (ah ce) f cdv A outer s H E).nox (ay ce) ft :=
 (ar (qJ (i:=1) sc_law_closed.nd rfl (Or.inl rfl))
 (ar (rZ (mD hr) PassesOwn.never rfl (pv 0) (aQ (i:=2) sc_law_closed.nd rfl (Or.inl rfl)) (pv 1) (pv 2))
 (ar (bx (i:=3) sc_law_closed.nd rfl (Or.inl rfl) al)
 (ar (tq 30 PassesOwn.never (wX (ai (pv 3)) (EB.of (aZ (ai (pv 0)) rfl T.len ab (fun t ha=>aG av rfl T.len PySem.boot_len ha (he:=ab) (hpl:=aq)))))
 (ar (bz PassesOwn.never rfl (cW (eN (e_ (ai (pv 0)) rfl T.list ab (fun t ha=>bp bU rfl T.list boot_list ha (he:=ab) (hpl:=aq))))) (bg (i:=4) sc_law_closed.nd rfl (Or.inl rfl))
 (ao (bz PassesOwn.never rfl (cW (cy (ag (dg (ag (aD (ai (pv 0)) (ai (pv 3))) (ag (aj (pv 4)) am ab) ak)) (ag (dg (ag (aj (pv 4)) (ag (aD (ai (pv 0)) (ai (pv 3))) am ak) ab)) am iH) iH))) (dv rfl (aQ (i:=5) sc_law_closed.nd rfl (Or.inl rfl)) (aQ (i:=6) sc_law_closed.nd rfl (Or.inr rfl)))
 (ao (bF (gK (cq hr) (EB.of (aD (ai (pv 5)) (EB.of al))) (EB.of (aD (ai (pv 6)) (EB.of al))))
 (ar (bx (i:=7) sc_law_closed.nd rfl (Or.inl rfl) (dg (ag (aD (ai (pv 5)) (EB.of al)) (ag (aD (ai (pv 6)) (EB.of al)) (ag (i7 (EB.of (eN (dX (N':=Nc_law_closed_0) (n:=1) rfl rfl rfl (iW 8) dL (cW (aD (ai (pv 5)) (EB.of al))) (fun L cs s H fp=>(bg (i:=8) jX rfl (Or.inl rfl))) (fun L cs s H fp=>dR) (fun L cs s H fp=>(aD (EB.of (aD (ai (pv 6)) (EB.of al))) (ai (pv 8))))))) rfl T.tuple cn (fun t ha=>bp dB rfl T.tuple boot_tuple ha (he:=cn) (hpl:=aq))) am aH) ak) ak)))
 (ao (bF (vo (mD hr) (pv 1) (aj (pv 7)))
 (ar (qI (mD hr) (pv 1) (aj (pv 7)) gZ)
 (ao (ip (pv 0) (aj (pv 7)) (hst:=ab))))
 aV)))
 aV)))))
 (ao (bx (i:=3) sc_law_closed.nd rfl (Or.inl rfl) (cX (ai (pv 3)) (EB.of al))))))
 (io 0 (ao (bJ (aj (pv 0)))))))))
theorem lY {a:Addr} {fd:FuncData}  (T:Txt K mg C) (F:Fun K "_law_closed" "_law_closed" ce a fd) (hm:mg "_law_closed"=some (.ref a)) (hb:Binds K fd ["known"] []):Mv P w K mg base C 1 "_law_closed" bT :=
 ⟨a,fd,_,zG F sc_law_closed (fun cdv A outer s H E hr=>ke T cdv A outer s H E hr),hm,F.kp,hb⟩
noncomputable abbrev cg:Stmt:=PySem.Challenge.pw_arrowhall_k05_views.main.body.getD 37 (.Pass ⟨0,0,0,0⟩)
noncomputable abbrev gE:List Str:=["script","k","sizes","known","step","turn","one","other","row","x","mixed","arrow"]
theorem sc_law_arrows:aP gE ["script","k","sizes"] (ah cg):=⟨rfl,rfl,rfl,by decide +kernel,rfl,by decide +kernel,by decide +kernel⟩
noncomputable abbrev Nc_law_arrows_0:List Str:=["script","k","sizes","known","step","turn","one","other","row","x","mixed","arrow","box"]
theorem jY:Nc_law_arrows_0.Nodup:=by decide +kernel
noncomputable def fu:Rho->R Out:=(sq (own 3 (b0 (dl (aC (una aJ (vb 2)) aN)) 1 (tgN 12) tT (eT (aC (vr 12) (aC (vr 12) (aC (g8 (aC (bin fix (vb 2) (vb 12)) aN)) aN))))))
 (sq (asg 4 (cal 1 aM (aC (bin bb (bin (iI ba) (bin (iI df) (cal 2 au (aC (vr 0) (aC (vr 1) aN))) (kd (.int 1000003))) (kd (.int 2147483647))) (kd (.int 17))) aN)))
 (sq (bE (dl (aC (bin (iI ba) (cal 2 au (aC (vr 0) (aC (bin bb (vb 1) (kd (.int 1))) aN))) (kd (.int 5))) aN)) (tgN 5)
 (sq (asg 4 (cal 1 aM (aC (vr 4) aN)))
 (sq (asg 6 (bin (iI ba) (bin (iI dz) (vb 4) (kd (.int 64))) (una aJ (vb 2))))
 (sq (asg 4 (cal 1 aM (aC (vr 4) aN)))
 (sq (asg 7 (bin (iI ba) (bin (iI dz) (vb 4) (kd (.int 64))) (una aJ (vb 2))))
 (sq (own 8 (eM aN))
 (sq (bE (dl (aC (bin fix (vb 2) (vb 6)) aN)) (tgN 9)
 (sq (asg 4 (cal 1 aM (aC (vr 4) aN)))
 (iff (tst (bin feq (bin fix (vb 2) (vb 6)) (kd (.int 3))))
 (ins 8 (bin (iI ba) (bin (iI dz) (vb 4) (kd (.int 64))) (bin bb (vb 9) (kd (.int 1)))) (vr 9))
 (app 8 (bin (iI ba) (bin (iI dz) (vb 4) (kd (.int 64))) (nS (aC (kd (.int 1)) (aC (bin fix (vb 2) (vb 7)) aN))))))))
 (iff (orB (tst (bin feq (bin fix (vb 2) (vb 6)) (kd (.int 0)))) (tst (bin (iI fgt) (bin fix (vb 2) (vb 7)) (kd (.int 0)))))
 (iff (tst (bin (j5 true) (eT (aC (vr 6) (aC (vr 7) (aC (una ii (vb 8)) aN)))) (vb 3)))
 (app 3 (eT (aC (vr 6) (aC (vr 7) (aC (una ii (vb 8)) aN)))))
 nxt)
 nxt))))))))
 (sq (v7 3 bT)
 (sq (own 10 (eM aN))
 (fz 3 (sq (bE (fIt (vr 3)) (tgN 11)
 (sq (asg 4 (cal 1 aM (aC (vr 4) aN)))
 (ins 10 (bin (iI ba) (bin (iI dz) (vb 4) (kd (.int 64))) (bin bb (una aJ (vb 10)) (kd (.int 1)))) (vr 11))))
 (fz 10 (ret (vr 10))))))))))
noncomputable def bS (ds:List D):R D:=fin (fu (st0 gE ds))
theorem kf {f:Addr} (fn_law_cell:Fn P w K mg base C 1 "_law_cell" 2 au) (mv_law_closed:Mv P w K mg base C 1 "_law_closed" bT) (fn_law_next:Fn P w K mg base C 1 "_law_next" 1 aM) (T:Txt K mg C) (cdv:Value) (A:Around) (outer:List Env) (s:Shared) (H:Hp) (E:XK) (hr:Room 1 (A.deeper (envOfC "_law_arrows" (ah cg) s.heap.objs.size f cdv))) :
  SDs C (cw CX0 P w K mg base gE "_law_arrows" (ah cg) f cdv A outer s H E).nox (ay cg) fu :=
 (ar (vx (gl (i:=3) (aQ (i:=3) sc_law_arrows.nd rfl (Or.inl rfl)) (N':=Nc_law_arrows_0) (n:=1) rfl rfl rfl (iW 12) dL (dd rfl T.range (ag (aZ (ai (pv 2)) rfl T.len ab (fun t ha=>aG av rfl T.len PySem.boot_len ha (he:=ab) (hpl:=aq))) am aH) (bV aH)) (fun L cs s H fp=>(bg (i:=12) jY rfl (Or.inl rfl))) (fun L cs s H fp=>dR) (fun L cs s H fp=>(dg (ag (aj (pv 12)) (ag (aj (pv 12)) (ag (pj rfl (ag (aD (ai (pv 2)) (ai (pv 12))) am ak) rfl T.range rfl T.tuple (bV ak) aH (fun t ha=>bp (hE rfl) rfl T.tuple boot_tuple ha (he:=aH) (hpl:=aq))) am aH) ab) ab))) rfl))
 (ar (bx (i:=4) sc_law_arrows.nd rfl (Or.inl rfl) (bj fn_law_next (hr.mono (by decide)) rfl (ag (cX (EB.of (cL (EB.of (iu (EB.of (bj fn_law_cell (hr.mono (by decide)) rfl (ag (aj (pv 0)) (ag (aj (pv 1)) am ab) ab) rfl (he:=ab) (hpl:=(ax ab aq)))) (EB.of al))) (EB.of al))) (EB.of al)) am bc) rfl (he:=bc) (hpl:=aq)))
 (ar (bz PassesOwn.never rfl (dd rfl T.range (ag (cL (EB.of (bj fn_law_cell (hr.mono (by decide)) rfl (ag (aj (pv 0)) (ag (cX (ai (pv 1)) (EB.of al)) am bc) ab) rfl (he:=ab) (hpl:=(ax bc aq)))) (EB.of al)) am bc) (bV bc)) (bg (i:=5) sc_law_arrows.nd rfl (Or.inl rfl))
 (ar (bx (i:=4) sc_law_arrows.nd rfl (Or.inl rfl) (bj fn_law_next (hr.mono (by decide)) rfl (ag (aj (pv 4)) am ab) rfl (he:=ab) (hpl:=aq)))
 (ar (bx (i:=6) sc_law_arrows.nd rfl (Or.inl rfl) (cL (EB.of (ff (ai (pv 4)) (EB.of al))) (EB.of (aZ (ai (pv 2)) rfl T.len ab (fun t ha=>aG av rfl T.len PySem.boot_len ha (he:=ab) (hpl:=aq))))))
 (ar (bx (i:=4) sc_law_arrows.nd rfl (Or.inl rfl) (bj fn_law_next (hr.mono (by decide)) rfl (ag (aj (pv 4)) am ab) rfl (he:=ab) (hpl:=aq)))
 (ar (bx (i:=7) sc_law_arrows.nd rfl (Or.inl rfl) (cL (EB.of (ff (ai (pv 4)) (EB.of al))) (EB.of (aZ (ai (pv 2)) rfl T.len ab (fun t ha=>aG av rfl T.len PySem.boot_len ha (he:=ab) (hpl:=aq))))))
 (ar (jj (i:=8) sc_law_arrows.nd rfl (Or.inl rfl) (gU am))
 (ar (bz PassesOwn.never rfl (dd rfl T.range (ag (aD (ai (pv 2)) (ai (pv 6))) am ak) (bV ak)) (bg (i:=9) sc_law_arrows.nd rfl (Or.inl rfl))
 (ar (bx (i:=4) sc_law_arrows.nd rfl (Or.inl rfl) (bj fn_law_next (hr.mono (by decide)) rfl (ag (aj (pv 4)) am ab) rfl (he:=ab) (hpl:=aq)))
 (ao (bF (gK (cq hr) (EB.of (aD (ai (pv 2)) (ai (pv 6)))) (EB.of al))
 (ao (tu (pv 8) (cL (EB.of (ff (ai (pv 4)) (EB.of al))) (EB.of (cX (ai (pv 9)) (EB.of al)))) (aj (pv 9)) (hst:=bc) (hst2:=ab)))
 (ao (ip (pv 8) (cL (EB.of (ff (ai (pv 4)) (EB.of al))) (EB.of (uY rfl (ag al (ag (aD (ai (pv 2)) (ai (pv 7))) am ak) aA) rfl T.max (fun t ha=>aG (jA rfl) rfl T.max boot_max ha (he:=aA) (hpl:=(ax ak aq)))))) (hst:=bc)))))))
 (ao (bF (jS (fE (gK (cq hr) (EB.of (aD (ai (pv 2)) (ai (pv 6)))) (EB.of al)) (fi (my (EB.of (aD (ai (pv 2)) (ai (pv 7)))) (EB.of al)))))
 (ao (bF (xq (cq hr) (EB.of (dg (ag (aj (pv 6)) (ag (aj (pv 7)) (ag (i7 (ai (pv 8)) rfl T.tuple ab (fun t ha=>bp dB rfl T.tuple boot_tuple ha (he:=ab) (hpl:=aq))) am aH) ab) ab))) (ai (pv 3)))
 (ao (ip (pv 3) (dg (ag (aj (pv 6)) (ag (aj (pv 7)) (ag (i7 (ai (pv 8)) rfl T.tuple ab (fun t ha=>bp dB rfl T.tuple boot_tuple ha (he:=ab) (hpl:=aq))) am aH) ab) ab)) (hst:=iH)))
 aV))
 aV)))))))))
 (ar (vy mv_law_closed (hr.mono (by decide)) rfl (pv 3) (i:=3) sc_law_arrows.nd rfl (Or.inl rfl) rfl)
 (ar (jj (i:=10) sc_law_arrows.nd rfl (Or.inl rfl) (gU am))
 (io 3 (ar (bz PassesOwn.never rfl (cW (aj (pv 3))) (bg (i:=11) sc_law_arrows.nd rfl (Or.inl rfl))
 (ar (bx (i:=4) sc_law_arrows.nd rfl (Or.inl rfl) (bj fn_law_next (hr.mono (by decide)) rfl (ag (aj (pv 4)) am ab) rfl (he:=ab) (hpl:=aq)))
 (ao (tu (pv 10) (cL (EB.of (ff (ai (pv 4)) (EB.of al))) (EB.of (cX (EB.of (aZ (ai (pv 10)) rfl T.len ab (fun t ha=>aG av rfl T.len PySem.boot_len ha (he:=ab) (hpl:=aq)))) (EB.of al)))) (aj (pv 11)) (hst:=bc) (hst2:=ab)))))
 (io 10 (ao (bJ (aj (pv 10))))))))))))
theorem lZ {a:Addr} {fd:FuncData} (fn_law_cell:Fn P w K mg base C 1 "_law_cell" 2 au) (mv_law_closed:Mv P w K mg base C 1 "_law_closed" bT) (fn_law_next:Fn P w K mg base C 1 "_law_next" 1 aM) (T:Txt K mg C) (F:Fun K "_law_arrows" "_law_arrows" cg a fd) (hm:mg "_law_arrows"=some (.ref a)) (hb:Binds K fd ["script","k","sizes"] []):Fn P w K mg base C 2 "_law_arrows" 3 bS :=
 ⟨a,fd,_,bL F sc_law_arrows (fun cdv A outer s H E hr=>kf fn_law_cell mv_law_closed fn_law_next T cdv A outer s H E hr),hm,F.kp,hb⟩
noncomputable abbrev cC:Stmt:=PySem.Challenge.pw_arrowhall_k05_views.main.body.getD 38 (.Pass ⟨0,0,0,0⟩)
noncomputable abbrev hV:List Str:=["script","k","sizes","known","place","at","table","first","row","second","made","rests"]
theorem sc_law_parts:aP hV ["script","k"] (ah cC):=⟨rfl,rfl,rfl,by decide +kernel,rfl,by decide +kernel,by decide +kernel⟩
noncomputable abbrev Nc_law_parts_0:List Str:=["script","k","sizes","known","place","at","table","first","row","second","made","rests","x"]
theorem kZ:Nc_law_parts_0.Nodup:=by decide +kernel
noncomputable abbrev Nc_law_parts_1:List Str:=["script","k","sizes","known","place","at","table","first","row","second","made","rests","box"]
theorem kY:Nc_law_parts_1.Nodup:=by decide +kernel
noncomputable abbrev Nc_law_parts_2:List Str:=["script","k","sizes","known","place","at","table","first","row","second","made","rests","arrow"]
theorem kX:Nc_law_parts_2.Nodup:=by decide +kernel
noncomputable def fL:Rho->R Out:=(sq (asg 2 (cal 2 cG (aC (vr 0) (aC (vr 1) aN))))
 (sq (asg 3 (cal 3 bS (aC (vr 0) (aC (bin bb (vb 1) (kd (.int 1))) (aC (vr 2) aN)))))
 (sq (u3 4)
 (sq (bE (dl (aC (una aJ (vb 3)) aN)) (tgN 5)
 (nV 4 (bin fix (vb 3) (vb 5)) (vr 5)))
 (sq (own 6 (eM aN))
 (sq (bE (fIt (vr 3)) (tgN 7)
 (sq (own 8 (eM aN))
 (sq (bE (fIt (vr 3)) (tgN 9)
 (sq (asg 10 (una nF (kd (.int 1))))
 (sq (iff (tst (bin feq (bin fix (vb 7) (kd (.int 1))) (bin fix (vb 9) (kd (.int 0)))))
 (asg 10 (nX 4 (eT (aC (bin fix (vb 7) (kd (.int 0))) (aC (bin fix (vb 9) (kd (.int 1))) (aC (una ii (eLs (b0 (fIt (bin fix (vb 7) (kd (.int 2)))) 1 (tgN 12) tT (bin fix (bin fix (vb 9) (kd (.int 2))) (vb 12))))) aN))))))
 nxt)
 (app 8 (vr 10)))))
 (fz 8 (app 6 (vr 8))))))
 (sq (asg 11 (eLs (b0 (dl (aC (una aJ (vb 2)) aN)) 1 (tgN 12) tT (nX 4 (eT (aC (vr 12) (aC (vr 12) (aC (g8 (aC (bin fix (vb 2) (vb 12)) aN)) aN))))))))
 (fz 6 (ret (eT (aC (eLs (b0 (fIt (vr 3)) 1 (tgN 12) tT (eT (aC (bin fix (vb 12) (kd (.int 0))) (aC (bin fix (vb 12) (kd (.int 1))) aN))))) (aC (vr 11) (aC (vr 6) (aC (vr 3) (aC (vr 2) aN)))))))))))))))
noncomputable def cH (ds:List D):R D:=fin (fL (st0 hV ds))
theorem lO {f:Addr} (fn_law_arrows:Fn P w K mg base C 2 "_law_arrows" 3 bS) (fn_law_sizes:Fn P w K mg base C 2 "_law_sizes" 2 cG) (T:Txt K mg C) (cdv:Value) (A:Around) (outer:List Env) (s:Shared) (H:Hp) (E:XK) (hr:Room 2 (A.deeper (envOfC "_law_parts" (ah cC) s.heap.objs.size f cdv))) :
  SDs C (cw CX0 P w K mg base hV "_law_parts" (ah cC) f cdv A outer s H E).nox (ay cC) fL :=
 (ar (bx (i:=2) sc_law_parts.nd rfl (Or.inr rfl) (bj fn_law_sizes (hr.mono (by decide)) rfl (ag (aj (pv 0)) (ag (aj (pv 1)) am ab) ab) rfl (he:=ab) (hpl:=(ax ab aq))))
 (ar (bx (i:=3) sc_law_parts.nd rfl (Or.inl rfl) (bj fn_law_arrows (hr.mono (by decide)) rfl (ag (aj (pv 0)) (ag (cX (ai (pv 1)) (EB.of al)) (ag (aj (pv 2)) am ab) bc) ab) rfl (he:=ab) (hpl:=(ax bc (ax ab aq)))))
 (ar (qJ (i:=4) sc_law_parts.nd rfl (Or.inr rfl))
 (ar (bz PassesOwn.never rfl (dd rfl T.range (ag (aZ (ai (pv 3)) rfl T.len ab (fun t ha=>aG av rfl T.len PySem.boot_len ha (he:=ab) (hpl:=aq))) am aH) (bV aH)) (bg (i:=5) sc_law_parts.nd rfl (Or.inl rfl))
 (ao (qI (mD hr) (pv 4) (aD (ai (pv 3)) (ai (pv 5))) (aj (pv 5)))))
 (ar (jj (i:=6) sc_law_parts.nd rfl (Or.inl rfl) (gU am))
 (ar (bz PassesOwn.never rfl (cW (aj (pv 3))) (bg (i:=7) sc_law_parts.nd rfl (Or.inl rfl))
 (ar (jj (i:=8) sc_law_parts.nd rfl (Or.inl rfl) (gU am))
 (ar (bz PassesOwn.never rfl (cW (aj (pv 3))) (bg (i:=9) sc_law_parts.nd rfl (Or.inr rfl))
 (ar (bx (i:=10) sc_law_parts.nd rfl (Or.inl rfl) (nP (EB.of al)))
 (ar (bF (gK (cq hr) (EB.of (aD (ai (pv 7)) (EB.of al))) (EB.of (aD (ai (pv 9)) (EB.of al))))
 (ao (bx (i:=10) sc_law_parts.nd rfl (Or.inl rfl) (rF (mD hr) (pv 4) (dg (ag (aD (ai (pv 7)) (EB.of al)) (ag (aD (ai (pv 9)) (EB.of al)) (ag (i7 (EB.of (eN (dX (N':=Nc_law_parts_0) (n:=1) rfl rfl rfl (iW 12) dL (cW (aD (ai (pv 7)) (EB.of al))) (fun L cs s H fp=>(bg (i:=12) kZ rfl (Or.inl rfl))) (fun L cs s H fp=>dR) (fun L cs s H fp=>(aD (EB.of (aD (ai (pv 9)) (EB.of al))) (ai (pv 12))))))) rfl T.tuple cn (fun t ha=>bp dB rfl T.tuple boot_tuple ha (he:=cn) (hpl:=aq))) am aH) ak) ak)))))
 aV)
 (ao (ip (pv 8) (aj (pv 10)) (hst:=ab))))))
 (io 8 (ao (ip (pv 6) (aj (pv 8)) (hst:=ab)))))))
 (ar (mZ (gl (i:=11) (aQ (i:=11) sc_law_parts.nd rfl (Or.inl rfl)) (N':=Nc_law_parts_1) (n:=1) rfl rfl rfl (iW 12) dL (dd rfl T.range (ag (aZ (ai (pv 2)) rfl T.len ab (fun t ha=>aG av rfl T.len PySem.boot_len ha (he:=ab) (hpl:=aq))) am aH) (bV aH)) (fun L cs s H fp=>(bg (i:=12) kY rfl (Or.inl rfl))) (fun L cs s H fp=>dR) (fun L cs s H fp=>(rF (mD hr) (pv 4) (dg (ag (aj (pv 12)) (ag (aj (pv 12)) (ag (pj rfl (ag (aD (ai (pv 2)) (ai (pv 12))) am ak) rfl T.range rfl T.tuple (bV ak) aH (fun t ha=>bp (hE rfl) rfl T.tuple boot_tuple ha (he:=aH) (hpl:=aq))) am aH) ab) ab)))) rfl))
 (io 6 (ao (bJ (dg (ag (eN (dX (N':=Nc_law_parts_2) (n:=1) rfl rfl rfl (iW 12) dL (cW (aj (pv 3))) (fun L cs s H fp=>(bg (i:=12) kX rfl (Or.inl rfl))) (fun L cs s H fp=>dR) (fun L cs s H fp=>(dg (ag (aD (ai (pv 12)) (EB.of al)) (ag (aD (ai (pv 12)) (EB.of al)) am ak) ak))))) (ag (aj (pv 11)) (ag (aj (pv 6)) (ag (aj (pv 3)) (ag (aj (pv 2)) am ab) ab) ab) ab) cn))))))))))))
theorem no {a:Addr} {fd:FuncData} (fn_law_arrows:Fn P w K mg base C 2 "_law_arrows" 3 bS) (fn_law_sizes:Fn P w K mg base C 2 "_law_sizes" 2 cG) (T:Txt K mg C) (F:Fun K "_law_parts" "_law_parts" cC a fd) (hm:mg "_law_parts"=some (.ref a)) (hb:Binds K fd ["script","k"] []):Fn P w K mg base C 3 "_law_parts" 2 cH :=
 ⟨a,fd,_,bL F sc_law_parts (fun cdv A outer s H E hr=>lO fn_law_arrows fn_law_sizes T cdv A outer s H E hr),hm,F.kp,hb⟩
noncomputable abbrev cS:Stmt:=PySem.Challenge.pw_arrowhall_k05_views.main.body.getD 39 (.Pass ⟨0,0,0,0⟩)
noncomputable abbrev iE:List Str:=["parts"]
theorem oE:aP iE ["parts"] (ah cS):=⟨rfl,rfl,rfl,by decide +kernel,rfl,by decide +kernel,by decide +kernel⟩
noncomputable abbrev Nc_law_hall_0:List Str:=["parts","row"]
theorem lW:Nc_law_hall_0.Nodup:=by decide +kernel
noncomputable def gz:Rho->R Out:=(ret (mkH fx (aC (eLs (fIt (bin fix (vb 0) (kd (.int 0))))) (aC (eLs (fIt (bin fix (vb 0) (kd (.int 1))))) (aC (eLs (b0 (fIt (bin fix (vb 0) (kd (.int 2)))) 1 (tgN 1) tT (eLs (fIt (vb 1))))) aN)))))
noncomputable def cP (ds:List D):R D:=fin (gz (st0 iE ds))
theorem mn {f:Addr} (fn_Hall:FnH P w K mg base C 4 fx) (T:Txt K mg C) (cdv:Value) (A:Around) (outer:List Env) (s:Shared) (H:Hp) (E:XK) (hr:Room 5 (A.deeper (envOfC "_law_hall" (ah cS) s.heap.objs.size f cdv))) :
  SDs C (cw CX0 P w K mg base iE "_law_hall" (ah cS) f cdv A outer s H E).nox (ay cS) gz :=
 (ao (bJ (wG fn_Hall (hr.mono (by decide)) rfl (ag (eN (e_ (EB.of (aD (ai (pv 0)) (EB.of al))) rfl T.list ak (fun t ha=>bp bU rfl T.list boot_list ha (he:=ak) (hpl:=aq)))) (ag (eN (e_ (EB.of (aD (ai (pv 0)) (EB.of al))) rfl T.list ak (fun t ha=>bp bU rfl T.list boot_list ha (he:=ak) (hpl:=aq)))) (ag (eN (dX (N':=Nc_law_hall_0) (n:=1) rfl rfl rfl (iW 1) dL (cW (aD (ai (pv 0)) (EB.of al))) (fun L cs s H fp=>(bg (i:=1) lW rfl (Or.inl rfl))) (fun L cs s H fp=>dR) (fun L cs s H fp=>(eN (e_ (ai (pv 1)) rfl T.list ab (fun t ha=>bp bU rfl T.list boot_list ha (he:=ab) (hpl:=aq))))))) am cn) aH) aH) rfl (he:=aH) (hpl:=(ax aH (ax cn aq))))))
theorem oS {a:Addr} {fd:FuncData} (fn_Hall:FnH P w K mg base C 4 fx) (T:Txt K mg C) (F:Fun K "_law_hall" "_law_hall" cS a fd) (hm:mg "_law_hall"=some (.ref a)) (hb:Binds K fd ["parts"] []):Fn P w K mg base C 6 "_law_hall" 1 cP :=
 ⟨a,fd,_,bL F oE (fun cdv A outer s H E hr=>mn fn_Hall T cdv A outer s H E hr),hm,F.kp,hb⟩
noncomputable abbrev bO:Stmt:=PySem.Challenge.pw_arrowhall_k05_views.main.body.getD 40 (.Pass ⟨0,0,0,0⟩)
noncomputable abbrev fQ:List Str:=["parts","box","other"]
theorem kJ:aP fQ ["parts","box","other"] (ah bO):=⟨rfl,rfl,rfl,by decide +kernel,rfl,by decide +kernel,by decide +kernel⟩
noncomputable abbrev Nc_law_between_0:List Str:=["parts","box","other","arrow"]
theorem jo:Nc_law_between_0.Nodup:=by decide +kernel
noncomputable def eU:Rho->R Out:=(ret (eLs (b0 (dl (aC (una aJ (bin fix (vb 0) (kd (.int 0)))) aN)) 1 (tgN 3) (tst (bin feq (bin fix (bin fix (vb 0) (kd (.int 0))) (vb 3)) (eT (aC (vr 1) (aC (vr 2) aN))))) (vr 3))))
noncomputable def aK (ds:List D):R D:=fin (eU (st0 fQ ds))
theorem jC {f:Addr}  (T:Txt K mg C) (cdv:Value) (A:Around) (outer:List Env) (s:Shared) (H:Hp) (E:XK) (hr:Room 0 (A.deeper (envOfC "_law_between" (ah bO) s.heap.objs.size f cdv))) :
  SDs C (cw CX0 P w K mg base fQ "_law_between" (ah bO) f cdv A outer s H E).nox (ay bO) eU :=
 (ao (bJ (eN (dX (N':=Nc_law_between_0) (n:=1) rfl rfl rfl (iW 3) dL (dd rfl T.range (ag (aZ (EB.of (aD (ai (pv 0)) (EB.of al))) rfl T.len ak (fun t ha=>aG av rfl T.len PySem.boot_len ha (he:=ak) (hpl:=aq))) am aH) (bV aH)) (fun L cs s H fp=>(bg (i:=3) jo rfl (Or.inl rfl))) (fun L cs s H fp=>(kx (gK (cq hr) (EB.of (aD (EB.of (aD (ai (pv 0)) (EB.of al))) (ai (pv 3)))) (EB.of (dg (ag (aj (pv 1)) (ag (aj (pv 2)) am ab) ab)))))) (fun L cs s H fp=>(aj (pv 3)))))))
theorem ld {a:Addr} {fd:FuncData}  (T:Txt K mg C) (F:Fun K "_law_between" "_law_between" bO a fd) (hm:mg "_law_between"=some (.ref a)) (hb:Binds K fd ["parts","box","other"] []):Fn P w K mg base C 1 "_law_between" 3 aK :=
 ⟨a,fd,_,bL F kJ (fun cdv A outer s H E hr=>jC  T cdv A outer s H E hr),hm,F.kp,hb⟩
noncomputable abbrev bN:Stmt:=PySem.Challenge.pw_arrowhall_k05_views.main.body.getD 41 (.Pass ⟨0,0,0,0⟩)
noncomputable abbrev fP:List Str:=["script","k","parts","places","ties","j","one","other","some"]
theorem sc_law_picture:aP fP ["script","k","parts"] (ah bN):=⟨rfl,rfl,rfl,by decide +kernel,rfl,by decide +kernel,by decide +kernel⟩
noncomputable abbrev Nc_law_picture_0:List Str:=["script","k","parts","places","ties","5.","one","other","some","j"]
theorem jm:Nc_law_picture_0.Nodup:=by decide +kernel
noncomputable def eS:Rho->R Out:=(sq (asg 3 (eLs (b0 (dl (aC (bin (iI ba) (cal 2 au (aC (vr 0) (aC (vr 1) aN))) (kd (.int 4))) aN)) 1 (tgN 9) tT (bin (iI ba) (cal 2 au (aC (vr 0) (aC (bin bb (bin bb (vb 1) (kd (.int 1))) (vb 9)) aN))) (una aJ (bin fix (vb 2) (kd (.int 1))))))))
 (sq (own 4 (eM aN))
 (sq (iff (tst (bin (iI fgt) (una aJ (vb 3)) (kd (.int 0))))
 (bE (dl (aC (bin (iI ba) (bin (iI dz) (cal 2 au (aC (vr 0) (aC (vr 1) aN))) (kd (.int 4))) (kd (.int 5))) aN)) (tgN 5)
 (sq (asg 6 (bin (iI ba) (cal 2 au (aC (vr 0) (aC (bin bb (bin bb (vb 1) (kd (.int 5))) (bin (iI df) (kd (.int 3)) (vb 5))) aN))) (una aJ (vb 3))))
 (sq (asg 7 (bin (iI ba) (cal 2 au (aC (vr 0) (aC (bin bb (bin bb (vb 1) (kd (.int 6))) (bin (iI df) (kd (.int 3)) (vb 5))) aN))) (una aJ (vb 3))))
 (sq (asg 8 (cal 3 aK (aC (vr 2) (aC (bin fix (vb 3) (vb 6)) (aC (bin fix (vb 3) (vb 7)) aN)))))
 (iff (tst (bin (iI fgt) (una aJ (vb 8)) (kd (.int 0))))
 (app 4 (eT (aC (vr 6) (aC (vr 7) (aC (bin fix (vb 8) (bin (iI ba) (cal 2 au (aC (vr 0) (aC (bin bb (bin bb (vb 1) (kd (.int 7))) (bin (iI df) (kd (.int 3)) (vb 5))) aN))) (una aJ (vb 8)))) aN)))))
 nxt)))))
 nxt)
 (fz 4 (ret (eT (aC (vr 3) (aC (vr 4) aN))))))))
noncomputable def bW (ds:List D):R D:=fin (eS (st0 fP ds))
theorem jB {f:Addr} (fn_law_between:Fn P w K mg base C 1 "_law_between" 3 aK) (fn_law_cell:Fn P w K mg base C 1 "_law_cell" 2 au) (T:Txt K mg C) (cdv:Value) (A:Around) (outer:List Env) (s:Shared) (H:Hp) (E:XK) (hr:Room 1 (A.deeper (envOfC "_law_picture" (ah bN) s.heap.objs.size f cdv))) :
  SDs C (cw CX0 P w K mg base fP "_law_picture" (ah bN) f cdv A outer s H E).nox (ay bN) eS :=
 (ar (mZ (gl (i:=3) (aQ (i:=3) sc_law_picture.nd rfl (Or.inl rfl)) (N':=Nc_law_picture_0) (n:=1) rfl rfl rfl (iW 9) dL (dd rfl T.range (ag (cL (EB.of (bj fn_law_cell (hr.mono (by decide)) rfl (ag (aj (pv 0)) (ag (aj (pv 1)) am ab) ab) rfl (he:=ab) (hpl:=(ax ab aq)))) (EB.of al)) am bc) (bV bc)) (fun L cs s H fp=>(bg (i:=9) jm rfl (Or.inl rfl))) (fun L cs s H fp=>dR) (fun L cs s H fp=>(cL (EB.of (bj fn_law_cell (hr.mono (by decide)) rfl (ag (aj (pv 0)) (ag (cX (EB.of (cX (ai (pv 1)) (EB.of al))) (ai (pv 9))) am bc) ab) rfl (he:=ab) (hpl:=(ax bc aq)))) (EB.of (aZ (EB.of (aD (ai (pv 2)) (EB.of al))) rfl T.len ak (fun t ha=>aG av rfl T.len PySem.boot_len ha (he:=ak) (hpl:=aq)))))) rfl))
 (ar (jj (i:=4) sc_law_picture.nd rfl (Or.inl rfl) (gU am))
 (ar (bF (my (EB.of (aZ (ai (pv 3)) rfl T.len ab (fun t ha=>aG av rfl T.len PySem.boot_len ha (he:=ab) (hpl:=aq)))) (EB.of al))
 (ao (bz PassesOwn.never rfl (dd rfl T.range (ag (cL (EB.of (ff (EB.of (bj fn_law_cell (hr.mono (by decide)) rfl (ag (aj (pv 0)) (ag (aj (pv 1)) am ab) ab) rfl (he:=ab) (hpl:=(ax ab aq)))) (EB.of al))) (EB.of al)) am bc) (bV bc)) (bg (i:=5) sc_law_picture.nd rfl (Or.inl rfl))
 (ar (bx (i:=6) sc_law_picture.nd rfl (Or.inl rfl) (cL (EB.of (bj fn_law_cell (hr.mono (by decide)) rfl (ag (aj (pv 0)) (ag (cX (EB.of (cX (ai (pv 1)) (EB.of al))) (EB.of (iu (EB.of al) (ai (pv 5))))) am bc) ab) rfl (he:=ab) (hpl:=(ax bc aq)))) (EB.of (aZ (ai (pv 3)) rfl T.len ab (fun t ha=>aG av rfl T.len PySem.boot_len ha (he:=ab) (hpl:=aq))))))
 (ar (bx (i:=7) sc_law_picture.nd rfl (Or.inl rfl) (cL (EB.of (bj fn_law_cell (hr.mono (by decide)) rfl (ag (aj (pv 0)) (ag (cX (EB.of (cX (ai (pv 1)) (EB.of al))) (EB.of (iu (EB.of al) (ai (pv 5))))) am bc) ab) rfl (he:=ab) (hpl:=(ax bc aq)))) (EB.of (aZ (ai (pv 3)) rfl T.len ab (fun t ha=>aG av rfl T.len PySem.boot_len ha (he:=ab) (hpl:=aq))))))
 (ar (bx (i:=8) sc_law_picture.nd rfl (Or.inl rfl) (bj fn_law_between (hr.mono (by decide)) rfl (ag (aj (pv 2)) (ag (aD (ai (pv 3)) (ai (pv 6))) (ag (aD (ai (pv 3)) (ai (pv 7))) am ak) ak) ab) rfl (he:=ab) (hpl:=(ax ak (ax ak aq)))))
 (ao (bF (my (EB.of (aZ (ai (pv 8)) rfl T.len ab (fun t ha=>aG av rfl T.len PySem.boot_len ha (he:=ab) (hpl:=aq)))) (EB.of al))
 (ao (ip (pv 4) (dg (ag (aj (pv 6)) (ag (aj (pv 7)) (ag (aD (ai (pv 8)) (EB.of (cL (EB.of (bj fn_law_cell (hr.mono (by decide)) rfl (ag (aj (pv 0)) (ag (cX (EB.of (cX (ai (pv 1)) (EB.of al))) (EB.of (iu (EB.of al) (ai (pv 5))))) am bc) ab) rfl (he:=ab) (hpl:=(ax bc aq)))) (EB.of (aZ (ai (pv 8)) rfl T.len ab (fun t ha=>aG av rfl T.len PySem.boot_len ha (he:=ab) (hpl:=aq))))))) am ak) ab) ab)) (hst:=iH)))
 aV)))))))
 aV)
 (io 4 (ao (bJ (dg (ag (aj (pv 3)) (ag (aj (pv 4)) am ab) ab))))))))
theorem k_ {a:Addr} {fd:FuncData} (fn_law_between:Fn P w K mg base C 1 "_law_between" 3 aK) (fn_law_cell:Fn P w K mg base C 1 "_law_cell" 2 au) (T:Txt K mg C) (F:Fun K "_law_picture" "_law_picture" bN a fd) (hm:mg "_law_picture"=some (.ref a)) (hb:Binds K fd ["script","k","parts"] []):Fn P w K mg base C 2 "_law_picture" 3 bW :=
 ⟨a,fd,_,bL F sc_law_picture (fun cdv A outer s H E hr=>jB fn_law_between fn_law_cell T cdv A outer s H E hr),hm,F.kp,hb⟩
noncomputable abbrev cA:Stmt:=PySem.Challenge.pw_arrowhall_k05_views.main.body.getD 42 (.Pass ⟨0,0,0,0⟩)
noncomputable abbrev hJ:List Str:=["parts","places","ties","box","rows","place","longer","row","found"]
theorem sc_law_views:aP hJ ["parts","places","ties","box"] (ah cA):=⟨rfl,rfl,rfl,by decide +kernel,rfl,by decide +kernel,by decide +kernel⟩
noncomputable abbrev Nc_law_views_0:List Str:=["parts","places","ties","box","rows","place","longer","row","found","arrow"]
theorem kU:Nc_law_views_0.Nodup:=by decide +kernel
noncomputable abbrev Nc_law_views_1:List Str:=["parts","places","ties","box","rows","place","longer","row","found","tie"]
theorem kT:Nc_law_views_1.Nodup:=by decide +kernel
noncomputable def fI:Rho->R Out:=(sq (asg 4 (eL (aC (eL aN) aN)))
 (sq (bE (fIt (vr 1)) (tgN 5)
 (sq (asg 6 (eL aN))
 (sq (bE (fIt (vr 4)) (tgN 7)
 (asg 6 (bin bb (vb 6) (eLs (b0 (fIt (cal 3 aK (aC (vr 0) (aC (vr 3) (aC (vr 5) aN))))) 1 (tgN 9) tT (bin bb (vb 7) (eL (aC (vr 9) aN))))))))
 (asg 4 (vr 6)))))
 (sq (own 8 (eM aN))
 (sq (bE (fIt (vr 4)) (tgN 7)
 (iff (tst (bin feq (una aJ (eLs (b0 (fIt (vr 2)) 1 (tgN 9) (tst (bin fne (bin fix (bin fix (bin fix (vb 0) (kd (.int 2))) (bin fix (vb 7) (bin fix (vb 9) (kd (.int 0))))) (bin fix (vb 9) (kd (.int 2)))) (bin fix (vb 7) (bin fix (vb 9) (kd (.int 1)))))) (vr 9)))) (kd (.int 0))))
 (app 8 (vr 7))
 nxt))
 (fz 8 (ret (vr 8)))))))
noncomputable def ck (ds:List D):R D:=fin (fI (st0 hJ ds))
theorem lM {f:Addr} (fn_law_between:Fn P w K mg base C 1 "_law_between" 3 aK) (T:Txt K mg C) (cdv:Value) (A:Around) (outer:List Env) (s:Shared) (H:Hp) (E:XK) (hr:Room 1 (A.deeper (envOfC "_law_views" (ah cA) s.heap.objs.size f cdv))) :
  SDs C (cw CX0 P w K mg base hJ "_law_views" (ah cA) f cdv A outer s H E).nox (ay cA) fI :=
 (ar (bx (i:=4) sc_law_views.nd rfl (Or.inl rfl) (cy (ag (cy am) am c_)))
 (ar (bz PassesOwn.never rfl (cW (aj (pv 1))) (bg (i:=5) sc_law_views.nd rfl (Or.inl rfl))
 (ar (bx (i:=6) sc_law_views.nd rfl (Or.inl rfl) (cy am))
 (ar (bz PassesOwn.never rfl (cW (aj (pv 4))) (bg (i:=7) sc_law_views.nd rfl (Or.inr rfl))
 (ao (bx (i:=6) sc_law_views.nd rfl (Or.inl rfl) (cX (ai (pv 6)) (EB.of (eN (dX (N':=Nc_law_views_0) (n:=1) rfl rfl rfl (iW 9) dL (cW (bj fn_law_between (hr.mono (by decide)) rfl (ag (aj (pv 0)) (ag (aj (pv 3)) (ag (aj (pv 5)) am ab) ab) ab) rfl (he:=ab) (hpl:=(ax ab (ax ab aq))))) (fun L cs s H fp=>(bg (i:=9) kU rfl (Or.inl rfl))) (fun L cs s H fp=>dR) (fun L cs s H fp=>(cX (ai (pv 7)) (EB.of (cy (ag (aj (pv 9)) am ab))))))))))))
 (ao (bx (i:=4) sc_law_views.nd rfl (Or.inl rfl) (aj (pv 6)))))))
 (ar (jj (i:=8) sc_law_views.nd rfl (Or.inl rfl) (gU am))
 (ar (bz PassesOwn.never rfl (cW (aj (pv 4))) (bg (i:=7) sc_law_views.nd rfl (Or.inr rfl))
 (ao (bF (gK (cq hr) (EB.of (aZ (EB.of (eN (dX (N':=Nc_law_views_1) (n:=1) rfl rfl rfl (iW 9) dL (cW (aj (pv 2))) (fun L cs s H fp=>(bg (i:=9) kT rfl (Or.inl rfl))) (fun L cs s H fp=>(kx (d7 (cq hr) (EB.of (aD (EB.of (aD (EB.of (aD (ai (pv 0)) (EB.of al))) (EB.of (aD (ai (pv 7)) (EB.of (aD (ai (pv 9)) (EB.of al))))))) (EB.of (aD (ai (pv 9)) (EB.of al))))) (EB.of (aD (ai (pv 7)) (EB.of (aD (ai (pv 9)) (EB.of al)))))))) (fun L cs s H fp=>(aj (pv 9)))))) rfl T.len cn (fun t ha=>aG av rfl T.len PySem.boot_len ha (he:=cn) (hpl:=aq)))) (EB.of al))
 (ao (ip (pv 8) (aj (pv 7)) (hst:=ab)))
 aV)))
 (io 8 (ao (bJ (aj (pv 8)))))))))
theorem nl {a:Addr} {fd:FuncData} (fn_law_between:Fn P w K mg base C 1 "_law_between" 3 aK) (T:Txt K mg C) (F:Fun K "_law_views" "_law_views" cA a fd) (hm:mg "_law_views"=some (.ref a)) (hb:Binds K fd ["parts","places","ties","box"] []):Fn P w K mg base C 2 "_law_views" 4 ck :=
 ⟨a,fd,_,bL F sc_law_views (fun cdv A outer s H E hr=>lM fn_law_between T cdv A outer s H E hr),hm,F.kp,hb⟩
noncomputable abbrev gM:Stmt:=PySem.Challenge.pw_arrowhall_k05_views.main.body.getD 43 (.Pass ⟨0,0,0,0⟩)
noncomputable abbrev vk:List Str:=["script","parts","hall","places","ties","handed","box","due","found"]
theorem sc_law:aP vk ["script"] (ah gM):=⟨rfl,rfl,rfl,by decide +kernel,rfl,by decide +kernel,by decide +kernel⟩
noncomputable def nY:Rho->R Out:=(sq (asg 1 (cal 2 cH (aC (vr 0) (aC (kd (.int 0)) aN))))
 (sq (asg 2 (cal 1 cP (aC (vr 1) aN)))
 (sq (asT (tg2 3 4) (cal 3 bW (aC (vr 0) (aC (kd (.int 4)) (aC (vr 1) aN)))))
 (sq (asg 5 (eL (aC (eLs (fIt (vb 3))) (aC (eLs (fIt (vb 4))) aN))))
 (sq (bE (dl (aC (una aJ (bin fix (vb 1) (kd (.int 1)))) aN)) (tgN 6)
 (sq (asg 7 (cal 4 ck (aC (vr 1) (aC (vr 3) (aC (vr 4) (aC (vr 6) aN))))))
 (sq (trS 8 (.l (.l .s)) (cal 4 cM (aC (vr 2) (aC (bin fix (vb 5) (kd (.int 0))) (aC (bin fix (vb 5) (kd (.int 1))) (aC (vr 6) aN))))))
 (sq (iff (orB (dw (tst (flF (cal 2 aL (aC (va 8) (aC (vb 7) aN)))))) (tst (bin fne (vb 5) (eL (aC (vr 3) (aC (vr 4) aN))))))
 (ret (kd (.bl false)))
 nxt)
 (sq (asO (apP 8 (.l .s) (pN0 8) (eLs (eM (aC (kd (.int 0)) aN)))))
 (sq (asO (apP 8 .s (pN 8 (pN0 8) (kd (.int 0))) (kd (.int 0))))
 (iff (dw (tst (cal 2 aL (aC (cal 4 cM (aC (vr 2) (aC (bin fix (vb 5) (kd (.int 0))) (aC (bin fix (vb 5) (kd (.int 1))) (aC (vr 6) aN))))) (aC (vr 7) aN)))))
 (ret (kd (.bl false)))
 nxt)))))))
 (ret (kd (.bl true))))))))
noncomputable def lF (ds:List D):R D:=fin (nY (st0 vk ds))
theorem vd {f:Addr} (fn_law_hall:Fn P w K mg base C 6 "_law_hall" 1 cP) (fn_law_lists_like:Fn P w K mg base C 2 "_law_lists_like" 2 aL) (fn_law_parts:Fn P w K mg base C 3 "_law_parts" 2 cH) (fn_law_picture:Fn P w K mg base C 2 "_law_picture" 3 bW) (fn_law_views:Fn P w K mg base C 2 "_law_views" 4 ck) (fn_views:FnK P w K mg base C 5 "views" 4 (.l (.l .s)) cM) (T:Txt K mg C) (cdv:Value) (A:Around) (outer:List Env) (s:Shared) (H:Hp) (E:XK) (hr:Room 6 (A.deeper (envOfC "law" (ah gM) s.heap.objs.size f cdv))) :
  SDs C (cw CX0 P w K mg base vk "law" (ah gM) f cdv A outer s H E).nox (ay gM) nY :=
 (ar (bx (i:=1) sc_law.nd rfl (Or.inl rfl) (bj fn_law_parts (hr.mono (by decide)) rfl (ag (aj (pv 0)) (ag al am aA) ab) rfl (he:=ab) (hpl:=(ax aA aq))))
 (ar (bx (i:=2) sc_law.nd rfl (Or.inl rfl) (bj fn_law_hall (hr.mono (by decide)) rfl (ag (aj (pv 1)) am ab) rfl (he:=ab) (hpl:=aq)))
 (ar (xw (bj fn_law_picture (hr.mono (by decide)) rfl (ag (aj (pv 0)) (ag al (ag (aj (pv 1)) am ab) aA) ab) rfl (he:=ab) (hpl:=(ax aA (ax ab aq)))) (dv rfl (aQ (i:=3) sc_law.nd rfl (Or.inl rfl)) (aQ (i:=4) sc_law.nd rfl (Or.inl rfl))))
 (ar (bx (i:=5) sc_law.nd rfl (Or.inl rfl) (cy (ag (eN (e_ (ai (pv 3)) rfl T.list ab (fun t ha=>bp bU rfl T.list boot_list ha (he:=ab) (hpl:=aq)))) (ag (eN (e_ (ai (pv 4)) rfl T.list ab (fun t ha=>bp bU rfl T.list boot_list ha (he:=ab) (hpl:=aq)))) am aH) aH)))
 (ar (bz PassesOwn.never rfl (dd rfl T.range (ag (aZ (EB.of (aD (ai (pv 1)) (EB.of al))) rfl T.len ak (fun t ha=>aG av rfl T.len PySem.boot_len ha (he:=ak) (hpl:=aq))) am aH) (bV aH)) (bg (i:=6) sc_law.nd rfl (Or.inl rfl))
 (ar (bx (i:=7) sc_law.nd rfl (Or.inl rfl) (bj fn_law_views (hr.mono (by decide)) rfl (ag (aj (pv 1)) (ag (aj (pv 3)) (ag (aj (pv 4)) (ag (aj (pv 6)) am ab) ab) ab) ab) rfl (he:=ab) (hpl:=(ax ab (ax ab (ax ab aq))))))
 (ar (kI (i:=8) sc_law.nd rfl (Or.inl rfl) (ut fn_views (hr.mono (by decide)) rfl (ag (aj (pv 2)) (ag (aD (ai (pv 5)) (EB.of al)) (ag (aD (ai (pv 5)) (EB.of al)) (ag (aj (pv 6)) am ab) ak) ak) ab) (he:=ab) (hpl:=(ax ak (ax ak (ax ab aq))))))
 (ar (bF (jS (fE (dc (db (rE (xf fn_law_lists_like (hr.mono (by decide)) rfl (fg (ql (pv 8)) (fg (jQ (ai (pv 7))) qy ab) ab) (he:=ab) (hpl:=(ax ab aq)))))) (fi (d7 (cq hr) (ai (pv 5)) (EB.of (cy (ag (aj (pv 3)) (ag (aj (pv 4)) am ab) ab)))))))
 (ao (bJ gZ))
 aV)
 (ar (xv (oB (k':=(.l .s)) (ni (pv 8)) (uu (gU (ag al am aA))) (hst:=c_)))
 (ar (xv (oB (k':=.s) (zF (ni (pv 8)) al) (uv al) (hst:=aA)))
 (ao (bF (dc (db (bj fn_law_lists_like (hr.mono (by decide)) rfl (ag (zV (ut fn_views (hr.mono (by decide)) rfl (ag (aj (pv 2)) (ag (aD (ai (pv 5)) (EB.of al)) (ag (aD (ai (pv 5)) (EB.of al)) (ag (aj (pv 6)) am ab) ak) ak) ab) (he:=ab) (hpl:=(ax ak (ax ak (ax ab aq)))))) (ag (aj (pv 7)) am ab) aH) rfl (he:=aH) (hpl:=(ax ab aq)))))
 (ao (bJ gZ))
 aV))))))))
 (ao (bJ gZ)))))))
end DL
namespace DL
open PySem L2 Ar
theorem ph (a b:Int):aF [.int a,.int b]=.val (.bl (decide (0<=a) && decide (a < b))):=by
 simp only [aF,gB]
 show fin (ret _ [some (.shr (.int a)),some (.shr (.int b))])=_
 by_cases h:(0:Int)<=a <;> simp [h]
theorem dm {a b:Nat} (h:a < b):aF [.int (a:Int),.int (b:Int)]=.val (.bl true):=by
 rw [ph];simp;exact h
section
variable {en:List (Nat × Nat)} {re:List Nat} {tb:List (List Int)}
theorem j8 (h:cN en re tb):bI [cZ en,aw re]=.val .non:=by
 have h1:=h.nb1;have h2:=h.nb6;have h3:=h.na1;have h4:=h.na40
 simp only [bI,eB]
 show fin (sq _ _ [some (.shr (cZ en)),some (.shr (aw re))])=_
 have a1:(1:Int)<=re.length:=by omega
 have a2:(re.length:Int)<=6:=by omega
 have a3:(1:Int)<=en.length:=by omega
 have a4:(en.length:Int)<=40:=by omega
 simp [a1,a2,a3,a4]
theorem uX {k:Nat} {x:D} (e:(en.map eR)[k]?=some x):k < en.length/\x=eR (en.getD k (0,0)):=by
 have hk:k < en.length:=by have:=(List.getElem?_eq_some_iff.mp e).1;simpa using this
 rw [fo (d:=(0,0)) hk] at e
 exact ⟨hk,(Option.some.inj e).symm⟩
theorem xy {k:Nat} {x:D} (e:(re.map nD)[k]?=some x):k < re.length/\x=nD (re.getD k 0):=by
 have hk:k < re.length:=by have:=(List.getElem?_eq_some_iff.mp e).1;simpa using this
 rw [fo (d:=0) hk] at e
 exact ⟨hk,(Option.some.inj e).symm⟩
theorem pT {k:Nat} {x:D} (e:(tb.map bo)[k]?=some x):k < tb.length/\x=bo (tb.getD k []):=by
 have hk:k < tb.length:=by have:=(List.getElem?_eq_some_iff.mp e).1;simpa using this
 rw [fo (d:=[]) hk] at e
 exact ⟨hk,(Option.some.inj e).symm⟩
theorem pY {r:List Int} {k:Nat} {x:D} (e:(r.map D.int)[k]?=some x):k < r.length/\x=.int (r.getD k (-1)):=by
 have hk:k < r.length:=by have:=(List.getElem?_eq_some_iff.mp e).1;simpa using this
 rw [fo (d:=-1) hk] at e
 exact ⟨hk,(Option.some.inj e).symm⟩
theorem keep {F:Rho->R Out} {ρ1:Rho} {I:Rho->Prop} (h:F ρ1=.val (.nx ρ1)) (hI:I ρ1):∃ ρ2,F ρ1=.val (.nx ρ2)/\I ρ2:=⟨ρ1,h,hI⟩
theorem gv {F:Rho->R Out} {i j:Nat} {xs:List D} {ρ:Rho} (I:Rho->Prop) (step:∀ (k:Nat) x ρ,xs[k]?=some x->I ρ->∃ ρ2,F ((ρ.set i (some (.shr (.int (k:Int))))).set j (some (.shr x)))=.val (.nx ρ2)/\I ρ2) (h:I ρ):fin (b_ (tg2 i j) F (enu 0 xs) ρ)=.val .non:=by
 obtain ⟨ρ',e,_⟩:=lm I step h
 rw [e];rfl
theorem mi (h:cN en re tb):cu [cZ en,.int re.length]=.val .non:=by
 simp only [cu,fw]
 show fin (b_ (tg2 2 3) _ (enu 0 (en.map eR)) [some (.shr (cZ en)),some (.shr (.int re.length)),none,none])=_
 refine gv (fun ρ=>∃ a b,ρ=[some (.shr (cZ en)),some (.shr (.int re.length)),a,b]) (fun k x ρ ex hI=>?_) ⟨none,none,rfl⟩
 obtain ⟨a,b,rfl⟩:=hI
 obtain ⟨hk,rfl⟩:=uX ex
 obtain ⟨b1,b2⟩:=h.eb k hk
 refine keep ?_ ⟨_,_,rfl⟩
 simp [-List.getD_eq_getElem?_getD,dm b1,dm b2]
theorem lD (h:cN en re tb):bY [cZ en,aw re]=.val .non:=by
 simp only [bY,eW]
 show fin (b_ (tg2 2 3) _ (enu 0 (re.map nD)) [some (.shr (cZ en)),some (.shr (aw re)),none,none])=_
 refine gv (fun ρ=>∃ a b,ρ=[some (.shr (cZ en)),some (.shr (aw re)),a,b]) (fun k x ρ ex hI=>?_) ⟨none,none,rfl⟩
 obtain ⟨a,b,rfl⟩:=hI
 obtain ⟨hk,rfl⟩:=xy ex
 obtain ⟨b1,b2⟩:=h.rs k hk
 have e2:fne (eR (en.getD (re.getD k 0) (0,0))) (.tup [.int (k:Int),.int (k:Int)])=.val (.bl false):=by
  rw [b2];exact iY (x:=eR (k,k)) (iO _)
 refine keep ?_ ⟨_,_,rfl⟩
 simp [-List.getD_eq_getElem?_getD,dm b1,fG b1,e2]
theorem mh (h:cN en re tb):cr [bw tb,.int en.length]=.val .non:=by
 simp only [cr,fv]
 have ht:=h.tl
 have:sq (DL.iff (tst (bin fne (una aJ (vb 0)) (vb 1))) bad nxt) (bE (fD (aC (vr 0) aN)) (tg2 2 3) (DL.iff (tst (bin fne (una aJ (vb 3)) (vb 1))) bad nxt)) (st0 fh [bw tb,.int en.length])=b_ (tg2 2 3) (DL.iff (tst (bin fne (una aJ (vb 3)) (vb 1))) bad nxt) (enu 0 (tb.map bo)) [some (.shr (bw tb)),some (.shr (.int en.length)),none,none]:=by
  show sq _ _ [some (.shr (bw tb)),some (.shr (.int en.length)),none,none]=_
  simp [ht];rfl
 rw [this]
 refine gv (fun ρ=>∃ a b,ρ=[some (.shr (bw tb)),some (.shr (.int en.length)),a,b]) (fun k x ρ ex hI=>?_) ⟨none,none,rfl⟩
 obtain ⟨a,b,rfl⟩:=hI
 obtain ⟨hk,rfl⟩:=pT ex
 have b1:=h.rl k (by omega)
 refine keep ?_ ⟨_,_,rfl⟩
 simp [-List.getD_eq_getElem?_getD,b1]
theorem lE (h:cN en re tb) {i j:Nat} (hi:i < en.length) (hj:j < en.length):bZ [cZ en,.int (i:Int),.int (j:Int),.int ((tb.getD i []).getD j (-1))]=.val .non:=by
 simp only [bZ,eX]
 show fin (DL.iff _ _ _ [some (.shr (cZ en)),some (.shr (.int (i:Int))),some (.shr (.int (j:Int))),some (.shr (.int ((tb.getD i []).getD j (-1))))])=_
 by_cases e:(en.getD i (0,0)).2=(en.getD j (0,0)).1
 ·obtain ⟨k,k1,k2,k3⟩:=h.tp i j hi hj e
  have e2:fne (eR (en.getD k (0,0))) (.tup [nD (en.getD i (0,0)).1,nD (en.getD j (0,0)).2])=.val (.bl false):=by
   rw [k3];exact iY (x:=eR _) (iO _)
  rw [k2]
  simp [-List.getD_eq_getElem?_getD,fG hi,fG hj,e,dm k1,fG k1,e2]
 ·have e1:=h.tn i j hi hj e
  have e':((en.getD i (0,0)).2:Int) ≠ ((en.getD j (0,0)).1:Int):=by omega
  rw [e1]
  simp [-List.getD_eq_getElem?_getD,fG hi,fG hj,e']
theorem lC (h:cN en re tb):bX [cZ en,bw tb]=.val .non:=by
 simp only [bX,eV]
 show fin (b_ (tg2 2 3) _ (enu 0 (tb.map bo)) [some (.shr (cZ en)),some (.shr (bw tb)),none,none,none,none])=_
 refine gv (fun ρ=>∃ a b c d,ρ=[some (.shr (cZ en)),some (.shr (bw tb)),a,b,c,d]) (fun k x ρ ex hI=>?_) ⟨none,none,none,none,rfl⟩
 obtain ⟨a,b,c,d,rfl⟩:=hI
 obtain ⟨hk,rfl⟩:=pT ex
 have hk':k < en.length:=by have:=h.tl;omega
 show ∃ ρ2,b_ (tg2 4 5) _ (enu 0 ((tb.getD k []).map D.int)) [some (.shr (cZ en)),some (.shr (bw tb)),some (.shr (.int (k:Int))),some (.shr (bo (tb.getD k []))),c,d]=_/\_
 have:=lm (i:=4) (j:=5) (F:=drp (cal 4 bZ (aC (vr 0) (aC (vr 2) (aC (vr 4) (aC (vr 5) aN)))))) (fun ρ=>∃ c d,ρ=[some (.shr (cZ en)),some (.shr (bw tb)),some (.shr (.int (k:Int))),some (.shr (bo (tb.getD k []))),c,d]) (xs:=(tb.getD k []).map D.int) (fun m x ρ ex hI=>?_) (ρ:=[some (.shr (cZ en)),some (.shr (bw tb)),some (.shr (.int (k:Int))),some (.shr (bo (tb.getD k []))),c,d]) ⟨c,d,rfl⟩
 ·obtain ⟨ρ',e,c',d',rfl⟩:=this
  exact ⟨_,e,_,_,_,_,rfl⟩
 ·obtain ⟨c,d,rfl⟩:=hI
  obtain ⟨hm,rfl⟩:=pY ex
  have hm':m < en.length:=by rw [h.rl k hk'] at hm;exact hm
  refine keep ?_ ⟨_,_,rfl⟩
  simp [-List.getD_eq_getElem?_getD,lE h hk' hm']
theorem mM (h:cN en re tb) {i j:Nat} (hi:i < en.length) (hj:j < en.length):(tb.getD i []).getD j (-1)=-1\/∃ k:Nat,k < en.length/\(tb.getD i []).getD j (-1)=(k:Int):=by
 by_cases e:(en.getD i (0,0)).2=(en.getD j (0,0)).1
 ·obtain ⟨k,k1,k2,_⟩:=h.tp i j hi hj e
  exact .inr ⟨k,k1,k2⟩
 ·exact .inl (h.tn i j hi hj e)
theorem wF (h:cN en re tb) {i j k:Nat} (hi:i < en.length) (hj:j < en.length) (e:(tb.getD i []).getD j (-1)=(k:Int)):(en.getD i (0,0)).2=(en.getD j (0,0)).1/\k < en.length/\en.getD k (0,0)=((en.getD i (0,0)).1,(en.getD j (0,0)).2):=by
 by_cases e0:(en.getD i (0,0)).2=(en.getD j (0,0)).1
 ·obtain ⟨k',k1,k2,k3⟩:=h.tp i j hi hj e0
  have:k'=k:=by rw [k2] at e;omega
  subst this
  exact ⟨e0,k1,k3⟩
 ·rw [h.tn i j hi hj e0] at e;omega
theorem gH (h:cN en re tb):aY [cZ en,aw re,bw tb]=.val .non:=by
 simp only [aY,cY]
 show fin (b_ (tg2 3 4) _ (enu 0 (en.map eR)) [some (.shr (cZ en)),some (.shr (aw re)),some (.shr (bw tb)),none,none])=_
 refine gv (fun ρ=>∃ a b,ρ=[some (.shr (cZ en)),some (.shr (aw re)),some (.shr (bw tb)),a,b]) (fun k x ρ ex hI=>?_) ⟨none,none,rfl⟩
 obtain ⟨a,b,rfl⟩:=hI
 obtain ⟨hk,rfl⟩:=uX ex
 obtain ⟨b1,b2⟩:=h.eb k hk
 have r1:=(h.rs _ b1).1
 have r2:=(h.rs _ b2).1
 have u1:=h.ul k hk
 have u2:=h.ur k hk
 have ht:=h.tl
 have t1:=gt (tb:=tb) (show re.getD (en.getD k (0,0)).1 0 < tb.length by omega)
 have t2:=gt (tb:=tb) (show k < tb.length by omega)
 have t3:=gu (r:=tb.getD (re.getD (en.getD k (0,0)).1 0) []) (i:=k) (by rw [h.rl _ r1];exact hk)
 have t4:=gu (r:=tb.getD k []) (i:=re.getD (en.getD k (0,0)).2 0) (by rw [h.rl _ hk];exact r2)
 refine keep ?_ ⟨_,_,rfl⟩
 simp [-List.getD_eq_getElem?_getD,dE b1,dE b2,t1,t2,t3,t4,u1,u2]
theorem j7 (h:cN en re tb) {i j x:Nat} (hi:i < en.length) (hj:j < en.length) (e:(tb.getD i []).getD j (-1)=(x:Int)):bH [bw tb,.int (i:Int),.int (j:Int),.int (x:Int)]=.val .non:=by
 simp only [bH,ez]
 have ht:=h.tl
 obtain ⟨_,hx,_⟩:=wF h hi hj e
 have t1:=gt (tb:=tb) (show i < tb.length by omega)
 have t2:=gt (tb:=tb) (show j < tb.length by omega)
 have t3:=gt (tb:=tb) (show x < tb.length by omega)
 have:∀ F,bE (fD (aC (bin fix (vb 0) (vb 2)) aN)) (tg2 4 5) F (st0 d6 [bw tb,.int (i:Int),.int (j:Int),.int (x:Int)])=b_ (tg2 4 5) F (enu 0 ((tb.getD j []).map D.int)) [some (.shr (bw tb)),some (.shr (.int (i:Int))),some (.shr (.int (j:Int))),some (.shr (.int (x:Int))),none,none]:=fun F=>by
  show bE _ _ F [some (.shr (bw tb)),some (.shr (.int (i:Int))),some (.shr (.int (j:Int))),some (.shr (.int (x:Int))),none,none]=_
  simp [-List.getD_eq_getElem?_getD,t2];rfl
 rw [this]
 refine gv (fun ρ=>∃ a b,ρ=[some (.shr (bw tb)),some (.shr (.int (i:Int))),some (.shr (.int (j:Int))),some (.shr (.int (x:Int))),a,b]) (fun k d ρ ex hI=>?_) ⟨none,none,rfl⟩
 obtain ⟨a,b,rfl⟩:=hI
 obtain ⟨hk,rfl⟩:=pY ex
 rw [h.rl j hj] at hk
 refine keep ?_ ⟨_,_,rfl⟩
 rcases mM h hj hk with ey | ⟨y,hy,ey⟩
 ·rw [ey];simp
 ·rw [ey]
  have as:=h.as i j k x y hi hj hk e ey
  have t4:=gu (r:=tb.getD x []) (i:=k) (by rw [h.rl _ hx];exact hk)
  have t5:=gu (r:=tb.getD i []) (i:=y) (by rw [h.rl _ hi];exact hy)
  have ny:(y:Int) ≠ -1:=by omega
  simp [-List.getD_eq_getElem?_getD,t1,t3,t4,t5,as,ny]
theorem j6 (h:cN en re tb):bG [bw tb]=.val .non:=by
 simp only [bG,d_]
 show fin (b_ (tg2 1 2) _ (enu 0 (tb.map bo)) [some (.shr (bw tb)),none,none,none,none])=_
 refine gv (fun ρ=>∃ a b c d,ρ=[some (.shr (bw tb)),a,b,c,d]) (fun k x ρ ex hI=>?_) ⟨none,none,none,none,rfl⟩
 obtain ⟨a,b,c,d,rfl⟩:=hI
 obtain ⟨hk,rfl⟩:=pT ex
 have hk':k < en.length:=by have:=h.tl;omega
 have:=lm (i:=3) (j:=4) (F:=DL.iff (tst (bin fne (vb 4) (una nF (kd (.int 1))))) (drp (cal 4 bH (aC (vr 0) (aC (vr 1) (aC (vr 3) (aC (vr 4) aN)))))) nxt) (fun ρ=>∃ c d,ρ=[some (.shr (bw tb)),some (.shr (.int (k:Int))),some (.shr (bo (tb.getD k []))),c,d]) (xs:=(tb.getD k []).map D.int) (fun m x ρ ex hI=>?_) (ρ:=[some (.shr (bw tb)),some (.shr (.int (k:Int))),some (.shr (bo (tb.getD k []))),c,d]) ⟨c,d,rfl⟩
 ·obtain ⟨ρ',e,c',d',rfl⟩:=this
  exact ⟨_,e,_,_,_,_,rfl⟩
 ·obtain ⟨c,d,rfl⟩:=hI
  obtain ⟨hm,rfl⟩:=pY ex
  have hm':m < en.length:=by rw [h.rl k hk'] at hm;exact hm
  refine keep ?_ ⟨_,_,rfl⟩
  rcases mM h hk' hm' with ey | ⟨y,hy,ey⟩
  ·rw [ey];simp
  ·have:=j7 h hk' hm' ey
   rw [ey]
   have ny:(y:Int) ≠ -1:=by omega
   simp [-List.getD_eq_getElem?_getD,this,ny]
theorem wE (h:cN en re tb):fx (ig (cZ en) (aw re) (bw tb))=.val (.ob (cZ en) (aw re) (bw tb)):=by
 have n1:=h.na40
 have n2:=h.tl
 have hf:b0 (fIt (vr 3)) 1 (tgN 4) tT (eLs (fIt (vb 4))) (ig (cZ en) (aw re) (bw tb))=.val (tb.map bo):=ge (f:=bo) rfl (by omega) fun r _=>rfl
 unfold fx wJ
 rw [hf]
 unfold ig
 simp [-List.getD_eq_getElem?_getD,sN,j8 h,mi h,lD h,mh h,lC h,gH h,j6 h]
 rfl
end
end DL
namespace DL
open PySem L2 Ar
theorem i6 (ns:List Int) (k:Nat):∃ c:Int,au [.scr ns,.int (k:Int)]=.val (.int c):=by
 simp only [au,gA]
 have m1:∀ i:Int,ba i 65521=.val (.int (i % 65521)):=fun i=>eI (by decide)
 have m2:∀ i:Int,df i 48271=.val (.int (i * 48271)):=fun i=>iZ (by decide)
 have m3:∀ i:Int,df i 30103=.val (.int (i * 30103)):=fun i=>iZ (by decide)
 show ∃ c,fin (sq _ _ [some (.shr (.scr ns)),some (.shr (.int (k:Int))),none])=_
 have t1:tst (bin (iI flt) (vb 1) (una aJ (vb 0))) [some (.shr (.scr ns)),some (.shr (.int (k:Int))),none]=.val (decide ((k:Int) < (ns.length:Int))):=Eq.trans rfl rfl
 rw [be,cV,t1,ae]
 by_cases h:k < ns.length
 ·have e:fix (.scr ns) (.int (k:Int))=.val (.int ns[k]):=w_ (List.getElem?_eq_getElem h)
  refine ⟨ns[k],?_⟩
  rw [if_pos (decide_eq_true (Int.ofNat_lt.mpr h)),fj,aS]
  show fin (R.bind (R.bind (fix (.scr ns) (.int (k:Int))) _) _)=_
  rw [e];rfl
 ·rw [if_neg (by rw [decide_eq_false (fun z=>h (Int.ofNat_lt.mp z))];decide),gQ,ae]
  dsimp only
  have t2:tst (bin (iI fgt) (una aJ (vb 0)) (kd (.int 0))) [some (.shr (.scr ns)),some (.shr (.int (k:Int))),some (.shr (.int 0))]=.val (decide ((0:Int) < (ns.length:Int))):=Eq.trans rfl rfl
  have last:∀ b:Int,ret (bin (iI ba) (bin bb (bin (iI df) (bin (iI ba) (vb 2) (kd (.int 65521))) (kd (.int 48271))) (bin (iI df) (vb 1) (kd (.int 30103)))) (kd (.int 65521))) [some (.shr (.scr ns)),some (.shr (.int (k:Int))),some (.shr (.int b))]=.val (.rt (.int ((b % 65521 * 48271 + k * 30103) % 65521))):=fun b=>by
   have v2:vb 2 [some (.shr (.scr ns)),some (.shr (.int (k:Int))),some (.shr (.int b))]=.val (.int b):=Eq.trans rfl rfl
   have v1:vb 1 [some (.shr (.scr ns)),some (.shr (.int (k:Int))),some (.shr (.int b))]=.val (.int (k:Int)):=Eq.trans rfl rfl
   rw [fj,aS _ (iI ba),aS _ bb,aS _ (iI df),aS _ (iI ba),v2,ae,f_,ae,gd,m1,ae,f_,ae,gd,m2,ae,aS _ (iI df),v1,ae,f_,ae,gd,m3,ae,kz,ae,ae,gd,m1,ae]
  have a2:asg 2 (kd (.int 0)) [some (.shr (.scr ns)),some (.shr (.int (k:Int))),none]=.val (.nx [some (.shr (.scr ns)),some (.shr (.int (k:Int))),some (.shr (.int 0))]):=Eq.trans rfl rfl
  rw [be,a2,ae]
  dsimp only
  rw [be,cV,t2,ae]
  by_cases h0:0 < ns.length
  ·have e:fix (.scr ns) (.int 0)=.val (.int ns[0]):=w_ (i:=0) (List.getElem?_eq_getElem h0)
   refine ⟨(ns[0] % 65521 * 48271 + k * 30103) % 65521,?_⟩
   rw [if_pos (decide_eq_true (show (0:Int) < (ns.length:Int) from Int.ofNat_lt.mpr h0)),fA,aS]
   show fin (R.bind (R.bind (fix (.scr ns) (.int 0)) _) _)=_
   rw [e]
   show fin (ret _ [some (.shr (.scr ns)),some (.shr (.int (k:Int))),some (.shr (.int ns[0]))])=_
   rw [last];rfl
  ·refine ⟨(0 % 65521 * 48271 + k * 30103) % 65521,?_⟩
   rw [if_neg (by rw [decide_eq_false (fun (z:(0:Int) < (ns.length:Int))=>h0 (Int.ofNat_lt.mp z))];decide),gQ,ae]
   dsimp only
   rw [last];rfl
theorem i5 (s:Int):∃ c:Int,aM [.int s]=.val (.int c):=by
 simp only [aM,gx]
 have m1:∀ i:Int,ba i 2147483647=.val (.int (i % 2147483647)):=fun i=>eI (by decide)
 have m2:∀ i:Int,df i 48271=.val (.int (i * 48271)):=fun i=>iZ (by decide)
 show ∃ c,fin (ret _ [some (.shr (.int s))])=_
 refine ⟨(s * 48271 + 11) % 2147483647,?_⟩
 simp [m1,m2]
theorem td (m:Nat) (h:m=1\/m=2\/m=3\/m=4):∃ sz ∈ szs,D.lst ((List.range m).map fun _=>D.int 1)=aw sz:=by
 rcases h with rfl | rfl | rfl | rfl
 ·exact ⟨[1],by decide,rfl⟩
 ·exact ⟨[1,1],by decide,rfl⟩
 ·exact ⟨[1,1,1],by decide,rfl⟩
 ·exact ⟨[1,1,1,1],by decide,rfl⟩
noncomputable def l6:List (List Nat):=[[1,2],[2,1],[2,2],[0,2],[2],[1]]
noncomputable def l5:List (List Nat):=[[1,1,2],[0,1,2],[1,2,2],[2,1,0],[2,2]]
theorem zI:∀ i,i < 6->l6.getD i [] ∈ szs:=by decide
theorem zJ:∀ i,i < 5->l5.getD i [] ∈ szs:=by decide
theorem gY (c:Int) (m:Nat) (h:0 < m):∃ i:Nat,i < m/\c % (m:Int)=(i:Int):=by
 have h':(0:Int) < (m:Int):=Int.ofNat_lt.mpr h
 obtain ⟨i,e⟩:=Int.eq_ofNat_of_zero_le (Int.emod_nonneg c (Int.ne_of_gt h'))
 refine ⟨i,?_,e⟩
 have:=Int.emod_lt_of_pos c h'
 rw [e] at this
 exact Int.ofNat_lt.mp this
theorem uO (ns:List Int) (k:Nat):∃ sz ∈ szs,cG [.scr ns,.int (k:Int)]=.val (aw sz):=by
 simp only [cG,fJ]
 obtain ⟨c,hc⟩:=i6 ns k
 have d4:dz c 4=.val (.int (c / 4)):=nK (by decide)
 show ∃ sz ∈ szs,fin (sq _ _ [some (.shr (.scr ns)),some (.shr (.int (k:Int))),none,none])=_
 have x1:asg 2 (cal 2 au (aC (vr 0) (aC (vr 1) aN))) [some (.shr (.scr ns)),some (.shr (.int (k:Int))),none,none]=.val (.nx [some (.shr (.scr ns)),some (.shr (.int (k:Int))),some (.shr (.int c)),none]):=by
  rw [fA,u9]
  show R.bind (noex (au [.scr ns,.int (k:Int)])) _=_
  rw [hc];rfl
 have x2:asg 3 (bin (iI ba) (vb 2) (kd (.int 4))) [some (.shr (.scr ns)),some (.shr (.int (k:Int))),some (.shr (.int c)),none]=.val (.nx [some (.shr (.scr ns)),some (.shr (.int (k:Int))),some (.shr (.int c)),some (.shr (.int (c % 4)))]):=by
  rw [fA,aS]
  show R.bind (ba c 4) _=_
  rw [eI (by decide)];rfl
 rw [be,x1,ae];dsimp only
 rw [be,x2,ae];dsimp only
 have ix:∀ (w:Int) (m:Int),0 < m->bin (iI ba) (bin (iI dz) (vb 2) (kd (.int 4))) (kd (.int m)) [some (.shr (.scr ns)),some (.shr (.int (k:Int))),some (.shr (.int c)),some (.shr (.int w))]=.val (.int (c / 4 % m)):=fun w m hm=>by
  rw [aS,aS]
  show R.bind (dz c 4) _=_
  rw [d4]
  show ba (c / 4) m=_
  exact eI hm
 have ts:∀ (w:Int) (m:Int),tst (bin feq (vb 3) (kd (.int m))) [some (.shr (.scr ns)),some (.shr (.int (k:Int))),some (.shr (.int c)),some (.shr (.int w))]=.val (decide (w=m)):=fun w m=>by
  rw [cK,aS]
  show R.bind (feq (.int w) (.int m)) asB=_
  rw [nI];rfl
 obtain ⟨i,hi,ei⟩:=gY c 4 (by decide)
 have ei:c % 4=(i:Int):=ei
 rw [ei]
 match i,hi with
 | 0,_ =>
  obtain ⟨j,hj,ej⟩:=gY (c / 4) 4 (by decide)
  have ej:c / 4 % 4=(j:Int):=ej
  have hz:lV [.int (1 + c / 4 % 4)]=.val (rng 0 (1 + j)):=by
   rw [ej]
   have:=dO (n:=1 + j) (Nat.le_trans (Nat.add_le_add_left (Nat.le_of_lt hj) 1) (by decide))
   rw [Int.natCast_add] at this
   exact this
  have hf:b0 (dl (aC (bin bb (kd (.int 1)) (bin (iI ba) (bin (iI dz) (vb 2) (kd (.int 4))) (kd (.int 4)))) aN)) 1 (tgN 4) tT (kd (.int 1)) [some (.shr (.scr ns)),some (.shr (.int (k:Int))),some (.shr (.int c)),some (.shr (.int ((0:Nat):Int)))]=.val ((List.range (1 + j)).map fun _=>D.int 1):=by
   refine i4 ?_ (Nat.le_trans (Nat.add_le_add_left (Nat.le_of_lt hj) 1) (by decide)) fun k _=>rfl
   rw [i3,eO,aS,f_,ae,ix _ 4 (by decide),ae,kz,ae,lT,ae,ae,hz]
  obtain ⟨sz,hs,e⟩:=td (1 + j) (by
   match j,hj with
   | 0,_=>exact .inl rfl
   | 1,_=>exact .inr (.inl rfl)
   | 2,_=>exact .inr (.inr (.inl rfl))
   | 3,_=>exact .inr (.inr (.inr rfl)))
  refine ⟨sz,hs,?_⟩
  rw [be,cV,ts,ae,if_pos (by decide),fj,dZ,hf,ae,ae,ae]
  exact congrArg R.val e
 | 1,_ =>
  obtain ⟨j,hj,ej⟩:=gY (c / 4) 6 (by decide)
  have ej:c / 4 % 6=(j:Int):=ej
  refine ⟨_,zI j hj,?_⟩
  have el:eL (aC (eL (aC (kd (.int 1)) (aC (kd (.int 2)) aN))) (aC (eL (aC (kd (.int 2)) (aC (kd (.int 1)) aN))) (aC (eL (aC (kd (.int 2)) (aC (kd (.int 2)) aN))) (aC (eL (aC (kd (.int 0)) (aC (kd (.int 2)) aN))) (aC (eL (aC (kd (.int 2)) aN)) (aC (eL (aC (kd (.int 1)) aN)) aN)))))) [some (.shr (.scr ns)),some (.shr (.int (k:Int))),some (.shr (.int c)),some (.shr (.int ((1:Nat):Int)))]=.val (.lst (l6.map aw)):=Eq.trans rfl rfl
  rw [be,cV,ts,ae,if_neg (by decide),gQ,ae];dsimp only
  rw [be,cV,ts,ae,if_pos (by decide),fj,aS,el,ae,ix _ 6 (by decide),ae,ej,im (fo (d:=[]) hj)]
  rfl
 | 2,_ =>
  refine ⟨[3],by decide,?_⟩
  rw [be,cV,ts,ae,if_neg (by decide),gQ,ae];dsimp only
  rw [be,cV,ts,ae,if_neg (by decide),gQ,ae];dsimp only
  rw [be,cV,ts,ae,if_pos (by decide)]
  exact Eq.trans rfl rfl
 | 3,_ =>
  obtain ⟨j,hj,ej⟩:=gY (c / 4) 5 (by decide)
  have ej:c / 4 % 5=(j:Int):=ej
  refine ⟨_,zJ j hj,?_⟩
  have el:eL (aC (eL (aC (kd (.int 1)) (aC (kd (.int 1)) (aC (kd (.int 2)) aN)))) (aC (eL (aC (kd (.int 0)) (aC (kd (.int 1)) (aC (kd (.int 2)) aN)))) (aC (eL (aC (kd (.int 1)) (aC (kd (.int 2)) (aC (kd (.int 2)) aN)))) (aC (eL (aC (kd (.int 2)) (aC (kd (.int 1)) (aC (kd (.int 0)) aN)))) (aC (eL (aC (kd (.int 2)) (aC (kd (.int 2)) aN))) aN))))) [some (.shr (.scr ns)),some (.shr (.int (k:Int))),some (.shr (.int c)),some (.shr (.int ((3:Nat):Int)))]=.val (.lst (l5.map aw)):=Eq.trans rfl rfl
  rw [be,cV,ts,ae,if_neg (by decide),gQ,ae];dsimp only
  rw [be,cV,ts,ae,if_neg (by decide),gQ,ae];dsimp only
  rw [be,cV,ts,ae,if_neg (by decide),gQ,ae];dsimp only
  rw [fj,aS,el,ae,ix _ 5 (by decide),ae,ej,im (fo (d:=[]) hj)]
  rfl
end DL
namespace DL
open PySem L2 Ar
noncomputable def fZ (x:Arr):KA:=((x.1:Int),(x.2.1:Int),x.2.2.map fun (n:Nat)=>(n:Int))
theorem mI:∀ l:List Nat,iV (l.map nD)=some (l.map fun (n:Nat)=>(n:Int))
 | []=>rfl
 | a :: l=>by
  show (iV (l.map nD)).map _=_
  rw [mI l];rfl
theorem fY (x:Arr):me (az x)=some (fZ x):=by
 show (iV (x.2.2.map nD)).map _=_
 rw [mI];rfl
theorem lu {x y:Arr} (h:fZ x=fZ y):x=y:=by
 obtain ⟨a,b,l⟩:=x
 obtain ⟨c,d,m⟩:=y
 simp only [fZ,Prod.mk.injEq] at h
 obtain ⟨h1,h2,h3⟩:=h
 have e3:l=m:=by
  have:∀ {l m:List Nat},(l.map fun (n:Nat)=>(n:Int))=(m.map fun (n:Nat)=>(n:Int))->l=m:=by
   intro l
   induction l with
   | nil=>intro m h;cases m with
    | nil=>rfl
    | cons _ _=>simp at h
   | cons a l ih=>intro m h;cases m with
    | nil=>simp at h
    | cons b m =>
     simp only [List.map_cons,List.cons.injEq] at h
     rw [ih h.2];congr 1;omega
  exact this h3
 rw [e3,show a=c by omega,show b=d by omega]
noncomputable def met (kn:List Arr):List (KA × D):=kn.map fun x=>(fZ x,.bl true)
theorem qW (kn:List Arr) (x:Arr):((met kn).any fun p=>decide (p.1=fZ x))=decide (x ∈ kn):=by
 unfold met
 rw [List.any_map]
 by_cases h:x ∈ kn
 ·rw [decide_eq_true h,List.any_eq_true]
  exact ⟨x,h,by simp⟩
 ·rw [decide_eq_false h,List.any_eq_false]
  intro y hy
  simp only [Function.comp,decide_eq_true_eq]
  exact fun e=>h (lu e ▸ hy)
theorem qV {kn:List Arr} {x:Arr} (h:x ∉ kn):lq (met kn) (fZ x) (.bl true)=met (kn ++ [x]):=by
 unfold lq
 rw [qW,decide_eq_false h,if_neg (by decide)]
 unfold met
 rw [List.map_append];rfl
theorem qX:∀ (l acc:List Arr),(acc ++ l).Nodup->(acc ++ l).length<=100000->oW (l.map az) (met acc)=some (met (acc ++ l))
 | [],acc,_,_=>by rw [List.append_nil];rfl
 | x :: l,acc,nd,hl=>by
  have hx:x ∉ acc:=fun h=>by
   rw [List.nodup_append] at nd
   exact nd.2.2 x h x (by simp) rfl
  have e:acc ++ x :: l=(acc ++ [x]) ++ l:=by simp
  rw [List.map_cons]
  unfold oW
  rw [fY]
  dsimp only
  have hl1:(met acc).length<=100000:=by unfold met;rw [List.length_map];simp at hl;omega
  rw [if_pos hl1,qV hx,e]
  exact qX l (acc ++ [x]) (by rw [<- e];exact nd) (by rw [<- e];exact hl)
section
variable (ρ:Rho)
@[simp] theorem rJ (i:Nat):u3 i ρ=.val (.nx (ρ.set i (some (.dic [])))):=Eq.trans rfl rfl
theorem iB {i:Nat} {e:Rho->R D} {xs:List D} {d:D} (h:ρ[i]?=some (some (.own xs))) (he:e ρ=.val d) (hl:xs.length < 100000):app i e ρ=.val (.nx (ρ.set i (some (.own (xs ++ [d]))))):=by
 unfold app;rw [h];dsimp only;rw [he,ae,if_pos (show xs.length < LIM from hl)]
theorem uA {i:Nat} {k e:Rho->R D} {xs:List D} {n:Nat} {d:D} (h:ρ[i]?=some (some (.own xs))) (hk:k ρ=.val (.int (n:Int))) (he:e ρ=.val d) (hn:n<=xs.length) (hl:xs.length < 100000):ins i k e ρ=.val (.nx (ρ.set i (some (.own (xs.take n ++ d :: xs.drop n))))):=by
 unfold ins;rw [h];dsimp only;rw [hk,ae,he,ae];dsimp only
 rw [if_pos ⟨by omega,by omega,(show xs.length < LIM from hl)⟩];rfl
theorem rH {i:Nat} {k e:Rho->R D} {kvs:List (KA × D)} {kd d:D} {ka:KA} (h:ρ[i]?=some (some (.dic kvs))) (hk:k ρ=.val kd) (he:e ρ=.val d) (ek:me kd=some ka) (hl:kvs.length<=100000):nV i k e ρ=.val (.nx (ρ.set i (some (.dic (lq kvs ka d))))):=by
 unfold nV;rw [he,ae,hk,iQ,ae,ek];dsimp only;rw [h];dsimp only;rw [if_pos hl]
theorem rK {i:Nat} {k:Rho->R D} {kvs:List (KA × D)} {kd d:D} {ka:KA} (h:ρ[i]?=some (some (.dic kvs))) (hk:k ρ=.val kd) (ek:me kd=some ka) (hg:qd kvs ka=some d):nX i k ρ=.val d:=by
 unfold nX;rw [h];dsimp only;rw [hk,ae,ek];dsimp only;rw [hg]
theorem wI {i:Nat} {k:Rho->R D} {kvs:List (KA × D)} {kd:D} {ka:KA} (h:ρ[i]?=some (some (.dic kvs))) (hk:k ρ=.val kd) (ek:me kd=some ka):u0 i k ρ=.val (!(kvs.any fun p=>decide (p.1=ka))):=by
 unfold u0;rw [hk,ae,h];dsimp only;rw [ek]
end
noncomputable def rC (kn:List Arr) (a:Nat) (o f s m:Option Slt):Rho:=[some (.own (kn.map az)),some (.dic (met kn)),none,some (.shr (nD a)),o,f,s,m]
noncomputable abbrev lR:Rho->R Out:=DL.iff (tst (bin feq (bin fix (vb 5) (kd (.int 1))) (bin fix (vb 6) (kd (.int 0)))))
 (sq (asg 7 (eT (aC (bin fix (vb 5) (kd (.int 0))) (aC (bin fix (vb 6) (kd (.int 1))) (aC (una ii (eLs (b0 (fIt (bin fix (vb 5) (kd (.int 2)))) 1 (tgN 8) tT (bin fix (bin fix (vb 6) (kd (.int 2))) (vb 8))))) aN)))))
 (DL.iff (u0 1 (vr 7))
 (sq (nV 1 (vr 7) (kd (.bl true)))
 (app 0 (vr 7)))
 nxt))
 nxt
theorem yh {sz:List Nat} {f s:Arr} (hf:Ok sz f) (hs:Ok sz s) (e:f.2.1=s.1):∀ i ∈ f.2.2,i < s.2.2.length:=by
 obtain ⟨n,m,h1,h2,h3,h4⟩:=hf
 obtain ⟨n',m',g1,g2,g3,g4⟩:=hs
 have hm:m=n':=by rw [e] at h2;rw [h2] at g1;exact Option.some.inj g1
 intro i hi
 rw [g3,<- hm];exact h4 i hi
theorem yg {sz:List Nat} (hz:sz ∈ szs) {f:Arr} (hf:Ok sz f):f.2.2.length<=3:=by
 obtain ⟨n,m,h1,h2,h3,h4⟩:=hf
 rw [h3]
 exact (hZ sz hz).2.2 n (List.mem_of_getElem? h1)
theorem Kn.few {sz kn} (hz:sz ∈ szs) (g:Kn sz kn):kn.length<=27 :=
 Nat.le_trans (fH g.nd fun x hx=>oX (g.ok x hx)) (oy sz hz)
theorem rL {sz:List Nat} (hz:sz ∈ szs) {f s:Arr} (hf:Ok sz f) (hs:Ok sz s) (e:f.2.1=s.1) {src:Rho->R (List D)} {el:Rho->R D} {ρ:Rho} {i:Nat} (h1:src ρ=.val (f.2.2.map nD)) (h2:∀ k:Nat,el ((ρ ++ List.replicate 1 none).set i (some (.shr (nD k))))=fix (.tup (s.2.2.map nD)) (.int (k:Int))) :
  b0 src 1 (tgN i) tT el ρ=.val ((comp f s).2.2.map nD):=by
 have hl:=yg hz hf
 have:=ge (f:=nD) (g:=fun k=>nD (s.2.2.getD k 0)) (n:=1) (i:=i) (e:=el) h1 (by omega) fun k hk=>by
  rw [h2 k]
  exact rg (fo (yh hf hs e k hk))
 rw [this]
 simp only [comp,List.map_map];rfl
theorem pi {sz kn:List _} (hz:sz ∈ szs) (hk:Kn sz kn) {f s:Arr} (hf:Ok sz f) (hs:Ok sz s) (a:Nat) (o m:Option Slt) :
  ∃ m',lR (rC kn a o (some (.shr (az f))) (some (.shr (az s))) m)=.val (.nx (rC (gL kn f s) a o (some (.shr (az f))) (some (.shr (az s))) m')):=by
 have few:=Kn.few hz hk
 unfold gL
 by_cases e:f.2.1=s.1
 ·rw [if_pos e]
  have hc:=rL hz hf hs e (src:=fIt (bin fix (vb 5) (kd (.int 2)))) (el:=bin fix (bin fix (vb 6) (kd (.int 2))) (vb 8)) (i:=8) (ρ:=rC kn a o (some (.shr (az f))) (some (.shr (az s))) m) (by simp [rC]) (fun k=>by simp [rC])
  refine ⟨some (.shr (az (comp f s))),?_⟩
  have ht:tst (bin feq (bin fix (vb 5) (kd (.int 1))) (bin fix (vb 6) (kd (.int 0)))) (rC kn a o (some (.shr (az f))) (some (.shr (az s))) m)=.val true:=by
   unfold rC;simp [e]
  have hv:eT (aC (bin fix (vb 5) (kd (.int 0))) (aC (bin fix (vb 6) (kd (.int 1))) (aC (una ii (eLs (b0 (fIt (bin fix (vb 5) (kd (.int 2)))) 1 (tgN 8) tT (bin fix (bin fix (vb 6) (kd (.int 2))) (vb 8))))) aN))) (rC kn a o (some (.shr (az f))) (some (.shr (az s))) m)=.val (az (comp f s)):=by
   simp only [pk,eO,gJ,dZ,hc]
   unfold rC;simp;rfl
  show DL.iff _ _ _ _=_
  rw [cV,ht,ae,if_pos rfl,be,fA,hv]
  show DL.iff _ _ _ (rC kn a o (some (.shr (az f))) (some (.shr (az s))) (some (.shr (az (comp f s)))))=_
  unfold mr
  rw [cV,wI (kvs:=met kn) _ rfl (kd:=az (comp f s)) rfl (fY _),qW]
  by_cases hin:comp f s ∈ kn
  ·rw [if_pos hin,decide_eq_true hin];rfl
  ·rw [if_neg hin,decide_eq_false hin]
   show sq _ _ _=_
   rw [be,rH (kvs:=met kn) _ rfl (kd:=az (comp f s)) rfl (d:=.bl true) rfl (fY _) (by unfold met;rw [List.length_map];omega),qV hin]
   rw [ae]
   dsimp only
   rw [iB (xs:=kn.map az) _ rfl (d:=az (comp f s)) rfl (by rw [List.length_map];omega)]
   unfold rC
   rw [List.map_append];rfl
 ·rw [if_neg e]
  refine ⟨m,?_⟩
  have e':¬ ((f.2.1:Int)=(s.1:Int)):=by omega
  unfold rC
  simp [e']
noncomputable abbrev tf:Rho->R (List D):=fIt (eL (aC (eT (aC (bin fix (vb 0) (vb 3)) (aC (vr 4) aN))) (aC (eT (aC (vr 4) (aC (bin fix (vb 0) (vb 3)) aN))) aN)))
theorem wt {sz kn:List _} (hz:sz ∈ szs) (hk:Kn sz kn) {a:Nat} {k o:Arr} (ha:kn[a]?=some k) (ho:Ok sz o) (f s m:Option Slt) :
  ∃ f' s' m',bE tf (tg2 5 6) lR (rC kn a (some (.shr (az o))) f s m)=.val (.nx (rC (jg k kn o) a (some (.shr (az o))) f' s' m')):=by
 have hkk:Ok sz k:=hk.ok k (List.mem_of_getElem? ha)
 have hx:fix (.lst (kn.map az)) (.int (a:Int))=.val (az k):=im (by rw [List.getElem?_map,ha];rfl)
 have hs:tf (rC kn a (some (.shr (az o))) f s m)=.val [.tup [az k,az o],.tup [az o,az k]]:=by
  unfold rC;simp [hx]
 obtain ⟨m1,e1⟩:=pi hz hk hkk ho a (some (.shr (az o))) m
 obtain ⟨m2,e2⟩:=pi hz (kH hk hkk ho) ho hkk a (some (.shr (az o))) m1
 refine ⟨some (.shr (az o)),some (.shr (az k)),m2,?_⟩
 rw [dD,hs,ae]
 unfold b_
 show (lR (rC kn a (some (.shr (az o))) (some (.shr (az k))) (some (.shr (az o))) m)).bind _=_
 rw [e1,ae]
 dsimp only
 unfold b_
 show (lR (rC (gL kn k o) a (some (.shr (az o))) (some (.shr (az o))) (some (.shr (az k))) m1)).bind _=_
 rw [e2,ae]
 rfl
theorem rj {sz:List Nat} (hz:sz ∈ szs) {a:Nat} {k:Arr}:∀ (snap:List Arr) {kn:List Arr} (hk:Kn sz kn) (ha:kn[a]?=some k) (hs:∀ o ∈ snap,Ok sz o) (o f s m:Option Slt),
  ∃ o' f' s' m',b_ (tgN 4) (bE tf (tg2 5 6) lR) (snap.map az) (rC kn a o f s m)=.val (.nx (rC (nh k kn snap) a o' f' s' m'))
 | [],kn,hk,ha,hs,o,f,s,m=>⟨o,f,s,m,rfl⟩
 | q :: r,kn,hk,ha,hs,o,f,s,m=>by
  have hq:=hs q (by simp)
  have hkk:Ok sz k:=hk.ok k (List.mem_of_getElem? ha)
  obtain ⟨f1,s1,m1,e1⟩:=wt hz hk ha hq f s m
  obtain ⟨o2,f2,s2,m2,e2⟩:=rj hz r (qC hk hkk hq) (qO (ou k kn q) ha) (fun x hx=>hs x (by simp [hx])) (some (.shr (az q))) f1 s1 m1
  refine ⟨o2,f2,s2,m2,?_⟩
  rw [List.map_cons]
  unfold b_
  show (bE tf (tg2 5 6) lR (rC kn a (some (.shr (az q))) f s m)).bind _=_
  rw [e1,ae]
  exact e2
noncomputable abbrev vf:Rho->R Out:=sq (bE (fIt (eLs (fIt (vb 0)))) (tgN 4) (bE tf (tg2 5 6) lR)) (asg 3 (bin bb (vb 3) (kd (.int 1))))
noncomputable abbrev u4:Rho->R Bool:=tst (bin (iI flt) (vb 3) (una aJ (vb 0)))
theorem uU {sz:List Nat} (hz:sz ∈ szs) {a:Nat} {k:Arr} {kn:List Arr} (hk:Kn sz kn) (ha:kn[a]?=some k) (o f s m:Option Slt) :
  ∃ o' f' s' m',vf (rC kn a o f s m)=.val (.nx (rC (nh k kn kn) (a + 1) o' f' s' m')):=by
 obtain ⟨o',f',s',m',e⟩:=rj hz kn hk ha hk.ok o f s m
 refine ⟨o',f',s',m',?_⟩
 show sq _ _ _=_
 rw [be,dD]
 have:fIt (eLs (fIt (vb 0))) (rC kn a o f s m)=.val (kn.map az):=by unfold rC;simp
 rw [this,ae,e,ae]
 show asg 3 _ _=_
 unfold rC
 simp
theorem pe {sz:List Nat} (hz:sz ∈ szs):∀ (n a:Nat) (kn:List Arr) (o f s m:Option Slt),Kn sz kn->Cl kn a->a<=kn.length->28<=n + a ->
  ∃ kn' a' o' f' s' m',whD u4 vf n (rC kn a o f s m)=.val (.nx (rC kn' a' o' f' s' m'))/\Kn sz kn'/\kn <+: kn'/\Cl kn' kn'.length
 | 0,a,kn,o,f,s,m,hk,hc,hl,hn=>by have:=Kn.few hz hk;omega
 | n + 1,a,kn,o,f,s,m,hk,hc,hl,hn=>by
  have hcond:u4 (rC kn a o f s m)=.val (decide (a < kn.length)):=by
   unfold rC;simp
  unfold whD
  rw [hcond,ae]
  by_cases h:a < kn.length
  ·rw [decide_eq_true h,if_pos rfl]
   have ha:kn[a]?=some kn[a]:=by simp [h]
   obtain ⟨o',f',s',m',e⟩:=uU hz hk ha o f s m
   have hkk:Ok sz kn[a]:=hk.ok _ (List.getElem_mem h)
   have pre:=gO kn[a] kn kn
   obtain ⟨kn',a',o2,f2,s2,m2,e2,g1,g2,g3⟩:=pe hz n (a + 1) (nh kn[a] kn kn) o' f' s' m' (qS hkk hk hk.ok) (vT hc ha) (Nat.le_trans h pre.length_le) (by omega)
   rw [e,ae]
   exact ⟨kn',a',o2,f2,s2,m2,e2,g1,pre.trans g2,g3⟩
  ·rw [decide_eq_false h]
   have:a=kn.length:=by omega
   subst this
   exact ⟨kn,kn.length,o,f,s,m,rfl,hk,List.prefix_refl _,hc⟩
theorem sF {sz kn:List _} (hz:sz ∈ szs) (hk:Kn sz kn):∃ kn',bT (kn.map az)=.val (.lst (kn'.map az))/\Kn sz kn'/\kn <+: kn'/\∀ x ∈ kn',∀ y ∈ kn',x.2.1=y.1->comp x y ∈ kn':=by
 have few:=Kn.few hz hk
 obtain ⟨kn',a',o',f',s',m',e,g1,g2,g3⟩:=pe hz 30 0 kn none none none none hk (fun i j x y hi=>absurd hi (Nat.not_lt_zero _)) (Nat.zero_le _) (by omega)
 refine ⟨kn',?_,g1,g2,yT g3⟩
 have hm:oW (kn.map az) []=some (met kn):=qX kn [] (by simpa using hk.nd) (by simp;omega)
 have h0:ly 0 2 1 [some (.own (kn.map az)),some (.dic []),none,none,none,none,none,none]=.val (.nx [some (.own (kn.map az)),some (.dic (met kn)),none,none,none,none,none,none]):=by
  show (match oW (kn.map az) [] with | some kvs'=>_ | none=>_)=_
  rw [hm];rfl
 simp only [bT,ft]
 show fin (sq (u3 1) _ [some (.own (kn.map az)),none,none,none,none,none,none,none])=_
 rw [be,rJ,ae]
 show fin (sq (ly 0 2 1) _ [some (.own (kn.map az)),some (.dic []),none,none,none,none,none,none])=_
 rw [be,h0,ae]
 show fin (sq (asg 3 (kd (.int 0))) _ [some (.own (kn.map az)),some (.dic (met kn)),none,none,none,none,none,none])=_
 rw [be,fA,f_,ae,ae]
 show fin (sq (whD u4 vf 30) _ (rC kn 0 none none none none))=_
 rw [be,e,ae]
 rfl
end DL
namespace DL
open PySem L2 Ar
theorem vB (n:Nat):rng 0 n=(List.range n).map nD:=by
 unfold rng
 apply List.map_congr_left
 intro k _
 simp [nD]
theorem qK {n:Nat} (h:n<=100000):rgT [.int (n:Int)]=.val (.tup ((List.range n).map nD)):=by
 have:-(2 ^ 62)<=(n:Int)/\(n:Int)<=100000:=by constructor <;> omega
 unfold rgT
 dsimp only
 rw [if_pos this,Int.toNat_natCast,vB]
theorem uG (x:Arr) (kn:List Arr):j5 true (az x) (.lst (kn.map az))=.val (.bl (!decide (x ∈ kn))):=by
 have h1:eqb 8 (az x)=true:=eE (h9 x)
 have h2:(kn.map az).all (eqb 8)=true:=by
  rw [List.all_eq_true]
  intro y hy
  obtain ⟨a,_,rfl⟩:=List.mem_map.mp hy
  exact eE (h9 a)
 unfold j5
 dsimp only
 rw [if_pos ⟨h1,h2⟩]
 have:((kn.map az).any fun y=>pyq 8 y (az x))=decide (x ∈ kn):=by
  rw [List.any_map]
  by_cases h:x ∈ kn
  ·rw [decide_eq_true h,List.any_eq_true]
   exact ⟨x,h,(h7 8 (h9 x) (h9 x)).mpr rfl⟩
  ·rw [decide_eq_false h,List.any_eq_false]
   intro y hy e
   exact h (arrD_inj.mp ((h7 8 (h9 y) (h9 x)).mp e) ▸ hy)
 rw [this];rfl
theorem rX:∀ sz ∈ szs,∀ a,a < sz.length->∀ b,b < sz.length->sz.getD a 0=3->sz.getD b 0=3:=by decide +kernel
theorem ib {sz:List Nat} {i:Nat} (h:i < sz.length):fix (aw sz) (.int (i:Int))=.val (.int ((sz.getD i 0:Nat):Int)):=dE h
theorem yC {sz:List Nat} {b:Nat} (h:b < sz.length):Ok sz (idm sz b):=by
 refine ⟨sz[b],sz[b],by simp [idm,h],by simp [idm,h],?_,fun y hy=>?_⟩
 ·simp [idm,h]
 ·simp [idm,h] at hy;exact hy
theorem yB (sz:List Nat):Kn sz ((List.range sz.length).map (idm sz)):=by
 refine ⟨?_,fun x hx=>?_⟩
 ·unfold List.Nodup
  rw [List.pairwise_map]
  exact List.nodup_range.imp fun {a b} h e=>h (by simpa [idm] using congrArg (·.1) e)
 ·obtain ⟨b,hb,rfl⟩:=List.mem_map.mp hx
  exact yC (List.mem_range.mp hb)
noncomputable def rA (ns:List Int) (k:Nat) (sz:List Nat) (known:Slt) (st:Int) (a5 a6 a7 a8 a9 a10 a11:Option Slt):Rho:=[some (.shr (.scr ns)),some (.shr (nD k)),some (.shr (aw sz)),some known,some (.shr (.int st)),a5,a6,a7,a8,a9,a10,a11]
section
variable {ns:List Int} {k:Nat} {sz:List Nat}
noncomputable abbrev tz:Rho->R Out:=sq (asg 4 (cal 1 aM (aC (vr 4) aN)))
 (DL.iff (tst (bin feq (bin fix (vb 2) (vb 6)) (kd (.int 3))))
 (ins 8 (bin (iI ba) (bin (iI dz) (vb 4) (kd (.int 64))) (bin bb (vb 9) (kd (.int 1)))) (vr 9))
 (app 8 (bin (iI ba) (bin (iI dz) (vb 4) (kd (.int 64))) (nS (aC (kd (.int 1)) (aC (bin fix (vb 2) (vb 7)) aN))))))
noncomputable def bnd (s1 s2:Nat):Nat:=if s1=3 then 3 else max 1 s2
theorem d64 (i:Int):dz i 64=.val (.int (i / 64)):=nK (by decide)
theorem wx {known:Slt} {st:Int} {o1 o2 x:Nat} {l:List Nat} {a5 a10 a11:Option Slt} (h1:o1 < sz.length) (h2:o2 < sz.length) (hx:x < sz.getD o1 0) (hl:l.length=x) (hx3:sz.getD o1 0<=3) (hb:∀ y ∈ l,y < bnd (sz.getD o1 0) (sz.getD o2 0)) :
  ∃ (st':Int) (l':List Nat),tz (rA ns k sz known st a5 (some (.shr (nD o1))) (some (.shr (nD o2))) (some (.own (l.map nD))) (some (.shr (nD x))) a10 a11)=.val (.nx (rA ns k sz known st' a5 (some (.shr (nD o1))) (some (.shr (nD o2))) (some (.own (l'.map nD))) (some (.shr (nD x))) a10 a11))/\l'.length=x + 1/\∀ y ∈ l',y < bnd (sz.getD o1 0) (sz.getD o2 0):=by
 obtain ⟨st',hst⟩:=i5 st
 have f1:=ib (sz:=sz) h1
 have f2:=ib (sz:=sz) h2
 have hA:asg 4 (cal 1 aM (aC (vr 4) aN)) (rA ns k sz known st a5 (some (.shr (nD o1))) (some (.shr (nD o2))) (some (.own (l.map nD))) (some (.shr (nD x))) a10 a11)=.val (.nx (rA ns k sz known st' a5 (some (.shr (nD o1))) (some (.shr (nD o2))) (some (.own (l.map nD))) (some (.shr (nD x))) a10 a11)):=by
  unfold rA;simp [hst]
 have hT:tst (bin feq (bin fix (vb 2) (vb 6)) (kd (.int 3))) (rA ns k sz known st' a5 (some (.shr (nD o1))) (some (.shr (nD o2))) (some (.own (l.map nD))) (some (.shr (nD x))) a10 a11)=.val (decide (((sz.getD o1 0:Nat):Int)=3)):=by
  unfold rA;simp [-List.getD_eq_getElem?_getD,f1]
 show ∃ (st':Int) (l':List Nat),sq _ _ _=_/\_
 rw [be,hA,ae]
 dsimp only
 rw [cV,hT,ae]
 by_cases e3:sz.getD o1 0=3
 ·rw [if_pos (by simp [-List.getD_eq_getElem?_getD,e3])]
  have hm:ba (st' / 64) ((x:Int) + 1)=.val (.int (st' / 64 % ((x:Int) + 1))):=eI (by omega)
  have p0:0<=st' / 64 % ((x:Int) + 1):=Int.emod_nonneg _ (by omega)
  have p1:st' / 64 % ((x:Int) + 1) < (x:Int) + 1:=Int.emod_lt_of_pos _ (by omega)
  obtain ⟨p,hp⟩:∃ p:Nat,st' / 64 % ((x:Int) + 1)=(p:Int):=⟨_,(Int.toNat_of_nonneg p0).symm⟩
  refine ⟨st',l.take p ++ x :: l.drop p,?_,?_,fun y hy=>?_⟩
  ·rw [uA (xs:=l.map nD) (n:=p) (d:=nD x) _ rfl (by unfold rA;simp [d64,hm,hp]) rfl (by rw [List.length_map];omega) (by rw [List.length_map];omega)]
   unfold rA
   simp
  ·rw [List.length_append,List.length_cons,List.length_take,List.length_drop];omega
  ·unfold bnd
   rw [if_pos e3]
   rcases List.mem_append.mp hy with q | q
   ·have:=hb y (List.mem_of_mem_take q)
    unfold bnd at this;rw [if_pos e3] at this;exact this
   ·rcases List.mem_cons.mp q with q | q
    ·rw [q];omega
    ·have:=hb y (List.mem_of_mem_drop q)
     unfold bnd at this;rw [if_pos e3] at this;exact this
 ·have e3':¬ (((sz.getD o1 0:Nat):Int)=3):=by omega
  rw [if_neg (by simp [-List.getD_eq_getElem?_getD];exact e3')]
  have hmx:(if ((sz.getD o2 0:Nat):Int) > 1 then ((sz.getD o2 0:Nat):Int) else 1)=((max 1 (sz.getD o2 0):Nat):Int):=by
   split <;> omega
  have hm:ba (st' / 64) ((max 1 (sz.getD o2 0):Nat):Int)=.val (.int (st' / 64 % ((max 1 (sz.getD o2 0):Nat):Int))):=eI (by omega)
  have p0:0<=st' / 64 % ((max 1 (sz.getD o2 0):Nat):Int):=Int.emod_nonneg _ (by omega)
  have p1:st' / 64 % ((max 1 (sz.getD o2 0):Nat):Int) < ((max 1 (sz.getD o2 0):Nat):Int):=Int.emod_lt_of_pos _ (by omega)
  obtain ⟨p,hp⟩:∃ p:Nat,st' / 64 % ((max 1 (sz.getD o2 0):Nat):Int)=(p:Int):=⟨_,(Int.toNat_of_nonneg p0).symm⟩
  refine ⟨st',l ++ [p],?_,by rw [List.length_append,hl];rfl,fun y hy=>?_⟩
  ·rw [iB (xs:=l.map nD) (d:=nD p) _ rfl (by unfold rA;simp only [aS,gJ,zd,f_,ae,rG,eO,lT,gd,List.getElem?_cons_succ,List.getElem?_cons_zero,f2,rd,d64];rw [hmx,hm,hp]) (by rw [List.length_map];omega)]
   unfold rA
   simp
  ·rcases List.mem_append.mp hy with q | q
   ·exact hb y q
   ·rw [List.mem_singleton.mp q]
    unfold bnd;rw [if_neg e3];omega
theorem wv {known:Slt} {st:Int} {o1 o2:Nat} {a5 a9 a10 a11:Option Slt} (h1:o1 < sz.length) (h2:o2 < sz.length) (hx3:sz.getD o1 0<=3) :
  ∃ (st':Int) (l:List Nat) (a9':Option Slt),b_ (tgN 9) tz (rng 0 (sz.getD o1 0)) (rA ns k sz known st a5 (some (.shr (nD o1))) (some (.shr (nD o2))) (some (.own [])) a9 a10 a11)=.val (.nx (rA ns k sz known st' a5 (some (.shr (nD o1))) (some (.shr (nD o2))) (some (.own (l.map nD))) a9' a10 a11))/\l.length=sz.getD o1 0/\∀ y ∈ l,y < bnd (sz.getD o1 0) (sz.getD o2 0):=by
 obtain ⟨ρ',e,st',l,a9',rfl,g1,g2⟩:=gR (i:=9) (n:=sz.getD o1 0) (F:=tz) (ρ:=rA ns k sz known st a5 (some (.shr (nD o1))) (some (.shr (nD o2))) (some (.own [])) a9 a10 a11) (fun x ρ=>∃ (st:Int) (l:List Nat) (a9:Option Slt),ρ=rA ns k sz known st a5 (some (.shr (nD o1))) (some (.shr (nD o2))) (some (.own (l.map nD))) a9 a10 a11/\l.length=x/\∀ y ∈ l,y < bnd (sz.getD o1 0) (sz.getD o2 0)) (fun x ρ hx hI=>by
  obtain ⟨st,l,a9,rfl,hl,hb⟩:=hI
  obtain ⟨st',l',e,g1,g2⟩:=wx (ns:=ns) (k:=k) (known:=known) (st:=st) (a5:=a5) (a10:=a10) (a11:=a11) h1 h2 hx hl hx3 hb
  exact ⟨_,e,st',l',_,rfl,g1,g2⟩) ⟨st,[],a9,rfl,rfl,fun y hy=>by cases hy⟩
 exact ⟨st',l,a9',e,g1,g2⟩
noncomputable abbrev pE:Rho->R Out:=sq (asg 4 (cal 1 aM (aC (vr 4) aN)))
 (sq (asg 6 (bin (iI ba) (bin (iI dz) (vb 4) (kd (.int 64))) (una aJ (vb 2))))
 (sq (asg 4 (cal 1 aM (aC (vr 4) aN)))
 (sq (asg 7 (bin (iI ba) (bin (iI dz) (vb 4) (kd (.int 64))) (una aJ (vb 2))))
 (sq (own 8 (eM aN))
 (sq (bE (dl (aC (bin fix (vb 2) (vb 6)) aN)) (tgN 9) tz)
 (DL.iff (orB (tst (bin feq (bin fix (vb 2) (vb 6)) (kd (.int 0)))) (tst (bin (iI fgt) (bin fix (vb 2) (vb 7)) (kd (.int 0)))))
 (DL.iff (tst (bin (j5 true) (eT (aC (vr 6) (aC (vr 7) (aC (una ii (vb 8)) aN)))) (vb 3)))
 (app 3 (eT (aC (vr 6) (aC (vr 7) (aC (una ii (vb 8)) aN)))))
 nxt)
 nxt))))))
theorem uI:aJ (aw sz)=.val (.int ((sz.length:Nat):Int)):=by
 show R.val (D.int (((sz.map nD).length:Nat):Int))=_
 rw [List.length_map]
theorem t9 {known:Slt} {st s1:Int} {a5 a6 a7 a8 a9 a10 a11:Option Slt} (h:aM [.int st]=.val (.int s1)):asg 4 (cal 1 aM (aC (vr 4) aN)) (rA ns k sz known st a5 a6 a7 a8 a9 a10 a11)=.val (.nx (rA ns k sz known s1 a5 a6 a7 a8 a9 a10 a11)):=by
 rw [fA,u9]
 show R.bind (noex (aM [.int st])) _=_
 rw [h];rfl
theorem tQ {known:Slt} {s1:Int} {o:Nat} {a5 a6 a7 a8 a9 a10 a11:Option Slt} (q:ba (s1 / 64) (sz.length:Int)=.val (.int (o:Int))):bin (iI ba) (bin (iI dz) (vb 4) (kd (.int 64))) (una aJ (vb 2)) (rA ns k sz known s1 a5 a6 a7 a8 a9 a10 a11)=.val (nD o):=by
 rw [aS,aS]
 show R.bind (dz s1 64) _=_
 rw [d64,ae,gJ]
 show R.bind (R.bind (.val (aw sz)) aJ) _=_
 rw [ae,uI]
 exact q
theorem vM {known:Slt} {s1:Int} {o:Nat} {a5 a6 a7 a8 a9 a10 a11:Option Slt} (q:ba (s1 / 64) (sz.length:Int)=.val (.int (o:Int))):asg 6 (bin (iI ba) (bin (iI dz) (vb 4) (kd (.int 64))) (una aJ (vb 2))) (rA ns k sz known s1 a5 a6 a7 a8 a9 a10 a11)=.val (.nx (rA ns k sz known s1 a5 (some (.shr (nD o))) a7 a8 a9 a10 a11)):=by
 rw [fA,tQ q];rfl
theorem vL {known:Slt} {s1:Int} {o:Nat} {a5 a6 a7 a8 a9 a10 a11:Option Slt} (q:ba (s1 / 64) (sz.length:Int)=.val (.int (o:Int))):asg 7 (bin (iI ba) (bin (iI dz) (vb 4) (kd (.int 64))) (una aJ (vb 2))) (rA ns k sz known s1 a5 a6 a7 a8 a9 a10 a11)=.val (.nx (rA ns k sz known s1 a5 a6 (some (.shr (nD o))) a8 a9 a10 a11)):=by
 rw [fA,tQ q];rfl
theorem pick (st:Int) {n:Nat} (h:1<=n):∃ p:Nat,p < n/\ba (st / 64) (n:Int)=.val (.int (p:Int)):=by
 have hm:ba (st / 64) (n:Int)=.val (.int (st / 64 % (n:Int))):=eI (by omega)
 have p0:0<=st / 64 % (n:Int):=Int.emod_nonneg _ (by omega)
 have p1:st / 64 % (n:Int) < (n:Int):=Int.emod_lt_of_pos _ (by omega)
 refine ⟨(st / 64 % (n:Int)).toNat,by omega,?_⟩
 rw [hm,Int.toNat_of_nonneg p0]
theorem uV (hz:sz ∈ szs) {kn:List Arr} (hk:Kn sz kn) (st:Int) (a5 a6 a7 a8 a9 a10 a11:Option Slt) :
  ∃ (kn':List Arr) (st':Int) (b6 b7 b8 b9:Option Slt),pE (rA ns k sz (.own (kn.map az)) st a5 a6 a7 a8 a9 a10 a11)=.val (.nx (rA ns k sz (.own (kn'.map az)) st' a5 b6 b7 b8 b9 a10 a11))/\Kn sz kn'/\kn <+: kn':=by
 obtain ⟨l1,l4,l3⟩:=hZ sz hz
 have few:=Kn.few hz hk
 obtain ⟨s1,hs1⟩:=i5 st
 obtain ⟨o1,ho1,q1⟩:=pick s1 l1
 obtain ⟨s2,hs2⟩:=i5 s1
 obtain ⟨o2,ho2,q2⟩:=pick s2 l1
 have g3:sz.getD o1 0<=3:=by rw [bn ho1];exact l3 _ (List.getElem_mem ho1)
 obtain ⟨s3,l,a9',e,hl,hb⟩:=wv (ns:=ns) (k:=k) (sz:=sz) (known:=.own (kn.map az)) (st:=s2) (a5:=a5) (a9:=a9) (a10:=a10) (a11:=a11) ho1 ho2 g3
 have f1:=ib (sz:=sz) ho1
 have f2:=ib (sz:=sz) ho2
 have hr:lV [.int ((sz.getD o1 0:Nat):Int)]=.val (rng 0 (sz.getD o1 0)):=dO (by omega)
 have start:pE (rA ns k sz (.own (kn.map az)) st a5 a6 a7 a8 a9 a10 a11)=DL.iff (orB (tst (bin feq (bin fix (vb 2) (vb 6)) (kd (.int 0)))) (tst (bin (iI fgt) (bin fix (vb 2) (vb 7)) (kd (.int 0)))))
   (DL.iff (tst (bin (j5 true) (eT (aC (vr 6) (aC (vr 7) (aC (una ii (vb 8)) aN)))) (vb 3)))
   (app 3 (eT (aC (vr 6) (aC (vr 7) (aC (una ii (vb 8)) aN))))) nxt) nxt (rA ns k sz (.own (kn.map az)) s3 a5 (some (.shr (nD o1))) (some (.shr (nD o2))) (some (.own (l.map nD))) a9' a10 a11):=by
  have x1:asg 4 (cal 1 aM (aC (vr 4) aN)) (rA ns k sz (.own (kn.map az)) st a5 a6 a7 a8 a9 a10 a11)=.val (.nx (rA ns k sz (.own (kn.map az)) s1 a5 a6 a7 a8 a9 a10 a11)):=t9 hs1
  have x2:asg 6 (bin (iI ba) (bin (iI dz) (vb 4) (kd (.int 64))) (una aJ (vb 2))) (rA ns k sz (.own (kn.map az)) s1 a5 a6 a7 a8 a9 a10 a11)=.val (.nx (rA ns k sz (.own (kn.map az)) s1 a5 (some (.shr (nD o1))) a7 a8 a9 a10 a11)):=vM q1
  have x3:asg 4 (cal 1 aM (aC (vr 4) aN)) (rA ns k sz (.own (kn.map az)) s1 a5 (some (.shr (nD o1))) a7 a8 a9 a10 a11)=.val (.nx (rA ns k sz (.own (kn.map az)) s2 a5 (some (.shr (nD o1))) a7 a8 a9 a10 a11)):=t9 hs2
  have x4:asg 7 (bin (iI ba) (bin (iI dz) (vb 4) (kd (.int 64))) (una aJ (vb 2))) (rA ns k sz (.own (kn.map az)) s2 a5 (some (.shr (nD o1))) a7 a8 a9 a10 a11)=.val (.nx (rA ns k sz (.own (kn.map az)) s2 a5 (some (.shr (nD o1))) (some (.shr (nD o2))) a8 a9 a10 a11)):=vL q2
  have x5:own 8 (eM aN) (rA ns k sz (.own (kn.map az)) s2 a5 (some (.shr (nD o1))) (some (.shr (nD o2))) a8 a9 a10 a11)=.val (.nx (rA ns k sz (.own (kn.map az)) s2 a5 (some (.shr (nD o1))) (some (.shr (nD o2))) (some (.own [])) a9 a10 a11)):=Eq.trans rfl rfl
  have x6:bE (dl (aC (bin fix (vb 2) (vb 6)) aN)) (tgN 9) tz (rA ns k sz (.own (kn.map az)) s2 a5 (some (.shr (nD o1))) (some (.shr (nD o2))) (some (.own [])) a9 a10 a11)=.val (.nx (rA ns k sz (.own (kn.map az)) s3 a5 (some (.shr (nD o1))) (some (.shr (nD o2))) (some (.own (l.map nD))) a9' a10 a11)):=by
   rw [dD]
   have:dl (aC (bin fix (vb 2) (vb 6)) aN) (rA ns k sz (.own (kn.map az)) s2 a5 (some (.shr (nD o1))) (some (.shr (nD o2))) (some (.own [])) a9 a10 a11)=.val (rng 0 (sz.getD o1 0)):=by unfold rA;simp [-List.getD_eq_getElem?_getD,f1,hr]
   rw [this,ae,e]
  show sq _ _ _=_
  rw [be,x1,ae];dsimp only
  rw [be,x2,ae];dsimp only
  rw [be,x3,ae];dsimp only
  rw [be,x4,ae];dsimp only
  rw [be,x5,ae];dsimp only
  rw [be,x6,ae]
 rw [start]
 have hT:orB (tst (bin feq (bin fix (vb 2) (vb 6)) (kd (.int 0)))) (tst (bin (iI fgt) (bin fix (vb 2) (vb 7)) (kd (.int 0)))) (rA ns k sz (.own (kn.map az)) s3 a5 (some (.shr (nD o1))) (some (.shr (nD o2))) (some (.own (l.map nD))) a9' a10 a11)=.val (decide (sz.getD o1 0=0\/0 < sz.getD o2 0)):=by
  unfold rA
  by_cases z:sz.getD o1 0=0
  ·simp [-List.getD_eq_getElem?_getD,f1,z]
  ·have z':¬ (((sz.getD o1 0:Nat):Int)=0):=by omega
   simp [-List.getD_eq_getElem?_getD,f1,f2,z,z']
 rw [cV,hT,ae]
 by_cases hc:sz.getD o1 0=0\/0 < sz.getD o2 0
 ·rw [decide_eq_true hc,if_pos rfl]
  have hok:Ok sz (o1,o2,l):=by
   refine ⟨sz.getD o1 0,sz.getD o2 0,by rw [bn ho1];simp [ho1],by rw [bn ho2];simp [ho2],hl,fun y hy=>?_⟩
   have:=hb y hy
   unfold bnd at this
   have hy0:sz.getD o1 0 ≠ 0:=fun z=>by
    rw [z] at hl
    have:l=[]:=List.length_eq_zero_iff.mp hl
    rw [this] at hy;cases hy
   split at this
   ·rename_i e3
    have:=rX sz hz o1 ho1 o2 ho2 e3
    omega
   ·rcases hc with hc | hc
    ·exact absurd hc hy0
    ·have:max 1 (sz.getD o2 0)=sz.getD o2 0:=by omega
     omega
  have hv:eT (aC (vr 6) (aC (vr 7) (aC (una ii (vb 8)) aN))) (rA ns k sz (.own (kn.map az)) s3 a5 (some (.shr (nD o1))) (some (.shr (nD o2))) (some (.own (l.map nD))) a9' a10 a11)=.val (az (o1,o2,l)):=by
   unfold rA;simp;rfl
  have hn:tst (bin (j5 true) (eT (aC (vr 6) (aC (vr 7) (aC (una ii (vb 8)) aN)))) (vb 3)) (rA ns k sz (.own (kn.map az)) s3 a5 (some (.shr (nD o1))) (some (.shr (nD o2))) (some (.own (l.map nD))) a9' a10 a11)=.val (!decide ((o1,o2,l) ∈ kn)):=by
   rw [cK,aS,hv,ae]
   show ((R.val (D.lst (kn.map az))).bind fun y=>j5 true (az (o1,o2,l)) y).bind asB=_
   rw [ae,uG];rfl
  rw [cV,hn,ae]
  refine ⟨mr kn (o1,o2,l),s3,some (.shr (nD o1)),some (.shr (nD o2)),some (.own (l.map nD)),a9',?_,rR hk hok,pG _ _⟩
  unfold mr
  by_cases hin:(o1,o2,l) ∈ kn
  ·rw [if_pos hin,decide_eq_true hin];rfl
  ·rw [if_neg hin,decide_eq_false hin]
   rw [if_pos (show (!false)=true from rfl)]
   rw [iB (xs:=kn.map az) _ rfl hv (by rw [List.length_map];omega)]
   unfold rA
   rw [List.map_append];rfl
 ·rw [decide_eq_false hc]
  exact ⟨kn,s3,_,_,_,_,rfl,hk,List.prefix_refl _⟩
end
end DL
namespace DL
open PySem L2 Ar
section
variable {ns:List Int} {k:Nat} {sz:List Nat}
theorem yL (hz:sz ∈ szs) (a3 a4 a5 a6 a7 a8 a9 a10 a11:Option Slt):b0 (dl (aC (una aJ (vb 2)) aN)) 1 (tgN 12) tT (eT (aC (vr 12) (aC (vr 12) (aC (g8 (aC (bin fix (vb 2) (vb 12)) aN)) aN)))) [some (.shr (.scr ns)),some (.shr (nD k)),some (.shr (aw sz)),a3,a4,a5,a6,a7,a8,a9,a10,a11]=.val (((List.range sz.length).map (idm sz)).map az):=by
 obtain ⟨l1,l4,l3⟩:=hZ sz hz
 have:=i4 (src:=dl (aC (una aJ (vb 2)) aN)) (m:=sz.length) (n:=1) (i:=12) (e:=eT (aC (vr 12) (aC (vr 12) (aC (g8 (aC (bin fix (vb 2) (vb 12)) aN)) aN)))) (g:=fun b=>az (idm sz b)) (ρ:=[some (.shr (.scr ns)),some (.shr (nD k)),some (.shr (aw sz)),a3,a4,a5,a6,a7,a8,a9,a10,a11]) (by simp;exact dO (by omega)) (by omega) fun b hb=>by
  have f1:=ib (sz:=sz) hb
  have hs:sz.getD b 0<=3:=by rw [bn hb];exact l3 _ (List.getElem_mem hb)
  have:=qK (n:=sz.getD b 0) (by omega)
  simp [-List.getD_eq_getElem?_getD,f1,this];rfl
 rw [this,List.map_map];rfl
theorem tS {mx:List Arr} {x:Arr} {l:List Arr} (p:Nat) (h:mx.Perm l):(mx.take p ++ x :: mx.drop p).Perm (l ++ [x]):=by
 have h1:(mx.take p ++ x :: mx.drop p).Perm (x :: (mx.take p ++ mx.drop p)):=List.perm_middle
 rw [List.take_append_drop] at h1
 exact h1.trans ((h.cons x).trans (List.perm_append_singleton x l).symm)
noncomputable abbrev v9:Rho->R Out:=sq (asg 4 (cal 1 aM (aC (vr 4) aN)))
 (ins 10 (bin (iI ba) (bin (iI dz) (vb 4) (kd (.int 64))) (bin bb (una aJ (vb 10)) (kd (.int 1)))) (vr 11))
theorem wy {known:Slt} {st:Int} {mx:List Arr} {x:Arr} (hl:mx.length<=27) (a5 a6 a7 a8 a9:Option Slt) :
  ∃ (st':Int) (p:Nat),v9 (rA ns k sz known st a5 a6 a7 a8 a9 (some (.own (mx.map az))) (some (.shr (az x))))=.val (.nx (rA ns k sz known st' a5 a6 a7 a8 a9 (some (.own ((mx.take p ++ x :: mx.drop p).map az))) (some (.shr (az x))))):=by
 obtain ⟨s1,hs1⟩:=i5 st
 obtain ⟨p,hp,q⟩:=pick s1 (n:=mx.length + 1) (by omega)
 have q':ba (s1 / 64) ((mx.length:Int) + 1)=.val (.int (p:Int)):=q
 refine ⟨s1,p,?_⟩
 have x1:asg 4 (cal 1 aM (aC (vr 4) aN)) (rA ns k sz known st a5 a6 a7 a8 a9 (some (.own (mx.map az))) (some (.shr (az x))))=.val (.nx (rA ns k sz known s1 a5 a6 a7 a8 a9 (some (.own (mx.map az))) (some (.shr (az x))))):=by unfold rA;simp [hs1]
 show sq _ _ _=_
 rw [be,x1,ae];dsimp only
 rw [uA (xs:=mx.map az) (n:=p) (d:=az x) _ rfl (by unfold rA;simp [d64,q']) rfl (by rw [List.length_map];omega) (by rw [List.length_map];omega)]
 unfold rA
 simp
theorem sH (hz:sz ∈ szs) (ns:List Int) (k:Nat):∃ kn,Good sz kn/\bS [.scr ns,.int (k:Int),aw sz]=.val (.lst (kn.map az)):=by
 obtain ⟨l1,l4,l3⟩:=hZ sz hz
 obtain ⟨c1,hc1⟩:=i6 ns k
 obtain ⟨c2,hc2⟩:=i6 ns (k + 1)
 obtain ⟨s0,hs0⟩:=i5 (c1 * 1000003 % 2147483647 + 17)
 have hc2':au [.scr ns,.int ((k:Int) + 1)]=.val (.int c2):=hc2
 have m5:ba c2 5=.val (.int (c2 % 5)):=eI (by decide)
 have mm:df c1 1000003=.val (.int (c1 * 1000003)):=iZ (by decide)
 have md:ba (c1 * 1000003) 2147483647=.val (.int (c1 * 1000003 % 2147483647)):=eI (by decide)
 have hr:lV [.int (c2 % 5)]=.val (rng 0 (c2 % 5).toNat):=tD (by omega) (by omega)
 let kn0:=(List.range sz.length).map (idm sz)
 have hk0:Kn sz kn0:=yB sz
 obtain ⟨ρ1,e1,kn1,st1,a5,a6,a7,a8,a9,rfl,hk1,hp1⟩:=gR (i:=5) (n:=(c2 % 5).toNat) (F:=pE) (ρ:=rA ns k sz (.own (kn0.map az)) s0 none none none none none none none) (fun _ ρ=>∃ (kn:List Arr) (st:Int) (a5 a6 a7 a8 a9:Option Slt),ρ=rA ns k sz (.own (kn.map az)) st a5 a6 a7 a8 a9 none none/\Kn sz kn/\kn0 <+: kn) (fun x ρ hx hI=>by
  obtain ⟨kn,st,a5,a6,a7,a8,a9,rfl,hk,hp⟩:=hI
  obtain ⟨kn',st',b6,b7,b8,b9,e,g1,g2⟩:=uV (ns:=ns) (k:=k) hz hk st (some (.shr (.int (x:Int)))) a6 a7 a8 a9 none none
  exact ⟨_,e,kn',st',_,b6,b7,b8,b9,rfl,g1,hp.trans g2⟩) ⟨kn0,s0,none,none,none,none,none,rfl,hk0,List.prefix_refl _⟩
 obtain ⟨kn2,hcl,hk2,hp2,hcl2⟩:=sF hz hk1
 have few2:=Kn.few hz hk2
 have good:Good sz kn2:=⟨hz,hk2.nd,hk2.ok,fun b hb=>hp2.subset (hp1.subset (List.mem_map.mpr ⟨b,List.mem_range.mpr hb,rfl⟩)),hcl2⟩
 obtain ⟨ρ3,e3,mx,st3,a11,rfl,hperm⟩:=fX (T:=tgN 11) (F:=v9) (xs:=kn2.map az) (ρ:=rA ns k sz (.shr (.lst (kn2.map az))) st1 a5 a6 a7 a8 a9 (some (.own [])) none) (fun i ρ=>∃ (mx:List Arr) (st:Int) (a11:Option Slt),ρ=rA ns k sz (.shr (.lst (kn2.map az))) st a5 a6 a7 a8 a9 (some (.own (mx.map az))) a11/\mx.Perm (kn2.take i)) (fun i x ρ hx hI=>by
  obtain ⟨mx,st,a11,rfl,hperm⟩:=hI
  have hi:i < kn2.length:=by have:=(List.getElem?_eq_some_iff.mp hx).1;simpa using this
  have hxe:x=az kn2[i]:=by
   rw [List.getElem?_map] at hx
   simp [hi] at hx;exact hx.symm
  subst hxe
  have hml:mx.length<=27:=by rw [hperm.length_eq,List.length_take];omega
  obtain ⟨st',p,e⟩:=wy (ns:=ns) (k:=k) (sz:=sz) (known:=.shr (.lst (kn2.map az))) (st:=st) (x:=kn2[i]) hml a5 a6 a7 a8 a9
  refine ⟨_,_,rfl,e,_,st',_,rfl,?_⟩
  rw [List.take_succ_eq_append_getElem hi]
  exact tS p hperm) ⟨[],st1,none,rfl,by simp⟩
 rw [List.length_map,List.take_length] at hperm
 refine ⟨mx,good.perm hperm,?_⟩
 simp only [bS,fu]
 show fin (sq (own 3 _) _ [some (.shr (.scr ns)),some (.shr (nD k)),some (.shr (aw sz)),none,none,none,none,none,none,none,none,none])=_
 rw [be,xY,yL hz,ae,ae]
 show fin (sq (asg 4 _) _ [some (.shr (.scr ns)),some (.shr (nD k)),some (.shr (aw sz)),some (.own (kn0.map az)),none,none,none,none,none,none,none,none])=_
 have x1:asg 4 (cal 1 aM (aC (bin bb (bin (iI ba) (bin (iI df) (cal 2 au (aC (vr 0) (aC (vr 1) aN))) (kd (.int 1000003))) (kd (.int 2147483647))) (kd (.int 17))) aN)) [some (.shr (.scr ns)),some (.shr (nD k)),some (.shr (aw sz)),some (.own (kn0.map az)),none,none,none,none,none,none,none,none]=.val (.nx (rA ns k sz (.own (kn0.map az)) s0 none none none none none none none)):=by
  unfold rA;simp [hc1,mm,md,hs0]
 rw [be,x1,ae];dsimp only
 have x2:bE (dl (aC (bin (iI ba) (cal 2 au (aC (vr 0) (aC (bin bb (vb 1) (kd (.int 1))) aN))) (kd (.int 5))) aN)) (tgN 5) pE (rA ns k sz (.own (kn0.map az)) s0 none none none none none none none)=.val (.nx (rA ns k sz (.own (kn1.map az)) st1 a5 a6 a7 a8 a9 none none)):=by
  rw [dD]
  have:dl (aC (bin (iI ba) (cal 2 au (aC (vr 0) (aC (bin bb (vb 1) (kd (.int 1))) aN))) (kd (.int 5))) aN) (rA ns k sz (.own (kn0.map az)) s0 none none none none none none none)=.val (rng 0 (c2 % 5).toNat):=by unfold rA;simp [hc2',m5,hr]
  rw [this,ae,e1]
 show fin (sq (bE (dl (aC (bin (iI ba) (cal 2 au (aC (vr 0) (aC (bin bb (vb 1) (kd (.int 1))) aN))) (kd (.int 5))) aN)) (tgN 5) pE) _ _)=_
 rw [be,x2,ae];dsimp only
 have x3:v7 3 bT (rA ns k sz (.own (kn1.map az)) st1 a5 a6 a7 a8 a9 none none)=.val (.nx (rA ns k sz (.shr (.lst (kn2.map az))) st1 a5 a6 a7 a8 a9 none none)):=by
  show (noex (bT (kn1.map az))).bind _=_
  rw [hcl];rfl
 rw [be,x3,ae];dsimp only
 have x4:own 10 (eM aN) (rA ns k sz (.shr (.lst (kn2.map az))) st1 a5 a6 a7 a8 a9 none none)=.val (.nx (rA ns k sz (.shr (.lst (kn2.map az))) st1 a5 a6 a7 a8 a9 (some (.own [])) none)):=by unfold rA;simp
 rw [be,x4,ae];dsimp only
 show fin (sq (bE (fIt (vr 3)) (tgN 11) v9) _ (rA ns k sz (.shr (.lst (kn2.map az))) st1 a5 a6 a7 a8 a9 (some (.own [])) none))=_
 have x5:bE (fIt (vr 3)) (tgN 11) v9 (rA ns k sz (.shr (.lst (kn2.map az))) st1 a5 a6 a7 a8 a9 (some (.own [])) none)=.val (.nx (rA ns k sz (.shr (.lst (kn2.map az))) st3 a5 a6 a7 a8 a9 (some (.own (mx.map az))) a11)):=by
  rw [dD]
  show (R.val (kn2.map az)).bind _=_
  rw [ae,e3]
 rw [be,x5,ae]
 rfl
end
end DL
namespace DL
open PySem L2 Ar
noncomputable def plD:List Arr->Nat->List (KA × D)
 | [],_=>[]
 | x :: r,s=>(fZ x,nD s) :: plD r (s + 1)
theorem tN:∀ (l:List Arr) (s:Nat),(plD l s).length=l.length
 | [],_=>rfl
 | x :: r,s=>by simp [plD,tN r (s + 1)]
theorem tP (x:Arr):∀ (l:List Arr) (s:Nat),((plD l s).any fun p=>decide (p.1=fZ x))=decide (x ∈ l)
 | [],_=>by simp [plD]
 | y :: r,s=>by
  show (decide (fZ y=fZ x) || (plD r (s + 1)).any fun p=>decide (p.1=fZ x))=_
  rw [tP x r (s + 1)]
  by_cases h:y=x
  ·subst h;simp
  ·have:¬ fZ y=fZ x:=fun e=>h (lu e)
   have h':¬ x=y:=fun e=>h e.symm
   simp [this,h']
theorem tO (x:Arr):∀ (l:List Arr) (s:Nat),plD (l ++ [x]) s=plD l s ++ [(fZ x,nD (s + l.length))]
 | [],s=>rfl
 | y :: r,s=>by
  show (fZ y,nD s) :: plD (r ++ [x]) (s + 1)=_
  rw [tO x r (s + 1)]
  have:s + 1 + r.length=s + (y :: r).length:=by simp;omega
  rw [this];rfl
theorem xM {x:Arr} {l:List Arr} (h:x ∉ l):lq (plD l 0) (fZ x) (nD l.length)=plD (l ++ [x]) 0:=by
 unfold lq
 rw [tP,decide_eq_false h,if_neg (by decide),tO,Nat.zero_add]
theorem p8 {x:Arr}:∀ {l:List Arr} (s:Nat),x ∈ l->qd (plD l s) (fZ x)=some (nD (s + l.idxOf x))
 | [],_,h=>by cases h
 | y :: r,s,h=>by
  unfold qd plD
  by_cases e:y=x
  ·subst e;simp
  ·have e':¬ fZ y=fZ x:=fun z=>e (lu z)
   rw [List.find?_cons_of_neg (by simpa using e')]
   have hr:x ∈ r:=by
    rcases List.mem_cons.mp h with q | q
    ·exact absurd q.symm e
    ·exact q
   have ih:=p8 (l:=r) (s + 1) hr
   unfold qd at ih
   rw [ih]
   have:(y :: r).idxOf x=r.idxOf x + 1:=by
    rw [List.idxOf_cons]
    have:(y == x)=false:=by simpa using e
    rw [this];rfl
   rw [this]
   congr 2
   omega
noncomputable def rP (ns:List Int) (k:Nat) (sz:List Nat) (kn:List Arr) (pl:List (KA × D)) (a5 a6 a7 a8 a9 a10 a11:Option Slt):Rho:=[some (.shr (.scr ns)),some (.shr (nD k)),some (.shr (aw sz)),some (.shr (.lst (kn.map az))),some (.dic pl),a5,a6,a7,a8,a9,a10,a11]
section
variable {ns:List Int} {k:Nat} {sz:List Nat} {kn:List Arr}
theorem yJ {i:Nat} (h:i < kn.length):fix (.lst (kn.map az)) (.int (i:Int))=.val (az kn[i]):=im (by simp [h])
theorem uQ (g:Good sz kn) (a6 a7 a8 a9 a10 a11:Option Slt):∃ a5,bE (dl (aC (una aJ (vb 3)) aN)) (tgN 5) (nV 4 (bin fix (vb 3) (vb 5)) (vr 5)) (rP ns k sz kn [] none a6 a7 a8 a9 a10 a11)=.val (.nx (rP ns k sz kn (plD kn 0) a5 a6 a7 a8 a9 a10 a11)):=by
 have few:=g.few
 obtain ⟨ρ',e,a5,rfl⟩:=gR (i:=5) (n:=kn.length) (F:=nV 4 (bin fix (vb 3) (vb 5)) (vr 5)) (ρ:=rP ns k sz kn [] none a6 a7 a8 a9 a10 a11) (fun i ρ=>∃ a5,ρ=rP ns k sz kn (plD (kn.take i) 0) a5 a6 a7 a8 a9 a10 a11) (fun i ρ hi hI=>by
  obtain ⟨a5,rfl⟩:=hI
  have hx:=yJ hi
  have hl:(kn.take i).length=i:=by rw [List.length_take];omega
  have nin:kn[i] ∉ kn.take i:=fun h=>by
   obtain ⟨j,hj,e⟩:=List.mem_take_iff_getElem.mp h
   exact (List.pairwise_iff_getElem.mp g.nd) j i (by omega) hi (by omega) e
  refine ⟨_,?_,some (.shr (.int (i:Int))),rfl⟩
  show nV 4 _ _ (rP ns k sz kn (plD (kn.take i) 0) (some (.shr (.int (i:Int)))) a6 a7 a8 a9 a10 a11)=_
  rw [rH (kvs:=plD (kn.take i) 0) (kd:=az kn[i]) (d:=nD i) _ rfl (by unfold rP;simp [hx]) rfl (fY _) (by rw [tN];omega)]
  have:=xM nin
  rw [hl] at this
  rw [this,<- List.take_succ_eq_append_getElem hi]
  rfl) ⟨none,rfl⟩
 refine ⟨a5,?_⟩
 rw [dD]
 have:dl (aC (una aJ (vb 3)) aN) (rP ns k sz kn [] none a6 a7 a8 a9 a10 a11)=.val (rng 0 kn.length):=by
  unfold rP;simp;exact dO (by omega)
 rw [this,ae,e,List.take_length]
noncomputable abbrev yN:Rho->R Out:=sq (asg 10 (una nF (kd (.int 1))))
 (sq (DL.iff (tst (bin feq (bin fix (vb 7) (kd (.int 1))) (bin fix (vb 9) (kd (.int 0)))))
 (asg 10 (nX 4 (eT (aC (bin fix (vb 7) (kd (.int 0))) (aC (bin fix (vb 9) (kd (.int 1))) (aC (una ii (eLs (b0 (fIt (bin fix (vb 7) (kd (.int 2)))) 1 (tgN 12) tT (bin fix (bin fix (vb 9) (kd (.int 2))) (vb 12))))) aN))))))
 nxt)
 (app 8 (vr 10)))
theorem wD (g:Good sz kn) {x y:Arr} (hx:x ∈ kn) (hy:y ∈ kn) {row:List D} (hl:row.length<=27) (a5 a6 a10 a11:Option Slt) :
  ∃ b10,yN (rP ns k sz kn (plD kn 0) a5 a6 (some (.shr (az x))) (some (.own row)) (some (.shr (az y))) a10 a11)=.val (.nx (rP ns k sz kn (plD kn 0) a5 a6 (some (.shr (az x))) (some (.own (row ++ [.int (mk kn x y)]))) (some (.shr (az y))) b10 a11)):=by
 have x1:asg 10 (una nF (kd (.int 1))) (rP ns k sz kn (plD kn 0) a5 a6 (some (.shr (az x))) (some (.own row)) (some (.shr (az y))) a10 a11)=.val (.nx (rP ns k sz kn (plD kn 0) a5 a6 (some (.shr (az x))) (some (.own row)) (some (.shr (az y))) (some (.shr (.int (-1)))) a11)):=by unfold rP;simp
 have last:∀ z:Int,app 8 (vr 10) (rP ns k sz kn (plD kn 0) a5 a6 (some (.shr (az x))) (some (.own row)) (some (.shr (az y))) (some (.shr (.int z))) a11)=.val (.nx (rP ns k sz kn (plD kn 0) a5 a6 (some (.shr (az x))) (some (.own (row ++ [.int z]))) (some (.shr (az y))) (some (.shr (.int z))) a11)):=fun z=>by
  rw [iB (xs:=row) (d:=.int z) _ rfl rfl (by omega)];rfl
 have hT:tst (bin feq (bin fix (vb 7) (kd (.int 1))) (bin fix (vb 9) (kd (.int 0)))) (rP ns k sz kn (plD kn 0) a5 a6 (some (.shr (az x))) (some (.own row)) (some (.shr (az y))) (some (.shr (.int (-1)))) a11)=.val (decide (x.2.1=y.1)):=by
  unfold rP;simp;omega
 show ∃ b10,sq _ _ _=_
 rw [be,x1,ae];dsimp only
 rw [be,cV,hT,ae]
 unfold mk
 by_cases e:x.2.1=y.1
 ·rw [decide_eq_true e,if_pos rfl,if_pos e]
  have hc:=rL g.szm (g.ok x hx) (g.ok y hy) e (src:=fIt (bin fix (vb 7) (kd (.int 2)))) (el:=bin fix (bin fix (vb 9) (kd (.int 2))) (vb 12)) (i:=12) (ρ:=rP ns k sz kn (plD kn 0) a5 a6 (some (.shr (az x))) (some (.own row)) (some (.shr (az y))) (some (.shr (.int (-1)))) a11) (by simp [rP]) (fun k=>by simp [rP])
  have hv:eT (aC (bin fix (vb 7) (kd (.int 0))) (aC (bin fix (vb 9) (kd (.int 1))) (aC (una ii (eLs (b0 (fIt (bin fix (vb 7) (kd (.int 2)))) 1 (tgN 12) tT (bin fix (bin fix (vb 9) (kd (.int 2))) (vb 12))))) aN))) (rP ns k sz kn (plD kn 0) a5 a6 (some (.shr (az x))) (some (.own row)) (some (.shr (az y))) (some (.shr (.int (-1)))) a11)=.val (az (comp x y)):=by
   simp only [pk,eO,gJ,dZ,hc]
   unfold rP;simp;rfl
  have hg:=p8 0 (g.cl x hx y hy e)
  rw [Nat.zero_add] at hg
  rw [fA,rK (kvs:=plD kn 0) _ rfl hv (fY _) hg,ae,ae];dsimp only
  exact ⟨_,last _⟩
 ·rw [decide_eq_false e,if_neg (by decide),if_neg e]
  exact ⟨_,last _⟩
noncomputable abbrev vA:Rho->R Out:=sq (own 8 (eM aN))
 (sq (bE (fIt (vr 3)) (tgN 9) yN)
 (fz 8 (app 6 (vr 8))))
theorem ww (g:Good sz kn) {x:Arr} (hx:x ∈ kn) {tab:List D} (hl:tab.length<=27) (a5 a8 a9 a10 a11:Option Slt) :
  ∃ b8 b9 b10,vA (rP ns k sz kn (plD kn 0) a5 (some (.own tab)) (some (.shr (az x))) a8 a9 a10 a11)=.val (.nx (rP ns k sz kn (plD kn 0) a5 (some (.own (tab ++ [bo (kn.map fun y=>mk kn x y)]))) (some (.shr (az x))) b8 b9 b10 a11)):=by
 have few:=g.few
 obtain ⟨ρ',e,a9',a10',rfl⟩:=fX (T:=tgN 9) (F:=yN) (xs:=kn.map az) (ρ:=rP ns k sz kn (plD kn 0) a5 (some (.own tab)) (some (.shr (az x))) (some (.own [])) a9 a10 a11) (fun i ρ=>∃ a9 a10,ρ=rP ns k sz kn (plD kn 0) a5 (some (.own tab)) (some (.shr (az x))) (some (.own (((kn.take i).map fun y=>mk kn x y).map D.int))) a9 a10 a11) (fun i d ρ hd hI=>by
  obtain ⟨a9,a10,rfl⟩:=hI
  have hi:i < kn.length:=by have:=(List.getElem?_eq_some_iff.mp hd).1;simpa using this
  have hde:d=az kn[i]:=by
   rw [List.getElem?_map] at hd
   simp [hi] at hd;exact hd.symm
  subst hde
  obtain ⟨b10,e⟩:=wD (ns:=ns) (k:=k) g hx (List.getElem_mem hi) (row:=((kn.take i).map fun y=>mk kn x y).map D.int) (by simp;omega) a5 (some (.own tab)) a10 a11
  refine ⟨_,_,rfl,e,some (.shr (az kn[i])),b10,?_⟩
  rw [List.take_succ_eq_append_getElem hi,List.map_append,List.map_append]
  rfl) ⟨a9,a10,rfl⟩
 rw [List.length_map,List.take_length] at e
 refine ⟨some (.shr (bo (kn.map fun y=>mk kn x y))),a9',a10',?_⟩
 show sq _ _ _=_
 have x1:own 8 (eM aN) (rP ns k sz kn (plD kn 0) a5 (some (.own tab)) (some (.shr (az x))) a8 a9 a10 a11)=.val (.nx (rP ns k sz kn (plD kn 0) a5 (some (.own tab)) (some (.shr (az x))) (some (.own [])) a9 a10 a11)):=by unfold rP;simp
 rw [be,x1,ae];dsimp only
 rw [be,dD]
 show ((((R.val (kn.map az)).bind _)).bind _)=_
 rw [ae,e,ae];dsimp only
 rw [w9]
 show app 6 (vr 8) (rP ns k sz kn (plD kn 0) a5 (some (.own tab)) (some (.shr (az x))) (some (.shr (bo (kn.map fun y=>mk kn x y)))) a9' a10' a11)=_
 rw [iB (xs:=tab) (d:=bo (kn.map fun y=>mk kn x y)) _ rfl rfl (by omega)]
 rfl
theorem uR (ns:List Int) (k:Nat):∃ sz kn,Good sz kn/\cH [.scr ns,.int (k:Int)]=.val (.tup [cZ (gI kn),aw (gj sz kn),bw (fU kn),.lst (kn.map az),aw sz]):=by
 obtain ⟨sz,hz,hs⟩:=uO ns k
 obtain ⟨l1,l4,l3⟩:=hZ sz hz
 obtain ⟨kn,g,ha⟩:=sH hz ns (k + 1)
 have ha':bS [.scr ns,.int ((k:Int) + 1),aw sz]=.val (.lst (kn.map az)):=ha
 have few:=g.few
 obtain ⟨a5,ep⟩:=uQ (ns:=ns) (k:=k) g none none none none none none
 obtain ⟨ρ',et,a7,a8,a9,a10,rfl⟩:=fX (T:=tgN 7) (F:=vA) (xs:=kn.map az) (ρ:=rP ns k sz kn (plD kn 0) a5 (some (.own [])) none none none none none) (fun i ρ=>∃ a7 a8 a9 a10,ρ=rP ns k sz kn (plD kn 0) a5 (some (.own ((kn.take i).map fun x=>bo (kn.map fun y=>mk kn x y)))) a7 a8 a9 a10 none) (fun i d ρ hd hI=>by
  obtain ⟨a7,a8,a9,a10,rfl⟩:=hI
  have hi:i < kn.length:=by have:=(List.getElem?_eq_some_iff.mp hd).1;simpa using this
  have hde:d=az kn[i]:=by
   rw [List.getElem?_map] at hd
   simp [hi] at hd;exact hd.symm
  subst hde
  obtain ⟨b8,b9,b10,e⟩:=ww (ns:=ns) (k:=k) g (List.getElem_mem hi) (tab:=(kn.take i).map fun x=>bo (kn.map fun y=>mk kn x y)) (by simp;omega) a5 a8 a9 a10 none
  refine ⟨_,_,rfl,e,some (.shr (az kn[i])),b8,b9,b10,?_⟩
  rw [List.take_succ_eq_append_getElem hi,List.map_append]
  rfl) ⟨none,none,none,none,rfl⟩
 rw [List.length_map,List.take_length] at et
 refine ⟨sz,kn,g,?_⟩
 simp only [cH,fL]
 show fin (sq (asg 2 _) _ [some (.shr (.scr ns)),some (.shr (nD k)),none,none,none,none,none,none,none,none,none,none])=_
 have x1:asg 2 (cal 2 cG (aC (vr 0) (aC (vr 1) aN))) [some (.shr (.scr ns)),some (.shr (nD k)),none,none,none,none,none,none,none,none,none,none]=.val (.nx [some (.shr (.scr ns)),some (.shr (nD k)),some (.shr (aw sz)),none,none,none,none,none,none,none,none,none]):=by simp [hs]
 rw [be,x1,ae];dsimp only
 have x2:asg 3 (cal 3 bS (aC (vr 0) (aC (bin bb (vb 1) (kd (.int 1))) (aC (vr 2) aN)))) [some (.shr (.scr ns)),some (.shr (nD k)),some (.shr (aw sz)),none,none,none,none,none,none,none,none,none]=.val (.nx [some (.shr (.scr ns)),some (.shr (nD k)),some (.shr (aw sz)),some (.shr (.lst (kn.map az))),none,none,none,none,none,none,none,none]):=by simp [ha']
 rw [be,x2,ae];dsimp only
 rw [be,rJ,ae];dsimp only
 show fin (sq (bE _ (tgN 5) _) _ (rP ns k sz kn [] none none none none none none none))=_
 rw [be,ep,ae];dsimp only
 have x3:own 6 (eM aN) (rP ns k sz kn (plD kn 0) a5 none none none none none none)=.val (.nx (rP ns k sz kn (plD kn 0) a5 (some (.own [])) none none none none none)):=by unfold rP;simp
 rw [be,x3,ae];dsimp only
 have x4:bE (fIt (vr 3)) (tgN 7) vA (rP ns k sz kn (plD kn 0) a5 (some (.own [])) none none none none none)=.val (.nx (rP ns k sz kn (plD kn 0) a5 (some (.own (kn.map fun x=>bo (kn.map fun y=>mk kn x y)))) a7 a8 a9 a10 none)):=by
  rw [dD]
  show (R.val (kn.map az)).bind _=_
  rw [ae,et]
 show fin (sq (bE (fIt (vr 3)) (tgN 7) vA) _ _)=_
 rw [be,x4,ae];dsimp only
 have hrest:b0 (dl (aC (una aJ (vb 2)) aN)) 1 (tgN 12) tT (nX 4 (eT (aC (vr 12) (aC (vr 12) (aC (g8 (aC (bin fix (vb 2) (vb 12)) aN)) aN))))) (rP ns k sz kn (plD kn 0) a5 (some (.own (kn.map fun x=>bo (kn.map fun y=>mk kn x y)))) a7 a8 a9 a10 none)=.val ((gj sz kn).map nD):=by
  have:=i4 (src:=dl (aC (una aJ (vb 2)) aN)) (m:=sz.length) (n:=1) (i:=12) (e:=nX 4 (eT (aC (vr 12) (aC (vr 12) (aC (g8 (aC (bin fix (vb 2) (vb 12)) aN)) aN))))) (g:=fun b=>nD (kn.idxOf (idm sz b))) (ρ:=rP ns k sz kn (plD kn 0) a5 (some (.own (kn.map fun x=>bo (kn.map fun y=>mk kn x y)))) a7 a8 a9 a10 none) (by unfold rP;simp;exact dO (by omega)) (by omega) fun b hb=>by
   have f1:=ib (sz:=sz) hb
   have hs:sz.getD b 0<=3:=by rw [bn hb];exact l3 _ (List.getElem_mem hb)
   have hrg:=qK (n:=sz.getD b 0) (by omega)
   have hg:=p8 0 (g.rest b hb)
   rw [Nat.zero_add] at hg
   refine rK (kvs:=plD kn 0) (kd:=az (idm sz b)) _ rfl ?_ (fY _) hg
   unfold rP
   simp [-List.getD_eq_getElem?_getD,f1,hrg];rfl
  rw [this]
  unfold gj
  rw [List.map_map];rfl
 rw [be,fA,dZ,hrest,ae,ae,ae];dsimp only
 rw [w9]
 have hens:∀ t a7 a8 a9 a10 a11,b0 (fIt (vr 3)) 1 (tgN 12) tT (eT (aC (bin fix (vb 12) (kd (.int 0))) (aC (bin fix (vb 12) (kd (.int 1))) aN))) (rP ns k sz kn (plD kn 0) a5 t a7 a8 a9 a10 a11)=.val ((gI kn).map eR):=fun t a7 a8 a9 a10 a11=>by
  rw [ge (f:=az) (l:=kn) (g:=fun x=>eR (x.1,x.2.1)) rfl (by omega) fun x _=>by unfold rP;simp;rfl]
  unfold gI
  rw [List.map_map];rfl
 have htab:D.lst (kn.map fun x=>bo (kn.map fun y=>mk kn x y))=bw (fU kn):=by
  unfold bw fU;rw [List.map_map];rfl
 show fin (ret _ (rP ns k sz kn (plD kn 0) a5 (some (.shr (.lst (kn.map fun x=>bo (kn.map fun y=>mk kn x y))))) a7 a8 a9 a10 (some (.shr (aw (gj sz kn))))))=_
 rw [htab,fj,pk,eO,dZ,hens,ae,ae]
 unfold rP
 simp;rfl
theorem wC {sz kn:List _} (g:Good sz kn) (r:List D):cP [.tup (cZ (gI kn) :: aw (gj sz kn) :: bw (fU kn) :: r)]=.val (.ob (cZ (gI kn)) (aw (gj sz kn)) (bw (fU kn))):=by
 have h:=q_ g
 have n1:=h.na40
 have n2:=h.tl
 simp only [cP,gz]
 have hf:b0 (fIt (bin fix (vb 0) (kd (.int 2)))) 1 (tgN 1) tT (eLs (fIt (vb 1))) [some (.shr (.tup (cZ (gI kn) :: aw (gj sz kn) :: bw (fU kn) :: r)))]=.val ((fU kn).map bo):=ge (f:=bo) (by simp;rfl) (by omega) fun r _=>rfl
 have eh:=wE h
 show fin (ret _ [some (.shr (.tup (cZ (gI kn) :: aw (gj sz kn) :: bw (fU kn) :: r)))])=_
 have ha:aC (eLs (fIt (bin fix (vb 0) (kd (.int 0))))) (aC (eLs (fIt (bin fix (vb 0) (kd (.int 1))))) (aC (eLs (b0 (fIt (bin fix (vb 0) (kd (.int 2)))) 1 (tgN 1) tT (eLs (fIt (vb 1))))) aN)) [some (.shr (.tup (cZ (gI kn) :: aw (gj sz kn) :: bw (fU kn) :: r)))]=.val [cZ (gI kn),aw (gj sz kn),bw (fU kn)]:=by
  simp only [eO,dZ,hf]
  simp;rfl
 rw [fj,yj,ha,ae];dsimp only
 rw [eh];rfl
end
end DL
namespace DL
open PySem L2 Ar
section
variable (ρ:Rho)
@[simp] theorem wT (a b:Rho->R D):yY a b ρ=(a ρ).bind fun x=>(asB x).bind fun c=>if c=true then b ρ else .val (.bl false):=Eq.trans rfl rfl
end
theorem mN {α:Type} {T:D->Rho->Option Rho} {t:Rho->R Bool} {e:Rho->R D} {f g:α->D} {p:α->Bool} {ρ:Rho}:∀ {l:List α},(∀ a ∈ l,∃ ρ1,T (f a) ρ=some ρ1/\t ρ1=.val (p a)/\e ρ1=.val (g a))->hC T t e (l.map f) ρ=.val ((l.filter p).map g)
 | [],_=>rfl
 | a :: r,h=>by
  obtain ⟨ρ1,h1,h2,h3⟩:=h a (by simp)
  have ih:=mN (T:=T) (t:=t) (e:=e) (f:=f) (g:=g) (p:=p) (ρ:=ρ) (l:=r) fun b hb=>h b (by simp [hb])
  rw [List.map_cons]
  unfold hC
  rw [h1]
  show (noE (t ρ1)).bind _=_
  rw [h2,List.filter_cons]
  cases q:p a with
  | true=>simp [h3,ih]
  | false=>simp [ih]
theorem ic {α:Type} {src:Rho->R (List D)} {n:Nat} {T:D->Rho->Option Rho} {t:Rho->R Bool} {e:Rho->R D} {f g:α->D} {p:α->Bool} {l:List α} {ρ:Rho} (hs:src ρ=.val (l.map f)) (hl:l.length<=100000)
  (h:∀ a ∈ l,∃ ρ1,T (f a) (ρ ++ List.replicate n none)=some ρ1/\t ρ1=.val (p a)/\e ρ1=.val (g a)):b0 src n T t e ρ=.val ((l.filter p).map g):=by
 unfold b0
 rw [hs,ae,if_pos (show (l.map f).length<=LIM by rw [List.length_map];exact hl),mN h]
 rfl
theorem vC (n:Nat):rng 0 n=(List.range n).map nD:=by
 unfold rng nD
 apply List.map_congr_left
 intro k _
 rw [Int.zero_add]
theorem rk:∀ (l:List D) (s:Nat),enu s l=(List.range l.length).map fun i=>.tup [nD (s + i),l.getD i .non]
 | [],s=>rfl
 | x :: r,s=>by
  unfold enu
  rw [rk r (s + 1),List.length_cons,List.range_succ_eq_map,List.map_cons,List.map_map]
  simp only [Nat.add_zero,List.getD_cons_zero]
  congr 1
  apply List.map_congr_left
  intro i _
  simp only [Function.comp,List.getD_cons_succ]
  rw [show s + 1 + i=s + (i + 1) by omega]
theorem mG {α:Type} {T:D->Rho->Option Rho} {F:Rho->R Out} {f g:α->D} {p:α->Bool} (I:Rho->Prop):∀ {l:List α} {ρ:Rho},(∀ a ∈ l,∀ ρ,I ρ->∃ ρ1,T (f a) ρ=some ρ1/\(p a=true->F ρ1=.val (.rt (g a)))/\(p a=false->∃ ρ2,F ρ1=.val (.nx ρ2)/\I ρ2))->I ρ ->
  (∃ a,l.find? p=some a/\b_ T F (l.map f) ρ=.val (.rt (g a)))\/(l.find? p=none/\∃ ρ',b_ T F (l.map f) ρ=.val (.nx ρ')/\I ρ')
 | [],ρ,_,h=>.inr ⟨rfl,ρ,rfl,h⟩
 | a :: r,ρ,step,h=>by
  obtain ⟨ρ1,h1,h2,h3⟩:=step a (by simp) ρ h
  rw [List.find?_cons,List.map_cons]
  unfold b_
  rw [h1]
  cases q:p a with
  | true=>exact .inl ⟨a,rfl,by dsimp only;rw [h2 q];rfl⟩
  | false =>
   obtain ⟨ρ2,e2,i2⟩:=h3 q
   dsimp only
   rw [e2]
   exact mG (T:=T) (F:=F) (f:=f) (g:=g) (p:=p) I (fun b hb=>step b (by simp [hb])) i2
theorem nJ (p q:Nat × Nat):feq (eR p) (eR q)=.val (.bl (decide (p=q))):=by
 by_cases h:p=q
 ·subst h;rw [o9 (iO _)];simp
 ·rw [o_ (iO _) (iO _) (fun z=>h (endD_inj.mp z))];simp [h]
end DL
namespace DL
open PySem L2 Ar
noncomputable def hlD (en:List (Nat × Nat)) (re:List Nat) (tb:List (List Int)):D:=.ob (cZ en) (aw re) (bw tb)
section
variable {en:List (Nat × Nat)} {re:List Nat} {tb:List (List Int)}
@[simp] theorem AM:i0 1 (hlD en re tb)=.val (aw re):=Eq.trans rfl rfl
end
section
variable (ρ:Rho)
end
theorem mQ {α:Type} (p:α->Bool):∀ l:List α,hG (l.map fun a=>D.bl (p a))=some (l.map p)
 | []=>rfl
 | a :: r=>by
  rw [List.map_cons,List.map_cons]
  unfold hG
  rw [mQ p r];rfl
theorem uM {α:Type} (p:α->Bool) (l:List α):pc (.lst (l.map fun a=>D.bl (p a)))=.val (.bl (l.all p)):=by
 unfold pc
 dsimp only
 rw [mQ]
 dsimp only
 rw [List.all_map];rfl
theorem sP:∀ {xs ys:List D},xs.length=ys.length->zp xs ys=(List.range xs.length).map fun i=>.tup [xs.getD i .non,ys.getD i .non]
 | [],[],_=>rfl
 | [],_ :: _,h=>by simp at h
 | _ :: _,[],h=>by simp at h
 | x :: xs,y :: ys,h=>by
  unfold zp
  rw [sP (by simpa using h),List.length_cons,List.range_succ_eq_map,List.map_cons,List.map_map]
  congr 1
theorem xk {α β:Type} {f:α->D} {g:β->D} {l:List α} {m:List β} {a:α} {b:β} (h:l.length=m.length):zp (l.map f) (m.map g)=(List.range l.length).map fun i=>.tup [f (l.getD i a),g (m.getD i b)]:=by
 rw [sP (by simpa using h),List.length_map]
 apply List.map_congr_left
 intro i hi
 have hi:=List.mem_range.mp hi
 rw [bn (show i < (l.map f).length by simpa using hi),bn (show i < (m.map g).length by simpa [<- h] using hi),bn hi,bn (show i < m.length by omega),List.getElem_map,List.getElem_map]
theorem uh {α:Type} {T:D->Rho->Option Rho} {F:Rho->R Out} {f:α->D} {ok:α->Bool} (I:Rho->Prop) {l:List α} {ρ:Rho} (step:∀ a ∈ l,∀ ρ,I ρ->∃ ρ1,T (f a) ρ=some ρ1/\(ok a=false->F ρ1=.val (.rt (.bl false)))/\(ok a=true->∃ ρ2,F ρ1=.val (.nx ρ2)/\I ρ2)) (h:I ρ) :
  (l.all ok=false/\b_ T F (l.map f) ρ=.val (.rt (.bl false)))\/(l.all ok=true/\∃ ρ',b_ T F (l.map f) ρ=.val (.nx ρ')/\I ρ'):=by
 rcases mG (T:=T) (F:=F) (f:=f) (g:=fun _=>.bl false) (p:=fun a=>!ok a) I (l:=l) (ρ:=ρ) (fun a ha ρ hI=>by
  obtain ⟨ρ1,h1,h2,h3⟩:=step a ha ρ hI
  exact ⟨ρ1,h1,fun q=>h2 (by simpa using q),fun q=>h3 (by simpa using q)⟩) h with ⟨a,e,z⟩ | ⟨e,z⟩
 ·refine .inl ⟨?_,z⟩
  have:=List.find?_some e
  rw [Bool.eq_false_iff]
  intro q
  have q:=List.all_eq_true.mp q a (List.mem_of_find?_eq_some e)
  simp [q] at this
 ·refine .inr ⟨?_,z⟩
  rw [List.all_eq_true]
  intro a ha
  have:=List.find?_eq_none.mp e a ha
  simpa using this
theorem wo {α:Type} {src:Rho->R (List D)} {T:D->Rho->Option Rho} {F:Rho->R Out} {f:α->D} {ok:α->Bool} (I:Rho->Prop) {l:List α} {ρ:Rho} (hs:src ρ=.val (l.map f)) (step:∀ a ∈ l,∀ ρ,I ρ->∃ ρ1,T (f a) ρ=some ρ1/\(ok a=false->F ρ1=.val (.rt (.bl false)))/\(ok a=true->∃ ρ2,F ρ1=.val (.nx ρ2)/\I ρ2)) (h:I ρ) :
  (l.all ok=false/\bE src T F ρ=.val (.rt (.bl false)))\/(l.all ok=true/\∃ ρ',bE src T F ρ=.val (.nx ρ')/\I ρ'):=by
 rw [dD,hs,ae]
 exact uh I step h
theorem rb {α:Type} {src:Rho->R (List D)} {T:D->Rho->Option Rho} {F:Rho->R Out} {f:α->D} {ok:α->Bool} (I:Rho->Prop) {l:List α} {ρ:Rho} (hs:src ρ=.val (l.map f)) (step:∀ a ∈ l,∀ ρ,I ρ->∃ ρ1,T (f a) ρ=some ρ1/\(ok a=false->F ρ1=.val (.rt (.bl false)))/\(ok a=true->∃ ρ2,F ρ1=.val (.nx ρ2)/\I ρ2)) (h:I ρ) :
  fin (sq (bE src T F) (ret (kd (.bl true))) ρ)=.val (.bl (l.all ok)):=by
 rw [be]
 rcases wo I hs step h with ⟨e,z⟩ | ⟨e,ρ',z,_⟩
 ·rw [z,e];rfl
 ·rw [z,e];rfl
theorem qE {F:Rho->R D} {ρ:Rho} {n:Nat} (h:F ρ=.val (.int (n:Int))) (hn:n<=100000):dl (aC F aN) ρ=.val ((List.range n).map nD):=by
 rw [i3,eO,h,ae,lT,ae,ae,dO hn,vC]
section
variable {en:List (Nat × Nat)} {re:List Nat} {tb:List (List Int)} {r:List D}
noncomputable def pA (l:List Nat):List Int:=l.map fun (k:Nat)=>(k:Int)
theorem sI (l:List Nat):(pA l).length=l.length:=by unfold pA;simp
noncomputable def btw (en:List (Nat × Nat)) (a b:Nat):List Nat:=(List.range en.length).filter fun n=>decide (en.getD n (0,0)=(a,b))
theorem ie (a b:Nat):(btw en a b).length<=en.length:=by
 unfold btw
 exact Nat.le_trans (List.length_filter_le _ _) (by rw [List.length_range];exact Nat.le_refl _)
theorem mem_btw {a b n:Nat}:n ∈ btw en a b ↔ n < en.length/\en.getD n (0,0)=(a,b):=by
 unfold btw
 rw [List.mem_filter,List.mem_range,decide_eq_true_iff]
theorem cv {A B:Rho->R Out} {ρ ρ':Rho} (h:A ρ=.val (.nx ρ')):sq A B ρ=B ρ':=by rw [be,h];rfl
theorem jP (h:cN en re tb) (a b:Nat):aK [.tup (cZ en :: r),nD a,nD b]=.val (aw (btw en a b)):=by
 simp only [aK,eU]
 show fin (ret _ [some (.shr (.tup (cZ en :: r))),some (.shr (nD a)),some (.shr (nD b))])=_
 have n40:=h.na40
 have hc:=ic (src:=dl (aC (una aJ (bin fix (vb 0) (kd (.int 0)))) aN)) (n:=1) (T:=tgN 3) (t:=tst (bin feq (bin fix (bin fix (vb 0) (kd (.int 0))) (vb 3)) (eT (aC (vr 1) (aC (vr 2) aN))))) (e:=vr 3) (f:=nD) (g:=nD) (p:=fun n=>decide (en.getD n (0,0)=(a,b))) (l:=List.range en.length) (ρ:=[some (.shr (.tup (cZ en :: r))),some (.shr (nD a)),some (.shr (nD b))]) (qE (by simp) (by omega)) (by rw [List.length_range];omega) fun n hn=>⟨_,rfl,by
  have hn:=List.mem_range.mp hn
  have f1:=fG (en:=en) hn
  have q:=nJ (en.getD n (0,0)) (a,b)
  simp [-List.getD_eq_getElem?_getD,f1]
  exact congrArg (fun z=>R.bind z asB) q,rfl⟩
 rw [fj,dZ,hc];rfl
theorem nM {α:Type} {f:α->D} (l:List α) (d:α):enu 0 (l.map f)=(List.range l.length).map fun i=>.tup [nD i,f (l.getD i d)]:=by
 rw [rk,List.length_map]
 apply List.map_congr_left
 intro i hi
 have hi:=List.mem_range.mp hi
 rw [Nat.zero_add,bn (show i < (l.map f).length by simpa using hi),bn hi,List.getElem_map]
theorem AH {den:List D->R D} {A:Rho->R D} {ρ:Rho} {a x:D} (ha:A ρ=.val a) (h:den [a]=.val x):cal 1 den (aC A aN) ρ=.val x:=by
 simp [ha,h]
theorem j9 {den:List D->R D} {A B:Rho->R D} {ρ:Rho} {a b x:D} (ha:A ρ=.val a) (hb:B ρ=.val b) (h:den [a,b]=.val x):cal 2 den (aC A (aC B aN)) ρ=.val x:=by
 simp [ha,hb,h]
theorem qu {den:List D->R D} {A B C:Rho->R D} {ρ:Rho} {a b c x:D} (ha:A ρ=.val a) (hb:B ρ=.val b) (hc:C ρ=.val c) (h:den [a,b,c]=.val x):cal 3 den (aC A (aC B (aC C aN))) ρ=.val x:=by
 simp [ha,hb,hc,h]
theorem wP {den:List D->R D} {A B C E:Rho->R D} {ρ:Rho} {a b c e x:D} (ha:A ρ=.val a) (hb:B ρ=.val b) (hc:C ρ=.val c) (he:E ρ=.val e) (h:den [a,b,c,e]=.val x):cal 4 den (aC A (aC B (aC C (aC E aN)))) ρ=.val x:=by
 simp [ha,hb,hc,he,h]
theorem fO {i:Nat} {e:Rho->R D} {ρ:Rho} {x:D} (h:e ρ=.val x):asg i e ρ=.val (.nx (ρ.set i (some (.shr x)))):=by rw [fA,h];rfl
theorem nU {e:Rho->R D} {ρ:Rho} {x:D} (h:e ρ=.val x):drp e ρ=.val (.nx ρ):=by rw [yS,h];rfl
theorem dS {t:Rho->R Bool} {a:Rho->R Out} {ρ:Rho} (h:t ρ=.val false):DL.iff t a nxt ρ=.val (.nx ρ):=by rw [cV,h];rfl
theorem ji {A:Rho->R Out} {B:Rho->R D} {ρ ρ':Rho} (h:A ρ=.val (.nx ρ')):sqK A B ρ=B ρ':=by
 unfold sqK
 rw [h]
theorem gw {b:Nat} (hb:b < re.length):bh [hlD en re tb,nD b]=.val .non:=by
 simp only [bh,fN]
 show fin (DL.iff _ _ _ [some (.shr (hlD en re tb)),some (.shr (nD b))])=_
 have:=dm hb
 simp [this]
theorem qk (h:cN en re tb) {a b:Nat} (ha:a < re.length) (hb:b < re.length):cJ [hlD en re tb,nD a,nD b]=.val (aw (btw en a b)):=by
 simp only [cJ,g9]
 show fin (sq _ _ [some (.shr (hlD en re tb)),some (.shr (nD a)),some (.shr (nD b))])=_
 have n40:=h.na40
 have e1:drp (cal 2 bh (aC (vr 0) (aC (vr 1) aN))) [some (.shr (hlD en re tb)),some (.shr (nD a)),some (.shr (nD b))]=.val (.nx [some (.shr (hlD en re tb)),some (.shr (nD a)),some (.shr (nD b))]):=nU (j9 rfl rfl (gw ha))
 have e2:drp (cal 2 bh (aC (vr 0) (aC (vr 2) aN))) [some (.shr (hlD en re tb)),some (.shr (nD a)),some (.shr (nD b))]=.val (.nx [some (.shr (hlD en re tb)),some (.shr (nD a)),some (.shr (nD b))]):=nU (j9 rfl rfl (gw hb))
 rw [cv e1,cv e2]
 have hc:=ic (src:=fD (aC (una (i0 0) (vb 0)) aN)) (n:=2) (T:=tg2 3 4) (t:=tst (bin feq (vb 4) (eT (aC (vr 1) (aC (vr 2) aN))))) (e:=vr 3) (f:=fun i=>.tup [nD i,eR (en.getD i (0,0))]) (g:=nD) (p:=fun n=>decide (en.getD n (0,0)=(a,b))) (l:=List.range en.length) (ρ:=[some (.shr (hlD en re tb)),some (.shr (nD a)),some (.shr (nD b))]) (by
  rw [<- nM (f:=eR) en (0,0)];rfl) (by rw [List.length_range];omega) fun n hn=>⟨_,rfl,by
  have q:=nJ (en.getD n (0,0)) (a,b)
  exact congrArg (fun z=>R.bind z asB) q,rfl⟩
 rw [fj,dZ,hc];rfl
theorem wf {n i:Nat} (h:i < n):ixN n (i:Int)=some i:=by
 unfold ixN
 rw [if_pos (Int.natCast_nonneg i),if_pos (Int.ofNat_lt.mpr h),Int.toNat_natCast]
end
end DL
namespace DL
open PySem L2 Ar
theorem ug {α:Type} {T:D->Rho->Option Rho} {F:Rho->R Out} {f:α->D} (I:List α->Rho->Prop) (post:List α):∀ (pre:List α) {ρ:Rho},(∀ p a q,pre ++ post=p ++ a :: q->∀ ρ,I p ρ->∃ ρ1 ρ2,T (f a) ρ=some ρ1/\F ρ1=.val (.nx ρ2)/\I (p ++ [a]) ρ2)->I pre ρ->∃ ρ',b_ T F (post.map f) ρ=.val (.nx ρ')/\I (pre ++ post) ρ':=by
 induction post with
 | nil=>intro pre ρ _ h;exact ⟨ρ,rfl,by rwa [List.append_nil]⟩
 | cons a r ih =>
  intro pre ρ step h
  obtain ⟨ρ1,ρ2,h1,h2,h3⟩:=step pre a r rfl ρ h
  rw [List.map_cons]
  unfold b_
  rw [h1]
  dsimp only
  rw [h2]
  have:=ih (pre ++ [a]) (ρ:=ρ2) (fun p b q e=>step p b q (by rw [<- e];simp)) h3
  rwa [List.append_assoc] at this
theorem fF {α:Type} {src:Rho->R (List D)} {T:D->Rho->Option Rho} {F:Rho->R Out} {f:α->D} (I:List α->Rho->Prop) {l:List α} {ρ:Rho} (hs:src ρ=.val (l.map f)) (step:∀ p a q,l=p ++ a :: q->∀ ρ,I p ρ->∃ ρ1 ρ2,T (f a) ρ=some ρ1/\F ρ1=.val (.nx ρ2)/\I (p ++ [a]) ρ2) (h:I [] ρ) :
  ∃ ρ',bE src T F ρ=.val (.nx ρ')/\I l ρ':=by
 rw [dD,hs,ae]
 exact ug I l [] step h
noncomputable abbrev Tie:=Nat × Nat × Nat
noncomputable def stp (rows:List (List Nat)) (as:List Nat):List (List Nat):=rows.flatMap fun r=>as.map fun a=>r ++ [a]
noncomputable def kpt (tb:List (List Int)) (row:List Nat) (t:Tie):Bool:=decide ((tb.getD (row.getD t.1 0) []).getD t.2.2 (-1)=((row.getD t.2.1 0:Nat):Int))
theorem mX (rows:List (List Nat)) (as:List Nat):(stp rows as).length=rows.length * as.length:=by
 unfold stp
 induction rows with
 | nil=>simp
 | cons r l ih=>rw [List.flatMap_cons,List.length_append,ih,List.length_map,List.length_cons,Nat.succ_mul,Nat.add_comm]
theorem qD (a b:List (List Nat)) (as:List Nat):stp (a ++ b) as=stp a as ++ stp b as:=by unfold stp;simp
theorem mem_stp {rows:List (List Nat)} {as:List Nat} {x:List Nat}:x ∈ stp rows as ↔ ∃ r ∈ rows,∃ a ∈ as,x=r ++ [a]:=by
 unfold stp
 rw [List.mem_flatMap]
 constructor
 ·rintro ⟨r,hr,hx⟩
  obtain ⟨a,ha,rfl⟩:=List.mem_map.mp hx
  exact ⟨r,hr,a,ha,rfl⟩
 ·rintro ⟨r,hr,a,ha,rfl⟩
  exact ⟨r,hr,List.mem_map.mpr ⟨a,ha,rfl⟩⟩
noncomputable def rws (B:Nat->List Nat) (pl:List Nat):List (List Nat):=pl.foldl (fun rows p=>stp rows (B p)) [[]]
theorem iJ (B:Nat->List Nat) (pl:List Nat) (p:Nat):rws B (pl ++ [p])=stp (rws B pl) (B p):=by unfold rws;rw [List.foldl_append];rfl
noncomputable def lt (n:Nat) (ts:List Tie):List Tie:=ts.filter fun t=>decide (max t.1 t.2.1 < n)
noncomputable def du (n:Nat) (ts:List Tie):List Tie:=ts.filter fun t=>decide (max t.1 t.2.1=n)
noncomputable def kws (tb:List (List Int)) (B:Nat->List Nat) (pl:List Nat) (ts:List Tie):List (List Nat):=(rws B pl).filter fun row=>(lt pl.length ts).all (kpt tb row)
structure Row (N k:Nat) (row:List Nat):Prop where
 len:row.length=k
 bd:∀ a ∈ row,a < N
theorem Row.snoc {N k:Nat} {row:List Nat} {a:Nat} (h:Row N k row) (ha:a < N):Row N (k + 1) (row ++ [a]):=by
 refine ⟨by rw [List.length_append,h.len];rfl,fun b hb=>?_⟩
 rcases List.mem_append.mp hb with hb | hb
 ·exact h.bd b hb
 ·rw [List.mem_singleton.mp hb];exact ha
theorem Row.at {N k:Nat} {row:List Nat} (h:Row N k row) {i:Nat} (hi:i < k):row.getD i 0 < N:=by
 rw [bn (by rw [h.len];exact hi)];exact h.bd _ (List.getElem_mem _)
theorem vz {N:Nat} {B:Nat->List Nat} (hB:∀ p,∀ a ∈ B p,a < N) (pl:List Nat):∀ n,n<=pl.length->∀ row ∈ rws B (pl.take n),Row N n row:=by
 intro n
 induction n with
 | zero=>intro _ row h;rw [List.take_zero] at h;rw [show row=[] from List.mem_singleton.mp h];exact ⟨rfl,(fun a h=>by cases h)⟩
 | succ n ih =>
  intro hn row h
  rw [List.take_succ_eq_append_getElem (by omega),iJ] at h
  obtain ⟨r,hr,a,ha,rfl⟩:=mem_stp.mp h
  exact (ih (by omega) r hr).snoc (hB _ a ha)
theorem iK {N:Nat} {B:Nat->List Nat} (hB:∀ p,∀ a ∈ B p,a < N) (pl:List Nat):∀ row ∈ rws B pl,Row N pl.length row:=by
 have:=vz hB pl pl.length (Nat.le_refl _)
 rwa [List.take_length] at this
theorem uq {N k:Nat} {tb:List (List Int)} {row:List Nat} {a:Nat} {t:Tie} (h:Row N k row) (ht:max t.1 t.2.1 < k):kpt tb (row ++ [a]) t=kpt tb row t:=by
 have h1:t.1 < row.length:=by rw [h.len];omega
 have h2:t.2.1 < row.length:=by rw [h.len];omega
 unfold kpt
 have e:∀ i,i < row.length->(row ++ [a]).getD i 0=row.getD i 0:=fun i hi=>by
  rw [List.getD_eq_getElem?_getD,List.getD_eq_getElem?_getD,List.getElem?_append_left hi]
 rw [e _ h1,e _ h2]
theorem o8 {p:List Nat->Bool} {q s:List Nat->Bool} {as:List Nat}:∀ {rows:List (List Nat)},(∀ r ∈ rows,∀ a ∈ as,s (r ++ [a])=(p r && q (r ++ [a])))->(stp (rows.filter p) as).filter q=(stp rows as).filter s
 | [],_=>rfl
 | r :: l,h=>by
  have ih:=o8 (p:=p) (q:=q) (s:=s) (as:=as) (rows:=l) fun x hx=>h x (by simp [hx])
  have hr:=h r (by simp)
  have one:∀ x:List Nat,∀ l:List (List Nat),stp (x :: l) as=(as.map fun a=>x ++ [a]) ++ stp l as:=fun x l=>by unfold stp;rw [List.flatMap_cons]
  rw [one,List.filter_append,List.filter_cons]
  cases e:p r with
  | true =>
   simp only [if_true]
   rw [one,List.filter_append,ih]
   congr 1
   apply List.filter_congr
   intro x hx
   obtain ⟨a,ha,rfl⟩:=List.mem_map.mp hx
   rw [hr a ha,e];rfl
  | false =>
   rw [if_neg (by decide),ih]
   have:List.filter s (as.map fun a=>r ++ [a])=[]:=by
    rw [List.filter_eq_nil_iff]
    intro x hx
    obtain ⟨a,ha,rfl⟩:=List.mem_map.mp hx
    rw [hr a ha,e];simp
   rw [this];rfl
theorem sK (k:Nat) (f:Tie->Bool) (ts:List Tie):(lt (k + 1) ts).all f=((lt k ts).all f && (du k ts).all f):=by
 rw [Bool.eq_iff_iff]
 unfold lt du
 simp only [Bool.and_eq_true,List.all_eq_true,List.mem_filter,decide_eq_true_eq]
 constructor
 ·intro h;exact ⟨fun t ht=>h t ⟨ht.1,by omega⟩,fun t ht=>h t ⟨ht.1,by omega⟩⟩
 ·rintro ⟨h1,h2⟩ t ⟨ht,hm⟩
  by_cases e:max t.1 t.2.1=k
  ·exact h2 t ⟨ht,e⟩
  ·exact h1 t ⟨ht,by omega⟩
theorem uo {N:Nat} {tb:List (List Int)} {B:Nat->List Nat} (hB:∀ p,∀ a ∈ B p,a < N) (pl:List Nat) (p:Nat) (ts:List Tie) :
  (stp (kws tb B pl ts) (B p)).filter (fun row=>(du pl.length ts).all (kpt tb row))=kws tb B (pl ++ [p]) ts:=by
 unfold kws
 rw [iJ]
 apply o8
 intro r hr a ha
 have rr:=iK hB pl r hr
 rw [List.length_append,List.length_singleton,sK]
 congr 1
 rw [Bool.eq_iff_iff,List.all_eq_true,List.all_eq_true]
 have key:∀ t ∈ lt pl.length ts,kpt tb (r ++ [a]) t=kpt tb r t:=fun t ht=>by
  unfold lt at ht
  rw [List.mem_filter,decide_eq_true_eq] at ht
  exact uq rr ht.2
 exact ⟨fun h t ht=>by rw [<- key t ht];exact h t ht,fun h t ht=>by rw [key t ht];exact h t ht⟩
theorem yk {n:Nat} {ts:List Tie} (h:∀ t ∈ ts,t.1 < n/\t.2.1 < n):lt n ts=ts:=by
 unfold lt
 rw [List.filter_eq_self]
 intro t ht
 have:=h t ht
 simp;omega
theorem m8 {n:Nat} {B:Nat->List Nat} (hB:∀ p,(B p).length<=n) (hn:1<=n):∀ pl:List Nat,(rws B pl).length<=n ^ pl.length:=by
 intro pl
 suffices ∀ k,k<=pl.length->(rws B (pl.take k)).length<=n ^ k by
  have:=this pl.length (Nat.le_refl _)
  rwa [List.take_length] at this
 intro k
 induction k with
 | zero=>intro _;rw [List.take_zero];exact Nat.le_refl _
 | succ k ih =>
  intro hk
  rw [List.take_succ_eq_append_getElem (by omega),iJ,mX,Nat.pow_succ]
  exact Nat.mul_le_mul (ih (by omega)) (hB _)
end DL
namespace DL
open PySem L2 Ar
noncomputable def bM (t:Tie):D:=.tup [nD t.1,nD t.2.1,nD t.2.2]
noncomputable def ca (ts:List Tie):D:=.lst (ts.map bM)
noncomputable def rwD (rows:List (List Nat)):D:=.lst (rows.map aw)
theorem nH (t:Tie):fix (bM t) (.int 0)=.val (nD t.1):=qi _ _
theorem nG (t:Tie):fix (bM t) (.int 1)=.val (nD t.2.1):=lA _ _ _
theorem qj (t:Tie):fix (bM t) (.int 2)=.val (nD t.2.2):=qh _ _ _ _
theorem vE (l:List Nat):aw l=bo (pA l):=by unfold aw bo pA;rw [List.map_map];rfl
theorem xx (rows:List (List Nat)):rwD rows=bw (rows.map pA):=by
 unfold rwD bw
 rw [List.map_map]
 congr 1
 apply List.map_congr_left
 intro a _
 exact vE a
theorem o4 (l:List Nat):(l.map nD).all o7=true:=by
 rw [List.all_eq_true]
 intro x hx
 obtain ⟨a,_,rfl⟩:=List.mem_map.mp hx
 rfl
theorem wq (rows:List (List Nat)):d8 (.l (.l .s)) (rwD rows)=true:=by
 show (rows.map aw).all (d8 (.l .s))=true
 rw [List.all_eq_true]
 intro x hx
 obtain ⟨a,_,rfl⟩:=List.mem_map.mp hx
 exact o4 a
structure Pic (en:List (Nat × Nat)) (re:List Nat) (pl:List Nat) (ts:List Tie):Prop where
 l3:pl.length<=3
 l4:ts.length<=4
 pb:∀ i,i < pl.length->pl.getD i 0 < re.length
 tk:∀ t ∈ ts,t.1 < pl.length/\t.2.1 < pl.length/\t.2.2 < en.length/\en.getD t.2.2 (0,0)=(pl.getD t.1 0,pl.getD t.2.1 0)
section
variable {en:List (Nat × Nat)} {re:List Nat} {tb:List (List Int)} {pl:List Nat} {ts:List Tie}
theorem nL (h:cN en re tb) {k:Nat} {row:List Nat} (hr:Row en.length k row) {t:Tie} (h1:t.1 < k) (h2:t.2.1 < k) (h3:t.2.2 < en.length):bD [hlD en re tb,aw row,bM t]=.val (.bl (kpt tb row t)):=by
 simp only [bD,fM]
 show fin (ret _ [some (.shr (hlD en re tb)),some (.shr (aw row)),some (.shr (bM t))])=_
 have a1:=hr.at h1
 have f0:bin fix (vb 1) (bin fix (vb 2) (kd (.int 0))) [some (.shr (hlD en re tb)),some (.shr (aw row)),some (.shr (bM t))]=.val (nD (row.getD t.1 0)):=by
  show R.bind (fix (bM t) (.int 0)) (fun y=>fix (aw row) y)=_
  rw [nH,ae,dE (by rw [hr.len];exact h1)]
 have f1:bin fix (vb 1) (bin fix (vb 2) (kd (.int 1))) [some (.shr (hlD en re tb)),some (.shr (aw row)),some (.shr (bM t))]=.val (nD (row.getD t.2.1 0)):=by
  show R.bind (fix (bM t) (.int 1)) (fun y=>fix (aw row) y)=_
  rw [nG,ae,dE (by rw [hr.len];exact h2)]
 have f2:bin fix (vb 2) (kd (.int 2)) [some (.shr (hlD en re tb)),some (.shr (aw row)),some (.shr (bM t))]=.val (nD t.2.2):=qj t
 have f3:una (i0 2) (vb 0) [some (.shr (hlD en re tb)),some (.shr (aw row)),some (.shr (bM t))]=.val (bw tb):=Eq.trans rfl rfl
 have g1:=gt (tb:=tb) (i:=row.getD t.1 0) (by rw [h.tl];exact a1)
 have g2:=gu (r:=tb.getD (row.getD t.1 0) []) (i:=t.2.2) (by rw [h.rl _ a1];exact h3)
 rw [fj,aS,aS,aS,f3,ae,f0,ae,g1,ae,f2,ae,g2,ae,f1,ae,nI]
 rfl
theorem sE (h:cN en re tb) (g:Pic en re pl ts) {t:Tie} (ht:t ∈ ts):dI [hlD en re tb,aw pl,bM t]=.val (.bl true):=by
 obtain ⟨h1,h2,h3,h4⟩:=g.tk t ht
 simp only [dI,iw]
 show fin (sq _ _ [some (.shr (hlD en re tb)),some (.shr (aw pl)),some (.shr (bM t))])=_
 have v0:bin fix (vb 2) (kd (.int 0)) [some (.shr (hlD en re tb)),some (.shr (aw pl)),some (.shr (bM t))]=.val (nD t.1):=nH t
 have v1:bin fix (vb 2) (kd (.int 1)) [some (.shr (hlD en re tb)),some (.shr (aw pl)),some (.shr (bM t))]=.val (nD t.2.1):=nG t
 have v2:bin fix (vb 2) (kd (.int 2)) [some (.shr (hlD en re tb)),some (.shr (aw pl)),some (.shr (bM t))]=.val (nD t.2.2):=qj t
 have lp:una aJ (vb 1) [some (.shr (hlD en re tb)),some (.shr (aw pl)),some (.shr (bM t))]=.val (nD pl.length):=dW pl
 have le:una aJ (una (i0 0) (vb 0)) [some (.shr (hlD en re tb)),some (.shr (aw pl)),some (.shr (bM t))]=.val (nD en.length):=uK en
 have t0:tst (bin fne (una aJ (vb 2)) (kd (.int 3))) [some (.shr (hlD en re tb)),some (.shr (aw pl)),some (.shr (bM t))]=.val false:=by
  show R.bind (fne (.int 3) (.int 3)) asB=_
  rw [qg];rfl
 have s1:DL.iff (orB (tst (bin fne (una aJ (vb 2)) (kd (.int 3)))) (orB (dw (tst (cal 2 aF (aC (bin fix (vb 2) (kd (.int 0))) (aC (una aJ (vb 1)) aN))))) (dw (tst (cal 2 aF (aC (bin fix (vb 2) (kd (.int 1))) (aC (una aJ (vb 1)) aN)))))))
   (ret (kd (.bl false))) nxt [some (.shr (hlD en re tb)),some (.shr (aw pl)),some (.shr (bM t))]=.val (.nx [some (.shr (hlD en re tb)),some (.shr (aw pl)),some (.shr (bM t))]):=by
  refine dS ?_
  rw [gP,t0,ae,if_neg (by decide),gP,eG,cK,j9 v0 lp (dm h1),ae,lS,ae,ae,if_neg (by decide),eG,cK,j9 v1 lp (dm h2)]
  rfl
 rw [cv s1]
 have c2:cal 2 aF (aC (bin fix (vb 2) (kd (.int 2))) (aC (una aJ (una (i0 0) (vb 0))) aN)) [some (.shr (hlD en re tb)),some (.shr (aw pl)),some (.shr (bM t))]=.val (.bl true):=j9 v2 le (dm h3)
 have w0:bin fix (una (i0 0) (vb 0)) (bin fix (vb 2) (kd (.int 2))) [some (.shr (hlD en re tb)),some (.shr (aw pl)),some (.shr (bM t))]=.val (eR (en.getD t.2.2 (0,0))):=by
  rw [aS,v2]
  exact fG h3
 have w1:bin fix (vb 1) (bin fix (vb 2) (kd (.int 0))) [some (.shr (hlD en re tb)),some (.shr (aw pl)),some (.shr (bM t))]=.val (nD (pl.getD t.1 0)):=by
  rw [aS,v0]
  exact dE h1
 have w2:bin fix (vb 1) (bin fix (vb 2) (kd (.int 1))) [some (.shr (hlD en re tb)),some (.shr (aw pl)),some (.shr (bM t))]=.val (nD (pl.getD t.2.1 0)):=by
  rw [aS,v1]
  exact dE h2
 have w3:eT (aC (bin fix (vb 1) (bin fix (vb 2) (kd (.int 0)))) (aC (bin fix (vb 1) (bin fix (vb 2) (kd (.int 1)))) aN)) [some (.shr (hlD en re tb)),some (.shr (aw pl)),some (.shr (bM t))]=.val (eR (pl.getD t.1 0,pl.getD t.2.1 0)):=by
  rw [pk,eO,w1,ae,eO,w2]
  rfl
 rw [fj,wT,c2,ae,lS,ae,if_pos rfl,aS,w0,ae,w3,ae,h4,nJ]
 simp
theorem ju (h:cN en re tb) (g:Pic en re pl ts):bv [hlD en re tb,aw pl,ca ts]=.val .non:=by
 simp only [bv,d5]
 show fin (sq _ _ [some (.shr (hlD en re tb)),some (.shr (aw pl)),some (.shr (ca ts)),none,none,none,none])=_
 have l3:=g.l3
 have l4:=g.l4
 have s1:DL.iff (orB (tst (bin (iI fgt) (una aJ (vb 1)) (kd (.int 3)))) (tst (bin (iI fgt) (una aJ (vb 2)) (kd (.int 4))))) bad nxt [some (.shr (hlD en re tb)),some (.shr (aw pl)),some (.shr (ca ts)),none,none,none,none]=.val (.nx [some (.shr (hlD en re tb)),some (.shr (aw pl)),some (.shr (ca ts)),none,none,none,none]):=by
  refine dS ?_
  have a:tst (bin (iI fgt) (una aJ (vb 1)) (kd (.int 3))) [some (.shr (hlD en re tb)),some (.shr (aw pl)),some (.shr (ca ts)),none,none,none,none]=.val (decide ((3:Int) < pl.length)):=by
   have v:una aJ (vb 1) [some (.shr (hlD en re tb)),some (.shr (aw pl)),some (.shr (ca ts)),none,none,none,none]=.val (nD pl.length):=dW pl
   rw [cK,aS,v];rfl
  have b:tst (bin (iI fgt) (una aJ (vb 2)) (kd (.int 4))) [some (.shr (hlD en re tb)),some (.shr (aw pl)),some (.shr (ca ts)),none,none,none,none]=.val (decide ((4:Int) < ts.length)):=by
   have v:una aJ (vb 2) [some (.shr (hlD en re tb)),some (.shr (aw pl)),some (.shr (ca ts)),none,none,none,none]=.val (nD ts.length):=by
    show aJ (.lst (ts.map bM))=_
    rw [uJ,List.length_map]
   rw [cK,aS,v];rfl
  rw [gP,a,ae,if_neg (by simp;omega),b,decide_eq_false (by omega)]
 rw [cv s1]
 obtain ⟨ρ1,e1,x3,x4,rfl⟩:=fF (src:=fD (aC (vr 1) aN)) (T:=tg2 3 4) (F:=DL.iff (dw (tst (cal 2 aF (aC (vr 4) (aC (una aJ (una (i0 1) (vb 0))) aN))))) bad nxt) (f:=fun i=>.tup [nD i,nD (pl.getD i 0)]) (l:=List.range pl.length) (ρ:=[some (.shr (hlD en re tb)),some (.shr (aw pl)),some (.shr (ca ts)),none,none,none,none])
  (fun _ ρ=>∃ x3 x4:Option Slt,ρ=[some (.shr (hlD en re tb)),some (.shr (aw pl)),some (.shr (ca ts)),x3,x4,none,none]) (by
   show R.val (enu 0 (pl.map nD))=_
   rw [nM pl 0]) (fun p i q e ρ hI=>by
  obtain ⟨x3,x4,rfl⟩:=hI
  have hi:i < pl.length:=List.mem_range.mp (by rw [e];simp)
  refine ⟨_,_,rfl,dS (ρ:=[some (.shr (hlD en re tb)),some (.shr (aw pl)),some (.shr (ca ts)),some (.shr (nD i)),some (.shr (nD (pl.getD i 0))),none,none]) ?_,_,_,rfl⟩
  rw [eG,cK,j9 (a:=nD (pl.getD i 0)) (b:=nD re.length) rfl (dW re) (dm (g.pb i hi))];rfl) ⟨_,_,rfl⟩
 rw [cv e1]
 obtain ⟨ρ2,e2,x5,x6,rfl⟩:=fF (src:=fD (aC (vr 2) aN)) (T:=tg2 5 6) (F:=DL.iff (dw (tst (cal 3 dI (aC (vr 0) (aC (vr 1) (aC (vr 6) aN)))))) bad nxt) (f:=fun i=>.tup [nD i,bM (ts.getD i (0,0,0))]) (l:=List.range ts.length) (ρ:=[some (.shr (hlD en re tb)),some (.shr (aw pl)),some (.shr (ca ts)),x3,x4,none,none])
  (fun _ ρ=>∃ x5 x6:Option Slt,ρ=[some (.shr (hlD en re tb)),some (.shr (aw pl)),some (.shr (ca ts)),x3,x4,x5,x6]) (by
   show R.val (enu 0 (ts.map bM))=_
   rw [nM ts (0,0,0)]) (fun p i q e ρ hI=>by
  obtain ⟨x5,x6,rfl⟩:=hI
  have hi:i < ts.length:=List.mem_range.mp (by rw [e];simp)
  refine ⟨_,_,rfl,dS (ρ:=[some (.shr (hlD en re tb)),some (.shr (aw pl)),some (.shr (ca ts)),x3,x4,some (.shr (nD i)),some (.shr (bM (ts.getD i (0,0,0))))]) ?_,_,_,rfl⟩
  rw [eG,cK,qu (a:=hlD en re tb) (b:=aw pl) (c:=bM (ts.getD i (0,0,0))) rfl rfl rfl (sE h g (by rw [bn hi];exact List.getElem_mem hi))];rfl) ⟨_,_,rfl⟩
 rw [e2];rfl
end
end DL
namespace DL
open PySem L2 Ar
theorem pQ {i:Nat} {k:OK} {e:Rho->R D} {ρ:Rho} {x:D} (h:e ρ=.val x):trS i k e ρ=.val (.nx (ρ.set i (some (.tre k x)))):=by
 unfold trS;rw [h];rfl
theorem nB {t:Rho->R Bool} {a b:Rho->R Out} {ρ:Rho} (h:t ρ=.val true):DL.iff t a b ρ=a ρ:=by rw [cV,h];rfl
section
variable {en:List (Nat × Nat)} {re:List Nat} {tb:List (List Int)} {pl:List Nat} {ts:List Tie}
noncomputable abbrev rGr (H:D) (beg:List (List Nat)) (as:List Nat) (du:List Tie) (lo:List (List Nat)) (x5 x6 x7:Option Slt):Rho :=
 [some (.shr H),some (.shr (rwD beg)),some (.shr (aw as)),some (.shr (ca du)),some (.tre (.l (.l .s)) (rwD lo)),x5,x6,x7]
theorem yW {H:D} {beg lo:List (List Nat)} {as row:List Nat} {du:List Tie} {x5 x6:Option Slt} (hl:lo.length < 100000):asO (apM 4 7 (.l .s) (pN0 4)) (rGr H beg as du lo x5 x6 (some (.tre (.l .s) (aw row))))=.val (.nx (rGr H beg as du (lo ++ [row]) x5 x6 none)):=by
 have e:apM 4 7 (.l .s) (pN0 4) (rGr H beg as du lo x5 x6 (some (.tre (.l .s) (aw row))))=.val (rGr H beg as du (lo ++ [row]) x5 x6 none):=by
  show (if 4 ≠ 7/\(.l .s:OK)=.l .s/\gh (.l (.l .s)) []=some (.l (.l .s)) then (if (lo.map aw).length < LIM then R.val _ else R.bad) else R.bad)=_
  rw [if_pos ⟨by decide,rfl,rfl⟩,if_pos (by rw [List.length_map];exact hl)]
  show R.val (([some (.shr H),some (.shr (rwD beg)),some (.shr (aw as)),some (.shr (ca du)),some (.tre (.l (.l .s)) (.lst (lo.map aw ++ [aw row]))),x5,x6,none]:Rho))=_
  rw [show lo.map aw ++ [aw row]=(lo ++ [row]).map aw by simp]
  rfl
 unfold asO
 rw [e];rfl
theorem uT (h:cN en re tb) {k:Nat} {beg:List (List Nat)} {as:List Nat} {du:List Tie} (hb:∀ r ∈ beg,Row en.length k r) (ha:∀ a ∈ as,a < en.length) (hd:∀ t ∈ du,t.1 < k + 1/\t.2.1 < k + 1/\t.2.2 < en.length) (hk:k<=1000) (hl:beg.length * as.length<=64000) (hdl:du.length<=1000) :
  dA [hlD en re tb,rwD beg,aw as,ca du]=.val (rwD ((stp beg as).filter fun row=>du.all (kpt tb row))):=by
 simp only [dA,jx]
 show sqK _ _ [some (.shr (hlD en re tb)),some (.shr (rwD beg)),some (.shr (aw as)),some (.shr (ca du)),none,none,none,none]=_
 have s1:trS 4 (.l (.l .s)) (eLs (eM aN)) [some (.shr (hlD en re tb)),some (.shr (rwD beg)),some (.shr (aw as)),some (.shr (ca du)),none,none,none,none]=.val (.nx (rGr (hlD en re tb) beg as du [] none none none)):=Eq.trans rfl rfl
 rw [ji s1]
 obtain ⟨ρ1,e1,x5,x6,x7,rfl⟩:=fF (src:=fIt (vr 1)) (T:=tgN 5) (F:=bE (fIt (vr 2)) (tgN 6)
   (sq (trS 7 (.l .s) (eLs (flL (sC (vb 5) (eL (aC (vr 6) aN))))))
   (DL.iff (tst (una pc (eLs (b0 (fIt (vr 3)) 1 (tgN 8) tT (flF (cal 3 bD (aC (vb 0) (aC (va 7) (aC (vb 8) aN)))))))))
   (asO (apM 4 7 (.l .s) (pN0 4)))
   nxt))) (f:=aw) (l:=beg) (ρ:=rGr (hlD en re tb) beg as du [] none none none)
  (fun p ρ=>∃ x5 x6 x7:Option Slt,ρ=rGr (hlD en re tb) beg as du ((stp p as).filter fun row=>du.all (kpt tb row)) x5 x6 x7) rfl (fun p r q e ρ hI=>by
   obtain ⟨x5,x6,x7,rfl⟩:=hI
   have hr:Row en.length k r:=hb r (by rw [e];simp)
   have lr:=hr.len
   obtain ⟨ρ2,e2,y6,y7,rfl⟩:=fF (src:=fIt (vr 2)) (T:=tgN 6) (F:=sq (trS 7 (.l .s) (eLs (flL (sC (vb 5) (eL (aC (vr 6) aN))))))
     (DL.iff (tst (una pc (eLs (b0 (fIt (vr 3)) 1 (tgN 8) tT (flF (cal 3 bD (aC (vb 0) (aC (va 7) (aC (vb 8) aN)))))))))
     (asO (apM 4 7 (.l .s) (pN0 4)))
     nxt)) (f:=nD) (l:=as) (ρ:=rGr (hlD en re tb) beg as du ((stp p as).filter fun row=>du.all (kpt tb row)) (some (.shr (aw r))) x6 x7)
    (fun o ρ=>∃ y6 y7:Option Slt,ρ=rGr (hlD en re tb) beg as du (((stp p as).filter fun row=>du.all (kpt tb row)) ++ ((o.map fun a=>r ++ [a]).filter fun row=>du.all (kpt tb row))) (some (.shr (aw r))) y6 y7) rfl (fun o a u eo ρ hI=>by
     obtain ⟨y6,y7,rfl⟩:=hI
     have aa:a < en.length:=ha a (by rw [eo];simp)
     have hn:Row en.length (k + 1) (r ++ [a]):=hr.snoc aa
     generalize hlo:(((stp p as).filter fun row=>du.all (kpt tb row)) ++ ((o.map fun a=>r ++ [a]).filter fun row=>du.all (kpt tb row)))=lo
     have llo:lo.length < 100000:=by
      rw [<- hlo,List.length_append]
      have l1:=List.length_filter_le (fun row=>du.all (kpt tb row)) (stp p as)
      have l2:=List.length_filter_le (fun row=>du.all (kpt tb row)) (o.map fun a=>r ++ [a])
      rw [mX] at l1
      rw [List.length_map] at l2
      have b1:beg.length=p.length + (q.length + 1):=by rw [e];simp
      have b2:as.length=o.length + (u.length + 1):=by rw [eo];simp
      have b3:(p.length + 1) * as.length<=beg.length * as.length:=Nat.mul_le_mul_right _ (by omega)
      rw [Nat.succ_mul] at b3
      omega
     have s2:trS 7 (.l .s) (eLs (flL (sC (vb 5) (eL (aC (vr 6) aN))))) (rGr (hlD en re tb) beg as du lo (some (.shr (aw r))) (some (.shr (nD a))) y7)=.val (.nx (rGr (hlD en re tb) beg as du lo (some (.shr (aw r))) (some (.shr (nD a))) (some (.tre (.l .s) (aw (r ++ [a])))))):=by
      refine pQ ?_
      have c:sC (vb 5) (eL (aC (vr 6) aN)) (rGr (hlD en re tb) beg as du lo (some (.shr (aw r))) (some (.shr (nD a))) y7)=.val ((r ++ [a]).map nD):=by
       show (if (r.map nD).length + 1<=LIM then R.val (r.map nD ++ [nD a]) else R.bad)=_
       rw [if_pos (by rw [List.length_map];show _<=100000;omega)]
       simp
      rw [dZ]
      unfold flL
      rw [c,ae,if_pos (o4 _)]
      rfl
     have tt:tst (una pc (eLs (b0 (fIt (vr 3)) 1 (tgN 8) tT (flF (cal 3 bD (aC (vb 0) (aC (va 7) (aC (vb 8) aN)))))))) (rGr (hlD en re tb) beg as du lo (some (.shr (aw r))) (some (.shr (nD a))) (some (.tre (.l .s) (aw (r ++ [a])))))=.val (du.all (kpt tb (r ++ [a]))):=by
      have c:=ge (src:=fIt (vr 3)) (n:=1) (i:=8) (e:=flF (cal 3 bD (aC (vb 0) (aC (va 7) (aC (vb 8) aN))))) (f:=bM) (g:=fun t=>.bl (kpt tb (r ++ [a]) t)) (l:=du) (ρ:=rGr (hlD en re tb) beg as du lo (some (.shr (aw r))) (some (.shr (nD a))) (some (.tre (.l .s) (aw (r ++ [a]))))) rfl (by omega) (fun t ht=>by
       obtain ⟨d1,d2,d3⟩:=hd t ht
       unfold flF
       rw [qu (a:=hlD en re tb) (b:=aw (r ++ [a])) (c:=bM t) rfl rfl rfl (nL h hn d1 d2 d3)];rfl)
      rw [cK,gJ,dZ,c,ae,ae,uM];rfl
     refine ⟨rGr (hlD en re tb) beg as du lo (some (.shr (aw r))) (some (.shr (nD a))) y7,?_⟩
     by_cases c:du.all (kpt tb (r ++ [a]))=true
     ·refine ⟨_,rfl,?_,some (.shr (nD a)),none,rfl⟩
      show sq _ _ (rGr (hlD en re tb) beg as du lo (some (.shr (aw r))) (some (.shr (nD a))) y7)=_
      rw [cv s2,nB (by rw [tt,c]),yW llo,<- hlo,List.map_append,List.filter_append,List.append_assoc]
      rw [show List.filter (fun row=>du.all (kpt tb row)) (List.map (fun a=>r ++ [a]) [a])=[r ++ [a]] by rw [List.map_singleton,List.filter_cons,if_pos c];rfl]
     ·refine ⟨_,rfl,?_,some (.shr (nD a)),some (.tre (.l .s) (aw (r ++ [a]))),rfl⟩
      have c:du.all (kpt tb (r ++ [a]))=false:=by simpa using c
      show sq _ _ (rGr (hlD en re tb) beg as du lo (some (.shr (aw r))) (some (.shr (nD a))) y7)=_
      rw [cv s2,dS (by rw [tt,c]),<- hlo,List.map_append,List.filter_append]
      rw [show List.filter (fun row=>du.all (kpt tb row)) (List.map (fun a=>r ++ [a]) [a])=[] by rw [List.map_singleton,List.filter_cons,if_neg (by rw [c];decide)];rfl,List.append_nil]) ⟨x6,x7,by simp⟩
   refine ⟨_,_,rfl,e2,some (.shr (aw r)),y6,y7,?_⟩
   rw [qD,List.filter_append]
   have:stp [r] as=as.map fun a=>r ++ [a]:=by unfold stp;simp
   rw [this]) ⟨none,none,none,rfl⟩
 rw [ji e1]
 rfl
end
end DL
namespace DL
open PySem L2 Ar
theorem oG {n i:Nat} {p q:List Nat} (e:List.range n=p ++ i :: q):i=p.length/\i < n:=by
 have h:(List.range n)[p.length]?=some i:=by rw [e];simp
 have hn:p.length < n:=by
  have:=congrArg List.length e
  simp at this;omega
 rw [List.getElem?_range hn] at h
 have:p.length=i:=by simpa using h
 omega
section
variable {en:List (Nat × Nat)} {re:List Nat} {tb:List (List Int)} {pl:List Nat} {ts:List Tie}
theorem lL (b:Nat):∀ p,∀ a ∈ btw en b p,a < en.length:=fun p a h=>(mem_btw.mp h).1
theorem q8 (h:cN en re tb) (b:Nat) (pl:List Nat) (ts:List Tie):(kws tb (btw en b) pl ts).length<=40 ^ pl.length :=
 Nat.le_trans (List.length_filter_le _ _) (m8 (fun p=>Nat.le_trans (ie b p) h.na40) (by decide) pl)
theorem qZ (b:Nat) (pl:List Nat) (ts:List Tie):∀ r ∈ kws tb (btw en b) pl ts,Row en.length pl.length r:=fun r hr=>iK (lL b) pl r (List.mem_filter.mp hr).1
noncomputable abbrev rVf (H:D) (pl:List Nat) (ts:List Tie) (b:Nat) (beg:List (List Nat)) (x5 x6 x7:Option Slt):Rho :=
 [some (.shr H),some (.shr (aw pl)),some (.shr (ca ts)),some (.shr (nD b)),some (.tre (.l (.l .s)) (rwD beg)),x5,x6,x7]
theorem mf (h:cN en re tb) (g:Pic en re pl ts) {b:Nat} (hb:b < re.length):cI [hlD en re tb,aw pl,ca ts,nD b]=.val (rwD (kws tb (btw en b) pl ts)):=by
 simp only [cI,fq]
 show sqK _ _ [some (.shr (hlD en re tb)),some (.shr (aw pl)),some (.shr (ca ts)),some (.shr (nD b)),none,none,none,none]=_
 have s1:trS 4 (.l (.l .s)) (eL1 (eLs (eM aN))) [some (.shr (hlD en re tb)),some (.shr (aw pl)),some (.shr (ca ts)),some (.shr (nD b)),none,none,none,none]=.val (.nx (rVf (hlD en re tb) pl ts b [[]] none none none)):=Eq.trans rfl rfl
 rw [ji s1]
 have l3:=g.l3
 have l4:=g.l4
 obtain ⟨ρ1,e1,x5,x6,x7,rfl⟩:=fF (src:=fD (aC (vr 1) aN)) (T:=tg2 5 6) (F:=sq (asg 7 (eLs (b0 (fIt (vr 2)) 1 (tgN 8) (tst (bin feq (nS (aC (bin fix (vb 8) (kd (.int 0))) (aC (bin fix (vb 8) (kd (.int 1))) aN))) (vb 5))) (vr 8))))
   (trS 4 (.l (.l .s)) (flK (.l (.l .s)) (cal 4 dA (aC (vb 0) (aC (va 4) (aC (cal 3 cJ (aC (vr 0) (aC (vr 3) (aC (vr 6) aN)))) (aC (vb 7) aN)))))))) (f:=fun i=>.tup [nD i,nD (pl.getD i 0)]) (l:=List.range pl.length) (ρ:=rVf (hlD en re tb) pl ts b [[]] none none none)
  (fun p ρ=>∃ x5 x6 x7:Option Slt,ρ=rVf (hlD en re tb) pl ts b (kws tb (btw en b) (pl.take p.length) ts) x5 x6 x7) (by
   show R.val (enu 0 (pl.map nD))=_
   rw [nM pl 0]) (fun p i q e ρ hI=>by
  obtain ⟨x5,x6,x7,rfl⟩:=hI
  obtain ⟨ei,hi⟩:=oG e
  rw [<- ei]
  generalize hbe:kws tb (btw en b) (pl.take i) ts=beg
  have tl:(pl.take i).length=i:=by rw [List.length_take];omega
  have s2:asg 7 (eLs (b0 (fIt (vr 2)) 1 (tgN 8) (tst (bin feq (nS (aC (bin fix (vb 8) (kd (.int 0))) (aC (bin fix (vb 8) (kd (.int 1))) aN))) (vb 5))) (vr 8))) (rVf (hlD en re tb) pl ts b beg (some (.shr (nD i))) (some (.shr (nD (pl.getD i 0)))) x7)=.val (.nx (rVf (hlD en re tb) pl ts b beg (some (.shr (nD i))) (some (.shr (nD (pl.getD i 0)))) (some (.shr (ca (du i ts)))))):=by
   refine fO ?_
   have c:=ic (src:=fIt (vr 2)) (n:=1) (T:=tgN 8) (t:=tst (bin feq (nS (aC (bin fix (vb 8) (kd (.int 0))) (aC (bin fix (vb 8) (kd (.int 1))) aN))) (vb 5))) (e:=vr 8) (f:=bM) (g:=bM) (p:=fun t:Tie=>decide (max t.1 t.2.1=i)) (l:=ts) (ρ:=rVf (hlD en re tb) pl ts b beg (some (.shr (nD i))) (some (.shr (nD (pl.getD i 0)))) x7) rfl (by omega) (fun t _=>by
    refine ⟨_,rfl,?_,rfl⟩
    have v0:bin fix (vb 8) (kd (.int 0)) (rVf (hlD en re tb) pl ts b beg (some (.shr (nD i))) (some (.shr (nD (pl.getD i 0)))) x7 ++ [some (.shr (bM t))])=.val (nD t.1):=nH t
    have v1:bin fix (vb 8) (kd (.int 1)) (rVf (hlD en re tb) pl ts b beg (some (.shr (nD i))) (some (.shr (nD (pl.getD i 0)))) x7 ++ [some (.shr (bM t))])=.val (nD t.2.1):=nG t
    show tst (bin feq (nS (aC (bin fix (vb 8) (kd (.int 0))) (aC (bin fix (vb 8) (kd (.int 1))) aN))) (vb 5)) (rVf (hlD en re tb) pl ts b beg (some (.shr (nD i))) (some (.shr (nD (pl.getD i 0)))) x7 ++ [some (.shr (bM t))])=_
    rw [cK,aS,rG,eO,v0,ae,eO,v1,ae,lT,ae,ae,ae,rd,ae]
    show R.bind (feq (.int (if (t.2.1:Int) > (t.1:Int) then (t.2.1:Int) else (t.1:Int))) (.int (i:Int))) asB=_
    rw [nI,ae,lS]
    congr 1
    rw [Bool.eq_iff_iff,decide_eq_true_eq,decide_eq_true_eq]
    split <;> omega)
   rw [dZ,c]
   rfl
  have bt:cal 3 cJ (aC (vr 0) (aC (vr 3) (aC (vr 6) aN))) (rVf (hlD en re tb) pl ts b beg (some (.shr (nD i))) (some (.shr (nD (pl.getD i 0)))) (some (.shr (ca (du i ts)))))=.val (aw (btw en b (pl.getD i 0))):=qu (a:=hlD en re tb) (b:=nD b) (c:=nD (pl.getD i 0)) rfl rfl rfl (qk h hb (g.pb i hi))
  have gr:dA [hlD en re tb,rwD beg,aw (btw en b (pl.getD i 0)),ca (du i ts)]=.val (rwD (kws tb (btw en b) (pl.take (i + 1)) ts)):=by
   have row:∀ r ∈ beg,Row en.length i r:=by rw [<- hbe];have:=qZ (tb:=tb) (en:=en) b (pl.take i) ts;rwa [tl] at this
   have len:beg.length<=1600:=by
    rw [<- hbe]
    refine Nat.le_trans (q8 h b _ ts) ?_
    rw [tl]
    exact Nat.le_trans (Nat.pow_le_pow_right (by decide) (show i<=2 by omega)) (by decide)
   have ir:(btw en b (pl.getD i 0)).length<=40:=Nat.le_trans (ie b _) h.na40
   have gg:=uT h (k:=i) (beg:=beg) (as:=btw en b (pl.getD i 0)) (du:=du i ts) row (lL b _) (fun t ht=>by
    obtain ⟨m1,m2⟩:=List.mem_filter.mp ht
    have m2:=of_decide_eq_true m2
    obtain ⟨k1,k2,k3,_⟩:=g.tk t m1
    exact ⟨by omega,by omega,k3⟩) (by omega) (Nat.le_trans (Nat.mul_le_mul len ir) (by decide)) (Nat.le_trans (List.length_filter_le _ _) (by omega))
   rw [gg,List.take_succ_eq_append_getElem hi]
   have kk:=uo (tb:=tb) (lL (en:=en) b) (pl.take i) pl[i] ts
   rw [tl,hbe] at kk
   rw [<- kk,bn hi]
  have s3:trS 4 (.l (.l .s)) (flK (.l (.l .s)) (cal 4 dA (aC (vb 0) (aC (va 4) (aC (cal 3 cJ (aC (vr 0) (aC (vr 3) (aC (vr 6) aN)))) (aC (vb 7) aN)))))) (rVf (hlD en re tb) pl ts b beg (some (.shr (nD i))) (some (.shr (nD (pl.getD i 0)))) (some (.shr (ca (du i ts)))))=.val (.nx (rVf (hlD en re tb) pl ts b (kws tb (btw en b) (pl.take (i + 1)) ts) (some (.shr (nD i))) (some (.shr (nD (pl.getD i 0)))) (some (.shr (ca (du i ts)))))):=by
   refine pQ ?_
   unfold flK
   rw [wP (a:=hlD en re tb) (b:=rwD beg) (c:=aw (btw en b (pl.getD i 0))) (e:=ca (du i ts)) rfl rfl bt rfl gr,ae,if_pos (wq _)]
  refine ⟨rVf (hlD en re tb) pl ts b beg (some (.shr (nD i))) (some (.shr (nD (pl.getD i 0)))) x7,_,rfl,by rw [cv s2,s3],some (.shr (nD i)),some (.shr (nD (pl.getD i 0))),some (.shr (ca (du i ts))),?_⟩
  rw [List.length_append,<- ei]
  rfl) ⟨none,none,none,by
   have:kws tb (btw en b) (pl.take (List.length ([]:List Nat))) ts=[[]]:=by
    rw [List.length_nil,List.take_zero]
    unfold kws
    have:lt (List.length ([]:List Nat)) ts=[]:=by
     unfold lt
     rw [List.filter_eq_nil_iff]
     intro t _
     simp
    rw [this];rfl
   rw [this]⟩
 rw [ji e1]
 rw [List.length_range,List.take_length]
 rfl
end
end DL
namespace DL
open PySem L2 Ar
theorem rh {xs ys:List D} (h:xs.length + ys.length<=100000):bb (.lst xs) (.lst ys)=.val (.lst (xs ++ ys)):=if_pos h
theorem t_ (f:Tie->Bool) (ts:List Tie):decide ((((ts.filter fun t=>!f t).map bM).length:Int)=0)=ts.all f:=by
 rw [Bool.eq_iff_iff,decide_eq_true_eq,List.length_map,List.all_eq_true]
 constructor
 ·intro h t ht
  have:(ts.filter fun t=>!f t)=[]:=List.length_eq_zero_iff.mp (by omega)
  rw [List.filter_eq_nil_iff] at this
  simpa using this t ht
 ·intro h
  have:(ts.filter fun t=>!f t)=[]:=by
   rw [List.filter_eq_nil_iff]
   intro t ht
   simp [h t ht]
  rw [this];rfl
section
variable {en:List (Nat × Nat)} {re:List Nat} {tb:List (List Int)} {pl:List Nat} {ts:List Tie} {r:List D}
noncomputable abbrev paD (en:List (Nat × Nat)) (re:List Nat) (tb:List (List Int)) (r:List D):D:=.tup (cZ en :: aw re :: bw tb :: r)
noncomputable abbrev rLv (P:D) (pl:List Nat) (ts:List Tie) (b:Nat) (x4 x5 x6 x7 x8:Option Slt):Rho :=
 [some (.shr P),some (.shr (aw pl)),some (.shr (ca ts)),some (.shr (nD b)),x4,x5,x6,x7,x8]
theorem wz (h:cN en re tb) {b p:Nat} {lo rows:List (List Nat)} {row:List Nat} (hl:lo.length<=64000) (hr:row.length<=1000) (x4 x8:Option Slt) :
  asg 6 (bin bb (vb 6) (eLs (b0 (fIt (cal 3 aK (aC (vr 0) (aC (vr 3) (aC (vr 5) aN))))) 1 (tgN 9) tT (bin bb (vb 7) (eL (aC (vr 9) aN)))))) (rLv (paD en re tb r) pl ts b x4 (some (.shr (nD p))) (some (.shr (rwD lo))) (some (.shr (aw row))) x8)
   =.val (.nx (rLv (paD en re tb r) pl ts b x4 (some (.shr (nD p))) (some (.shr (rwD (lo ++ (btw en b p).map fun a=>row ++ [a])))) (some (.shr (aw row))) x8)):=by
 refine fO ?_
 have n40:=h.na40
 have bl:=ie (en:=en) b p
 have lb:cal 3 aK (aC (vr 0) (aC (vr 3) (aC (vr 5) aN))) (rLv (paD en re tb r) pl ts b x4 (some (.shr (nD p))) (some (.shr (rwD lo))) (some (.shr (aw row))) x8)=.val (aw (btw en b p)):=qu rfl rfl rfl (jP h b p)
 have c:=ge (src:=fIt (cal 3 aK (aC (vr 0) (aC (vr 3) (aC (vr 5) aN))))) (n:=1) (i:=9) (e:=bin bb (vb 7) (eL (aC (vr 9) aN))) (f:=nD) (g:=fun a=>aw (row ++ [a])) (l:=btw en b p) (ρ:=rLv (paD en re tb r) pl ts b x4 (some (.shr (nD p))) (some (.shr (rwD lo))) (some (.shr (aw row))) x8) (by rw [yK,lb];rfl) (by omega) (fun a _=>by
  show bb (.lst (row.map nD)) (.lst [nD a])=_
  rw [rh (by rw [List.length_map];show _ + 1<=_;omega)]
  unfold aw
  rw [List.map_append];rfl)
 rw [aS,dZ,c]
 show bb (.lst (lo.map aw)) (.lst ((btw en b p).map fun a=>aw (row ++ [a])))=_
 rw [rh (by rw [List.length_map,List.length_map];omega)]
 unfold rwD
 rw [List.map_append,List.map_map]
 rfl
theorem sD (h:cN en re tb) (g:Pic en re pl ts) (b:Nat):ck [paD en re tb r,aw pl,ca ts,nD b]=.val (rwD ((rws (btw en b) pl).filter fun row=>ts.all (kpt tb row))):=by
 simp only [ck,fI]
 show fin (sq _ _ (rLv (paD en re tb r) pl ts b none none none none none))=_
 have n40:=h.na40
 have l3:=g.l3
 have l4:=g.l4
 have s1:asg 4 (eL (aC (eL aN) aN)) (rLv (paD en re tb r) pl ts b none none none none none)=.val (.nx (rLv (paD en re tb r) pl ts b (some (.shr (rwD [[]]))) none none none none)):=Eq.trans rfl rfl
 rw [cv s1]
 obtain ⟨ρ1,e1,x5,x6,x7,rfl⟩:=fF (src:=fIt (vr 1)) (T:=tgN 5) (F:=sq (asg 6 (eL aN))
   (sq (bE (fIt (vr 4)) (tgN 7)
   (asg 6 (bin bb (vb 6) (eLs (b0 (fIt (cal 3 aK (aC (vr 0) (aC (vr 3) (aC (vr 5) aN))))) 1 (tgN 9) tT (bin bb (vb 7) (eL (aC (vr 9) aN))))))))
   (asg 4 (vr 6)))) (f:=nD) (l:=pl) (ρ:=rLv (paD en re tb r) pl ts b (some (.shr (rwD [[]]))) none none none none)
  (fun p ρ=>∃ x5 x6 x7:Option Slt,ρ=rLv (paD en re tb r) pl ts b (some (.shr (rwD (rws (btw en b) p)))) x5 x6 x7 none) rfl (fun p a q e ρ hI=>by
   obtain ⟨x5,x6,x7,rfl⟩:=hI
   have lp:p.length<=2:=by have:=congrArg List.length e;simp at this;omega
   have len:(rws (btw en b) p).length<=1600:=Nat.le_trans (m8 (fun p=>Nat.le_trans (ie b p) h.na40) (by decide) p) (Nat.le_trans (Nat.pow_le_pow_right (by decide) lp) (by decide))
   have hrow:=iK (lL (en:=en) b) p
   have sn:=iJ (btw en b) p a
   generalize rws (btw en b) p=rows at *
   have s2:asg 6 (eL aN) (rLv (paD en re tb r) pl ts b (some (.shr (rwD rows))) (some (.shr (nD a))) x6 x7 none)=.val (.nx (rLv (paD en re tb r) pl ts b (some (.shr (rwD rows))) (some (.shr (nD a))) (some (.shr (rwD []))) x7 none)):=Eq.trans rfl rfl
   obtain ⟨ρ2,e2,y7,rfl⟩:=fF (src:=fIt (vr 4)) (T:=tgN 7) (F:=asg 6 (bin bb (vb 6) (eLs (b0 (fIt (cal 3 aK (aC (vr 0) (aC (vr 3) (aC (vr 5) aN))))) 1 (tgN 9) tT (bin bb (vb 7) (eL (aC (vr 9) aN))))))) (f:=aw) (l:=rows) (ρ:=rLv (paD en re tb r) pl ts b (some (.shr (rwD rows))) (some (.shr (nD a))) (some (.shr (rwD []))) x7 none)
    (fun o ρ=>∃ y7:Option Slt,ρ=rLv (paD en re tb r) pl ts b (some (.shr (rwD rows))) (some (.shr (nD a))) (some (.shr (rwD (stp o (btw en b a))))) y7 none) rfl (fun o row u eo ρ hI=>by
     obtain ⟨y7,rfl⟩:=hI
     have hr:=hrow row (by rw [eo];simp)
     have lo:(stp o (btw en b a)).length<=64000:=by
      rw [mX]
      have b1:o.length<=rows.length:=by rw [eo];simp
      have b2:(btw en b a).length<=40:=Nat.le_trans (ie b a) h.na40
      exact Nat.le_trans (Nat.mul_le_mul (Nat.le_trans b1 len) b2) (by decide)
     refine ⟨_,_,rfl,wz h (rows:=rows) lo (by rw [hr.len];omega) _ _,some (.shr (aw row)),?_⟩
     rw [qD]
     have:stp [row] (btw en b a)=(btw en b a).map fun x=>row ++ [x]:=by unfold stp;simp
     rw [this]) ⟨x7,rfl⟩
   refine ⟨rLv (paD en re tb r) pl ts b (some (.shr (rwD rows))) (some (.shr (nD a))) x6 x7 none,_,rfl,by rw [cv s2,cv e2,fO (x:=rwD (stp rows (btw en b a))) rfl],some (.shr (nD a)),some (.shr (rwD (stp rows (btw en b a)))),y7,?_⟩
   rw [sn];rfl) ⟨none,none,none,rfl⟩
 have len:(rws (btw en b) pl).length<=64000:=Nat.le_trans (m8 (fun p=>Nat.le_trans (ie b p) h.na40) (by decide) pl) (Nat.le_trans (Nat.pow_le_pow_right (by decide) l3) (by decide))
 have hrow:=iK (lL (en:=en) b) pl
 generalize rws (btw en b) pl=rows at *
 have s3:own 8 (eM aN) (rLv (paD en re tb r) pl ts b (some (.shr (rwD rows))) x5 x6 x7 none)=.val (.nx (rLv (paD en re tb r) pl ts b (some (.shr (rwD rows))) x5 x6 x7 (some (.own [])))):=Eq.trans rfl rfl
 obtain ⟨ρ2,e2,y7,rfl⟩:=fF (src:=fIt (vr 4)) (T:=tgN 7) (F:=DL.iff (tst (bin feq (una aJ (eLs (b0 (fIt (vr 2)) 1 (tgN 9) (tst (bin fne (bin fix (bin fix (bin fix (vb 0) (kd (.int 2))) (bin fix (vb 7) (bin fix (vb 9) (kd (.int 0))))) (bin fix (vb 9) (kd (.int 2)))) (bin fix (vb 7) (bin fix (vb 9) (kd (.int 1)))))) (vr 9)))) (kd (.int 0))))
   (app 8 (vr 7))
   nxt) (f:=aw) (l:=rows) (ρ:=rLv (paD en re tb r) pl ts b (some (.shr (rwD rows))) x5 x6 x7 (some (.own [])))
  (fun p ρ=>∃ y7:Option Slt,ρ=rLv (paD en re tb r) pl ts b (some (.shr (rwD rows))) x5 x6 y7 (some (.own ((p.filter fun row=>ts.all (kpt tb row)).map aw)))) rfl (fun p row q e ρ hI=>by
   obtain ⟨y7,rfl⟩:=hI
   have hr:=hrow row (by rw [e];simp)
   have lp:(p.filter fun row=>ts.all (kpt tb row)).length < 100000:=by
    have:=List.length_filter_le (fun row=>ts.all (kpt tb row)) p
    have b1:p.length<=rows.length:=by rw [e];simp
    omega
   generalize hac:(p.filter fun row=>ts.all (kpt tb row))=ac at lp
   have tt:tst (bin feq (una aJ (eLs (b0 (fIt (vr 2)) 1 (tgN 9) (tst (bin fne (bin fix (bin fix (bin fix (vb 0) (kd (.int 2))) (bin fix (vb 7) (bin fix (vb 9) (kd (.int 0))))) (bin fix (vb 9) (kd (.int 2)))) (bin fix (vb 7) (bin fix (vb 9) (kd (.int 1)))))) (vr 9)))) (kd (.int 0))) (rLv (paD en re tb r) pl ts b (some (.shr (rwD rows))) x5 x6 (some (.shr (aw row))) (some (.own (ac.map aw))))=.val (ts.all (kpt tb row)):=by
    have c:=ic (src:=fIt (vr 2)) (n:=1) (T:=tgN 9) (t:=tst (bin fne (bin fix (bin fix (bin fix (vb 0) (kd (.int 2))) (bin fix (vb 7) (bin fix (vb 9) (kd (.int 0))))) (bin fix (vb 9) (kd (.int 2)))) (bin fix (vb 7) (bin fix (vb 9) (kd (.int 1)))))) (e:=vr 9) (f:=bM) (g:=bM) (p:=fun t=>!kpt tb row t) (l:=ts) (ρ:=rLv (paD en re tb r) pl ts b (some (.shr (rwD rows))) x5 x6 (some (.shr (aw row))) (some (.own (ac.map aw)))) rfl (by omega) (fun t ht=>by
     obtain ⟨h1,h2,h3,_⟩:=g.tk t ht
     have a1:=hr.at h1
     refine ⟨_,rfl,?_,rfl⟩
     have v0:bin fix (vb 7) (bin fix (vb 9) (kd (.int 0))) (rLv (paD en re tb r) pl ts b (some (.shr (rwD rows))) x5 x6 (some (.shr (aw row))) (some (.own (ac.map aw))) ++ [some (.shr (bM t))])=.val (nD (row.getD t.1 0)):=by
      show R.bind (fix (bM t) (.int 0)) (fun y=>fix (aw row) y)=_
      rw [nH,ae,dE (by rw [hr.len];exact h1)]
     have v1:bin fix (vb 7) (bin fix (vb 9) (kd (.int 1))) (rLv (paD en re tb r) pl ts b (some (.shr (rwD rows))) x5 x6 (some (.shr (aw row))) (some (.own (ac.map aw))) ++ [some (.shr (bM t))])=.val (nD (row.getD t.2.1 0)):=by
      show R.bind (fix (bM t) (.int 1)) (fun y=>fix (aw row) y)=_
      rw [nG,ae,dE (by rw [hr.len];exact h2)]
     have v2:bin fix (vb 9) (kd (.int 2)) (rLv (paD en re tb r) pl ts b (some (.shr (rwD rows))) x5 x6 (some (.shr (aw row))) (some (.own (ac.map aw))) ++ [some (.shr (bM t))])=.val (nD t.2.2):=qj t
     have v3:bin fix (vb 0) (kd (.int 2)) (rLv (paD en re tb r) pl ts b (some (.shr (rwD rows))) x5 x6 (some (.shr (aw row))) (some (.own (ac.map aw))) ++ [some (.shr (bM t))])=.val (bw tb):=qh _ _ _ _
     have g1:=gt (tb:=tb) (i:=row.getD t.1 0) (by rw [h.tl];exact a1)
     have g2:=gu (r:=tb.getD (row.getD t.1 0) []) (i:=t.2.2) (by rw [h.rl _ a1];exact h3)
     show tst (bin fne (bin fix (bin fix (bin fix (vb 0) (kd (.int 2))) (bin fix (vb 7) (bin fix (vb 9) (kd (.int 0))))) (bin fix (vb 9) (kd (.int 2)))) (bin fix (vb 7) (bin fix (vb 9) (kd (.int 1))))) (rLv (paD en re tb r) pl ts b (some (.shr (rwD rows))) x5 x6 (some (.shr (aw row))) (some (.own (ac.map aw))) ++ [some (.shr (bM t))])=_
     rw [cK,aS,aS,aS,v3,ae,v0,ae,g1,ae,v2,ae,g2,ae,v1,ae,qg,ae,lS]
     unfold kpt
     rw [decide_not])
    rw [cK,aS,gJ,dZ,c,ae,ae,uJ,ae,f_,ae,nI,ae,lS,t_]
   refine ⟨rLv (paD en re tb r) pl ts b (some (.shr (rwD rows))) x5 x6 (some (.shr (aw row))) (some (.own (ac.map aw))),?_⟩
   by_cases c:ts.all (kpt tb row)=true
   ·refine ⟨_,rfl,?_,some (.shr (aw row)),rfl⟩
    rw [nB (by rw [tt,c]),iB _ (d:=aw row) (xs:=ac.map aw) rfl rfl (by rw [List.length_map];exact lp),List.filter_append,hac,List.map_append]
    rw [show List.filter (fun row=>ts.all (kpt tb row)) [row]=[row] by rw [List.filter_cons,if_pos c];rfl]
    rfl
   ·refine ⟨_,rfl,?_,some (.shr (aw row)),rfl⟩
    have c:ts.all (kpt tb row)=false:=by simpa using c
    rw [dS (by rw [tt,c]),List.filter_append,hac]
    rw [show List.filter (fun row=>ts.all (kpt tb row)) [row]=[] by rw [List.filter_cons,if_neg (by rw [c];decide)];rfl,List.append_nil]) ⟨x7,rfl⟩
 rw [cv e1,cv s3,cv e2]
 rfl
end
end DL
namespace DL
open PySem L2 Ar
noncomputable def cf (ns:List Int) (k:Nat):Int:=(i6 ns k).choose
theorem zX (ns:List Int) (k:Nat):au [.scr ns,.int (k:Int)]=.val (.int (cf ns k)):=(i6 ns k).choose_spec
theorem rQ {ns:List Int} {k:Nat} {A B:Rho->R D} {ρ:Rho} {z:Int} (ha:A ρ=.val (.scr ns)) (hb:B ρ=.val (.int z)) (hz:z=(k:Int)):cal 2 au (aC A (aC B aN)) ρ=.val (.int (cf ns k)):=j9 ha hb (by rw [hz];exact zX ns k)
theorem gn (c:Int) {m:Nat} (h:0 < m):(c % (m:Int)).toNat < m/\ba c (m:Int)=.val (nD (c % (m:Int)).toNat):=by
 obtain ⟨i,hi,e⟩:=gY c m h
 rw [eI (by omega),e]
 exact ⟨by simpa using hi,by simp⟩
section
variable {en:List (Nat × Nat)} {re:List Nat} {tb:List (List Int)} {r:List D} {ns:List Int} {k:Nat}
noncomputable abbrev rPi (ns:List Int) (k:Nat) (P:D) (pl:List Nat) (ts:List Tie) (x5 x6 x7 x8:Option Slt):Rho :=
 [some (.shr (.scr ns)),some (.shr (nD k)),some (.shr P),some (.shr (aw pl)),some (.own (ts.map bM)),x5,x6,x7,x8]
theorem wu (h:cN en re tb) {pl:List Nat} {ts:List Tie} (hp:0 < pl.length) (pb:∀ i,i < pl.length->pl.getD i 0 < re.length) {j:Nat} (hj:j<=5) (hl:ts.length<=5) (x6 x7 x8:Option Slt) :
  ∃ (ts':List Tie) (y6 y7 y8:Option Slt),(sq (asg 6 (bin (iI ba) (cal 2 au (aC (vr 0) (aC (bin bb (bin bb (vb 1) (kd (.int 5))) (bin (iI df) (kd (.int 3)) (vb 5))) aN))) (una aJ (vb 3))))
 (sq (asg 7 (bin (iI ba) (cal 2 au (aC (vr 0) (aC (bin bb (bin bb (vb 1) (kd (.int 6))) (bin (iI df) (kd (.int 3)) (vb 5))) aN))) (una aJ (vb 3))))
 (sq (asg 8 (cal 3 aK (aC (vr 2) (aC (bin fix (vb 3) (vb 6)) (aC (bin fix (vb 3) (vb 7)) aN)))))
 (DL.iff (tst (bin (iI fgt) (una aJ (vb 8)) (kd (.int 0))))
 (app 4 (eT (aC (vr 6) (aC (vr 7) (aC (bin fix (vb 8) (bin (iI ba) (cal 2 au (aC (vr 0) (aC (bin bb (bin bb (vb 1) (kd (.int 7))) (bin (iI df) (kd (.int 3)) (vb 5))) aN))) (una aJ (vb 8)))) aN)))))
 nxt)))) (rPi ns k (paD en re tb r) pl ts (some (.shr (nD j))) x6 x7 x8)=.val (.nx (rPi ns k (paD en re tb r) pl ts' (some (.shr (nD j))) y6 y7 y8))/\(ts'=ts\/∃ t:Tie,ts'=ts ++ [t]/\t.1 < pl.length/\t.2.1 < pl.length/\t.2.2 < en.length/\en.getD t.2.2 (0,0)=(pl.getD t.1 0,pl.getD t.2.1 0)):=by
 have ix:∀ (n:Nat) (ρ:Rho),vb 1 ρ=.val (nD k)->vb 5 ρ=.val (nD j)->bin bb (bin bb (vb 1) (kd (.int (n:Int)))) (bin (iI df) (kd (.int 3)) (vb 5)) ρ=.val (.int ((k + n + 3 * j:Nat):Int)):=fun n ρ h1 h5=>by
  rw [aS,aS,h1,ae,f_,ae,kz,ae,aS,f_,ae,h5,ae,gd,iZ (by constructor <;> omega),ae,kz]
  congr 2
 have cl:∀ (n:Nat) (ρ:Rho),vr 0 ρ=.val (.scr ns)->vb 1 ρ=.val (nD k)->vb 5 ρ=.val (nD j)->cal 2 au (aC (vr 0) (aC (bin bb (bin bb (vb 1) (kd (.int (n:Int)))) (bin (iI df) (kd (.int 3)) (vb 5))) aN)) ρ=.val (.int (cf ns (k + n + 3 * j))):=fun n ρ h0 h1 h5=>rQ h0 (ix n ρ h1 h5) rfl
 obtain ⟨a1,a2⟩:=gn (cf ns (k + 5 + 3 * j)) hp
 obtain ⟨b1,b2⟩:=gn (cf ns (k + 6 + 3 * j)) hp
 generalize (cf ns (k + 5 + 3 * j) % (pl.length:Int)).toNat=a at a1 a2
 generalize (cf ns (k + 6 + 3 * j) % (pl.length:Int)).toNat=b at b1 b2
 have s1:asg 6 (bin (iI ba) (cal 2 au (aC (vr 0) (aC (bin bb (bin bb (vb 1) (kd (.int 5))) (bin (iI df) (kd (.int 3)) (vb 5))) aN))) (una aJ (vb 3))) (rPi ns k (paD en re tb r) pl ts (some (.shr (nD j))) x6 x7 x8)=.val (.nx (rPi ns k (paD en re tb r) pl ts (some (.shr (nD j))) (some (.shr (nD a))) x7 x8)):=by
  refine fO ?_
  have v:una aJ (vb 3) (rPi ns k (paD en re tb r) pl ts (some (.shr (nD j))) x6 x7 x8)=.val (nD pl.length):=dW pl
  have c:=cl 5 (rPi ns k (paD en re tb r) pl ts (some (.shr (nD j))) x6 x7 x8) rfl rfl rfl
  rw [aS]
  refine Eq.trans (congrArg (fun z=>R.bind z _) c) ?_
  rw [ae,v,ae,gd,a2]
 have s2:asg 7 (bin (iI ba) (cal 2 au (aC (vr 0) (aC (bin bb (bin bb (vb 1) (kd (.int 6))) (bin (iI df) (kd (.int 3)) (vb 5))) aN))) (una aJ (vb 3))) (rPi ns k (paD en re tb r) pl ts (some (.shr (nD j))) (some (.shr (nD a))) x7 x8)=.val (.nx (rPi ns k (paD en re tb r) pl ts (some (.shr (nD j))) (some (.shr (nD a))) (some (.shr (nD b))) x8)):=by
  refine fO ?_
  have v:una aJ (vb 3) (rPi ns k (paD en re tb r) pl ts (some (.shr (nD j))) (some (.shr (nD a))) x7 x8)=.val (nD pl.length):=dW pl
  have c:=cl 6 (rPi ns k (paD en re tb r) pl ts (some (.shr (nD j))) (some (.shr (nD a))) x7 x8) rfl rfl rfl
  rw [aS]
  refine Eq.trans (congrArg (fun z=>R.bind z _) c) ?_
  rw [ae,v,ae,gd,b2]
 have s3:asg 8 (cal 3 aK (aC (vr 2) (aC (bin fix (vb 3) (vb 6)) (aC (bin fix (vb 3) (vb 7)) aN)))) (rPi ns k (paD en re tb r) pl ts (some (.shr (nD j))) (some (.shr (nD a))) (some (.shr (nD b))) x8)=.val (.nx (rPi ns k (paD en re tb r) pl ts (some (.shr (nD j))) (some (.shr (nD a))) (some (.shr (nD b))) (some (.shr (aw (btw en (pl.getD a 0) (pl.getD b 0))))))) :=
  fO (qu (a:=paD en re tb r) (b:=nD (pl.getD a 0)) (c:=nD (pl.getD b 0)) rfl (dE a1) (dE b1) (jP h _ _))
 have bi:=fun x=>mem_btw (en:=en) (a:=pl.getD a 0) (b:=pl.getD b 0) (n:=x)
 generalize btw en (pl.getD a 0) (pl.getD b 0)=bt at s3 bi
 have v8:una aJ (vb 8) (rPi ns k (paD en re tb r) pl ts (some (.shr (nD j))) (some (.shr (nD a))) (some (.shr (nD b))) (some (.shr (aw bt))))=.val (nD bt.length):=dW bt
 have tt:tst (bin (iI fgt) (una aJ (vb 8)) (kd (.int 0))) (rPi ns k (paD en re tb r) pl ts (some (.shr (nD j))) (some (.shr (nD a))) (some (.shr (nD b))) (some (.shr (aw bt))))=.val (decide ((0:Int) < bt.length)):=by
  rw [cK,aS,v8];rfl
 rw [cv s1,cv s2,cv s3]
 by_cases c:0 < bt.length
 ·obtain ⟨c1,c2⟩:=gn (cf ns (k + 7 + 3 * j)) c
  generalize (cf ns (k + 7 + 3 * j) % (bt.length:Int)).toNat=y at c1 c2
  have at8:bin fix (vb 8) (bin (iI ba) (cal 2 au (aC (vr 0) (aC (bin bb (bin bb (vb 1) (kd (.int 7))) (bin (iI df) (kd (.int 3)) (vb 5))) aN))) (una aJ (vb 8))) (rPi ns k (paD en re tb r) pl ts (some (.shr (nD j))) (some (.shr (nD a))) (some (.shr (nD b))) (some (.shr (aw bt))))=.val (nD (bt.getD y 0)):=by
   have cc:=cl 7 (rPi ns k (paD en re tb r) pl ts (some (.shr (nD j))) (some (.shr (nD a))) (some (.shr (nD b))) (some (.shr (aw bt)))) rfl rfl rfl
   have m:bin (iI ba) (cal 2 au (aC (vr 0) (aC (bin bb (bin bb (vb 1) (kd (.int 7))) (bin (iI df) (kd (.int 3)) (vb 5))) aN))) (una aJ (vb 8)) (rPi ns k (paD en re tb r) pl ts (some (.shr (nD j))) (some (.shr (nD a))) (some (.shr (nD b))) (some (.shr (aw bt))))=.val (nD y):=by
    rw [aS]
    refine Eq.trans (congrArg (fun z=>R.bind z _) cc) ?_
    rw [ae,v8,ae,gd,c2]
   rw [aS,m]
   exact dE c1
  have et:eT (aC (vr 6) (aC (vr 7) (aC (bin fix (vb 8) (bin (iI ba) (cal 2 au (aC (vr 0) (aC (bin bb (bin bb (vb 1) (kd (.int 7))) (bin (iI df) (kd (.int 3)) (vb 5))) aN))) (una aJ (vb 8)))) aN))) (rPi ns k (paD en re tb r) pl ts (some (.shr (nD j))) (some (.shr (nD a))) (some (.shr (nD b))) (some (.shr (aw bt))))=.val (bM (a,b,bt.getD y 0)):=by
   rw [pk,eO,eO,eO,at8];rfl
  refine ⟨ts ++ [(a,b,bt.getD y 0)],some (.shr (nD a)),some (.shr (nD b)),some (.shr (aw bt)),?_,.inr ⟨_,rfl,a1,b1,?_⟩⟩
  ·rw [nB (by rw [tt,decide_eq_true (by omega)]),iB _ (d:=bM (a,b,bt.getD y 0)) (xs:=ts.map bM) rfl et (by rw [List.length_map];omega)]
   unfold rPi
   rw [List.map_append];rfl
  ·have:=(bi (bt.getD y 0)).mp (by rw [bn c1];exact List.getElem_mem c1)
   exact this
 ·exact ⟨ts,_,_,_,dS (by rw [tt,decide_eq_false (by omega)]),.inl rfl⟩
theorem pf (h:cN en re tb) (ns:List Int) (k:Nat):∃ pl ts,Pic en re pl ts/\bW [.scr ns,nD k,paD en re tb r]=.val (.tup [aw pl,ca ts]):=by
 simp only [bW,eS]
 show ∃ pl ts,_/\fin (sq _ _ [some (.shr (.scr ns)),some (.shr (nD k)),some (.shr (paD en re tb r)),none,none,none,none,none,none])=_
 obtain ⟨m1,m2⟩:=gn (cf ns k) (m:=4) (by decide)
 obtain ⟨q1,q2⟩:=gn (cf ns k / 4) (m:=5) (by decide)
 generalize (cf ns k % ((4:Nat):Int)).toNat=m at m1 m2
 generalize (cf ns k / 4 % ((5:Nat):Int)).toNat=q at q1 q2
 have n1:=h.nb1
 have s1:asg 3 (eLs (b0 (dl (aC (bin (iI ba) (cal 2 au (aC (vr 0) (aC (vr 1) aN))) (kd (.int 4))) aN)) 1 (tgN 9) tT (bin (iI ba) (cal 2 au (aC (vr 0) (aC (bin bb (bin bb (vb 1) (kd (.int 1))) (vb 9)) aN))) (una aJ (bin fix (vb 2) (kd (.int 1))))))) [some (.shr (.scr ns)),some (.shr (nD k)),some (.shr (paD en re tb r)),none,none,none,none,none,none]
   =.val (.nx [some (.shr (.scr ns)),some (.shr (nD k)),some (.shr (paD en re tb r)),some (.shr (aw ((List.range m).map fun j=>(cf ns (k + 1 + j) % (re.length:Int)).toNat))),none,none,none,none,none]):=by
  refine fO ?_
  have c:=i4 (src:=dl (aC (bin (iI ba) (cal 2 au (aC (vr 0) (aC (vr 1) aN))) (kd (.int 4))) aN)) (n:=1) (i:=9) (m:=m) (e:=bin (iI ba) (cal 2 au (aC (vr 0) (aC (bin bb (bin bb (vb 1) (kd (.int 1))) (vb 9)) aN))) (una aJ (bin fix (vb 2) (kd (.int 1))))) (g:=fun j=>nD (cf ns (k + 1 + j) % (re.length:Int)).toNat) (ρ:=[some (.shr (.scr ns)),some (.shr (nD k)),some (.shr (paD en re tb r)),none,none,none,none,none,none]) (by
   rw [i3,eO,aS,rQ (k:=k) rfl rfl rfl,ae,f_,ae,gd]
   refine Eq.trans (congrArg (fun z=>R.bind (R.bind z _) _) m2) ?_
   rw [ae,lT,ae,ae,dO (by omega)]) (by omega) (fun j _=>by
   have hc:cal 2 au (aC (vr 0) (aC (bin bb (bin bb (vb 1) (kd (.int 1))) (vb 9)) aN)) (List.set ([some (.shr (.scr ns)),some (.shr (nD k)),some (.shr (paD en re tb r)),none,none,none,none,none,none] ++ List.replicate 1 none) 9 (some (.shr (nD j))))=.val (.int (cf ns (k + 1 + j))):=rQ (z:=(k:Int) + 1 + (j:Int)) rfl rfl (by omega)
   have hv:una aJ (bin fix (vb 2) (kd (.int 1))) (List.set ([some (.shr (.scr ns)),some (.shr (nD k)),some (.shr (paD en re tb r)),none,none,none,none,none,none] ++ List.replicate 1 none) 9 (some (.shr (nD j))))=.val (nD re.length):=by
    show R.bind (fix (paD en re tb r) (.int 1)) aJ=_
    rw [paD,lA,ae,dW]
   rw [aS,hc,ae,hv,ae,gd,(gn _ (by omega)).2])
  rw [dZ,c]
  unfold aw
  rw [List.map_map]
  rfl
 rw [cv s1]
 have lp:((List.range m).map fun j=>(cf ns (k + 1 + j) % (re.length:Int)).toNat).length=m:=by simp
 have pb:∀ i,i < ((List.range m).map fun j=>(cf ns (k + 1 + j) % (re.length:Int)).toNat).length->((List.range m).map fun j=>(cf ns (k + 1 + j) % (re.length:Int)).toNat).getD i 0 < re.length:=fun i hi=>by
  rw [bn hi,List.getElem_map]
  exact (gn _ (by omega)).1
 generalize ((List.range m).map fun j=>(cf ns (k + 1 + j) % (re.length:Int)).toNat)=pl at lp pb
 have s2:own 4 (eM aN) [some (.shr (.scr ns)),some (.shr (nD k)),some (.shr (paD en re tb r)),some (.shr (aw pl)),none,none,none,none,none]=.val (.nx (rPi ns k (paD en re tb r) pl [] none none none none)):=Eq.trans rfl rfl
 rw [cv s2]
 have tt:tst (bin (iI fgt) (una aJ (vb 3)) (kd (.int 0))) (rPi ns k (paD en re tb r) pl [] none none none none)=.val (decide ((0:Int) < pl.length)):=by
  have v:una aJ (vb 3) (rPi ns k (paD en re tb r) pl [] none none none none)=.val (nD pl.length):=dW pl
  rw [cK,aS,v];rfl
 by_cases c:0 < pl.length
 ·obtain ⟨ρ1,e1,ts,x5,x6,x7,x8,tl,tk,rfl⟩:=gR (i:=5) (n:=q) (F:=sq (asg 6 (bin (iI ba) (cal 2 au (aC (vr 0) (aC (bin bb (bin bb (vb 1) (kd (.int 5))) (bin (iI df) (kd (.int 3)) (vb 5))) aN))) (una aJ (vb 3))))
    (sq (asg 7 (bin (iI ba) (cal 2 au (aC (vr 0) (aC (bin bb (bin bb (vb 1) (kd (.int 6))) (bin (iI df) (kd (.int 3)) (vb 5))) aN))) (una aJ (vb 3))))
    (sq (asg 8 (cal 3 aK (aC (vr 2) (aC (bin fix (vb 3) (vb 6)) (aC (bin fix (vb 3) (vb 7)) aN)))))
    (DL.iff (tst (bin (iI fgt) (una aJ (vb 8)) (kd (.int 0))))
    (app 4 (eT (aC (vr 6) (aC (vr 7) (aC (bin fix (vb 8) (bin (iI ba) (cal 2 au (aC (vr 0) (aC (bin bb (bin bb (vb 1) (kd (.int 7))) (bin (iI df) (kd (.int 3)) (vb 5))) aN))) (una aJ (vb 8)))) aN)))))
    nxt)))) (ρ:=rPi ns k (paD en re tb r) pl [] none none none none)
   (fun j ρ=>∃ (ts:List Tie) (x5 x6 x7 x8:Option Slt),ts.length<=j/\(∀ t ∈ ts,t.1 < pl.length/\t.2.1 < pl.length/\t.2.2 < en.length/\en.getD t.2.2 (0,0)=(pl.getD t.1 0,pl.getD t.2.1 0))/\ρ=rPi ns k (paD en re tb r) pl ts x5 x6 x7 x8) (fun j ρ hj hI=>by
    obtain ⟨ts,x5,x6,x7,x8,l1,l2,rfl⟩:=hI
    obtain ⟨ts',y6,y7,y8,e,hh⟩:=wu (ns:=ns) (k:=k) (r:=r) h c pb (j:=j) (by omega) (ts:=ts) (by omega) x6 x7 x8
    refine ⟨_,e,ts',_,_,_,_,?_,?_,rfl⟩
    ·rcases hh with rfl | ⟨t,rfl,_⟩
     ·omega
     ·rw [List.length_append];show _ + 1<=_;omega
    ·rcases hh with rfl | ⟨t,rfl,ht⟩
     ·exact l2
     ·intro u hu
      rcases List.mem_append.mp hu with hu | hu
      ·exact l2 u hu
      ·rw [List.mem_singleton.mp hu];exact ht) ⟨[],_,_,_,_,Nat.le_refl _,(fun t ht=>by cases ht),rfl⟩
  refine ⟨pl,ts,⟨by omega,by omega,pb,tk⟩,?_⟩
  have src:dl (aC (bin (iI ba) (bin (iI dz) (cal 2 au (aC (vr 0) (aC (vr 1) aN))) (kd (.int 4))) (kd (.int 5))) aN) (rPi ns k (paD en re tb r) pl [] none none none none)=.val (rng 0 q):=by
   rw [i3,eO,aS,aS,rQ (k:=k) rfl rfl rfl,ae,f_,ae,gd,nK (by decide),ae,f_,ae,gd]
   refine Eq.trans (congrArg (fun z=>R.bind (R.bind z _) _) q2) ?_
   rw [ae,lT,ae,ae,dO (by omega)]
  rw [be,nB (by rw [tt,decide_eq_true (by omega)]),dD,src,ae,e1]
  rfl
 ·refine ⟨pl,[],⟨by omega,by simp,pb,(fun t ht=>by cases ht)⟩,?_⟩
  rw [cv (dS (by rw [tt,decide_eq_false (by omega)]))]
  rfl
end
end DL
namespace DL
open PySem L2 Ar
theorem wB {l:List Int} (hl:l.length<=100000):cO [bo l,bo l]=.val (.bl true):=by
 simp only [cO,gy]
 show fin (sq _ _ [some (.shr (bo l)),some (.shr (bo l)),none])=_
 have s1:DL.iff (orB (dw (tst (una (jt "list") (vb 0)))) (tst (bin fne (una aJ (vb 0)) (una aJ (vb 1))))) (ret (kd (.bl false))) nxt [some (.shr (bo l)),some (.shr (bo l)),none]=.val (.nx [some (.shr (bo l)),some (.shr (bo l)),none]):=by
  refine dS ?_
  have t1:tst (una (jt "list") (vb 0)) [some (.shr (bo l)),some (.shr (bo l)),none]=.val true:=Eq.trans rfl rfl
  rw [gP,eG,t1]
  simp
 rw [cv s1]
 have fe:=rb (src:=dl (aC (una aJ (vb 1)) aN)) (T:=tgN 2) (F:=DL.iff (orB (dw (tst (una (jt "int") (bin fix (vb 0) (vb 2))))) (orB (tst (una (jt "bool") (bin fix (vb 0) (vb 2)))) (tst (bin fne (bin fix (vb 0) (vb 2)) (bin fix (vb 1) (vb 2)))))) (ret (kd (.bl false))) nxt) (f:=nD) (ok:=fun _=>true) (l:=List.range l.length) (ρ:=[some (.shr (bo l)),some (.shr (bo l)),none]) (fun ρ=>∃ x,ρ=[some (.shr (bo l)),some (.shr (bo l)),x]) (qE (by simp) hl) (fun i hi ρ hI=>by
  obtain ⟨x,rfl⟩:=hI
  have hi:=List.mem_range.mp hi
  have f:=gu (r:=l) hi
  refine ⟨_,rfl,(fun z=>by cases z),fun _=>⟨_,dS (ρ:=[some (.shr (bo l)),some (.shr (bo l)),some (.shr (nD i))]) ?_,_,rfl⟩⟩
  have v0:bin fix (vb 0) (vb 2) [some (.shr (bo l)),some (.shr (bo l)),some (.shr (nD i))]=.val (.int (l.getD i (-1))):=f
  have v1:bin fix (vb 1) (vb 2) [some (.shr (bo l)),some (.shr (bo l)),some (.shr (nD i))]=.val (.int (l.getD i (-1))):=f
  have t1:tst (una (jt "int") (bin fix (vb 0) (vb 2))) [some (.shr (bo l)),some (.shr (bo l)),some (.shr (nD i))]=.val true:=by rw [cK,gJ,v0];rfl
  have t2:tst (una (jt "bool") (bin fix (vb 0) (vb 2))) [some (.shr (bo l)),some (.shr (bo l)),some (.shr (nD i))]=.val false:=by rw [cK,gJ,v0];rfl
  have t3:tst (bin fne (bin fix (vb 0) (vb 2)) (bin fix (vb 1) (vb 2))) [some (.shr (bo l)),some (.shr (bo l)),some (.shr (nD i))]=.val false:=by
   rw [cK,aS,v0,v1,ae,ae,qg];simp
  rw [gP,eG,t1,ae,ae,if_neg (by decide),gP,t2,ae,if_neg (by decide),t3]) ⟨_,rfl⟩
 rw [fe,List.all_eq_true.mpr fun _ _=>rfl]
theorem wA {ms:List (List Int)} (hm:ms.length<=100000) (hr:∀ l ∈ ms,l.length<=100000):aL [bw ms,bw ms]=.val (.bl true):=by
 simp only [aL,dG]
 show fin (sq _ _ [some (.shr (bw ms)),some (.shr (bw ms)),none,none])=_
 have s1:DL.iff (orB (dw (tst (una (jt "list") (vb 0)))) (tst (bin fne (una aJ (vb 0)) (una aJ (vb 1))))) (ret (kd (.bl false))) nxt [some (.shr (bw ms)),some (.shr (bw ms)),none,none]=.val (.nx [some (.shr (bw ms)),some (.shr (bw ms)),none,none]):=by
  refine dS ?_
  have t1:tst (una (jt "list") (vb 0)) [some (.shr (bw ms)),some (.shr (bw ms)),none,none]=.val true:=Eq.trans rfl rfl
  rw [gP,eG,t1]
  simp
 rw [cv s1]
 have fe:=rb (src:=wr (aC (vr 0) (aC (vr 1) aN))) (T:=tg2 2 3) (F:=DL.iff (dw (tst (cal 2 cO (aC (vr 2) (aC (vr 3) aN))))) (ret (kd (.bl false))) nxt) (f:=fun i=>.tup [bo (ms.getD i []),bo (ms.getD i [])]) (ok:=fun _=>true) (l:=List.range ms.length) (ρ:=[some (.shr (bw ms)),some (.shr (bw ms)),none,none]) (fun ρ=>∃ x y,ρ=[some (.shr (bw ms)),some (.shr (bw ms)),x,y]) (by
   have:=xk (f:=bo) (g:=bo) (l:=ms) (m:=ms) (a:=[]) (b:=[]) rfl
   rw [<- this];rfl) (fun i hi ρ hI=>by
  obtain ⟨x,y,rfl⟩:=hI
  have hi:=List.mem_range.mp hi
  refine ⟨_,rfl,(fun z=>by cases z),fun _=>⟨_,dS (ρ:=[some (.shr (bw ms)),some (.shr (bw ms)),some (.shr (bo (ms.getD i []))),some (.shr (bo (ms.getD i [])))]) ?_,_,_,rfl⟩⟩
  rw [eG,cK,j9 (a:=bo (ms.getD i [])) (b:=bo (ms.getD i [])) rfl rfl (wB (by rw [bn hi];exact hr _ (List.getElem_mem hi)))];rfl) ⟨_,_,rfl⟩
 rw [fe,List.all_eq_true.mpr fun _ _=>rfl]
section
variable {en:List (Nat × Nat)} {re:List Nat} {tb:List (List Int)} {pl:List Nat} {ts:List Tie}
theorem uN (h:cN en re tb) (g:Pic en re pl ts) {b:Nat} (hb:b < re.length):cM [hlD en re tb,aw pl,ca ts,nD b]=.val (rwD (kws tb (btw en b) pl ts)):=by
 simp only [cM,jw]
 show sqK _ _ [some (.shr (hlD en re tb)),some (.shr (aw pl)),some (.shr (ca ts)),some (.shr (nD b))]=_
 have s1:drp (cal 3 bv (aC (vr 0) (aC (vr 1) (aC (vr 2) aN)))) [some (.shr (hlD en re tb)),some (.shr (aw pl)),some (.shr (ca ts)),some (.shr (nD b))]=.val (.nx [some (.shr (hlD en re tb)),some (.shr (aw pl)),some (.shr (ca ts)),some (.shr (nD b))]):=nU (qu rfl rfl rfl (ju h g))
 have s2:drp (cal 2 bh (aC (vr 0) (aC (vr 3) aN))) [some (.shr (hlD en re tb)),some (.shr (aw pl)),some (.shr (ca ts)),some (.shr (nD b))]=.val (.nx [some (.shr (hlD en re tb)),some (.shr (aw pl)),some (.shr (ca ts)),some (.shr (nD b))]):=nU (j9 rfl rfl (gw hb))
 rw [ji s1,ji s2,wP rfl rfl rfl rfl (mf h g hb)]
end
end DL
namespace DL
open PySem L2 Ar
section
variable {en:List (Nat × Nat)} {re:List Nat} {tb:List (List Int)} {pl:List Nat} {ts:List Tie}
theorem yI (a:D) (r:List D):fix (.lst (a :: r)) (.int 0)=.val a:=im (i:=0) rfl
theorem yH (a b:D) (r:List D):fix (.lst (a :: b :: r)) (.int 1)=.val b:=im (i:=1) rfl
noncomputable abbrev hdD (pl:List Nat) (ts:List Tie):D:=.lst [aw pl,ca ts]
theorem vJ {k:Nat} (t:Tie):pln (k + 1) (bM t)=true:=ko (by simp [oK])
theorem xL (pl:List Nat) (ts:List Tie):pln 9 (hdD pl ts)=true:=by
 show ([aw pl,ca ts]:List D).all (pln 8)=true
 rw [List.all_cons,List.all_cons,vK,show pln 8 (ca ts)=true from qP (all_map (fun t=>vJ t) _)]
 rfl
noncomputable abbrev rLw (ns:List Int) (P H:D) (pl:List Nat) (ts:List Tie) (x6 x7 x8:Option Slt):Rho :=
 [some (.shr (.scr ns)),some (.shr P),some (.shr H),some (.shr (aw pl)),some (.shr (ca ts)),some (.shr (hdD pl ts)),x6,x7,x8]
theorem uS {rows:List (List Nat)} (h1:rows.length<=100000) (h2:∀ r ∈ rows,r.length<=100000):aL [rwD rows,rwD rows]=.val (.bl true):=by
 rw [xx]
 refine wA (by rw [List.length_map];exact h1) (fun l hl=>?_)
 obtain ⟨r,hr,rfl⟩:=List.mem_map.mp hl
 rw [sI];exact h2 r hr
theorem yV {ns:List Int} {P H:D} {x6 x7:Option Slt} {fnd:List (List Nat)} (hl:fnd.length < 100000):asO (apP 8 (.l .s) (pN0 8) (eLs (eM (aC (kd (.int 0)) aN)))) (rLw ns P H pl ts x6 x7 (some (.tre (.l (.l .s)) (rwD fnd))))=.val (.nx (rLw ns P H pl ts x6 x7 (some (.tre (.l (.l .s)) (rwD (fnd ++ [[0]])))))):=by
 have af:apF (aw [0]) (fnd.map aw)=.val ((fnd ++ [[0]]).map aw):=by
  unfold apF
  rw [if_pos (by rw [List.length_map];exact hl),List.map_append];rfl
 have h2:sX 8 (.l .s) [] (apF (aw [0])) (rLw ns P H pl ts x6 x7 (some (.tre (.l (.l .s)) (rwD fnd))))=.val (rLw ns P H pl ts x6 x7 (some (.tre (.l (.l .s)) (rwD (fnd ++ [[0]]))))):=by
  show R.bind (apF (aw [0]) (fnd.map aw)) _=_
  rw [af];rfl
 have e:eLs (eM (aC (kd (.int 0)) aN)) (rLw ns P H pl ts x6 x7 (some (.tre (.l (.l .s)) (rwD fnd))))=.val (aw [0]):=Eq.trans rfl rfl
 unfold asO apP
 rw [show pN0 8 (rLw ns P H pl ts x6 x7 (some (.tre (.l (.l .s)) (rwD fnd))))=.val [] from rfl,ae,e,iQ,ae,h2];rfl
theorem vh {ns:List Int} {P H:D} {x6 x7:Option Slt} {f0:List Nat} {fnd:List (List Nat)} (hl:f0.length < 100000):asO (apP 8 .s (pN 8 (pN0 8) (kd (.int 0))) (kd (.int 0))) (rLw ns P H pl ts x6 x7 (some (.tre (.l (.l .s)) (rwD (f0 :: fnd)))))=.val (.nx (rLw ns P H pl ts x6 x7 (some (.tre (.l (.l .s)) (rwD ((f0 ++ [0]) :: fnd)))))):=by
 have p1:pN 8 (pN0 8) (kd (.int 0)) (rLw ns P H pl ts x6 x7 (some (.tre (.l (.l .s)) (rwD (f0 :: fnd)))))=.val [0]:=by
  show pIx (.l (.l .s)) (rwD (f0 :: fnd)) [] ((0:Nat):Int)=_
  unfold pIx rwD
  simp only [gh,jT]
  rw [wf (by simp)];rfl
 have af:apF (.int 0) (f0.map nD)=.val ((f0 ++ [0]).map nD):=by
  unfold apF
  rw [if_pos (by rw [List.length_map];exact hl),List.map_append];rfl
 have h2:sX 8 .s [0] (apF (.int 0)) (rLw ns P H pl ts x6 x7 (some (.tre (.l (.l .s)) (rwD (f0 :: fnd)))))=.val (rLw ns P H pl ts x6 x7 (some (.tre (.l (.l .s)) (rwD ((f0 ++ [0]) :: fnd))))):=by
  show R.bind (apF (.int 0) (f0.map nD)) _=_
  rw [af];rfl
 unfold asO apP
 rw [p1,ae,f_,iQ,ae,h2];rfl
theorem uP (h:cN en re tb) (g:Pic en re pl ts) {r:List D} {ns:List Int} {b:Nat} (hb:b < re.length) (x7 x8:Option Slt):∃ y7 y8:Option Slt,
  (sq (asg 7 (cal 4 ck (aC (vr 1) (aC (vr 3) (aC (vr 4) (aC (vr 6) aN))))))
 (sq (trS 8 (.l (.l .s)) (cal 4 cM (aC (vr 2) (aC (bin fix (vb 5) (kd (.int 0))) (aC (bin fix (vb 5) (kd (.int 1))) (aC (vr 6) aN))))))
 (sq (DL.iff (orB (dw (tst (flF (cal 2 aL (aC (va 8) (aC (vb 7) aN)))))) (tst (bin fne (vb 5) (eL (aC (vr 3) (aC (vr 4) aN))))))
 (ret (kd (.bl false)))
 nxt)
 (sq (asO (apP 8 (.l .s) (pN0 8) (eLs (eM (aC (kd (.int 0)) aN)))))
 (sq (asO (apP 8 .s (pN 8 (pN0 8) (kd (.int 0))) (kd (.int 0))))
 (DL.iff (dw (tst (cal 2 aL (aC (cal 4 cM (aC (vr 2) (aC (bin fix (vb 5) (kd (.int 0))) (aC (bin fix (vb 5) (kd (.int 1))) (aC (vr 6) aN))))) (aC (vr 7) aN)))))
 (ret (kd (.bl false)))
 nxt)))))) (rLw ns (paD en re tb r) (hlD en re tb) pl ts (some (.shr (nD b))) x7 x8)=.val (.nx (rLw ns (paD en re tb r) (hlD en re tb) pl ts (some (.shr (nD b))) y7 y8)):=by
 have vs:=uN h g hb
 have lv:=sD (r:=r) h g b
 have eq:kws tb (btw en b) pl ts=(rws (btw en b) pl).filter fun row=>ts.all (kpt tb row):=by
  unfold kws
  rw [yk (fun t ht=>⟨(g.tk t ht).1,(g.tk t ht).2.1⟩)]
 rw [<- eq] at lv
 have len:=q8 h b pl ts
 have len:(kws tb (btw en b) pl ts).length<=64000:=Nat.le_trans len (Nat.le_trans (Nat.pow_le_pow_right (by decide) g.l3) (by decide))
 have row:=qZ (tb:=tb) (en:=en) b pl ts
 have l3:=g.l3
 generalize kws tb (btw en b) pl ts=rows at vs lv len row
 have lk:=uS (rows:=rows) (by omega) (fun r hr=>by rw [(row r hr).len];omega)
 have call:∀ x7 x8:Option Slt,cal 4 cM (aC (vr 2) (aC (bin fix (vb 5) (kd (.int 0))) (aC (bin fix (vb 5) (kd (.int 1))) (aC (vr 6) aN)))) (rLw ns (paD en re tb r) (hlD en re tb) pl ts (some (.shr (nD b))) x7 x8)=.val (rwD rows):=fun x7 x8 =>
  wP (a:=hlD en re tb) (b:=aw pl) (c:=ca ts) (e:=nD b) rfl (yI (aw pl) [ca ts]) (yH (aw pl) (ca ts) []) rfl vs
 have s1:asg 7 (cal 4 ck (aC (vr 1) (aC (vr 3) (aC (vr 4) (aC (vr 6) aN))))) (rLw ns (paD en re tb r) (hlD en re tb) pl ts (some (.shr (nD b))) x7 x8)=.val (.nx (rLw ns (paD en re tb r) (hlD en re tb) pl ts (some (.shr (nD b))) (some (.shr (rwD rows))) x8)):=fO (wP rfl rfl rfl rfl lv)
 have s2:trS 8 (.l (.l .s)) (cal 4 cM (aC (vr 2) (aC (bin fix (vb 5) (kd (.int 0))) (aC (bin fix (vb 5) (kd (.int 1))) (aC (vr 6) aN))))) (rLw ns (paD en re tb r) (hlD en re tb) pl ts (some (.shr (nD b))) (some (.shr (rwD rows))) x8)=.val (.nx (rLw ns (paD en re tb r) (hlD en re tb) pl ts (some (.shr (nD b))) (some (.shr (rwD rows))) (some (.tre (.l (.l .s)) (rwD rows))))):=pQ (call _ _)
 have s3:DL.iff (orB (dw (tst (flF (cal 2 aL (aC (va 8) (aC (vb 7) aN)))))) (tst (bin fne (vb 5) (eL (aC (vr 3) (aC (vr 4) aN)))))) (ret (kd (.bl false))) nxt (rLw ns (paD en re tb r) (hlD en re tb) pl ts (some (.shr (nD b))) (some (.shr (rwD rows))) (some (.tre (.l (.l .s)) (rwD rows))))=.val (.nx (rLw ns (paD en re tb r) (hlD en re tb) pl ts (some (.shr (nD b))) (some (.shr (rwD rows))) (some (.tre (.l (.l .s)) (rwD rows))))):=by
  refine dS ?_
  have t1:tst (flF (cal 2 aL (aC (va 8) (aC (vb 7) aN)))) (rLw ns (paD en re tb r) (hlD en re tb) pl ts (some (.shr (nD b))) (some (.shr (rwD rows))) (some (.tre (.l (.l .s)) (rwD rows))))=.val true:=by
   rw [cK]
   unfold flF
   rw [j9 (a:=rwD rows) (b:=rwD rows) rfl rfl lk];rfl
  have t2:tst (bin fne (vb 5) (eL (aC (vr 3) (aC (vr 4) aN)))) (rLw ns (paD en re tb r) (hlD en re tb) pl ts (some (.shr (nD b))) (some (.shr (rwD rows))) (some (.tre (.l (.l .s)) (rwD rows))))=.val false:=by
   show R.bind (fne (hdD pl ts) (hdD pl ts)) asB=_
   rw [iY (xL pl ts)];rfl
  rw [gP,eG,t1,ae,ae,if_neg (by decide),t2]
 have s4:=yV (ns:=ns) (P:=paD en re tb r) (H:=hlD en re tb) (pl:=pl) (ts:=ts) (x6:=some (.shr (nD b))) (x7:=some (.shr (rwD rows))) (fnd:=rows) (by omega)
 have hne:∃ f0 fr,rows ++ [[0]]=f0 :: fr/\f0.length < 100000:=by
  cases rows with
  | nil=>exact ⟨[0],[],rfl,by decide⟩
  | cons f0 fr=>exact ⟨f0,fr ++ [[0]],rfl,by rw [(row f0 (by simp)).len];omega⟩
 obtain ⟨f0,fr,ef,lf⟩:=hne
 rw [ef] at s4
 have s5:=vh (ns:=ns) (P:=paD en re tb r) (H:=hlD en re tb) (pl:=pl) (ts:=ts) (x6:=some (.shr (nD b))) (x7:=some (.shr (rwD rows))) (f0:=f0) (fnd:=fr) lf
 refine ⟨some (.shr (rwD rows)),some (.tre (.l (.l .s)) (rwD ((f0 ++ [0]) :: fr))),?_⟩
 rw [cv s1,cv s2,cv s3,cv s4,cv s5]
 refine dS ?_
 rw [eG,cK,j9 (a:=rwD rows) (b:=rwD rows) (call _ _) rfl lk];rfl
end
theorem law_val (ns:List Int) (hl:ns.length<=63):lF [.scr ns]=.val (.bl true):=by
 simp only [lF,nY]
 show fin (sq _ _ [some (.shr (.scr ns)),none,none,none,none,none,none,none,none])=_
 obtain ⟨sz,kn,g,hp⟩:=uR ns 0
 have h:=q_ g
 have hh:cP [paD (gI kn) (gj sz kn) (fU kn) [.lst (kn.map az),aw sz]]=.val (hlD (gI kn) (gj sz kn) (fU kn)):=wC g _
 have hp:cH [.scr ns,.int 0]=.val (paD (gI kn) (gj sz kn) (fU kn) [.lst (kn.map az),aw sz]):=hp
 generalize [D.lst (kn.map az),aw sz]=r at hh hp
 generalize gI kn=en at h hh hp
 generalize gj sz kn=re at h hh hp
 generalize fU kn=tb at h hh hp
 obtain ⟨pl,ts,gp,pic⟩:=pf (r:=r) h ns 4
 have pic:bW [.scr ns,.int 4,paD en re tb r]=.val (.tup [aw pl,ca ts]):=pic
 have n6:=h.nb6
 have s1:asg 1 (cal 2 cH (aC (vr 0) (aC (kd (.int 0)) aN))) [some (.shr (.scr ns)),none,none,none,none,none,none,none,none]=.val (.nx [some (.shr (.scr ns)),some (.shr (paD en re tb r)),none,none,none,none,none,none,none]):=fO (j9 rfl rfl hp)
 have s2:asg 2 (cal 1 cP (aC (vr 1) aN)) [some (.shr (.scr ns)),some (.shr (paD en re tb r)),none,none,none,none,none,none,none]=.val (.nx [some (.shr (.scr ns)),some (.shr (paD en re tb r)),some (.shr (hlD en re tb)),none,none,none,none,none,none]):=fO (AH rfl hh)
 have s3:asT (tg2 3 4) (cal 3 bW (aC (vr 0) (aC (kd (.int 4)) (aC (vr 1) aN)))) [some (.shr (.scr ns)),some (.shr (paD en re tb r)),some (.shr (hlD en re tb)),none,none,none,none,none,none]=.val (.nx [some (.shr (.scr ns)),some (.shr (paD en re tb r)),some (.shr (hlD en re tb)),some (.shr (aw pl)),some (.shr (ca ts)),none,none,none,none]):=by
  unfold asT
  rw [qu rfl rfl rfl pic];rfl
 have s4:asg 5 (eL (aC (eLs (fIt (vb 3))) (aC (eLs (fIt (vb 4))) aN))) [some (.shr (.scr ns)),some (.shr (paD en re tb r)),some (.shr (hlD en re tb)),some (.shr (aw pl)),some (.shr (ca ts)),none,none,none,none]=.val (.nx (rLw ns (paD en re tb r) (hlD en re tb) pl ts none none none)):=Eq.trans rfl rfl
 rw [cv s1,cv s2,cv s3,cv s4]
 have src:dl (aC (una aJ (bin fix (vb 1) (kd (.int 1)))) aN) (rLw ns (paD en re tb r) (hlD en re tb) pl ts none none none)=.val (rng 0 re.length):=by
  have v:una aJ (bin fix (vb 1) (kd (.int 1))) (rLw ns (paD en re tb r) (hlD en re tb) pl ts none none none)=.val (nD re.length):=by
   show R.bind (fix (paD en re tb r) (.int 1)) aJ=_
   rw [paD,lA,ae,dW]
  rw [i3,eO,v,ae,lT,ae,ae,dO (by omega)]
 obtain ⟨ρ1,e1,x6,x7,x8,rfl⟩:=gR (i:=6) (n:=re.length) (F:=sq (asg 7 (cal 4 ck (aC (vr 1) (aC (vr 3) (aC (vr 4) (aC (vr 6) aN))))))
   (sq (trS 8 (.l (.l .s)) (cal 4 cM (aC (vr 2) (aC (bin fix (vb 5) (kd (.int 0))) (aC (bin fix (vb 5) (kd (.int 1))) (aC (vr 6) aN))))))
   (sq (DL.iff (orB (dw (tst (flF (cal 2 aL (aC (va 8) (aC (vb 7) aN)))))) (tst (bin fne (vb 5) (eL (aC (vr 3) (aC (vr 4) aN))))))
   (ret (kd (.bl false)))
   nxt)
   (sq (asO (apP 8 (.l .s) (pN0 8) (eLs (eM (aC (kd (.int 0)) aN)))))
   (sq (asO (apP 8 .s (pN 8 (pN0 8) (kd (.int 0))) (kd (.int 0))))
   (DL.iff (dw (tst (cal 2 aL (aC (cal 4 cM (aC (vr 2) (aC (bin fix (vb 5) (kd (.int 0))) (aC (bin fix (vb 5) (kd (.int 1))) (aC (vr 6) aN))))) (aC (vr 7) aN)))))
   (ret (kd (.bl false)))
   nxt)))))) (ρ:=rLw ns (paD en re tb r) (hlD en re tb) pl ts none none none)
  (fun _ ρ=>∃ x6 x7 x8:Option Slt,ρ=rLw ns (paD en re tb r) (hlD en re tb) pl ts x6 x7 x8) (fun b ρ hb hI=>by
   obtain ⟨x6,x7,x8,rfl⟩:=hI
   obtain ⟨y7,y8,e⟩:=uP h gp (r:=r) (ns:=ns) hb x7 x8
   exact ⟨_,e,_,_,_,rfl⟩) ⟨_,_,_,rfl⟩
 rw [be,dD,src,ae,e1]
 rfl
end DL
namespace DL
open PySem PySem.Spec PyProof.Rows L2
theorem uk {n:Nat} {us:List Value} (h:us.length=n + 1):∃ y l,us=y :: l/\l.length=n:=by
 cases us with
 | nil=>cases h
 | cons y l=>exact ⟨y,l,rfl,Nat.succ.inj h⟩
theorem sv {us:List Value} (h:us.length=1):∃ y0,us=[y0]:=by
 obtain ⟨y,l,e,h⟩:=uk h
 exact ⟨y,by rw [e,List.eq_nil_of_length_eq_zero h]⟩
theorem ir {us:List Value} (h:us.length=2):∃ y0 y1,us=[y0,y1]:=by
 obtain ⟨y,l,rfl,g⟩:=uk h
 obtain ⟨y1,rfl⟩:=sv g
 exact ⟨y,y1,rfl⟩
theorem nu {us:List Value} (h:us.length=3):∃ y0 y1 y2,us=[y0,y1,y2]:=by
 obtain ⟨y,l,rfl,g⟩:=uk h
 obtain ⟨y1,y2,rfl⟩:=ir g
 exact ⟨y,y1,y2,rfl⟩
theorem o0 {us:List Value} (h:us.length=4):∃ y0 y1 y2 y3,us=[y0,y1,y2,y3]:=by
 obtain ⟨y,l,rfl,g⟩:=uk h
 obtain ⟨y1,y2,y3,rfl⟩:=nu g
 exact ⟨y,y1,y2,y3,rfl⟩
theorem AU {us:List Value} (h:us.length=5):∃ y0 y1 y2 y3 y4,us=[y0,y1,y2,y3,y4]:=by
 obtain ⟨y,l,rfl,g⟩:=uk h
 obtain ⟨y1,y2,y3,y4,rfl⟩:=o0 g
 exact ⟨y,y1,y2,y3,y4,rfl⟩
noncomputable def qF (K:PySem.W.Frag):Sp:=fun vs H Q _=>∃ (a:Addr) (ns:List Int),vs=[.ref a]/\SqL K H a (ns.map V.int)/\ns.length<=63/\∀ H',Q (.bl true) H'
theorem wa {P:Program} {w:World} {K:PySem.W.Frag} {mg:Str->Option Value} {base:Heap} {C:Addr} {k:Nat} {f:Addr} {fd:FuncData} (hval:∀ ns:List Int,ns.length<=63->lF [.scr ns]=.val (.bl true)) (F:FnOk P w K mg base CX0 k f fd ["script"] (spD K C 1 lF)):FnOk P w K mg base CX0 k f fd ["script"] (qF K) :=
 F.imp fun vs H Q E ⟨a,ns,e,hS,hl,q⟩=>by
  subst e
  refine ⟨rfl,[.scr ns],.cons (.scr hS) .nil,?_⟩
  rw [hval ns hl]
  intro v H' _ hv
  cases hv
  exact q H'
theorem all_mk {l : PySem.W.OpenLaw} {w : World} {K : PySem.W.Frag} {h : Heap} {mg : Str -> Option Value} {fa C f1 f2 f3 f4 f5 f6 f7 f8 f9 f10 f11 f12 f13 f14 f15 f16 f17 f18 f19 f20 f21 f22 f23 f24 f25 f26 f27 f28 f29 f30 f31 f32 : Addr} {tb ta tMOST_PLACES tMOST_TIES : Tok} (hval : ∀ ns : List Int, ns.length <= 63 -> lF [.scr ns] = .val (.bl true)) (X : K.In h) (G : h.Ns mainGlobals mg) (hfa : mg "law" = some (.ref fa))
    {od1 od2 od3 od4 od5 od6 od7 od8 od9 od10 od11 od12 od13 od14 od15 od16 od17 od18 od19 od20 od21 od22 od23 od24 od25 od26 od27 od28 od29 od30 od31 od32 an1 an2 an3 an4 an5 an6 an7 an8 an9 an10 an11 an12 an13 an14 an15 an16 an17 an18 an19 an20 an21 an22 an23 an24 an25 an26 an27 an28 an29 an30 an31 an32 : Option Addr} {sl1 sl2 sl3 sl4 sl5 sl6 sl7 sl8 sl9 sl10 sl11 sl12 sl13 sl14 sl15 sl16 sl17 sl18 sl19 sl20 sl21 sl22 sl23 sl24 sl25 sl26 sl27 sl28 sl29 sl30 sl31 sl32 : Array (Option Value)} {oc1 oc2 oc3 oc4 oc5 oc6 oc7 oc8 oc9 oc10 oc11 oc12 oc13 oc14 oc15 oc16 oc17 oc18 oc19 oc20 oc21 oc22 oc23 oc24 oc25 oc26 oc27 oc28 oc29 oc30 oc31 oc32 kV1 kV2 kV3 kV4 kV5 kV6 kV7 kV8 kV9 kV10 kV11 kV12 kV13 kV14 kV15 kV16 kV17 kV18 kV19 kV20 kV21 kV22 kV23 kV24 kV25 kV26 kV27 kV28 kV29 kV30 kV31 kV32 dc1 dc2 dc3 dc4 dc5 dc6 dc7 dc8 dc9 dc10 dc11 dc12 dc13 dc14 dc15 dc16 dc17 dc18 dc19 dc20 dc21 dc22 dc23 dc24 dc25 dc26 dc27 dc28 dc29 dc30 dc31 dc32 pm1 pm2 pm3 pm4 pm5 pm6 pm7 pm8 pm9 pm10 pm11 pm12 pm13 pm14 pm15 pm16 pm17 pm18 pm19 pm20 pm21 pm22 pm23 pm24 pm25 pm26 pm27 pm28 pm29 pm30 pm31 pm32 cd1 cd2 cd3 cd4 cd5 cd6 cd7 cd8 cd9 cd10 cd11 cd12 cd13 cd14 cd15 cd16 cd17 cd18 cd19 cd20 cd21 cd22 cd23 cd24 cd25 cd26 cd27 cd28 cd29 cd30 cd31 cd32 ct1 ct2 ct3 ct4 ct5 ct6 ct7 ct8 ct9 ct10 ct11 ct12 ct13 ct14 ct15 ct16 ct17 ct18 ct19 ct20 ct21 ct22 ct23 ct24 ct25 ct26 ct27 ct28 ct29 ct30 ct31 ct32 : Value}
    (aC : PySem.W.nsIn K mainGlobals "Hall" = some (some (.ref C)))
    (a1 : PySem.W.nsIn K mainGlobals "_law_cell" = some (some (.ref f1))) (l1 : K.lookup f1 = some ⟨oc1, od1, .func (PySem.W.fnOf "_law_cell" "_law_cell" (aT cT) (ay cT) (ah cT) .none kV1 dc1 pm1 an1 cd1 ct1), sl1⟩) (c1 : PySem.W.codeIn K cd1 "_law_cell" = true) (k1 : PySem.W.keepIn K (.ref f1) = true)
    (a2 : PySem.W.nsIn K mainGlobals "_law_sizes" = some (some (.ref f2))) (l2 : K.lookup f2 = some ⟨oc2, od2, .func (PySem.W.fnOf "_law_sizes" "_law_sizes" (aT cB) (ay cB) (ah cB) .none kV2 dc2 pm2 an2 cd2 ct2), sl2⟩) (c2 : PySem.W.codeIn K cd2 "_law_sizes" = true) (k2 : PySem.W.keepIn K (.ref f2) = true)
    (a3 : PySem.W.nsIn K mainGlobals "_law_next" = some (some (.ref f3))) (l3 : K.lookup f3 = some ⟨oc3, od3, .func (PySem.W.fnOf "_law_next" "_law_next" (aT cQ) (ay cQ) (ah cQ) .none kV3 dc3 pm3 an3 cd3 ct3), sl3⟩) (c3 : PySem.W.codeIn K cd3 "_law_next" = true) (k3 : PySem.W.keepIn K (.ref f3) = true)
    (a4 : PySem.W.nsIn K mainGlobals "_law_closed" = some (some (.ref f4))) (l4 : K.lookup f4 = some ⟨oc4, od4, .func (PySem.W.fnOf "_law_closed" "_law_closed" (aT ce) (ay ce) (ah ce) .none kV4 dc4 pm4 an4 cd4 ct4), sl4⟩) (c4 : PySem.W.codeIn K cd4 "_law_closed" = true) (k4 : PySem.W.keepIn K (.ref f4) = true)
    (a5 : PySem.W.nsIn K mainGlobals "_law_arrows" = some (some (.ref f5))) (l5 : K.lookup f5 = some ⟨oc5, od5, .func (PySem.W.fnOf "_law_arrows" "_law_arrows" (aT cg) (ay cg) (ah cg) .none kV5 dc5 pm5 an5 cd5 ct5), sl5⟩) (c5 : PySem.W.codeIn K cd5 "_law_arrows" = true) (k5 : PySem.W.keepIn K (.ref f5) = true)
    (a6 : PySem.W.nsIn K mainGlobals "_law_parts" = some (some (.ref f6))) (l6 : K.lookup f6 = some ⟨oc6, od6, .func (PySem.W.fnOf "_law_parts" "_law_parts" (aT cC) (ay cC) (ah cC) .none kV6 dc6 pm6 an6 cd6 ct6), sl6⟩) (c6 : PySem.W.codeIn K cd6 "_law_parts" = true) (k6 : PySem.W.keepIn K (.ref f6) = true)
    (a7 : PySem.W.nsIn K mainGlobals "check_counts" = some (some (.ref f7))) (l7 : K.lookup f7 = some ⟨oc7, od7, .func (PySem.W.fnOf "check_counts" "check_counts" (aT bC) (ay bC) (ah bC) .none kV7 dc7 pm7 an7 cd7 ct7), sl7⟩) (c7 : PySem.W.codeIn K cd7 "check_counts" = true) (k7 : PySem.W.keepIn K (.ref f7) = true)
    (a8 : PySem.W.nsIn K mainGlobals "is_below" = some (some (.ref f8))) (l8 : K.lookup f8 = some ⟨oc8, od8, .func (PySem.W.fnOf "is_below" "is_below" (aT cU) (ay cU) (ah cU) .none kV8 dc8 pm8 an8 cd8 ct8), sl8⟩) (c8 : PySem.W.codeIn K cd8 "is_below" = true) (k8 : PySem.W.keepIn K (.ref f8) = true)
    (a9 : PySem.W.nsIn K mainGlobals "check_ends" = some (some (.ref f9))) (l9 : K.lookup f9 = some ⟨oc9, od9, .func (PySem.W.fnOf "check_ends" "check_ends" (aT cj) (ay cj) (ah cj) .none kV9 dc9 pm9 an9 cd9 ct9), sl9⟩) (c9 : PySem.W.codeIn K cd9 "check_ends" = true) (k9 : PySem.W.keepIn K (.ref f9) = true)
    (a10 : PySem.W.nsIn K mainGlobals "check_rests" = some (some (.ref f10))) (l10 : K.lookup f10 = some ⟨oc10, od10, .func (PySem.W.fnOf "check_rests" "check_rests" (aT bQ) (ay bQ) (ah bQ) .none kV10 dc10 pm10 an10 cd10 ct10), sl10⟩) (c10 : PySem.W.codeIn K cd10 "check_rests" = true) (k10 : PySem.W.keepIn K (.ref f10) = true)
    (a11 : PySem.W.nsIn K mainGlobals "check_form" = some (some (.ref f11))) (l11 : K.lookup f11 = some ⟨oc11, od11, .func (PySem.W.fnOf "check_form" "check_form" (aT ci) (ay ci) (ah ci) .none kV11 dc11 pm11 an11 cd11 ct11), sl11⟩) (c11 : PySem.W.codeIn K cd11 "check_form" = true) (k11 : PySem.W.keepIn K (.ref f11) = true)
    (a12 : PySem.W.nsIn K mainGlobals "check_entry" = some (some (.ref f12))) (l12 : K.lookup f12 = some ⟨oc12, od12, .func (PySem.W.fnOf "check_entry" "check_entry" (aT bR) (ay bR) (ah bR) .none kV12 dc12 pm12 an12 cd12 ct12), sl12⟩) (c12 : PySem.W.codeIn K cd12 "check_entry" = true) (k12 : PySem.W.keepIn K (.ref f12) = true)
    (a13 : PySem.W.nsIn K mainGlobals "check_table" = some (some (.ref f13))) (l13 : K.lookup f13 = some ⟨oc13, od13, .func (PySem.W.fnOf "check_table" "check_table" (aT bP) (ay bP) (ah bP) .none kV13 dc13 pm13 an13 cd13 ct13), sl13⟩) (c13 : PySem.W.codeIn K cd13 "check_table" = true) (k13 : PySem.W.keepIn K (.ref f13) = true)
    (a14 : PySem.W.nsIn K mainGlobals "check_beside_rests" = some (some (.ref f14))) (l14 : K.lookup f14 = some ⟨oc14, od14, .func (PySem.W.fnOf "check_beside_rests" "check_beside_rests" (aT aW) (ay aW) (ah aW) .none kV14 dc14 pm14 an14 cd14 ct14), sl14⟩) (c14 : PySem.W.codeIn K cd14 "check_beside_rests" = true) (k14 : PySem.W.keepIn K (.ref f14) = true)
    (a15 : PySem.W.nsIn K mainGlobals "check_thirds" = some (some (.ref f15))) (l15 : K.lookup f15 = some ⟨oc15, od15, .func (PySem.W.fnOf "check_thirds" "check_thirds" (aT bB) (ay bB) (ah bB) .none kV15 dc15 pm15 an15 cd15 ct15), sl15⟩) (c15 : PySem.W.codeIn K cd15 "check_thirds" = true) (k15 : PySem.W.keepIn K (.ref f15) = true)
    (a16 : PySem.W.nsIn K mainGlobals "check_threes" = some (some (.ref f16))) (l16 : K.lookup f16 = some ⟨oc16, od16, .func (PySem.W.fnOf "check_threes" "check_threes" (aT bA) (ay bA) (ah bA) .none kV16 dc16 pm16 an16 cd16 ct16), sl16⟩) (c16 : PySem.W.codeIn K cd16 "check_threes" = true) (k16 : PySem.W.keepIn K (.ref f16) = true)
    (a17 : PySem.W.findIn K (.ref C) "__init__" = some (some (.ref f17))) (i17 : PySem.W.isFn K (.ref f17) = true) (l17 : K.lookup f17 = some ⟨oc17, od17, .func (PySem.W.fnOf "__init__" "Hall.__init__" (aT bq) (ay bq) (ah bq) .none kV17 dc17 pm17 an17 cd17 ct17), sl17⟩) (c17 : PySem.W.codeIn K cd17 "Hall.__init__" = true) (k17 : PySem.W.keepIn K (.ref f17) = true)
    (a18 : PySem.W.nsIn K mainGlobals "_law_hall" = some (some (.ref f18))) (l18 : K.lookup f18 = some ⟨oc18, od18, .func (PySem.W.fnOf "_law_hall" "_law_hall" (aT cS) (ay cS) (ah cS) .none kV18 dc18 pm18 an18 cd18 ct18), sl18⟩) (c18 : PySem.W.codeIn K cd18 "_law_hall" = true) (k18 : PySem.W.keepIn K (.ref f18) = true)
    (a19 : PySem.W.nsIn K mainGlobals "_law_between" = some (some (.ref f19))) (l19 : K.lookup f19 = some ⟨oc19, od19, .func (PySem.W.fnOf "_law_between" "_law_between" (aT bO) (ay bO) (ah bO) .none kV19 dc19 pm19 an19 cd19 ct19), sl19⟩) (c19 : PySem.W.codeIn K cd19 "_law_between" = true) (k19 : PySem.W.keepIn K (.ref f19) = true)
    (a20 : PySem.W.nsIn K mainGlobals "_law_picture" = some (some (.ref f20))) (l20 : K.lookup f20 = some ⟨oc20, od20, .func (PySem.W.fnOf "_law_picture" "_law_picture" (aT bN) (ay bN) (ah bN) .none kV20 dc20 pm20 an20 cd20 ct20), sl20⟩) (c20 : PySem.W.codeIn K cd20 "_law_picture" = true) (k20 : PySem.W.keepIn K (.ref f20) = true)
    (a21 : PySem.W.nsIn K mainGlobals "_law_views" = some (some (.ref f21))) (l21 : K.lookup f21 = some ⟨oc21, od21, .func (PySem.W.fnOf "_law_views" "_law_views" (aT cA) (ay cA) (ah cA) .none kV21 dc21 pm21 an21 cd21 ct21), sl21⟩) (c21 : PySem.W.codeIn K cd21 "_law_views" = true) (k21 : PySem.W.keepIn K (.ref f21) = true)
    (a22 : PySem.W.nsIn K mainGlobals "is_tie" = some (some (.ref f22))) (l22 : K.lookup f22 = some ⟨oc22, od22, .func (PySem.W.fnOf "is_tie" "is_tie" (aT dN) (ay dN) (ah dN) .none kV22 dc22 pm22 an22 cd22 ct22), sl22⟩) (c22 : PySem.W.codeIn K cd22 "is_tie" = true) (k22 : PySem.W.keepIn K (.ref f22) = true)
    (a23 : PySem.W.nsIn K mainGlobals "check_picture" = some (some (.ref f23))) (l23 : K.lookup f23 = some ⟨oc23, od23, .func (PySem.W.fnOf "check_picture" "check_picture" (aT bu) (ay bu) (ah bu) .none kV23 dc23 pm23 an23 cd23 ct23), sl23⟩) (c23 : PySem.W.codeIn K cd23 "check_picture" = true) (k23 : PySem.W.keepIn K (.ref f23) = true)
    (a24 : PySem.W.nsIn K mainGlobals "check_box" = some (some (.ref f24))) (l24 : K.lookup f24 = some ⟨oc24, od24, .func (PySem.W.fnOf "check_box" "check_box" (aT cE) (ay cE) (ah cE) .none kV24 dc24 pm24 an24 cd24 ct24), sl24⟩) (c24 : PySem.W.codeIn K cd24 "check_box" = true) (k24 : PySem.W.keepIn K (.ref f24) = true)
    (a25 : PySem.W.nsIn K mainGlobals "keeps_tie" = some (some (.ref f25))) (l25 : K.lookup f25 = some ⟨oc25, od25, .func (PySem.W.fnOf "keeps_tie" "keeps_tie" (aT cD) (ay cD) (ah cD) .none kV25 dc25 pm25 an25 cd25 ct25), sl25⟩) (c25 : PySem.W.codeIn K cd25 "keeps_tie" = true) (k25 : PySem.W.keepIn K (.ref f25) = true)
    (a26 : PySem.W.nsIn K mainGlobals "grown" = some (some (.ref f26))) (l26 : K.lookup f26 = some ⟨oc26, od26, .func (PySem.W.fnOf "grown" "grown" (aT e9) (ay e9) (ah e9) .none kV26 dc26 pm26 an26 cd26 ct26), sl26⟩) (c26 : PySem.W.codeIn K cd26 "grown" = true) (k26 : PySem.W.keepIn K (.ref f26) = true)
    (a27 : PySem.W.nsIn K mainGlobals "between" = some (some (.ref f27))) (l27 : K.lookup f27 = some ⟨oc27, od27, .func (PySem.W.fnOf "between" "between" (aT di) (ay di) (ah di) .none kV27 dc27 pm27 an27 cd27 ct27), sl27⟩) (c27 : PySem.W.codeIn K cd27 "between" = true) (k27 : PySem.W.keepIn K (.ref f27) = true)
    (a28 : PySem.W.nsIn K mainGlobals "views_from" = some (some (.ref f28))) (l28 : K.lookup f28 = some ⟨oc28, od28, .func (PySem.W.fnOf "views_from" "views_from" (aT cb) (ay cb) (ah cb) .none kV28 dc28 pm28 an28 cd28 ct28), sl28⟩) (c28 : PySem.W.codeIn K cd28 "views_from" = true) (k28 : PySem.W.keepIn K (.ref f28) = true)
    (a29 : PySem.W.nsIn K mainGlobals "views" = some (some (.ref f29))) (l29 : K.lookup f29 = some ⟨oc29, od29, .func (PySem.W.fnOf "views" "views" (aT e8) (ay e8) (ah e8) .none kV29 dc29 pm29 an29 cd29 ct29), sl29⟩) (c29 : PySem.W.codeIn K cd29 "views" = true) (k29 : PySem.W.keepIn K (.ref f29) = true)
    (a30 : PySem.W.nsIn K mainGlobals "_law_ints" = some (some (.ref f30))) (l30 : K.lookup f30 = some ⟨oc30, od30, .func (PySem.W.fnOf "_law_ints" "_law_ints" (aT cR) (ay cR) (ah cR) .none kV30 dc30 pm30 an30 cd30 ct30), sl30⟩) (c30 : PySem.W.codeIn K cd30 "_law_ints" = true) (k30 : PySem.W.keepIn K (.ref f30) = true)
    (a31 : PySem.W.nsIn K mainGlobals "_law_lists_like" = some (some (.ref f31))) (l31 : K.lookup f31 = some ⟨oc31, od31, .func (PySem.W.fnOf "_law_lists_like" "_law_lists_like" (aT bm) (ay bm) (ah bm) .none kV31 dc31 pm31 an31 cd31 ct31), sl31⟩) (c31 : PySem.W.codeIn K cd31 "_law_lists_like" = true) (k31 : PySem.W.keepIn K (.ref f31) = true)
    (a32 : PySem.W.nsIn K mainGlobals "law" = some (some (.ref f32))) (l32 : K.lookup f32 = some ⟨oc32, od32, .func (PySem.W.fnOf "law" "law" (aT gM) (ay gM) (ah gM) .none kV32 dc32 pm32 an32 cd32 ct32), sl32⟩) (c32 : PySem.W.codeIn K cd32 "law" = true) (k32 : PySem.W.keepIn K (.ref f32) = true)
    (pg : PySem.W.plainGet K C Str.empty = true) (hd : PySem.W.hasDictIn K C = true) (po : PySem.W.plainOver K C = true) (sa : PySem.W.findIn K (.ref C) "__setattr__" = some (some (.builtin "object.__setattr__"))) (mk : PySem.W.makesIn K C = true) (kc : PySem.W.keepIn K (.ref C) = true)
    (nE : PySem.W.findIn K (.ref C) "ends" = some none) (nR : PySem.W.findIn K (.ref C) "rests" = some none) (nT : PySem.W.findIn K (.ref C) "table" = some none)
    (z_len : PySem.W.nsIn K mainGlobals "len" = some none)
    (z_list : PySem.W.nsIn K mainGlobals "list" = some none)
    (z_tuple : PySem.W.nsIn K mainGlobals "tuple" = some none)
    (z_range : PySem.W.nsIn K mainGlobals "range" = some none)
    (z_enumerate : PySem.W.nsIn K mainGlobals "enumerate" = some none)
    (z_max : PySem.W.nsIn K mainGlobals "max" = some none)
    (z_isinstance : PySem.W.nsIn K mainGlobals "isinstance" = some none)
    (z_all : PySem.W.nsIn K mainGlobals "all" = some none)
    (z_zip : PySem.W.nsIn K mainGlobals "zip" = some none)
    (z_int : PySem.W.nsIn K mainGlobals "int" = some none)
    (z_bool : PySem.W.nsIn K mainGlobals "bool" = some none)
    (mb : PySem.W.nsIn K mainGlobals "MOST_BOXES" = some (some (.int 6 tb))) (ma : PySem.W.nsIn K mainGlobals "MOST_ARROWS" = some (some (.int 40 ta))) (mMOST_PLACES : PySem.W.nsIn K mainGlobals "MOST_PLACES" = some (some (.int 3 tMOST_PLACES))) (mMOST_TIES : PySem.W.nsIn K mainGlobals "MOST_TIES" = some (some (.int 4 tMOST_TIES)))
    (ih1 : PySem.W.findIn K (.ref C) "__class__" = some (some (.builtin "object.__class__"))) (ih2 : PySem.W.specialIn K (.builtin "object.__class__") "__get__" = some (some (.builtin "getset_descriptor.__get__"))) (ih3 : PySem.W.takesIn K (.builtin "object.__class__") = some true)
    (ih4 : PySem.W.mroIn K C (.type "object") = some true)
    (kii : PySem.W.kitOne K (.type "int") (.type "int") = some true)
    (kbi : PySem.W.kitOne K (.type "bool") (.type "int") = some true)
    (kNi : PySem.W.kitOne K (.type "NoneType") (.type "int") = some false)
    (kli : PySem.W.kitOne K (.type "list") (.type "int") = some false)
    (kti : PySem.W.kitOne K (.type "tuple") (.type "int") = some false)
    (kib : PySem.W.kitOne K (.type "int") (.type "bool") = some false)
    (kbb : PySem.W.kitOne K (.type "bool") (.type "bool") = some true)
    (kNb : PySem.W.kitOne K (.type "NoneType") (.type "bool") = some false)
    (klb : PySem.W.kitOne K (.type "list") (.type "bool") = some false)
    (ktb : PySem.W.kitOne K (.type "tuple") (.type "bool") = some false)
    (kil : PySem.W.kitOne K (.type "int") (.type "list") = some false)
    (kbl : PySem.W.kitOne K (.type "bool") (.type "list") = some false)
    (kNl : PySem.W.kitOne K (.type "NoneType") (.type "list") = some false)
    (kll : PySem.W.kitOne K (.type "list") (.type "list") = some true)
    (ktl : PySem.W.kitOne K (.type "tuple") (.type "list") = some false)
 :
    ∃ fd : FuncData, (∀ (s : Shared) (v : Value), BindsTo s fd ⟨[v], []⟩ [("script", v)]) /\ ∀ base : Heap, K.In base -> base.Ns mainGlobals mg -> FnOk l.prog w K mg base CX0 7 fa fd ["script"] (qF K) := by
  have e := hfa.symm.trans (PySem.W.mg_of X G a32)
  cases e
  have cl : Cls K C := ⟨pg, hd, po, sa⟩
  have T : Txt K mg C := ⟨cl, nE, nR, nT, PySem.W.mg_none_of X G z_len, PySem.W.mg_none_of X G z_list, PySem.W.mg_none_of X G z_tuple, PySem.W.mg_none_of X G z_range, PySem.W.mg_none_of X G z_enumerate, PySem.W.mg_none_of X G z_max, PySem.W.mg_none_of X G z_isinstance, PySem.W.mg_none_of X G z_all, PySem.W.mg_none_of X G z_zip, PySem.W.mg_none_of X G z_int, PySem.W.mg_none_of X G z_bool, ⟨cl, ih1, ih2, ih3, ih4⟩, PySem.W.mg_of X G aC, ⟨tb, PySem.W.mg_of X G mb⟩, ⟨ta, PySem.W.mg_of X G ma⟩, ⟨tMOST_PLACES, PySem.W.mg_of X G mMOST_PLACES⟩, ⟨tMOST_TIES, PySem.W.mg_of X G mMOST_TIES⟩, ⟨kii, kbi, kNi, kli, kti⟩, ⟨kib, kbb, kNb, klb, ktb⟩, ⟨kil, kbl, kNl, kll, ktl⟩⟩
  have F1 := br (st := cT) l1 c1 k1
  have b1 := F1.binds (ps := ["script", "k"]) fun _ _ _ _ _ _ us hl => by obtain ⟨y0, y1, rfl⟩ := ir hl; rfl
  have F2 := br (st := cB) l2 c2 k2
  have b2 := F2.binds (ps := ["script", "k"]) fun _ _ _ _ _ _ us hl => by obtain ⟨y0, y1, rfl⟩ := ir hl; rfl
  have F3 := br (st := cQ) l3 c3 k3
  have b3 := F3.binds (ps := ["step"]) fun _ _ _ _ _ _ us hl => by obtain ⟨y0, rfl⟩ := sv hl; rfl
  have F4 := br (st := ce) l4 c4 k4
  have b4 := F4.binds (ps := ["known"]) fun _ _ _ _ _ _ us hl => by obtain ⟨y0, rfl⟩ := sv hl; rfl
  have F5 := br (st := cg) l5 c5 k5
  have b5 := F5.binds (ps := ["script", "k", "sizes"]) fun _ _ _ _ _ _ us hl => by obtain ⟨y0, y1, y2, rfl⟩ := nu hl; rfl
  have F6 := br (st := cC) l6 c6 k6
  have b6 := F6.binds (ps := ["script", "k"]) fun _ _ _ _ _ _ us hl => by obtain ⟨y0, y1, rfl⟩ := ir hl; rfl
  have F7 := br (st := bC) l7 c7 k7
  have b7 := F7.binds (ps := ["ends", "rests"]) fun _ _ _ _ _ _ us hl => by obtain ⟨y0, y1, rfl⟩ := ir hl; rfl
  have F8 := br (st := cU) l8 c8 k8
  have b8 := F8.binds (ps := ["number", "count"]) fun _ _ _ _ _ _ us hl => by obtain ⟨y0, y1, rfl⟩ := ir hl; rfl
  have F9 := br (st := cj) l9 c9 k9
  have b9 := F9.binds (ps := ["ends", "boxes"]) fun _ _ _ _ _ _ us hl => by obtain ⟨y0, y1, rfl⟩ := ir hl; rfl
  have F10 := br (st := bQ) l10 c10 k10
  have b10 := F10.binds (ps := ["ends", "rests"]) fun _ _ _ _ _ _ us hl => by obtain ⟨y0, y1, rfl⟩ := ir hl; rfl
  have F11 := br (st := ci) l11 c11 k11
  have b11 := F11.binds (ps := ["table", "arrows"]) fun _ _ _ _ _ _ us hl => by obtain ⟨y0, y1, rfl⟩ := ir hl; rfl
  have F12 := br (st := bR) l12 c12 k12
  have b12 := F12.binds (ps := ["ends", "one", "other", "made"]) fun _ _ _ _ _ _ us hl => by obtain ⟨y0, y1, y2, y3, rfl⟩ := o0 hl; rfl
  have F13 := br (st := bP) l13 c13 k13
  have b13 := F13.binds (ps := ["ends", "table"]) fun _ _ _ _ _ _ us hl => by obtain ⟨y0, y1, rfl⟩ := ir hl; rfl
  have F14 := br (st := aW) l14 c14 k14
  have b14 := F14.binds (ps := ["ends", "rests", "table"]) fun _ _ _ _ _ _ us hl => by obtain ⟨y0, y1, y2, rfl⟩ := nu hl; rfl
  have F15 := br (st := bB) l15 c15 k15
  have b15 := F15.binds (ps := ["table", "one", "other", "made"]) fun _ _ _ _ _ _ us hl => by obtain ⟨y0, y1, y2, y3, rfl⟩ := o0 hl; rfl
  have F16 := br (st := bA) l16 c16 k16
  have b16 := F16.binds (ps := ["table"]) fun _ _ _ _ _ _ us hl => by obtain ⟨y0, rfl⟩ := sv hl; rfl
  have F17 := br (st := bq) l17 c17 k17
  have b17 := F17.binds (ps := ["self", "ends", "rests", "table"]) fun _ _ _ _ _ _ us hl => by obtain ⟨y0, y1, y2, y3, rfl⟩ := o0 hl; rfl
  have F18 := br (st := cS) l18 c18 k18
  have b18 := F18.binds (ps := ["parts"]) fun _ _ _ _ _ _ us hl => by obtain ⟨y0, rfl⟩ := sv hl; rfl
  have F19 := br (st := bO) l19 c19 k19
  have b19 := F19.binds (ps := ["parts", "box", "other"]) fun _ _ _ _ _ _ us hl => by obtain ⟨y0, y1, y2, rfl⟩ := nu hl; rfl
  have F20 := br (st := bN) l20 c20 k20
  have b20 := F20.binds (ps := ["script", "k", "parts"]) fun _ _ _ _ _ _ us hl => by obtain ⟨y0, y1, y2, rfl⟩ := nu hl; rfl
  have F21 := br (st := cA) l21 c21 k21
  have b21 := F21.binds (ps := ["parts", "places", "ties", "box"]) fun _ _ _ _ _ _ us hl => by obtain ⟨y0, y1, y2, y3, rfl⟩ := o0 hl; rfl
  have F22 := br (st := dN) l22 c22 k22
  have b22 := F22.binds (ps := ["hall", "places", "tie"]) fun _ _ _ _ _ _ us hl => by obtain ⟨y0, y1, y2, rfl⟩ := nu hl; rfl
  have F23 := br (st := bu) l23 c23 k23
  have b23 := F23.binds (ps := ["hall", "places", "ties"]) fun _ _ _ _ _ _ us hl => by obtain ⟨y0, y1, y2, rfl⟩ := nu hl; rfl
  have F24 := br (st := cE) l24 c24 k24
  have b24 := F24.binds (ps := ["hall", "box"]) fun _ _ _ _ _ _ us hl => by obtain ⟨y0, y1, rfl⟩ := ir hl; rfl
  have F25 := br (st := cD) l25 c25 k25
  have b25 := F25.binds (ps := ["hall", "arrows", "tie"]) fun _ _ _ _ _ _ us hl => by obtain ⟨y0, y1, y2, rfl⟩ := nu hl; rfl
  have F26 := br (st := e9) l26 c26 k26
  have b26 := F26.binds (ps := ["hall", "begun", "arrows", "due"]) fun _ _ _ _ _ _ us hl => by obtain ⟨y0, y1, y2, y3, rfl⟩ := o0 hl; rfl
  have F27 := br (st := di) l27 c27 k27
  have b27 := F27.binds (ps := ["hall", "box", "other"]) fun _ _ _ _ _ _ us hl => by obtain ⟨y0, y1, y2, rfl⟩ := nu hl; rfl
  have F28 := br (st := cb) l28 c28 k28
  have b28 := F28.binds (ps := ["hall", "places", "ties", "box"]) fun _ _ _ _ _ _ us hl => by obtain ⟨y0, y1, y2, y3, rfl⟩ := o0 hl; rfl
  have F29 := br (st := e8) l29 c29 k29
  have b29 := F29.binds (ps := ["hall", "places", "ties", "box"]) fun _ _ _ _ _ _ us hl => by obtain ⟨y0, y1, y2, y3, rfl⟩ := o0 hl; rfl
  have F30 := br (st := cR) l30 c30 k30
  have b30 := F30.binds (ps := ["found", "due"]) fun _ _ _ _ _ _ us hl => by obtain ⟨y0, y1, rfl⟩ := ir hl; rfl
  have F31 := br (st := bm) l31 c31 k31
  have b31 := F31.binds (ps := ["found", "due"]) fun _ _ _ _ _ _ us hl => by obtain ⟨y0, y1, rfl⟩ := ir hl; rfl
  have F32 := br (st := gM) l32 c32 k32
  have b32 := F32.binds (ps := ["script"]) fun _ _ _ _ _ _ us hl => by obtain ⟨y0, rfl⟩ := sv hl; rfl
  refine ⟨PySem.W.fnOf "law" "law" (aT gM) (ay gM) (ah gM) .none kV32 dc32 pm32 an32 cd32 ct32, fun s v => .of_eq rfl, fun base _ _ => ?_⟩
  have r1 : Fn l.prog w K mg base C 1 "_law_cell" 2 au := oU  T F1 (PySem.W.mg_of X G a1) b1
  have r2 : Fn l.prog w K mg base C 2 "_law_sizes" 2 cG := nn r1 T F2 (PySem.W.mg_of X G a2) b2
  have r3 : Fn l.prog w K mg base C 1 "_law_next" 1 aM := oQ  T F3 (PySem.W.mg_of X G a3) b3
  have r4 : Mv l.prog w K mg base C 1 "_law_closed" bT := lY  T F4 (PySem.W.mg_of X G a4) b4
  have r5 : Fn l.prog w K mg base C 2 "_law_arrows" 3 bS := lZ r1 r4 r3 T F5 (PySem.W.mg_of X G a5) b5
  have r6 : Fn l.prog w K mg base C 3 "_law_parts" 2 cH := no r5 r2 T F6 (PySem.W.mg_of X G a6) b6
  have r7 : Fn l.prog w K mg base C 1 "check_counts" 2 bI := j3  T F7 (PySem.W.mg_of X G a7) b7
  have r8 : Fn l.prog w K mg base C 1 "is_below" 2 aF := oV  T F8 (PySem.W.mg_of X G a8) b8
  have r9 : Fn l.prog w K mg base C 2 "check_ends" 2 cu := l_ r8 T F9 (PySem.W.mg_of X G a9) b9
  have r10 : Fn l.prog w K mg base C 2 "check_rests" 2 bY := lh r8 T F10 (PySem.W.mg_of X G a10) b10
  have r11 : Fn l.prog w K mg base C 1 "check_form" 2 cr := l0  T F11 (PySem.W.mg_of X G a11) b11
  have r12 : Fn l.prog w K mg base C 2 "check_entry" 4 bZ := li r8 T F12 (PySem.W.mg_of X G a12) b12
  have r13 : Fn l.prog w K mg base C 3 "check_table" 2 bX := lg r12 T F13 (PySem.W.mg_of X G a13) b13
  have r14 : Fn l.prog w K mg base C 1 "check_beside_rests" 3 aY := gG  T F14 (PySem.W.mg_of X G a14) b14
  have r15 : Fn l.prog w K mg base C 1 "check_thirds" 4 bH := j0  T F15 (PySem.W.mg_of X G a15) b15
  have r16 : Fn l.prog w K mg base C 2 "check_threes" 1 bG := jZ r15 T F16 (PySem.W.mg_of X G a16) b16
  have r17 : FnH l.prog w K mg base C 4 fx := lj r14 r7 r9 r11 r10 r13 r16 T F17 ⟨mk, a17, i17, kc⟩ b17
  have r18 : Fn l.prog w K mg base C 6 "_law_hall" 1 cP := oS r17 T F18 (PySem.W.mg_of X G a18) b18
  have r19 : Fn l.prog w K mg base C 1 "_law_between" 3 aK := ld  T F19 (PySem.W.mg_of X G a19) b19
  have r20 : Fn l.prog w K mg base C 2 "_law_picture" 3 bW := k_ r19 r1 T F20 (PySem.W.mg_of X G a20) b20
  have r21 : Fn l.prog w K mg base C 2 "_law_views" 4 ck := nl r19 T F21 (PySem.W.mg_of X G a21) b21
  have r22 : Fn l.prog w K mg base C 2 "is_tie" 3 dI := ss r8 T F22 (PySem.W.mg_of X G a22) b22
  have r23 : Fn l.prog w K mg base C 3 "check_picture" 3 bv := jq r8 r22 T F23 (PySem.W.mg_of X G a23) b23
  have r24 : Fn l.prog w K mg base C 2 "check_box" 2 bh := nr r8 T F24 (PySem.W.mg_of X G a24) b24
  have r25 : Fn l.prog w K mg base C 1 "keeps_tie" 3 bD := nq  T F25 (PySem.W.mg_of X G a25) b25
  have r26 : FnK l.prog w K mg base C 2 "grown" 4 (.l (.l .s)) dA := ue r25 T F26 (PySem.W.mg_of X G a26) b26
  have r27 : Fn l.prog w K mg base C 3 "between" 3 cJ := p_ r24 T F27 (PySem.W.mg_of X G a27) b27
  have r28 : FnK l.prog w K mg base C 4 "views_from" 4 (.l (.l .s)) cI := lX r27 r26 T F28 (PySem.W.mg_of X G a28) b28
  have r29 : FnK l.prog w K mg base C 5 "views" 4 (.l (.l .s)) cM := uc r24 r23 r28 T F29 (PySem.W.mg_of X G a29) b29
  have r30 : Fn l.prog w K mg base C 1 "_law_ints" 2 cO := oR  T F30 (PySem.W.mg_of X G a30) b30
  have r31 : Fn l.prog w K mg base C 2 "_law_lists_like" 2 aL := iT r30 T F31 (PySem.W.mg_of X G a31) b31
  exact wa hval (bL (C := C) F32 sc_law (fun cdv A outer s H E hr => vd r18 r31 r6 r20 r21 r29 T cdv A outer s H E hr))
theorem walk {l:PySem.W.OpenLaw} {q:Program} {loose:List Str} {XP:(Str->Option Value)->Heap->Prop} {YP:World->Heap->Prop} {d:DefRec} {K:Params->PySem.W.Frag} (hn:l.most=some 63) (hdf:d.params.defaults=[])
  (hY:∀ (w:World) (h:Heap),YP w h->(K w.params).In h)
  (F:∀ (w:World) (mg:Str->Option Value) (fa:Addr) (h:Heap),(K w.params).In h->h.Ns mainGlobals mg->mg d.name=some (.ref fa) ->
   ∃ fd:FuncData,(∀ (s:Shared) (u:Value),BindsTo s fd ⟨[u],[]⟩ [("script",u)])/\∀ base:Heap,(K w.params).In base->base.Ns mainGlobals mg->FnOk l.prog w (K w.params) mg base CX0 7 fa fd ["script"] (qF (K w.params))) :
  PySem.W.WalkO q loose XP YP l.row.toRowW d [] (fun f vs=>PySem.call f vs) :=
 L2.walk_of (n:=63) (k:=7) (x:="script") (CX:=fun _=>CX0) (sp:=fun w=>qF (K w.params)) hn (by decide) hdf ⟨rfl,by decide,by decide⟩ hY F (fun _ _ a ns hl _ hS=>⟨a,ns,rfl,hS,hl,fun _=>rfl⟩) fun _ _ _ _ _ z=>z
end DL
namespace PySem.W.Fast
def tw15660978918176502944:=0
def tw8760309241122997408:=0
def tw16836128944567503136:=0
def tw4343863923147009408:=0
def tw8971636139997014496:=0
def tw13168747135994217088:=0
def tw2216689135808325280:=0
def tw7797905521239507712:=0
def tw12317611611490761504:=0
def tw10636471428202548192:=0
def tw13429674028604846145:=0
def tw3216842907032848577:=0
def tw14248480743846884801:=0
def tw1519537893695865441:=0
def tw4969269541100124993:=0
def tw1942801690298002273:=0
def tw7201469044993642401:=0
def tw2701711178706952226:=0
def tw4459875451902314626:=0
def tw757320056221051106:=0
def tw800945456604584194:=0
def tw11262577728899030498:=0
def tw9517911032205660674:=0
def tw4969971814821043714:=0
def tw5230996013402350114:=0
def tw16424836431581434434:=0
def tw15813481484285887170:=0
def tw17405276737341455042:=0
def tw16595275662735630082:=0
def tw3153287598882776034:=0
def tw14171154984264255491:=0
def tw3243263261202034787:=0
def tw2047083511952822371:=0
def tw2013351659359845699:=0
def tw15647215619943721411:=0
def tw9951822440146656867:=0
def tw8129186662970617507:=0
def tw6006502905999222499:=0
def tw7449509921496850243:=0
def tw13778067038193915972:=0
def tw10208676297742146724:=0
def tw9292976852358633796:=0
def tw8593504555581371876:=0
def tw16548092775771748:=0
def tw9081864344563068772:=0
def tw17722358820673839044:=0
def tw2286672782104515556:=0
def tw13992183285951065221:=0
def tw4998964662442954021:=0
def tw1472761485554802085:=0
def tw12808258790831666629:=0
def tw9384017404400829893:=0
def tw5945660582113161733:=0
def tw18437780474287852101:=0
def tw7791366302048129669:=0
def tw5232777423549763269:=0
def tw3044628762188967781:=0
def tw5207920458156686309:=0
def tw16069919632044465382:=0
def tw11635183612421345606:=0
def tw2989085280406296262:=0
def tw17574214730573409062:=0
def tw14527069369556070182:=0
def tw443711830364707814:=0
def tw9625842656995977287:=0
def tw2723614428717056135:=0
def tw14788076112258584935:=0
def tw4163133836054455687:=0
def tw13672098331332039143:=0
def tw16102648164274518663:=0
def tw14586516214525929351:=0
def tw7986254503887588263:=0
def tw14078580133858080743:=0
def tw10904445152539210760:=0
def tw15318413820639012936:=0
def tw5830929458028860520:=0
def tw5665321201294102664:=0
def tw11367433278011416712:=0
def tw7290310061253163304:=0
def tw11752573151789981000:=0
def tw7013332047236947304:=0
def tw858679951446535624:=0
def tw7501024326245541352:=0
def tw10357415743660853768:=0
def tw11205106321460057736:=0
def tw17316829200030181064:=0
def tw2386244607436562152:=0
def tw10382030288048948104:=0
def tw4095747234329154504:=0
def tw353736864387798249:=0
def tw4094428377092866281:=0
def tw8887547928487871913:=0
def tw4932443394348420617:=0
def tw5824026295494028009:=0
def tw9928345948524063593:=0
def tw3789955791306917801:=0
def tw17341059405794282409:=0
def tw16344883407391496137:=0
def tw14009024224250284009:=0
def tw15376019277708805130:=0
def tw2951253564314407498:=0
def tw4356874248055552650:=0
def tw16797518798669145994:=0
def tw8628466547631570826:=0
def tw17144299989078300618:=0
def tw388499044327172042:=0
def tw13084719954921784619:=0
def tw11376525673091127659:=0
def tw6348127408418212235:=0
def tw7304627199571437995:=0
def tw3716843257624070667:=0
def tw14911802736572168747:=0
def tw1436457155305802347:=0
def tw7564057659364420299:=0
def tw3604076296133120779:=0
def tw6874040318496977835:=0
def tw10510917300026164332:=0
def tw8749576780769130636:=0
def tw15020744039258723468:=0
def tw15407960367765642412:=0
def tw6965091395261441260:=0
def tw12044786539904115660:=0
def tw15497251191908710477:=0
def tw8279294258148604045:=0
def tw15132961610692271373:=0
def tw6134549049417873773:=0
def tw196315179186457037:=0
def tw9634392696579717613:=0
def tw5221532201997087213:=0
def tw7490756008525059597:=0
def tw930130349301386797:=0
def tw4092574200963976813:=0
def tw3157765241177111405:=0
def tw14400015713112508333:=0
def tw4307828008448438221:=0
def tw5254762907009636301:=0
def tw18064708605312661485:=0
def tw4474921096653132206:=0
def tw3529996081928243662:=0
def tw14453772620792207886:=0
def tw13788693130925818414:=0
def tw6468769233414378030:=0
def tw14716436794725625486:=0
def tw12095248515786876654:=0
def tw12141877248640467694:=0
def tw2469707046939351950:=0
def tw17042432388603820974:=0
def tw8959692500224776239:=0
def tw6966249889493083247:=0
def tw4545695526181723311:=0
def tw16074857442299658415:=0
def tw2674959787949804751:=0
def tw9031926924462297455:=0
def tw3768583081985527311:=0
def tw2659268912799052399:=0
def tw17228251720479477391:=0
def tw3903193896233427759:=0
def tw13264582226102939503:=0
def tw8093239711212711823:=0
def tw1582966664758612943:=0
def tw12734679137914723504:=0
def tw16991452000008454448:=0
def tw5795203056001840528:=0
def tw9080633423265651120:=0
def tw8921488463329829392:=0
def tw7026601288002832944:=0
def tw18079209601222182896:=0
def tw7684113546432867345:=0
def tw10494851195542307953:=0
def tw14695906627742770321:=0
def tw10111390716932725969:=0
def tw760548287752166833:=0
def tw15572160252320601585:=0
def tw13754618363179543121:=0
def tw13239409072905510641:=0
def tw15026600817104850737:=0
def tw2053161234538855249:=0
def tw9447346946509478066:=0
def tw9647158611110046322:=0
def tw15782645427761222258:=0
def tw13049732381380519794:=0
def tw2466425857523095506:=0
def tw3076500443528722547:=0
def tw12955162950957822099:=0
def tw6553147984533455251:=0
def tw14428572084974771763:=0
def tw7968425207081126515:=0
def tw9986744389559915251:=0
def tw4778020806330102579:=0
def tw16503318152226549044:=0
def tw14263742021341265204:=0
def tw16964341641687095700:=0
def tw9152175926489302452:=0
def tw13437682681014828532:=0
def tw9825261237682901684:=0
def tw14978824425734943444:=0
def tw14648163815396892372:=0
def tw13662151018735379220:=0
def tw12727591520739193716:=0
def tw14665808534960695188:=0
def tw15234153934058094709:=0
def tw12295934527650837653:=0
def tw11937584327606043189:=0
def tw7993230464693414869:=0
def tw7692419582531862614:=0
def tw6949234444741255286:=0
def tw8884845398377530550:=0
def tw12611076519939857590:=0
def tw14793757243808313526:=0
def tw5596962015651152150:=0
def tw10342554016790264086:=0
def tw17325274325825597750:=0
def tw2156905885562484150:=0
def tw3142337943733849590:=0
def tw17756756564354026006:=0
def tw10668181378973531670:=0
def tw10302927831324552854:=0
def tw9281590993676927638:=0
def tw14561325517568109238:=0
def tw13615055368487507734:=0
def tw13598800275785950070:=0
def tw3500592620309758838:=0
def tw4357858905218654198:=0
def tw15054541274505534679:=0
def tw9165577278206131447:=0
def tw16211117499039587607:=0
def tw191619460063000887:=0
def tw14398672183204064599:=0
def tw15777424067807241591:=0
def tw14162574248007919063:=0
def tw10429851632419967543:=0
def tw9220283387720691319:=0
def tw4827209792375137079:=0
def tw6748411263737339735:=0
def tw13725345847986680823:=0
def tw9704633103566521368:=0
def tw13091758994199275576:=0
def tw5149990999394150552:=0
def tw1799515903867823384:=0
def tw18398921545922711032:=0
def tw8804655972885693048:=0
def tw3942672504769364696:=0
def tw3248845110485874424:=0
def tw15958175751556846328:=0
def tw15007546434797382456:=0
def tw14076146608104492057:=0
def tw7784119072533970041:=0
def tw4094475467068062841:=0
def tw2054306488619408761:=0
def tw10334547114054669849:=0
def tw284575949090117625:=0
def tw9065802198367273050:=0
def tw5075926915208051226:=0
def tw6590656109332825818:=0
def tw10837221030069210010:=0
def tw4139595426801197115:=0
def tw1273328022679692347:=0
def tw17916479094302438459:=0
def tw11982675720804017723:=0
def tw1811246633326892667:=0
def tw8026570800019586683:=0
def tw1806060093065233083:=0
def tw1318319702807963355:=0
def tw3480913343872226139:=0
def tw6989959544247041947:=0
def tw11542238424964922331:=0
def tw9434318320203145211:=0
def tw6798761294243032156:=0
def tw14271521061764750428:=0
def tw11140118009398616188:=0
def tw5336650596922611900:=0
def tw4951402848365509180:=0
def tw17917960427182286428:=0
def tw6176471891588962972:=0
def tw12856658045003291580:=0
def tw9351056974948411356:=0
def tw15494511091787795549:=0
def tw10376676950000828573:=0
def tw7382465513498171805:=0
def tw4129346824805027261:=0
def tw17390271814264887805:=0
def tw6323342458294234877:=0
def tw17000111989999813533:=0
def tw3388426766645219390:=0
def tw8956107859681284158:=0
def tw10208041347431146750:=0
def tw17014298055879837982:=0
def tw7776711982627153246:=0
def tw6852313665379178878:=0
def tw16216648157373213118:=0
def tw852260342636716510:=0
def tw7064059789386538526:=0
def tw10744040535248826238:=0
def tw8073715608982587583:=0
def tw6920513318106602719:=0
def tw15744073561007537471:=0
def tw5499429577021995327:=0
def tw4861939617963600287:=0
def tw7857622860743902623:=0
def tw6312943848434852383:=0
def tw17608351109839813439:=0
def tw12758883180275581759:=0
def tw17417565971522556767:=0
def tw5035083328886064063:=0
end PySem.W.Fast
open PySem PySem.W PyProof.Rows
set_option maxRecDepth 100000 in
set_option maxHeartbeats 0 in
theorem PySem.Challenge.cw_arrowhall_k05_views_holds : PySem.Challenge.rw_arrowhall_k05_views.Holds := by
 w_on;o_law;k_head;(case hw=>w_witness2)
 k_fill
 refine DL.walk (l:=PySem.Challenge.rw_arrowhall_k05_views) rfl rfl (fun w h Y=>PySem.W.kIn_of Y) ?F
 case F =>
  intro w mg fa h KX G hmg
  refine' DL.all_mk DL.law_val KX G hmg ?aC ?a1 ?l1 ?c1 ?k1 ?a2 ?l2 ?c2 ?k2 ?a3 ?l3 ?c3 ?k3 ?a4 ?l4 ?c4 ?k4 ?a5 ?l5 ?c5 ?k5 ?a6 ?l6 ?c6 ?k6 ?a7 ?l7 ?c7 ?k7 ?a8 ?l8 ?c8 ?k8 ?a9 ?l9 ?c9 ?k9 ?a10 ?l10 ?c10 ?k10 ?a11 ?l11 ?c11 ?k11 ?a12 ?l12 ?c12 ?k12 ?a13 ?l13 ?c13 ?k13 ?a14 ?l14 ?c14 ?k14 ?a15 ?l15 ?c15 ?k15 ?a16 ?l16 ?c16 ?k16 ?a17 ?i17 ?l17 ?c17 ?k17 ?a18 ?l18 ?c18 ?k18 ?a19 ?l19 ?c19 ?k19 ?a20 ?l20 ?c20 ?k20 ?a21 ?l21 ?c21 ?k21 ?a22 ?l22 ?c22 ?k22 ?a23 ?l23 ?c23 ?k23 ?a24 ?l24 ?c24 ?k24 ?a25 ?l25 ?c25 ?k25 ?a26 ?l26 ?c26 ?k26 ?a27 ?l27 ?c27 ?k27 ?a28 ?l28 ?c28 ?k28 ?a29 ?l29 ?c29 ?k29 ?a30 ?l30 ?c30 ?k30 ?a31 ?l31 ?c31 ?k31 ?a32 ?l32 ?c32 ?k32 ?pg ?hd ?po ?sa ?mk ?kc ?nE ?nR ?nT ?z_len ?z_list ?z_tuple ?z_range ?z_enumerate ?z_max ?z_isinstance ?z_all ?z_zip ?z_int ?z_bool ?mb ?ma ?mMOST_PLACES ?mMOST_TIES ?ih1 ?ih2 ?ih3 ?ih4 ?kii ?kbi ?kNi ?kli ?kti ?kib ?kbb ?kNb ?klb ?ktb ?kil ?kbl ?kNl ?kll ?ktl
  (case aC=>k_is)
  (case a1=>k_is)
  (case l1=>k_is)
  (case c1=>k_is)
  (case k1=>k_is)
  (case a2=>k_is)
  (case l2=>k_is)
  (case c2=>k_is)
  (case k2=>k_is)
  (case a3=>k_is)
  (case l3=>k_is)
  (case c3=>k_is)
  (case k3=>k_is)
  (case a4=>k_is)
  (case l4=>k_is)
  (case c4=>k_is)
  (case k4=>k_is)
  (case a5=>k_is)
  (case l5=>k_is)
  (case c5=>k_is)
  (case k5=>k_is)
  (case a6=>k_is)
  (case l6=>k_is)
  (case c6=>k_is)
  (case k6=>k_is)
  (case a7=>k_is)
  (case l7=>k_is)
  (case c7=>k_is)
  (case k7=>k_is)
  (case a8=>k_is)
  (case l8=>k_is)
  (case c8=>k_is)
  (case k8=>k_is)
  (case a9=>k_is)
  (case l9=>k_is)
  (case c9=>k_is)
  (case k9=>k_is)
  (case a10=>k_is)
  (case l10=>k_is)
  (case c10=>k_is)
  (case k10=>k_is)
  (case a11=>k_is)
  (case l11=>k_is)
  (case c11=>k_is)
  (case k11=>k_is)
  (case a12=>k_is)
  (case l12=>k_is)
  (case c12=>k_is)
  (case k12=>k_is)
  (case a13=>k_is)
  (case l13=>k_is)
  (case c13=>k_is)
  (case k13=>k_is)
  (case a14=>k_is)
  (case l14=>k_is)
  (case c14=>k_is)
  (case k14=>k_is)
  (case a15=>k_is)
  (case l15=>k_is)
  (case c15=>k_is)
  (case k15=>k_is)
  (case a16=>k_is)
  (case l16=>k_is)
  (case c16=>k_is)
  (case k16=>k_is)
  (case a17=>k_is)
  (case i17=>k_is)
  (case l17=>k_is)
  (case c17=>k_is)
  (case k17=>k_is)
  (case a18=>k_is)
  (case l18=>k_is)
  (case c18=>k_is)
  (case k18=>k_is)
  (case a19=>k_is)
  (case l19=>k_is)
  (case c19=>k_is)
  (case k19=>k_is)
  (case a20=>k_is)
  (case l20=>k_is)
  (case c20=>k_is)
  (case k20=>k_is)
  (case a21=>k_is)
  (case l21=>k_is)
  (case c21=>k_is)
  (case k21=>k_is)
  (case a22=>k_is)
  (case l22=>k_is)
  (case c22=>k_is)
  (case k22=>k_is)
  (case a23=>k_is)
  (case l23=>k_is)
  (case c23=>k_is)
  (case k23=>k_is)
  (case a24=>k_is)
  (case l24=>k_is)
  (case c24=>k_is)
  (case k24=>k_is)
  (case a25=>k_is)
  (case l25=>k_is)
  (case c25=>k_is)
  (case k25=>k_is)
  (case a26=>k_is)
  (case l26=>k_is)
  (case c26=>k_is)
  (case k26=>k_is)
  (case a27=>k_is)
  (case l27=>k_is)
  (case c27=>k_is)
  (case k27=>k_is)
  (case a28=>k_is)
  (case l28=>k_is)
  (case c28=>k_is)
  (case k28=>k_is)
  (case a29=>k_is)
  (case l29=>k_is)
  (case c29=>k_is)
  (case k29=>k_is)
  (case a30=>k_is)
  (case l30=>k_is)
  (case c30=>k_is)
  (case k30=>k_is)
  (case a31=>k_is)
  (case l31=>k_is)
  (case c31=>k_is)
  (case k31=>k_is)
  (case a32=>k_is)
  (case l32=>k_is)
  (case c32=>k_is)
  (case k32=>k_is)
  (case pg=>k_is)
  (case hd=>k_is)
  (case po=>k_is)
  (case sa=>k_is)
  (case mk=>k_is)
  (case kc=>k_is)
  (case nE=>k_is)
  (case nR=>k_is)
  (case nT=>k_is)
  (case z_len=>k_is)
  (case z_list=>k_is)
  (case z_tuple=>k_is)
  (case z_range=>k_is)
  (case z_enumerate=>k_is)
  (case z_max=>k_is)
  (case z_isinstance=>k_is)
  (case z_all=>k_is)
  (case z_zip=>k_is)
  (case z_int=>k_is)
  (case z_bool=>k_is)
  (case mb=>k_is)
  (case ma=>k_is)
  (case mMOST_PLACES=>k_is)
  (case mMOST_TIES=>k_is)
  (case ih1=>k_is)
  (case ih2=>k_is)
  (case ih3=>k_is)
  (case ih4=>k_is)
  (case kii=>kit_is)
  (case kbi=>kit_is)
  (case kNi=>kit_is)
  (case kli=>kit_is)
  (case kti=>kit_is)
  (case kib=>kit_is)
  (case kbb=>kit_is)
  (case kNb=>kit_is)
  (case klb=>kit_is)
  (case ktb=>kit_is)
  (case kil=>kit_is)
  (case kbl=>kit_is)
  (case kNl=>kit_is)
  (case kll=>kit_is)
  (case ktl=>kit_is)
