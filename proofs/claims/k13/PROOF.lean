import PyProof.Rows.All
import Wide.All
import OpenK.AllK
import Wide.FinOn
import Lean
import PyProof.EqAt
import PyProof.EqKinds
import PyProof.TupleCall
import PyProof.NeKinds
import PyProof.ListRange
import PyProof.TupleOfGen
import PyProof.DictRoadsH
import PyProof.Rows.FStr
import PyProof.ExcBaseAll.ValueError
import PyProof.ExcClass2
import PyProof.ExcArgsOwn
import PyProof.ExcAttrAll.ValueError
import KE.KIsAll
import PyProof.RulesAs
import PyProof.NsDelKeeps
import PyProof.ConsumeWalk
import PyProof.ZipIter
import PyProof.Rows.ZipGen
import PyProof.Rows.SeqGen
import PyProof.Rows.FactsT2
import PyProof.WalkInts
import PyProof.Rows.MinMaxN
import PySem.Challenge.RW_arrowhall_k13_rests_and_things
set_option Elab.async false
set_option linter.all false
set_option maxRecDepth 100000
set_option maxHeartbeats 4000000
set_option compiler.extract_closed false
namespace L2
open PySem PySem.Spec PyProof.Rows
noncomputable abbrev Key:=Sum Int Str
noncomputable def zj:Key->Value->Bool
 | .inl k,v=>Value.isInt k v
 | .inr x,v=>Value.isStrOf x v
noncomputable def CA (w:World):Key->Int
 | .inl k=>hashInt k
 | .inr x=>hashStr w x
theorem df:∀ {k:Key} {v:Value},zj k v=true->(∃ i t,k=Sum.inl i/\v=Value.int i t)\/(∃ x t,k=Sum.inr x/\v=Value.str x t)
 | .inl i,v,h=>by
  obtain ⟨t,e⟩:=Value.isInt_shape (k:=i) (v:=v) h
  exact .inl ⟨i,t,rfl,e⟩
 | .inr x,v,h=>by
  obtain ⟨t,e⟩:=Value.isStrOf_shape (x:=x) (v:=v) h
  exact .inr ⟨x,t,rfl,e⟩
theorem Aw (a b:Int):decide ((Sum.inl a:Key)=Sum.inl b)=(a == b):=by
 by_cases e:a=b
 ·subst e;simp
 ·have h:¬ (Sum.inl a:Key)=Sum.inl b:=fun q=>e (Sum.inl.inj q)
  rw [decide_eq_false h]
  exact (beq_eq_false_iff_ne.mpr e).symm
theorem At (a b:Str):decide ((Sum.inr a:Key)=Sum.inr b)=decide (a=b):=by
 by_cases e:a=b
 ·subst e;simp
 ·have h:¬ (Sum.inr a:Key)=Sum.inr b:=fun q=>e (Sum.inr.inj q)
  rw [decide_eq_false h,decide_eq_false e]
theorem Av (a:Int) (b:Str):decide ((Sum.inl a:Key)=Sum.inr b)=false:=decide_eq_false (fun q=>nomatch q)
theorem Au (a:Str) (b:Int):decide ((Sum.inr a:Key)=Sum.inl b)=false:=decide_eq_false (fun q=>nomatch q)
noncomputable def ug (prog:Program) (w:World):PySem.KeyKind prog w Key where
 is:=zj
 hash:=CA w
 inj:=fun v a b ha hb=>by
  rcases df ha with ⟨i,t,rfl,rfl⟩ | ⟨x,t,rfl,rfl⟩
  ·rcases df hb with ⟨j,u,rfl,e⟩ | ⟨y,u,rfl,e⟩
   ·injection e with e1 _;rw [e1]
   ·exact nomatch e
  ·rcases df hb with ⟨j,u,rfl,e⟩ | ⟨y,u,rfl,e⟩
   ·exact nomatch e
   ·injection e with e1 _;rw [e1]
 byValue:=fun k v h=>by
  rcases df h with ⟨i,t,rfl,rfl⟩ | ⟨x,t,rfl,rfl⟩ <;> rfl
 pyHash:=fun hv h=>by
  rcases df hv with ⟨i,t,rfl,rfl⟩ | ⟨x,t,rfl,rfl⟩
  ·exact wpAny_pyHash_int h
  ·exact wpAny_pyHash_str h
 eqBool:=fun hu hv h=>by
  rcases df hu with ⟨i,t,rfl,rfl⟩ | ⟨x,t,rfl,rfl⟩
  ·rcases df hv with ⟨j,u,rfl,rfl⟩ | ⟨y,u,rfl,rfl⟩
   ·rw [Aw] at h;exact wpAny_eqBool_int h
   ·rw [Av] at h;exact SeqAt.EqAt.int_str i t y u _ _ _ _ h
  ·rcases df hv with ⟨j,u,rfl,rfl⟩ | ⟨y,u,rfl,rfl⟩
   ·rw [Au] at h;exact SeqAt.EqAt.str_int x t j u _ _ _ _ h
   ·rw [At] at h;exact wpAny_eqBool_str h
 «strs»:=fun k x t v h=>by
  rcases df h with ⟨i,u,rfl,e⟩ | ⟨y,u,rfl,e⟩
  ·exact nomatch e
  ·injection e with e1 _
   subst e1
   cases v <;> rfl
end L2
namespace L2
open PySem PySem.Spec PyProof.Rows
inductive V where
 | non | bl (b:Bool) | int (i:Int) | str (x:Str) | byt (b:Array UInt8) | flt (b:UInt64) | ref (a:Addr) | ty (n:String)
 deriving DecidableEq
noncomputable def RelV:V->Value->Prop
 | .non,u=>u=Value.none
 | .bl b,u=>u=Value.bool b
 | .int i,u=>∃ t,u=Value.int i t
 | .str x,u=>∃ t,u=Value.str x t
 | .byt b,u=>∃ t,u=Value.bytes b t
 | .flt b,u=>∃ t,u=Value.float b t
 | .ref a,u=>u=Value.ref a
 | .ty n,u=>u=Value.type n
noncomputable abbrev Vals:List V->List Value->Prop:=Paired RelV
theorem Vals.length {xs:List V} {us:List Value} (r:Vals xs us):xs.length=us.length:=Paired.length r
theorem Vals.get:∀ {xs:List V} {us:List Value} {i:Nat} {x:V},Vals xs us->xs[i]?=some x->∃ u,us[i]?=some u/\RelV x u
 | _,_,_,_,.nil,e=>by simp at e
 | _,_,0,_,.cons r _,e=>by simp at e;subst e;exact ⟨_,rfl,r⟩
 | _,_,i + 1,x,.cons _ t,e=>by
  obtain ⟨u,h1,h2⟩:=Vals.get (i:=i) (x:=x) t (by simpa using e)
  exact ⟨u,by simpa using h1,h2⟩
theorem Vals.append:∀ {xs ys:List V} {us ws:List Value},Vals xs us->Vals ys ws->Vals (xs ++ ys) (us ++ ws)
 | _,_,_,_,.nil,s=>s
 | _,_,_,_,.cons r t,s=>.cons r (Vals.append t s)
theorem Vals.take:∀ {xs:List V} {us:List Value} (n:Nat),Vals xs us->Vals (xs.take n) (us.take n)
 | _,_,0,_=>.nil
 | _,_,_ + 1,.nil=>.nil
 | _,_,n + 1,.cons r t=>.cons r (Vals.take n t)
theorem Vals.drop:∀ {xs:List V} {us:List Value} (n:Nat),Vals xs us->Vals (xs.drop n) (us.drop n)
 | _,_,0,r=>r
 | _,_,_ + 1,.nil=>.nil
 | _,_,n + 1,.cons _ t=>Vals.drop n t
noncomputable def RelO:Option V->Option Value->Prop
 | some v,some u=>RelV v u
 | none,none=>True
 | _,_=>False
noncomputable def KV {κ:Type}:List (κ × V)->List (κ × Value)->Prop:=Paired fun (p:κ × V) (q:κ × Value)=>p.1=q.1/\RelV p.2 q.2
noncomputable def kV:Key->V
 | .inl i=>.int i
 | .inr x=>.str x
inductive HO where
  | lst (xs:List V)
  | tup (xs:List V)
  | dK (kvs:List (Key × V)) | dT (kvs:List (List Key × V))
  | set (S:Int->Bool) (n:Nat)
  | ins (C dx:Addr) (fs:List (Str × V))
  | own (x:Addr)
  | xd (fs:List (Str × V))
  | met (f x:Addr)
  | rng (lo hi:Int)
  | frz (o:Obj) (u:HO)
  | tbl (ps:Array Value)
  | ext (φ:Heap->Prop)
noncomputable abbrev Hp:=Addr->Option HO
noncomputable def upd (H:Hp) (a:Addr) (o:HO):Hp:=fun b=>if b=a then some o else H b
theorem bi {H:Hp} {a:Addr} {o:HO}:upd H a o a=some o:=by unfold upd;rw [if_pos rfl]
theorem aJ {H:Hp} {a b:Addr} {o:HO} (h:b ≠ a):upd H a o b=H b:=by unfold upd;rw [if_neg h]
theorem bo {H:Hp} {a b:Addr} {o:HO} (h:H a=some o) (h':H b=none):a ≠ b:=by
 intro e;subst e;rw [h] at h';cases h'
section
variable (P:Program) (w:World)
noncomputable def ObjOk (H:Hp) (h:Heap) (a:Addr):HO->Prop
 | .lst xs=>xs.length<=sizeLine/\∃ (its:List Value) (n:Nat),Vals xs its/\h.get? a=some { cls:=.type "list",data:=.seq its.toArray n }
 | .tup xs=>xs.length<=sizeLine/\∃ its:List Value,Vals xs its/\IsTup h a its.toArray
 | .dK kvs=>kvs.length<=sizeLine/\(a == sysModules)=false/\∃ vs,KV kvs vs/\h.DictOf (ug P w) a vs
 | .dT kvs=>kvs.length<=sizeLine/\(a == sysModules)=false/\∃ xs:List (List Key × Addr × Value),
   Paired (fun (p:List Key × V) (q:List Key × Addr × Value)=>p.1=q.1/\H q.2.1=some (.tup (p.1.map kV))/\RelV p.2 q.2.2) kvs xs /\
   ∃ o es ep,h.get? a=some o/\o.ExactDict/\o.data=.dict es ep/\es.toList=xs.map (entryOfKey (tupleKind (ug P w)))/\(xs.map (·.1)).Nodup
 | .set S n=>h.SetOf (intKind P w) a S n
 | .ins C dx fs=>H dx=some (.own a)/\fs.length<=1000/\dx ≠ a/\h.get? a=some (PySem.W.instObj C dx) /\
   ∃ mA,h.Ns1 dx mA/\(∀ f,RelO (fs.lookup f) (mA f))/\PySem.Within mA (fs.map (·.1))
 | .own _=>∃ o,h.get? a=some o
 | .xd fs=>∃ mA,h.Ns1 a mA/\∀ f,RelO (fs.lookup f) (mA f)
 | .rng lo hi=>∃ t u v,h.get? a=some { cls:=.type "range",data:=.fields #[.int lo t,.int hi u,.int 1 v] }
 | .frz o u=>h.get? a=some o/\ObjOk H h a u
 | .tbl ps=>h.get? a=some { cls:=.none,data:=.fields ps }
 | .met f x=>h.get? a=some (PySem.W.methodObj (.ref f) (.ref x))
 | .ext φ=>φ h/\(∃ o,h.get? a=some o)/\∀ h1 h2:Heap,φ h1->(∀ o,h1.get? a=some o->h2.get? a=some o)->φ h2
noncomputable def HOk (H:Hp) (h:Heap):Prop:=∀ a o,H a=some o->ObjOk P w H h a o
end
section
variable {P:Program} {w:World} {H H':Hp} {h h':Heap} {a:Addr} {o:HO}
theorem ObjOk.lt (x:ObjOk P w H h a o):a < h.objs.size:=by
 cases o with
 | lst xs=>obtain ⟨_,_,_,_,e⟩:=x;exact Heap.lt_size e
 | tup xs=>obtain ⟨_,_,_,p⟩:=x;exact p.lt
 | dK kvs=>obtain ⟨_,_,_,_,o,_,_,e,_⟩:=x;exact Heap.lt_size e
 | dT kvs=>obtain ⟨_,_,_,_,o,_,_,e,_⟩:=x;exact Heap.lt_size e
 | set S n=>obtain ⟨o,_,_,_,e,_⟩:=x;exact Heap.lt_size e
 | ins C dx fs=>obtain ⟨_,_,_,e,_⟩:=x;exact Heap.lt_size e
 | own y=>obtain ⟨_,e⟩:=x;exact Heap.lt_size e
 | xd fs=>obtain ⟨_,⟨_,_,_,e,_⟩,_⟩:=x;exact Heap.lt_size e
 | rng lo hi=>obtain ⟨_,_,_,e⟩:=x;exact Heap.lt_size e
 | frz ob u=>obtain ⟨e,_⟩:=x;exact Heap.lt_size e
 | tbl ps=>exact Heap.lt_size (show h.get? a=some _ from x)
 | met f y=>exact Heap.lt_size (show h.get? a=some _ from x)
 | ext φ=>obtain ⟨_,⟨_,e⟩,_⟩:=x;exact Heap.lt_size e
theorem Paired.mapP {α β:Type} {F G:α->β->Prop}:∀ {l₁:List α} {l₂:List β},Paired F l₁ l₂->(∀ a b,F a b->G a b)->Paired G l₁ l₂
 | _,_,.nil,_=>.nil
 | _,_,.cons r t,f=>.cons (f _ _ r) (Paired.mapP t f)
theorem ObjOk.stay (x:ObjOk P w H h a o) (k:∀ b u,(b=a\/H b=some (.own a))->h.get? b=some u->h'.get? b=some u)
  (ho:∀ b,H b=some (.own a)->H' b=some (.own a)) (ht:∀ b xs,H b=some (.tup xs)->H' b=some (.tup xs)):ObjOk P w H' h' a o:=by
 induction o with
 | lst xs=>obtain ⟨z,its,n,r,e⟩:=x;exact ⟨z,its,n,r,k _ _ (.inl rfl) e⟩
 | tup xs=>obtain ⟨z,its,r,ob,e,c⟩:=x;exact ⟨z,its,r,ob,k _ _ (.inl rfl) e,c⟩
 | dK kvs=>obtain ⟨z,y,vs,r,ob,es,ep,e,c⟩:=x;exact ⟨z,y,vs,r,ob,es,ep,k _ _ (.inl rfl) e,c⟩
 | dT kvs =>
  obtain ⟨z,y,xs,r,ob,es,ep,e,c⟩:=x
  exact ⟨z,y,xs,Paired.mapP r fun p q z=>⟨z.1,ht _ _ z.2.1,z.2.2⟩,ob,es,ep,k _ _ (.inl rfl) e,c⟩
 | set S n=>obtain ⟨ob,es,ep,t,e,c⟩:=x;exact ⟨ob,es,ep,t,k _ _ (.inl rfl) e,c⟩
 | ins C dx fs =>
  obtain ⟨d,z,ne,e,mA,⟨od,es,ep,e2,c⟩,r⟩:=x
  exact ⟨ho _ d,z,ne,k _ _ (.inl rfl) e,mA,⟨od,es,ep,k _ _ (.inr d) e2,c⟩,r⟩
 | own y=>obtain ⟨ob,e⟩:=x;exact ⟨ob,k _ _ (.inl rfl) e⟩
 | xd fs=>obtain ⟨mA,⟨od,es,ep,e,c⟩,r⟩:=x;exact ⟨mA,⟨od,es,ep,k _ _ (.inl rfl) e,c⟩,r⟩
 | rng lo hi=>obtain ⟨t,u,v,e⟩:=x;exact ⟨t,u,v,k _ _ (.inl rfl) e⟩
 | frz ob u ih=>obtain ⟨e,q⟩:=x;exact ⟨k _ _ (.inl rfl) e,ih q⟩
 | tbl ps =>
  have e:h.get? a=some { cls:=.none,data:=.fields ps }:=x
  show h'.get? a=some { cls:=.none,data:=.fields ps }
  exact k a _ (.inl rfl) e
 | met f y =>
  have e:h.get? a=some (PySem.W.methodObj (.ref f) (.ref y)):=x
  show h'.get? a=some (PySem.W.methodObj (.ref f) (.ref y))
  exact k a _ (.inl rfl) e
 | ext φ=>obtain ⟨p,⟨o,e⟩,st⟩:=x;exact ⟨st _ _ p fun o q=>k _ _ (.inl rfl) q,⟨o,k _ _ (.inl rfl) e⟩,st⟩
theorem HOk.lt (x:HOk P w H h) (e:H a=some o):a < h.objs.size:=(x a o e).lt
theorem HOk.fresh (x:HOk P w H h) (e:h.objs.size<=a):H a=none:=by
 cases q:H a with
 | none=>rfl
 | some u=>exact absurd (Nat.lt_of_lt_of_le (x.lt q) e) (Nat.lt_irrefl _)
theorem HOk.kept (x:HOk P w H h) (k:∀ b u,h.get? b=some u->h'.get? b=some u):HOk P w H h':=fun a o e =>
 (x a o e).stay (fun b u _ q=>k b u q) (fun _ q=>q) fun _ _ q=>q
theorem HOk.laid (x:HOk P w H h) (k:∀ b u,h.get? b=some u->h'.get? b=some u) (hp:h.objs.size<=a) (new:ObjOk P w (upd H a o) h' a o):HOk P w (upd H a o) h':=fun b u e=>by
 have hn:=x.fresh hp
 by_cases hb:b=a
 ·subst hb;rw [bi] at e;cases e;exact new
 ·rw [aJ hb] at e
  exact (x b u e).stay (fun c v _ q=>k c v q) (fun c q=>by rw [aJ (bo q hn)];exact q) fun c xs q=>by rw [aJ (bo q hn)];exact q
end
noncomputable def Rd (H:Hp) (a:Addr) (u:HO):Prop:=H a=some u\/∃ o,H a=some (.frz o u)
theorem Rd.ok {P:Program} {w:World} {H:Hp} {h:Heap} {a:Addr} {u:HO} (r:Rd H a u) (x:HOk P w H h):ObjOk P w H h a u:=by
 rcases r with r | ⟨o,r⟩
 ·exact x a u r
 ·obtain ⟨_,q⟩:=x a _ r
  exact q
noncomputable def Mut:Option HO->Prop
 | some (.lst _)=>True
 | some (.dK _)=>True
 | some (.dT _)=>True
 | some (.set _ _)=>True
 | some (.ins _ _ _)=>True
 | some (.ext _)=>True
 | _=>False
section
variable {P:Program} {w:World} {H:Hp} {h h':Heap} {x e:Addr} {o':HO}
theorem HOk.write (ok:HOk P w H h) (mu:Mut (H x)) (he:e=x\/H e=some (.own x)) (k:∀ b u,b ≠ e->h.get? b=some u->h'.get? b=some u) (heo:∃ u,h'.get? e=some u)
  (new:ObjOk P w (upd H x o') h' x o'):HOk P w (upd H x o') h':=fun b u q=>by
 have nown:∀ c y,H c=some (.own y)->c ≠ x:=fun c y r z=>by subst z;rw [r] at mu;exact mu
 have ntup:∀ c xs,H c=some (.tup xs)->c ≠ x:=fun c xs r z=>by subst z;rw [r] at mu;exact mu
 by_cases hb:b=x
 ·subst hb;rw [bi] at q;cases q;exact new
 ·rw [aJ hb] at q
  by_cases hbe:b=e
  ·have q':H b=some (.own x):=by
    rcases he with z | z
    ·exact absurd (hbe.trans z) hb
    ·rw [hbe];exact z
   rw [q] at q';cases q'
   obtain ⟨v,hv⟩:=heo
   exact ⟨v,by rw [hbe];exact hv⟩
  ·refine (ok b u q).stay (fun c v hc r=>k c v ?_ r) (fun c r=>by rw [aJ (nown c b r)];exact r) fun c xs r=>by rw [aJ (ntup c xs r)];exact r
   rcases hc with rfl | hc
   ·exact hbe
   ·rintro rfl
    rcases he with z | z
    ·exact nown c b hc z
    ·rw [hc] at z;cases z;exact hb rfl
end
structure Un (fs ex:List Addr) (H H':Hp) (h h':Heap):Prop where
 keep:∀ b o,h.get? b=some o->H b=none->b ∉ fs->b ∉ ex->h'.get? b=some o
 slot:∀ b o,h.get? b=some o->H b=none->b ∈ fs->b ∉ ex->∃ sl,h'.get? b=some { o with slots:=sl }
 free:∀ b o,h.get? b=some o->H b=none->b ∉ ex->H' b=none
 there:∀ b o,h.get? b=some o->b ∉ ex->∃ o',h'.get? b=some o'
 tups:∀ b xs,H b=some (.tup xs)->H' b=some (.tup xs)
 frzs:∀ b o u,H b=some (.frz o u)->H' b=some (.frz o u)
 tbls:∀ b ps,H b=some (.tbl ps)->∃ more,H' b=some (.tbl (ps ++ more))
section
variable {fs fs' ex ex':List Addr} {H H1 H2:Hp} {h h1 h2 h':Heap} {a x e:Addr} {o:HO}
theorem Un.any (u:Un fs ex H H1 h h1) {b:Addr} {ob:Obj} (q:h.get? b=some ob) (n:H b=none) (hx:b ∉ ex):∃ sl,h1.get? b=some { ob with slots:=sl }:=by
 by_cases hb:b ∈ fs
 ·exact u.slot b ob q n hb hx
 ·exact ⟨ob.slots,u.keep b ob q n hb hx⟩
theorem Un.kept (k:∀ b u,h.get? b=some u->h'.get? b=some u):Un fs ex H H h h' :=
 ⟨fun b ob q _ _ _=>k b ob q,fun b ob q _ _ _=>⟨ob.slots,k b ob q⟩,fun _ _ _ n _=>n,fun b ob q _=>⟨ob,k b ob q⟩,fun _ _ q=>q,fun _ _ _ q=>q,fun _ ps q=>⟨#[],by rw [q];simp⟩⟩
theorem Un.refl:Un fs ex H H h h:=Un.kept fun _ _ q=>q
theorem Un.laid (k:∀ b u,h.get? b=some u->h'.get? b=some u) (hp:h.objs.size<=a) (hn:H a=none):Un fs ex H (upd H a o) h h' where
 keep:=fun b u q _ _ _=>k b u q
 slot:=fun b u q _ _ _=>⟨u.slots,k b u q⟩
 free:=fun b u q n _=>by rw [aJ (Nat.ne_of_lt (Nat.lt_of_lt_of_le (Heap.lt_size q) hp))];exact n
 there:=fun b u q _=>⟨u,k b u q⟩
 tups:=fun b xs q=>by rw [aJ (bo q hn)];exact q
 frzs:=fun b u xs q=>by rw [aJ (bo q hn)];exact q
 tbls:=fun b ps q=>⟨#[],by rw [aJ (bo q hn),q];simp⟩
theorem Un.write (mu:Mut (H x)) (he:e=x\/H e=some (.own x)) (k:∀ b u,b ≠ e->h.get? b=some u->h'.get? b=some u) (heo:∃ u,h'.get? e=some u):Un fs ex H (upd H x o) h h':=by
 have hx:∀ b,H b=none->b ≠ x:=fun b n z=>by subst z;rw [n] at mu;exact mu
 have hb:∀ b,H b=none->b ≠ e:=fun b n z=>by
  subst z
  rcases he with r | r
  ·exact hx b n r
  ·rw [n] at r;cases r
 have hm:∀ b u,H b=some u->¬ Mut (some u)->b ≠ x:=fun b u q nm z=>by subst z;rw [q] at mu;exact nm mu
 refine ⟨fun b u q n _ _=>k b u (hb b n) q,fun b u q n _ _=>⟨u.slots,k b u (hb b n) q⟩,fun b u q n _=>by rw [aJ (hx b n)];exact n,fun b u q _=>?_,
  fun b xs q=>by rw [aJ (hm b _ q fun z=>z)];exact q,fun b u xs q=>by rw [aJ (hm b _ q fun z=>z)];exact q,fun b ps q=>⟨#[],by rw [aJ (hm b _ q fun z=>z),q];simp⟩⟩
 by_cases hbe:b=e
 ·subst hbe;exact heo
 ·exact ⟨u,k b u hbe q⟩
end
noncomputable def trk (h:Heap) (H:Hp):List Addr:=(List.range h.objs.size).filter fun a=>(H a).isSome
noncomputable def ql (h:Heap) (H:Hp):Heap:=PySem.W.hideAll h (trk h H)
theorem vv (h:Heap) (H:Hp):(ql h H).objs.size=h.objs.size:=PySem.W.hideAll_size _ _
theorem wO {h:Heap} {H:Hp} {b:Addr} {o:Obj} (e:h.get? b=some o) (n:H b=none):(ql h H).get? b=some o :=
 PySem.W.hideAll_get _ e fun hm=>by
  have q:(H b).isSome=true:=(List.mem_filter.mp hm).2
  rw [n] at q;simp at q
theorem yg {h:Heap} {H:Hp} {b:Addr} {o:Obj} (e:(ql h H).get? b=some o):h.get? b=some o/\H b=none:=by
 have e':h.get? b=some o:=PySem.W.of_hideAll (trk h H) e
 refine ⟨e',?_⟩
 cases q:H b with
 | none=>rfl
 | some x =>
  have hm:b ∈ trk h H:=List.mem_filter.mpr ⟨List.mem_range.mpr (Heap.lt_size e'),by simp [q]⟩
  have z:(ql h H).get? b=none:=PySem.W.hideAll_none (trk h H) hm
  rw [z] at e;cases e
end L2
namespace L2
open PySem PySem.Spec PyProof.Rows
structure Mod (K:PySem.W.Frag) (mg:Str->Option Value) (base:Heap):Prop where
 kin:K.In base
 glob:base.Ns mainGlobals mg
 blt:∃ mb,base.Ns builtinsNs mb/\∀ x:Str,x ≠ "__name__"->mb x=bootBuiltins x
 nolimit:base.NoLimit
structure Cx where
 prog:Program
 w:World
 K:PySem.W.Frag
 mg:Str->Option Value
 base:Heap
 A:Around
 N:List Str
 s₀:Shared
 H₀:Hp
 env:Env
 outer:List Env
 stack:List Env
 ex:List Addr
 fn:Str->Bool
 calm:Bool
 pn:List (Addr × Obj)
 xe:Value->Shared->Prop
noncomputable def frs (l:List Env):List Addr:=l.filterMap (·.frame)
noncomputable abbrev Cx.fs (X:Cx):List Addr:=frs X.outer
noncomputable def Vis (sc:Scope) (x:Str):Prop:=sc.names.lookup x=some .local\/sc.names.lookup x=some .cell\/sc.names.lookup x=some .free
noncomputable def Loc (sc:Scope) (x:Str):Prop:=sc.names.lookup x=some .local\/sc.names.lookup x=some .cell
noncomputable def CZ (env:Env) (h:Heap) (m:Str->Option Value) (x:Str) (u:Value):Prop :=
 (env.kindOf x=some .local/\m x=some u)\/((env.kindOf x=some .cell\/env.kindOf x=some .free)/\∃ c,env.cells.lookup x=some c/\h.IsCell c (some u))
structure Cx.Ok (X:Cx):Prop where
 mod:Mod X.K X.mg X.base
 kind:X.env.scope.kind=.function
 glob:X.env.globals=mainGlobals
 blt:X.env.builtins=builtinsNs
 above:X.s₀.heap.objs.size<=X.env.locals
 inj:∀ x y c,X.env.cells.lookup x=some c->X.env.cells.lookup y=some c->x=y
 has:∀ x,(X.env.kindOf x=some .cell\/X.env.kindOf x=some .free)->∃ c,X.env.cells.lookup x=some c
 cab:∀ x c,X.fn x=true->X.env.cells.lookup x=some c->X.s₀.heap.objs.size<=c
 hd:X.calm=true->X.A.handled=none
 frames:X.A.frames=some X.stack
 stk:X.stack=X.outer\/(X.stack=X.env :: X.outer/\X.env.frame=some X.env.locals)
 exf:∀ b ∈ X.ex,b ≠ X.env.locals/\∀ x c,X.env.cells.lookup x=some c->c ≠ b
 bs:∀ b o,X.base.get? b=some o->X.s₀.heap.get? b=some o/\X.H₀ b=none
 bsz:X.base.objs.size<=X.s₀.heap.objs.size
 noex:∀ b o,X.base.get? b=some o->b ∉ X.ex
 exfs:∀ b ∈ X.ex,b ∉ X.fs
 funs:X.s₀.heap.FunFrames X.base X.outer
 frf:∀ b ∈ X.fs,X.H₀ b=none
structure Inv (X:Cx) (pins:List (Addr × Obj)) (σ:List (Option V)) (H:Hp) (s:Shared):Prop where
 ok:X.Ok
 os:s.os=X.s₀.os
 bare:AllBare s.gens
 base:Un X.fs X.ex X.H₀ H X.s₀.heap s.heap
 loc:∃ m,s.heap.Ns X.env.locals m/\∀ (i:Nat) (x:Str) (v:V),X.N[i]?=some x->σ[i]?=some (some v)->Vis X.env.scope x->∃ u,RelV v u/\CZ X.env s.heap m x u
 cell:∀ x c,X.env.cells.lookup x=some c->∃ v,s.heap.IsCell c v
 free:H X.env.locals=none
 freeC:∀ x c,X.env.cells.lookup x=some c->H c=none
 pin:∀ p ∈ X.pn ++ pins,s.heap.get? p.1=some p.2/\H p.1=none/\p.1 ≠ X.env.locals/\p.1 ∉ X.fs/\∀ v,p.2.data ≠ .cell v
 hok:HOk X.prog X.w H s.heap
 len:σ.length=X.N.length
section
variable {X:Cx} {pins:List (Addr × Obj)} {σ:List (Option V)} {H H':Hp} {s:Shared} {h':Heap}
theorem Cx.Ok.nofr (ok:X.Ok) {b:Addr} {o:Obj} (e:X.base.get? b=some o):b ∉ X.fs:=fun hb=>by
 have:=(ok.funs.mem hb).1
 rw [e] at this;cases this
theorem Inv.bs (I:Inv X pins σ H s):∀ b o,X.base.get? b=some o->s.heap.get? b=some o/\H b=none:=fun b o e =>
 ⟨I.base.keep b o (I.ok.bs b o e).1 (I.ok.bs b o e).2 (I.ok.nofr e) (I.ok.noex b o e),I.base.free b o (I.ok.bs b o e).1 (I.ok.bs b o e).2 (I.ok.noex b o e)⟩
theorem Inv.bk (I:Inv X pins σ H s):∀ b o,X.base.get? b=some o->s.heap.get? b=some o:=fun b o e=>(I.bs b o e).1
theorem Inv.mod (I:Inv X pins σ H s):Mod X.K X.mg X.base:=I.ok.mod
theorem Inv.kIn (I:Inv X pins σ H s):X.K.In s.heap:=I.ok.mod.kin.keeps I.bk
theorem Inv.lt (I:Inv X pins σ H s):X.env.locals < s.heap.objs.size:=let ⟨_,hn,_⟩:=I.loc;hn.lt
theorem Inv.sz (I:Inv X pins σ H s):X.s₀.heap.objs.size<=s.heap.objs.size:=Nat.le_trans I.ok.above (Nat.le_of_lt I.lt)
theorem Inv.nofs (I:Inv X pins σ H s) {a:Addr} (h:s.heap.objs.size<=a):a ∉ X.fs:=fun hb=>by
 obtain ⟨_,o,ho,_⟩:=I.ok.funs.mem hb
 exact absurd (Nat.lt_of_lt_of_le (Heap.lt_size ho) (Nat.le_trans I.sz h)) (Nat.lt_irrefl _)
theorem Inv.cne (I:Inv X pins σ H s):∀ x c,X.env.cells.lookup x=some c->c ≠ X.env.locals:=fun x c e z=>by
 obtain ⟨v,o,ho,hd⟩:=I.cell x c e
 obtain ⟨m,⟨o',es,ep,ho',hd',_⟩,_⟩:=I.loc
 rw [z,ho'] at ho;cases ho;rw [hd'] at hd;cases hd
theorem Inv.funs (I:Inv X pins σ H s):s.heap.FunFrames X.base X.outer:=by
 have all:∀ (l:List Env),(∀ b ∈ frs l,b ∈ X.fs)->X.s₀.heap.FunFrames X.base l->s.heap.FunFrames X.base l:=by
  intro l
  induction l with
  | nil=>intro _ _;trivial
  | cons env r ih =>
   intro hs hl
   obtain ⟨hk,⟨L,o,hf,hn,ho,hd⟩,hr⟩:=hl
   have hL:L ∈ X.fs:=hs L (by unfold frs;rw [List.filterMap_cons,hf];exact List.mem_cons_self)
   obtain ⟨sl,e⟩:=I.base.slot L o ho (I.ok.frf L hL) hL fun z=>I.ok.exfs L z hL
   exact ⟨hk,⟨L,_,hf,hn,e,hd⟩,ih (fun b hb=>hs b (by unfold frs;rw [List.filterMap_cons,hf];exact List.mem_cons_of_mem _ hb)) hr⟩
 exact all X.outer (fun _ hb=>hb) I.ok.funs
theorem Inv.stack (I:Inv X pins σ H s):s.heap.FunFrames X.base X.stack:=by
 rcases I.ok.stk with e | ⟨e,hf⟩
 ·rw [e];exact I.funs
 ·rw [e]
  obtain ⟨m,hn,_⟩:=I.loc
  refine .cons (by rw [I.ok.kind];decide) hf hn ?_ I.funs
  exact Heap.get?_none_of_le (Nat.le_trans I.ok.bsz I.ok.above)
theorem Inv.stkSub (I:Inv X pins σ H s):∀ b ∈ frs X.stack,b ∈ X.env.locals :: X.fs:=fun b hb=>by
 rcases I.ok.stk with e | ⟨e,hf⟩
 ·rw [e] at hb;exact List.mem_cons_of_mem _ hb
 ·rw [e] at hb
  unfold frs at hb
  rw [List.filterMap_cons,hf] at hb
  exact hb
theorem Inv.stkFree (I:Inv X pins σ H s):∀ b ∈ frs X.stack,H b=none:=fun b hb=>by
 rcases List.mem_cons.mp (I.stkSub b hb) with e | hb
 ·rw [e];exact I.free
 ·obtain ⟨_,o,ho,_⟩:=I.ok.funs.mem hb
  exact I.base.free b o ho (I.ok.frf b hb) fun z=>I.ok.exfs b z hb
theorem Inv.step {g':Array GenState} {t':Nat} {d':Drawn} {ch:List Addr} (I:Inv X pins σ H s)
  (hch:∀ b ∈ ch,(b ∈ X.ex\/X.s₀.heap.objs.size<=b)/\b ≠ X.env.locals/\(∀ x c,X.env.cells.lookup x=some c->c ≠ b)/\∀ p ∈ X.pn ++ pins,p.1 ≠ b)
  (keep:∀ b o,b ≠ X.env.locals->b ∉ X.fs->b ∉ ch->s.heap.get? b=some o->H b=none->h'.get? b=some o)
  (slot:∀ b o,b ≠ X.env.locals->b ∈ X.fs->b ∉ ch->s.heap.get? b=some o->H b=none->∃ sl,h'.get? b=some { o with slots:=sl }) (free:∀ b o,b ∉ ch->s.heap.get? b=some o->H b=none->H' b=none)
  (there:∀ b o,b ∉ ch->s.heap.get? b=some o->∃ o',h'.get? b=some o')
  (tups:∀ b xs,H b=some (.tup xs)->H' b=some (.tup xs)) (frzs:∀ b o u,H b=some (.frz o u)->H' b=some (.frz o u)) (tbls:∀ b ps,H b=some (.tbl ps)->∃ more,H' b=some (.tbl (ps ++ more)))
  (ns:∀ m,s.heap.Ns X.env.locals m->h'.Ns X.env.locals m) (hok:HOk X.prog X.w H' h') (hg:AllBare g') :
  Inv X pins σ H' { s with heap:=h',gens:=g',drawn:=d',toks:=t' }:=by
 have neL:∀ b o,X.s₀.heap.get? b=some o->b ≠ X.env.locals:=fun b o e=>Nat.ne_of_lt (Nat.lt_of_lt_of_le (Heap.lt_size e) I.ok.above)
 have neC:∀ b o,X.s₀.heap.get? b=some o->b ∉ X.ex->b ∉ ch:=fun b o e hx hb=>by
  rcases (hch b hb).1 with z | z
  ·exact hx z
  ·exact absurd (Nat.lt_of_lt_of_le (Heap.lt_size e) z) (Nat.lt_irrefl _)
 have cellK:∀ x c,X.env.cells.lookup x=some c->∀ v,s.heap.IsCell c v->h'.IsCell c v:=fun x c e v ⟨o,ho,hd⟩=>by
  have nch:c ∉ ch:=fun z=>(hch c z).2.2.1 x c e rfl
  by_cases hc:c ∈ X.fs
  ·obtain ⟨sl,q⟩:=slot c o (I.cne x c e) hc nch ho (I.freeC x c e)
   exact ⟨_,q,hd⟩
  ·exact ⟨o,keep c o (I.cne x c e) hc nch ho (I.freeC x c e),hd⟩
 refine ⟨I.ok,I.os,hg,⟨fun b o e n hb hx=>?_,fun b o e n hb hx=>?_,fun b o e n hx=>?_,fun b o e hx=>?_,fun b xs e=>tups b xs (I.base.tups b xs e),fun b o xs e=>frzs b o xs (I.base.frzs b o xs e),fun b ps e=>?_⟩,?_,fun x c e=>?_,?_,fun x c e=>?_,fun p hp=>?_,hok,I.len⟩
 ·exact keep b o (neL b o e) hb (neC b o e hx) (I.base.keep b o e n hb hx) (I.base.free b o e n hx)
 ·obtain ⟨sl,e1⟩:=I.base.slot b o e n hb hx
  obtain ⟨sl',e2⟩:=slot b _ (neL b o e) hb (neC b o e hx) e1 (I.base.free b o e n hx)
  exact ⟨sl',e2⟩
 ·obtain ⟨o',e1⟩:=I.base.there b o e hx
  exact free b o' (neC b o e hx) e1 (I.base.free b o e n hx)
 ·obtain ⟨o',e1⟩:=I.base.there b o e hx
  exact there b o' (neC b o e hx) e1
 ·obtain ⟨m1,e1⟩:=I.base.tbls b ps e
  obtain ⟨m2,e2⟩:=tbls b _ e1
  exact ⟨m1 ++ m2,by rw [e2,Array.append_assoc]⟩
 ·obtain ⟨m,hn,hl⟩:=I.loc
  refine ⟨m,ns m hn,fun i x v e1 e2 e3=>?_⟩
  obtain ⟨u,r,l⟩:=hl i x v e1 e2 e3
  refine ⟨u,r,?_⟩
  rcases l with l | ⟨k,c,e,z⟩
  ·exact .inl l
  ·exact .inr ⟨k,c,e,cellK x c e _ z⟩
 ·obtain ⟨v,z⟩:=I.cell x c e
  exact ⟨v,cellK x c e v z⟩
 ·obtain ⟨m,⟨o,_,_,ho,_⟩,_⟩:=I.loc
  exact free _ o (fun z=>(hch _ z).2.1 rfl) ho I.free
 ·obtain ⟨v,o,ho,hd⟩:=I.cell x c e
  exact free c o (fun z=>(hch c z).2.2.1 x c e rfl) ho (I.freeC x c e)
 ·obtain ⟨e,n,ne,nf,d⟩:=I.pin p hp
  have nch:p.1 ∉ ch:=fun z=>(hch p.1 z).2.2.2 p hp rfl
  exact ⟨keep p.1 p.2 ne nf nch e n,free p.1 p.2 nch e n,ne,nf,d⟩
theorem Inv.un {t':Nat} (I:Inv X pins σ H s) (u:Un X.fs [] H H' s.heap h') (hok:HOk X.prog X.w H' h'):Inv X pins σ H' { s with heap:=h',toks:=t' }:=by
 obtain ⟨m,⟨o,es,ep,ho,r⟩,_⟩:=id I.loc
 obtain ⟨sl,hL⟩:=u.any ho I.free (by simp)
 exact I.step (g':=s.gens) (d':=s.drawn) (ch:=[]) (fun _ z=>nomatch z) (fun b o _ hb _ e n=>u.keep b o e n hb (by simp)) (fun b o _ hb _ e n=>u.slot b o e n hb (by simp)) (fun b o _ e n=>u.free b o e n (by simp)) (fun b o _ e=>u.there b o e (by simp)) u.tups u.frzs u.tbls (fun m' hm=>by
  obtain ⟨o',es',ep',ho',r'⟩:=hm
  rw [ho] at ho';cases ho'
  exact ⟨_,es',ep',hL,r'⟩) hok I.bare
theorem Inv.call {g':Array GenState} {t':Nat} {d':Drawn} {ch:List Addr} (I:Inv X pins σ H s) (u:Un (frs X.stack) ch H H' s.heap h') (hok:HOk X.prog X.w H' h') (hg:AllBare g')
  (hch:∀ b ∈ ch,(b ∈ X.ex\/X.s₀.heap.objs.size<=b)/\b ≠ X.env.locals/\(∀ x c,X.env.cells.lookup x=some c->c ≠ b)/\∀ p ∈ X.pn ++ pins,p.1 ≠ b) :
  Inv X pins σ H' { s with heap:=h',gens:=g',drawn:=d',toks:=t' }:=by
 obtain ⟨m,⟨o,es,ep,ho,r⟩,_⟩:=id I.loc
 obtain ⟨sl,hL⟩:=u.any ho I.free fun z=>(hch _ z).2.1 rfl
 exact I.step (ch:=ch) hch (fun b o hL hb hc e n=>u.keep b o e n (fun z=>(List.mem_cons.mp (I.stkSub b z)).elim hL hb) hc) (fun b o _ _ hc e n=>u.any e n hc) (fun b o hc e n=>u.free b o e n hc) (fun b o hc e=>u.there b o e hc) u.tups u.frzs u.tbls (fun m' hm=>by
  obtain ⟨o',es',ep',ho',r'⟩:=hm
  rw [ho] at ho';cases ho'
  exact ⟨_,es',ep',hL,r'⟩) hok hg
theorem Inv.turned {t':Nat} {it:Addr} (I:Inv X pins σ H s) (k:∀ b o,b ≠ it->s.heap.get? b=some o->h'.get? b=some o) (hn:H it=none) (hL:it ≠ X.env.locals)
  (h1:it ∈ X.ex\/X.s₀.heap.objs.size<=it) (h2:∀ x c,X.env.cells.lookup x=some c->c ≠ it) (h3:∀ p ∈ X.pn ++ pins,p.1 ≠ it):Inv X pins σ H { s with heap:=h',toks:=t' }:=by
 have nit:∀ b u,H b=some u->b ≠ it:=fun b u e z=>by rw [z,hn] at e;cases e
 refine I.step (g':=s.gens) (d':=s.drawn) (ch:=[it]) (fun b hb=>?_) (fun b o _ _ hc e _=>k b o (fun z=>hc (by simp [z])) e) (fun b o _ _ hc e _=>⟨o.slots,k b o (fun z=>hc (by simp [z])) e⟩) (fun _ _ _ _ n=>n)
  (fun b o hc e=>⟨o,k b o (fun z=>hc (by simp [z])) e⟩) (fun _ _ e=>e) (fun _ _ _ e=>e) (fun b ps e=>⟨#[],by rw [e];simp⟩) (fun m hm=>?_) (fun b u e=>?_) I.bare
 ·have e:b=it:=by simpa using hb
  subst e
  exact ⟨h1,hL,h2,h3⟩
 ·obtain ⟨o,es,ep,ho,r⟩:=hm
  exact ⟨o,es,ep,k _ o (Ne.symm hL) ho,r⟩
 ·refine (I.hok b u e).stay (fun c v hc q=>k c v ?_ q) (fun _ q=>q) fun _ _ q=>q
  rcases hc with z | z
  ·rw [z];exact nit b u e
  ·exact nit c _ z
theorem Inv.tok (I:Inv X pins σ H s) (t:Nat):Inv X pins σ H { s with toks:=t }:=I.un (h':=s.heap) (t':=t) Un.refl I.hok
theorem Inv.kept {t':Nat} (I:Inv X pins σ H s) (k:∀ b u,s.heap.get? b=some u->h'.get? b=some u):Inv X pins σ H { s with heap:=h',toks:=t' }:=I.un (Un.kept k) (I.hok.kept k)
theorem Inv.laid {a:Addr} {o:HO} {t':Nat} (I:Inv X pins σ H s) (k:∀ b u,s.heap.get? b=some u->h'.get? b=some u) (hp:s.heap.objs.size<=a) (new:ObjOk X.prog X.w (upd H a o) h' a o) :
  Inv X pins σ (upd H a o) { s with heap:=h',toks:=t' }:=I.un (Un.laid k hp (I.hok.fresh hp)) (I.hok.laid k hp new)
theorem Inv.write {x e:Addr} {o:HO} {t':Nat} (I:Inv X pins σ H s) (mu:Mut (H x)) (he:e=x\/H e=some (.own x)) (k:∀ b u,b ≠ e->s.heap.get? b=some u->h'.get? b=some u) (heo:∃ u,h'.get? e=some u)
  (new:ObjOk X.prog X.w (upd H x o) h' x o):Inv X pins σ (upd H x o) { s with heap:=h',toks:=t' }:=I.un (Un.write mu he k heo) (I.hok.write mu he k heo new)
theorem Inv.pins_of {pins':List (Addr × Obj)} (I:Inv X pins σ H s) (h:∀ p ∈ pins',s.heap.get? p.1=some p.2/\H p.1=none/\p.1 ≠ X.env.locals/\p.1 ∉ X.fs/\∀ v,p.2.data ≠ .cell v):Inv X pins' σ H s :=
 ⟨I.ok,I.os,I.bare,I.base,I.loc,I.cell,I.free,I.freeC,fun p hp=>(List.mem_append.mp hp).elim (fun z=>I.pin p (List.mem_append_left _ z)) (h p),I.hok,I.len⟩
theorem rm {N:List Str} (hN:N.Nodup) {i j:Nat} {x:Str} (a:N[i]?=some x) (b:N[j]?=some x):i=j:=by
 obtain ⟨h1,e1⟩:=List.getElem?_eq_some_iff.mp a
 obtain ⟨h2,e2⟩:=List.getElem?_eq_some_iff.mp b
 exact (List.getElem_inj hN).mp (e1.trans e2.symm)
theorem u5 {M:Model} {A:Around} {E:Value->Shared->Prop} {i:Nat} {x:Str} {v:V} {u:Value} {Q:Unit->Shared->Prop} (I:Inv X pins σ H s) (hN:X.N.Nodup) (hi:X.N[i]?=some x) (hx:Loc X.env.scope x) (r:RelV v u)
  (h:∀ s',Inv X pins (σ.set i (some v)) H s'->(∃ a,Heap.SameBut a s.heap s'.heap/\(a=X.env.locals\/X.env.cells.lookup x=some a))->Q () s') (hf:X.fn x=true\/X.env.scope.names.lookup x=some .local:=by first | exact .inl rfl | exact .inr rfl | assumption):wpAny M A (storeName X.env x u) Q E s:=by
 obtain ⟨m,hn,hl⟩:=id I.loc
 have hcls:(X.env.scope.kind == .class || (X.env.scope.kind == .module && X.env.locals != X.env.globals))=false:=by rw [I.ok.kind];rfl
 have hiσ:i < σ.length:=by rw [I.len];exact (List.getElem?_eq_some_iff.mp hi).1
 have cne:=I.cne
 have tracked:∀ {a:Addr} {h':Heap},(∃ o,s.heap.get? a=some o/\H a=none)->Heap.SameBut a s.heap h'->HOk X.prog X.w H h':=fun {a h'} ha hs b ob e=>by
  obtain ⟨_,_,hfree⟩:=ha
  refine (I.hok b ob e).stay (fun c w' hc q=>(hs.2 c ?_).trans q) (fun _ q=>q) fun _ _ q=>q
  rintro rfl
  rcases hc with rfl | hc
  ·rw [hfree] at e;cases e
  ·rw [hfree] at hc;cases hc
 rcases hx with hk | hk
 ·refine wpAny_storeName_local hk hn (fun h' hn' hs=>?_) hcls
  obtain ⟨oL,_,_,hoL,_⟩:=id hn
  refine h _ ⟨I.ok,I.os,I.bare,⟨fun b o e n hb hx=>?_,fun b o e n hb hx=>?_,I.base.free,fun b o e hx=>?_,I.base.tups,I.base.frzs,I.base.tbls⟩,⟨_,hn',fun j y v' e1 e2 e3=>?_⟩,fun y c e=>?_,I.free,I.freeC,fun p hp=>?_,tracked ⟨oL,hoL,I.free⟩ hs,by simpa using I.len⟩ ⟨_,hs,.inl rfl⟩
  ·exact (hs.2 b (Nat.ne_of_lt (Nat.lt_of_lt_of_le (Heap.lt_size e) I.ok.above))).trans (I.base.keep b o e n hb hx)
  ·obtain ⟨sl,e1⟩:=I.base.slot b o e n hb hx
   exact ⟨sl,(hs.2 b (Nat.ne_of_lt (Nat.lt_of_lt_of_le (Heap.lt_size e) I.ok.above))).trans e1⟩
  ·obtain ⟨o',e1⟩:=I.base.there b o e hx
   exact ⟨o',(hs.2 b (Nat.ne_of_lt (Nat.lt_of_lt_of_le (Heap.lt_size e) I.ok.above))).trans e1⟩
  ·by_cases hj:j=i
   ·subst hj
    rw [hi] at e1;cases e1
    rw [List.getElem?_set_self hiσ] at e2
    cases e2
    exact ⟨u,r,.inl ⟨hk,by simp⟩⟩
   ·rw [List.getElem?_set_ne (Ne.symm hj)] at e2
    obtain ⟨u',r',q⟩:=hl j y v' e1 e2 e3
    refine ⟨u',r',?_⟩
    rcases q with ⟨k,e⟩ | ⟨k,c,e,z⟩
    ·refine .inl ⟨k,?_⟩
     have:y ≠ x:=fun e=>hj (rm hN e1 (e ▸ hi))
     simp [this,e]
    ·exact .inr ⟨k,c,e,z.sameBut hs (cne y c e)⟩
  ·obtain ⟨w',z⟩:=I.cell y c e
   exact ⟨w',z.sameBut hs (cne y c e)⟩
  ·obtain ⟨e,n,ne,nf,d⟩:=I.pin p hp
   exact ⟨(hs.2 p.1 ne).trans e,n,ne,nf,d⟩
 ·have hfn:X.fn x=true:=by
   rcases hf with z | z
   ·exact z
   ·rw [z] at hk;cases hk
  obtain ⟨c,hc⟩:=I.ok.has x (.inl hk)
  obtain ⟨w',z⟩:=I.cell x c hc
  refine wpAny_storeName_cell I.ok.kind hk hc z (fun h' hc' hs=>?_)
  obtain ⟨oc,hoc,hocd⟩:=id z
  refine h { s with heap:=h' } ⟨I.ok,I.os,I.bare,⟨fun b o e n hb hx=>?_,fun b o e n hb hx=>?_,I.base.free,fun b o e hx=>?_,I.base.tups,I.base.frzs,I.base.tbls⟩,⟨m,hn.sameBut hs (Ne.symm (cne x c hc)),fun j y v' e1 e2 e3=>?_⟩,fun y c' e=>?_,I.free,I.freeC,fun p hp=>?_,tracked ⟨oc,hoc,I.freeC x c hc⟩ hs,by simpa using I.len⟩ ⟨c,hs,.inr hc⟩
  ·exact (hs.2 b (Nat.ne_of_lt (Nat.lt_of_lt_of_le (Heap.lt_size e) (I.ok.cab x c hfn hc)))).trans (I.base.keep b o e n hb hx)
  ·obtain ⟨sl,e1⟩:=I.base.slot b o e n hb hx
   exact ⟨sl,(hs.2 b (Nat.ne_of_lt (Nat.lt_of_lt_of_le (Heap.lt_size e) (I.ok.cab x c hfn hc)))).trans e1⟩
  ·obtain ⟨o',e1⟩:=I.base.there b o e hx
   exact ⟨o',(hs.2 b (Nat.ne_of_lt (Nat.lt_of_lt_of_le (Heap.lt_size e) (I.ok.cab x c hfn hc)))).trans e1⟩
  ·by_cases hj:j=i
   ·subst hj
    rw [hi] at e1;cases e1
    rw [List.getElem?_set_self hiσ] at e2
    cases e2
    exact ⟨u,r,.inr ⟨.inl hk,c,hc,hc'⟩⟩
   ·rw [List.getElem?_set_ne (Ne.symm hj)] at e2
    obtain ⟨u',r',q⟩:=hl j y v' e1 e2 e3
    refine ⟨u',r',?_⟩
    rcases q with q | ⟨k,c',e,z'⟩
    ·exact .inl q
    ·refine .inr ⟨k,c',e,z'.sameBut hs ?_⟩
     rintro rfl
     exact hj (rm hN e1 (I.ok.inj _ _ _ e hc ▸ hi))
  ·by_cases hcc:c'=c
   ·subst hcc;exact ⟨_,hc'⟩
   ·obtain ⟨w2,z2⟩:=I.cell y c' e
    exact ⟨w2,z2.sameBut hs hcc⟩
  ·obtain ⟨e,n,ne,nf,d⟩:=I.pin p hp
   refine ⟨(hs.2 p.1 ?_).trans e,n,ne,nf,d⟩
   intro q
   rw [q,hoc] at e
   have q':oc=p.2:=Option.some.inj e
   exact d w' (by rw [<- q'];exact hocd)
theorem qU {M:Model} {A:Around} {E:Value->Shared->Prop} {i:Nat} {x:Str} {v:V} {u:Value} {Q:Unit->Shared->Prop} (I:Inv X pins σ H s) (hN:X.N.Nodup) (hi:X.N[i]?=some x) (hx:Loc X.env.scope x) (r:RelV v u)
  (h:∀ s',Inv X pins (σ.set i (some v)) H s'->Q () s') (hf:X.fn x=true\/X.env.scope.names.lookup x=some .local:=by first | exact .inl rfl | exact .inr rfl | assumption):wpAny M A (storeName X.env x u) Q E s :=
 u5 I hN hi hx r (fun s' I' _=>h s' I') hf
theorem Inv.call' {s':Shared} {ch:List Addr} (I:Inv X pins σ H s) (ho:s'.os=s.os) (u:Un (frs X.stack) ch H H' s.heap s'.heap) (hok:HOk X.prog X.w H' s'.heap) (hg:AllBare s'.gens)
  (hch:∀ b ∈ ch,(b ∈ X.ex\/X.s₀.heap.objs.size<=b)/\b ≠ X.env.locals/\(∀ x c,X.env.cells.lookup x=some c->c ≠ b)/\∀ p ∈ X.pn ++ pins,p.1 ≠ b):Inv X pins σ H' s':=by
 obtain ⟨h',g',d',t',o'⟩:=s'
 have e:o'=s.os:=ho
 subst e
 exact I.call (g':=g') (t':=t') (d':=d') u hok hg hch
end
noncomputable abbrev XK:=Value->Option Addr->Hp->Prop
noncomputable abbrev St:=List (Option V)
noncomputable abbrev VK:=V->Hp->Prop
noncomputable abbrev TE:=St->Hp->VK->Prop
noncomputable abbrev TT:=St->Hp->(Bool->Hp->Prop)->Prop
noncomputable abbrev TA:=St->Hp->(List V->Hp->Prop)->Prop
structure ky where
 nx:St->Hp->Prop
 rt:VK
 bk:St->Hp->Prop:=fun _ _=>False
 ct:St->Hp->Prop:=fun _ _=>False
noncomputable abbrev TS:=ky->St->Hp->Prop
noncomputable def EP (X:Cx) (pins:List (Addr × Obj)) (σ:St) (Q:VK) (u:Value) (s':Shared):Prop:=∃ v H',Inv X pins σ H' s'/\RelV v u/\Q v H'
noncomputable def TP (X:Cx) (pins:List (Addr × Obj)) (σ:St) (Q:Bool->Hp->Prop) (b:Bool) (s':Shared):Prop:=∃ H',Inv X pins σ H' s'/\Q b H'
noncomputable def AP (X:Cx) (pins:List (Addr × Obj)) (σ:St) (Q:List V->Hp->Prop) (us:List Value) (s':Shared):Prop:=∃ vs H',Inv X pins σ H' s'/\Vals vs us/\Q vs H'
noncomputable def SP (X:Cx) (pins:List (Addr × Obj)) (D:ky) (f:Flow) (s':Shared):Prop :=
 match f with
 | .next=>∃ σ' H',Inv X pins σ' H' s'/\D.nx σ' H'
 | .brk=>∃ σ' H',Inv X pins σ' H' s'/\D.bk σ' H'
 | .cont=>∃ σ' H',Inv X pins σ' H' s'/\D.ct σ' H'
 | .ret u=>∃ v σ' H',Inv X pins σ' H' s'/\RelV v u/\D.rt v H'
noncomputable def PE (X:Cx) (e:Expr) (t:TE):Prop :=
 ∀ (pins:List (Addr × Obj)) (s:Shared) (σ:St) (H:Hp) (Q:VK),Inv X pins σ H s->t σ H Q->wpAny (model X.prog X.w) X.A (eval e X.env) (EP X pins σ Q) X.xe s
noncomputable def PT (X:Cx) (e:Expr) (t:TT):Prop :=
 ∀ (pins:List (Addr × Obj)) (s:Shared) (σ:St) (H:Hp) (Q:Bool->Hp->Prop),Inv X pins σ H s->t σ H Q->wpAny (model X.prog X.w) X.A (isTrue e X.env (eval e X.env)) (TP X pins σ Q) X.xe s
noncomputable def PW (X:Cx) (e:Expr) (t:TT):Prop :=
 ∀ (whole:Sem Value) (pins:List (Addr × Obj)) (s:Shared) (σ:St) (H:Hp) (Q:Bool->Hp->Prop),Inv X pins σ H s->t σ H Q->wpAny (model X.prog X.w) X.A (isTrue e X.env whole) (TP X pins σ Q) X.xe s
theorem PW.pt {X:Cx} {e:Expr} {t:TT} (h:PW X e t):PT X e t:=h _
noncomputable def PA (X:Cx) (es:List Expr) (t:TA):Prop :=
 ∀ (pos:Pos) (pins:List (Addr × Obj)) (s:Shared) (σ:St) (H:Hp) (Q:List V->Hp->Prop),Inv X pins σ H s->t σ H Q->wpAny (model X.prog X.w) X.A (spliced (backTo pos (starEach es X.env))) (AP X pins σ Q) X.xe s
noncomputable def PS (X:Cx) (st:Stmt) (t:TS):Prop :=
 ∀ (pins:List (Addr × Obj)) (s:Shared) (σ:St) (H:Hp) (D:ky),Inv X pins σ H s->t D σ H->wpAny (model X.prog X.w) X.A (exec st X.env) (SP X pins D) X.xe s
noncomputable def PSs (X:Cx) (st:List Stmt) (t:TS):Prop :=
 ∀ (pins:List (Addr × Obj)) (s:Shared) (σ:St) (H:Hp) (D:ky),Inv X pins σ H s->t D σ H->wpAny (model X.prog X.w) X.A (execs st X.env) (SP X pins D) X.xe s
theorem thn {α:Type} {t:Sem α} {Q Q':α->Shared->Prop} {M:Model} {A:Around} {E:Value->Shared->Prop} {s:Shared} (h:wpAny M A t Q E s) (hQ:∀ a s,Q a s->Q' a s):wpAny M A t Q' E s:=wpAny_mono h hQ fun _ _ x=>x
end L2
namespace L2
open PySem PySem.Spec PyProof.Rows
section
variable {X:Cx}
noncomputable def fN (i:Nat):TE:=fun σ H Q=>∃ v,σ[i]?=some (some v)/\Q v H
noncomputable def tC (v:V):TE:=fun _ H Q=>Q v H
theorem zZ {i:Nat} {x:Str} {pos:Pos} (hN:X.N[i]?=some x) (hv:Vis X.env.scope x) (hd:(x == ("__debug__":Str))=false:=by decide) (hcd:(x == ("__classdict__":Str))=false:=by decide):PE X (.Name x pos) (fN i):=by
 intro pins s σ H Q I h
 obtain ⟨v,e,h⟩:=h
 obtain ⟨m,hn,hl⟩:=I.loc
 obtain ⟨u,r,l⟩:=hl i x v hN e hv
 have fin:EP X pins σ Q u s:=⟨v,H,I,r,h⟩
 rcases l with ⟨hk,hm⟩ | ⟨hk,c,hc,hcell⟩
 ·exact wpAny_Name (wpAny_loadName_local I.ok.kind hk hn hm fin) hd
 ·rcases hk with hk | hk
  ·exact wpAny_Name (wpAny_loadName_cell I.ok.kind hk hc hcell fin) hd
  ·exact wpAny_Name (wpAny_loadName_free I.ok.kind hk hc hcell fin hcd) hd
theorem z8 {i j pos}:PE X (.Constant (.int i) j pos) (tC (.int i)):=fun _ _ _ H _ I h=>wpAny_Constant_int ⟨.int i,H,I.tok _,⟨_,rfl⟩,h⟩
theorem zh {b j pos}:PE X (.Constant (.bool b) j pos) (tC (.bl b)):=fun _ _ _ H _ I h=>Constant_bool ⟨.bl b,H,I,rfl,h⟩
noncomputable def Gl (X:Cx) (x:Str):Prop:=X.env.kindOf x=some .globalImplicit
theorem jp {E:Value->Shared->Prop} {pins:List (Addr × Obj)} {s:Shared} {σ:St} {H:Hp} {x:Str} {u:Value} {pos:Pos} {Q:Value->Shared->Prop} (I:Inv X pins σ H s) (hg:Gl X x) (hm:X.mg x=some u) (h:Q u s)
  (hd:(x == ("__debug__":Str))=false:=by decide):wpAny (model X.prog X.w) X.A (eval (.Name x pos) X.env) Q E s :=
 Calls.Name_function_global I.ok.kind hg (Calls.loadGlobal_global (by rw [I.ok.glob];exact I.mod.glob.keeps I.bk) hm h) hd
theorem iU {E:Value->Shared->Prop} {pins:List (Addr × Obj)} {s:Shared} {σ:St} {H:Hp} {x:Str} {u:Value} {pos:Pos} {Q:Value->Shared->Prop} (I:Inv X pins σ H s) (hg:Gl X x) (hm:X.mg x=none) (hv:bootBuiltins x=some u) (h:Q u s)
  (hn:x ≠ "__name__":=by decide) (hd:(x == ("__debug__":Str))=false:=by decide):wpAny (model X.prog X.w) X.A (eval (.Name x pos) X.env) Q E s:=by
 obtain ⟨mb,h1,h2⟩:=I.mod.blt
 exact Calls.Name_function_global I.ok.kind hg (Calls.loadGlobal_builtin (by rw [I.ok.glob];exact I.mod.glob.keeps I.bk) hm (by rw [I.ok.blt];exact h1.keeps I.bk) ((h2 x hn).trans hv) h) hd
theorem xY {x:Str} {v:V} {u:Value} {pos:Pos} (hg:Gl X x) (hm:X.mg x=some u) (r:RelV v u) (hd:(x == ("__debug__":Str))=false:=by decide):PE X (.Name x pos) (tC v) :=
 fun _ _ _ H _ I h=>jp I hg hm ⟨v,H,I,r,h⟩ hd
variable {a b:Expr} {ta tb:TE} {pos:Pos}
noncomputable def tB (t:TE):TT:=fun σ H Q=>t σ H fun x H1=>∃ c,x=.bl c/\Q c H1
theorem zS {e:Expr} {t:TE} (h:PE X e t) (he:∀ whole,isTrue e X.env whole=(do let v <- whole;standAt e.pos;holding [v] (truthy v)):=by intro _;rfl):PT X e (tB t):=by
 intro pins s σ H Q I hw
 refine isTrue_plain (thn (h pins s σ H _ I hw) fun v s1 ⟨x,H1,I1,r1,q1⟩=>?_) (he _)
 obtain ⟨d,rfl,q⟩:=q1
 cases r1
 exact wpAny_truthy_bool ⟨H1,I1,q⟩
variable {tA tB':TT} {rest:List Expr}
noncomputable def Ct (t u:TT):TT:=fun σ H Q=>t σ H fun c H1=>if c=true then u σ H1 Q else Q false H1
noncomputable def tOr (t u:TT):TT:=fun σ H Q=>t σ H fun c H1=>if c=true then Q true H1 else u σ H1 Q
noncomputable def Co (t:TT):TT:=fun σ H Q=>t σ H fun c H1=>Q (!c) H1
theorem xQ (ha:PT X a tA):PW X (.BoolOp .And [a] pos) tA:=by
 intro wh pins s σ H Q I h
 refine isTrue_and (thn (ha pins s σ H Q I h) fun c s1 e=>?_)
 cases c with
 | true=>exact isTrue_and_nil e
 | false=>exact e
theorem zK (ha:PT X a tA):PW X (.BoolOp .Or [a] pos) tA:=by
 intro wh pins s σ H Q I h
 refine isTrue_or (thn (ha pins s σ H Q I h) fun c s1 e=>?_)
 cases c with
 | false=>exact isTrue_or_nil e
 | true=>exact e
theorem zL (ha:PT X a tA) (hb:PW X (.BoolOp .And (b :: rest) pos) tB'):PW X (.BoolOp .And (a :: b :: rest) pos) (Ct tA tB'):=by
 intro wh pins s σ H Q I h
 refine isTrue_and (thn (ha pins s σ H _ I h) fun c s1 ⟨H1,I1,q1⟩=>?_)
 cases c with
 | true=>exact hb wh pins s1 σ H1 Q I1 q1
 | false=>exact ⟨H1,I1,q1⟩
theorem Bw (ha:PT X a tA) (hb:PW X (.BoolOp .Or (b :: rest) pos) tB'):PW X (.BoolOp .Or (a :: b :: rest) pos) (tOr tA tB'):=by
 intro wh pins s σ H Q I h
 refine isTrue_or (thn (ha pins s σ H _ I h) fun c s1 ⟨H1,I1,q1⟩=>?_)
 cases c with
 | true=>exact ⟨H1,I1,q1⟩
 | false=>exact hb wh pins s1 σ H1 Q I1 q1
theorem zT (ha:PT X a tA):PT X (.UnaryOp .Not a pos) (Co tA):=by
 intro pins s σ H Q I h
 exact isTrue_not (ha pins s σ H (fun c H1=>Q (!c) H1) I h)
noncomputable def Bl (ta tb:TE):TE:=fun σ H Q=>ta σ H fun x H1=>∃ c,x=.bl c/\if c=true then tb σ H1 Q else Q (.bl false) H1
noncomputable def Bg (ta:TE):TE:=fun σ H Q=>ta σ H fun x H1=>∃ c,x=.bl c/\Q (.bl (!c)) H1
theorem z5 {op} {t:TE} (h:PE X a t):PE X (.BoolOp op [a] pos) t:=fun pins s σ H Q I hw=>BoolOp_one (h pins s σ H Q I hw)
theorem z_ (ha:PE X a ta) (hb:PE X (.BoolOp .And (b :: rest) pos) tb):PE X (.BoolOp .And (a :: b :: rest) pos) (Bl ta tb):=by
 intro pins s σ H Q I h
 refine BoolOp_and (thn (ha pins s σ H _ I h) fun v s1 ⟨x,H1,I1,r1,q1⟩=>?_)
 obtain ⟨c,rfl,q1⟩:=q1
 cases r1
 refine wpAny_truthy_bool ?_
 cases c with
 | true=>exact hb pins s1 σ H1 Q I1 q1
 | false=>exact ⟨.bl false,H1,I1,rfl,q1⟩
theorem z6 (ha:PE X a ta):PE X (.UnaryOp .Not a pos) (Bg ta):=by
 intro pins s σ H Q I h
 refine UnaryOp_ (thn (ha pins s σ H _ I h) fun v s1 ⟨x,H1,I1,r1,q1⟩=>?_)
 obtain ⟨c,rfl,q1⟩:=q1
 cases r1
 exact not_of (wpAny_truthy_bool ⟨.bl (!c),H1,I1,rfl,q1⟩)
end
end L2
namespace L2
open PySem PySem.Spec PyProof.Rows
noncomputable def SqL (K:PySem.W.Frag) (H:Hp) (a:Addr) (xs:List V):Prop :=
 Rd H a (.lst xs) \/
  ∃ (o:Obj) (its:Array Value) (n:Nat),K.lookup a=some o/\o.cls=.type "list"/\o.dict=none/\o.data=.seq its n/\its.size<=sizeLine/\Vals xs its.toList
noncomputable def SqT (K:PySem.W.Frag) (H:Hp) (a:Addr) (xs:List V):Prop :=
 Rd H a (.tup xs) \/
  ∃ (o:Obj) (its:Array Value) (n:Nat),K.lookup a=some o/\o.cls=.type "tuple"/\o.data=.seq its n/\its.size<=sizeLine/\Vals xs its.toList
noncomputable def CY:Value->Option V
 | .none=>some .non
 | .bool b=>some (.bl b)
 | .int i _=>some (.int i)
 | .str x _=>some (.str x)
 | .bytes b _=>some (.byt b)
 | .float b _=>some (.flt b)
 | .ref a=>some (.ref a)
 | .type n=>some (.ty n)
 | _=>none
theorem RelV.abs {x:V} {u:Value} (r:RelV x u):CY u=some x:=by
 cases x with
 | non=>cases r;rfl
 | bl _=>cases r;rfl
 | int _=>obtain ⟨t,rfl⟩:=r;rfl
 | str _=>obtain ⟨t,rfl⟩:=r;rfl
 | byt _=>obtain ⟨t,rfl⟩:=r;rfl
 | flt _=>obtain ⟨t,rfl⟩:=r;rfl
 | ref _=>cases r;rfl
 | ty _=>cases r;rfl
theorem RelV.inj {x y:V} {u:Value} (r:RelV x u) (q:RelV y u):x=y:=Option.some.inj (r.abs.symm.trans q.abs)
theorem Vals.inj:∀ {xs ys:List V} {us:List Value},Vals xs us->Vals ys us->xs=ys
 | _,_,_,.nil,.nil=>rfl
 | _,_,_,.cons r t,.cons r' t'=>by rw [r.inj r',Vals.inj t t']
section
variable {X:Cx} {pins:List (Addr × Obj)} {σ:St} {H:Hp} {s:Shared} {a:Addr} {xs ys:List V}
theorem SqL.of {K:PySem.W.Frag} (h:H a=some (.lst xs)):SqL K H a xs:=.inl (.inl h)
theorem SqT.of {K:PySem.W.Frag} (h:H a=some (.tup xs)):SqT K H a xs:=.inl (.inl h)
theorem Inv.list (I:Inv X pins σ H s) (h:SqL X.K H a xs):∃ its:List Value,Vals xs its/\PlainL s.heap a its.toArray/\xs.length<=sizeLine:=by
 rcases h with h | ⟨o,its,n,hk,hc,hd,hs,hz,r⟩
 ·obtain ⟨z,its,n,r,e⟩:=h.ok I.hok
  exact ⟨its,r,⟨_,n,e,rfl,rfl,rfl⟩,z⟩
 ·refine ⟨its.toList,r,⟨o,n,I.kIn a o hk,hc,hd,by simpa using hs⟩,?_⟩
  have e:=r.length
  simp only [Array.length_toList] at e
  omega
theorem Inv.tuple (I:Inv X pins σ H s) (h:SqT X.K H a xs):∃ its:List Value,Vals xs its/\IsTup s.heap a its.toArray/\xs.length<=sizeLine:=by
 rcases h with h | ⟨o,its,n,hk,hc,hs,hz,r⟩
 ·obtain ⟨z,its,r,p⟩:=h.ok I.hok
  exact ⟨its,r,p,z⟩
 ·refine ⟨its.toList,r,⟨o,I.kIn a o hk,hc,n,by simpa using hs⟩,?_⟩
  have e:=r.length
  simp only [Array.length_toList] at e
  omega
theorem Inv.list_inj (I:Inv X pins σ H s) (h:SqL X.K H a xs) (h':SqL X.K H a ys):xs=ys:=by
 obtain ⟨its,r,⟨o,n,e,_,_,d⟩,_⟩:=I.list h
 obtain ⟨its',r',⟨o',n',e',_,_,d'⟩,_⟩:=I.list h'
 rw [e] at e';cases e'
 rw [d] at d'
 injection d' with d1 _
 have:its=its':=by simpa using congrArg Array.toList d1
 subst this
 exact r.inj r'
theorem Inv.tuple_inj (I:Inv X pins σ H s) (h:SqT X.K H a xs) (h':SqT X.K H a ys):xs=ys:=by
 obtain ⟨its,r,⟨o,e,_,n,d⟩,_⟩:=I.tuple h
 obtain ⟨its',r',⟨o',e',_,n',d'⟩,_⟩:=I.tuple h'
 rw [e] at e';cases e'
 rw [d] at d'
 injection d' with d1 _
 have:its=its':=by simpa using congrArg Array.toList d1
 subst this
 exact r.inj r'
end
noncomputable abbrev Cx.wish (X:Cx) (E:Value->Shared->Prop):Cx:={ X with xe:=E }
noncomputable abbrev Cx.nox (X:Cx):Cx:=X.wish fun _ _=>False
theorem Cx.Ok.wish {X:Cx} (ok:X.Ok) (E:Value->Shared->Prop):(X.wish E).Ok :=
 ⟨ok.mod,ok.kind,ok.glob,ok.blt,ok.above,ok.inj,ok.has,ok.cab,ok.hd,ok.frames,ok.stk,ok.exf,ok.bs,ok.bsz,ok.noex,ok.exfs,ok.funs,ok.frf⟩
theorem Cx.Ok.unwish {X:Cx} {E:Value->Shared->Prop} (ok:(X.wish E).Ok):X.Ok :=
 ⟨ok.mod,ok.kind,ok.glob,ok.blt,ok.above,ok.inj,ok.has,ok.cab,ok.hd,ok.frames,ok.stk,ok.exf,ok.bs,ok.bsz,ok.noex,ok.exfs,ok.funs,ok.frf⟩
section
variable {X:Cx} {pins:List (Addr × Obj)} {σ:St} {H:Hp} {s:Shared} {E:Value->Shared->Prop}
theorem Inv.wish (I:Inv X pins σ H s) (E:Value->Shared->Prop):Inv (X.wish E) pins σ H s:=⟨I.ok.wish E,I.os,I.bare,I.base,I.loc,I.cell,I.free,I.freeC,I.pin,I.hok,I.len⟩
theorem Inv.unwish (I:Inv (X.wish E) pins σ H s):Inv X pins σ H s:=⟨I.ok.unwish,I.os,I.bare,I.base,I.loc,I.cell,I.free,I.freeC,I.pin,I.hok,I.len⟩
theorem SP.unwish {D:ky} {f:Flow} {s':Shared} (h:SP (X.wish E) pins D f s'):SP X pins D f s':=by
 cases f with
 | next=>obtain ⟨σ',H',I,q⟩:=h;exact ⟨σ',H',I.unwish,q⟩
 | brk=>obtain ⟨σ',H',I,q⟩:=h;exact ⟨σ',H',I.unwish,q⟩
 | cont=>obtain ⟨σ',H',I,q⟩:=h;exact ⟨σ',H',I.unwish,q⟩
 | ret u=>obtain ⟨v,σ',H',I,r,q⟩:=h;exact ⟨v,σ',H',I.unwish,r,q⟩
theorem PSs.nox {st:List Stmt} {t:TS} (h:PSs X.nox st t):PSs X st t:=fun pins s σ H D I hw =>
 wpAny_mono (h pins s σ H D (I.wish _) hw) (fun _ _ q=>q.unwish) fun _ _ z=>False.elim z
end
section
variable {X:Cx} {st:Stmt} {rest:List Stmt} {t u:TS} {e:Expr} {te:TE} {pos:Pos}
noncomputable def Bh:TS:=fun D σ H=>D.nx σ H
noncomputable def xF (t u:TS):TS:=fun D σ H=>t { D with nx:=u D } σ H
theorem xR:PSs X [] Bh:=fun _ _ σ H _ I h=>wpAny_execs_nil ⟨σ,H,I,h⟩
theorem iP (h1:PS X st t) (h2:PSs X rest u):PSs X (st :: rest) (xF t u):=by
 intro pins s σ H D I h
 refine wpAny_execs_cons (thn (h1 pins s σ H { D with nx:=u D } I h) fun f s1 q=>?_)
 cases f with
 | next =>
  obtain ⟨σ',H',I',q⟩:=q
  exact h2 pins s1 σ' H' D I' q
 | ret v=>exact q
 | brk=>exact q
 | cont=>exact q
theorem lU (h1:PS X st t):PSs X [st] t:=by
 intro pins s σ H D I h
 refine wpAny_execs_cons (thn (h1 pins s σ H D I h) fun f s1 q=>?_)
 cases f with
 | next=>exact wpAny_execs_nil q
 | ret v=>exact q
 | brk=>exact q
 | cont=>exact q
theorem Inv.quiet {pins:List (Addr × Obj)} {σ:St} {H:Hp} {s:Shared} (I:Inv X pins σ H s):interactive X.env=false:=by simp [interactive,I.ok.kind]
noncomputable def mr (te:TE):TS:=fun D σ H=>te σ H fun _ H1=>D.nx σ H1
theorem j0 (he:PE X e te) (hs:swapsWith e none pos.line X.env=pure false:=by rfl):PS X (.Expr e pos) (mr te):=by
 intro pins s σ H D I h
 exact wpAny_Expr_any (thn (he pins s σ H _ I h) fun v s1 ⟨x,H1,I1,r1,q1⟩=>⟨σ,H1,I1,q1⟩) I.quiet hs
noncomputable def Cn (te:TE):TS:=fun D σ H=>te σ H D.rt
theorem wc (he:PE X e te):PS X (.Return (some e) pos) (Cn te):=by
 intro pins s σ H D I h
 exact wpAny_Return_some (thn (he pins s σ H _ I h) fun v s1 ⟨x,H1,I1,r1,q1⟩=>⟨x,σ,H1,I1,r1,q1⟩)
noncomputable def Cr (c:TT) (t u:TS):TS:=fun D σ H=>c σ H fun b H1=>if b=true then t D σ H1 else u D σ H1
theorem BE {c:Expr} {a b:List Stmt} {tc:TT} (hc:PT X c tc) (ha:PSs X a t) (hb:PSs X b u):PS X (.If c a b pos) (Cr tc t u):=by
 intro pins s σ H D I h
 refine wpAny_If (thn (hc pins s σ H _ I h) fun d s1 ⟨H1,I1,q1⟩=>?_)
 cases d with
 | true=>exact ha pins s1 σ H1 D I1 q1
 | false=>exact hb pins s1 σ H1 D I1 q1
noncomputable def zz:TS:=fun _ _ _=>False
theorem wd:PS X st zz:=fun _ _ _ _ _ _ h=>h.elim
end
noncomputable abbrev TG:=V->St->Hp->(St->Hp->Prop)->Prop
noncomputable abbrev TGs:=List V->St->Hp->(St->Hp->Prop)->Prop
noncomputable def PG (X:Cx) (target:Expr) (t:TG):Prop :=
 ∀ (pins:List (Addr × Obj)) (s:Shared) (σ:St) (H:Hp) (v:V) (u:Value) (Q:St->Hp->Prop),Inv X pins σ H s->RelV v u->t v σ H Q ->
  wpAny (model X.prog X.w) X.A (assign target X.env u) (fun _ s'=>∃ σ' H',Inv X pins σ' H' s'/\Q σ' H') X.xe s
noncomputable def PGs (X:Cx) (ts:List Expr) (t:TGs):Prop :=
 ∀ (pins:List (Addr × Obj)) (s:Shared) (σ:St) (H:Hp) (vs:List V) (us:List Value) (Q:St->Hp->Prop),Inv X pins σ H s->Vals vs us->t vs σ H Q ->
  wpAny (model X.prog X.w) X.A (assignInOrder ((assignEach ts X.env).map (·.2)) us) (fun _ s'=>∃ σ' H',Inv X pins σ' H' s'/\Q σ' H') X.xe s
noncomputable abbrev y_:=V->V->V->Hp->(Hp->Prop)->Prop
noncomputable def B9 (X:Cx) (t:y_):Prop :=
 ∀ (pins:List (Addr × Obj)) (s:Shared) (σ:St) (H:Hp) (o i v:V) (ov iv u:Value) (Q:Hp->Prop),Inv X pins σ H s->RelV o ov->RelV i iv->RelV v u->t o i v H Q ->
  wpAny (model X.prog X.w) X.A (setItem ov iv u) (fun _ s'=>∃ H',Inv X pins σ H' s'/\Q H') X.xe s
section
variable {X:Cx} {pos:Pos}
noncomputable def iW (i:Nat):TG:=fun v σ H Q=>Q (σ.set i (some v)) H
theorem aM {i:Nat} {x:Str} (hN:X.N.Nodup) (hi:X.N[i]?=some x) (hx:Loc X.env.scope x) (hf:X.fn x=true\/X.env.scope.names.lookup x=some .local:=by first | exact .inl rfl | exact .inr rfl | assumption):PG X (.Name x pos) (iW i):=by
 intro pins s σ H v u Q I r h
 exact wpAny_assign_Name (qU I hN hi hx r (fun s' I'=>⟨_,H,I',h⟩) hf)
noncomputable def CD:TGs:=fun vs σ H Q=>vs=[]/\Q σ H
noncomputable def BT (t:TG) (u:TGs):TGs:=fun vs σ H Q=>∃ v r,vs=v :: r/\t v σ H fun σ' H'=>u r σ' H' Q
theorem xW:PGs X [] CD:=by
 intro pins s σ H vs us Q I r h
 obtain ⟨e,h⟩:=h
 subst e
 cases r
 exact assignInOrder_nil ⟨σ,H,I,h⟩
theorem rh {e:Expr} {es:List Expr} {t:TG} {u:TGs} (h1:PG X e t) (h2:PGs X es u)
  (hs:(assignEach (e :: es) X.env).map (·.2)=assign e X.env :: (assignEach es X.env).map (·.2):=by rfl):PGs X (e :: es) (BT t u):=by
 intro pins s σ H vs us Q I r h
 obtain ⟨v,vr,e1,h⟩:=h
 subst e1
 cases r with
 | cons r rr =>
  rw [hs]
  refine assignInOrder_cons (thn (h1 pins s σ H _ _ _ I r h) fun _ s1 ⟨σ1,H1,I1,q1⟩=>?_)
  exact h2 pins s1 σ1 H1 _ _ Q I1 rr q1
noncomputable def CB (K:PySem.W.Frag) (n:Nat) (t:TGs):TG:=fun v σ H Q=>∃ a xs,v=.ref a/\SqT K H a xs/\xs.length=n/\t xs σ H Q
theorem zY {es:List Expr} {k:Nat} {t:TGs} {n:Nat} (hc:X.calm=true) (h:PGs X es t)
  (hn:(assignEach es X.env).length=n:=by rfl) (hst:(assignEach es X.env).findIdx? (·.1)=none:=by rfl):PG X (.Tuple es k pos) (CB X.K n t):=by
 intro pins s σ H v u Q I r hw
 obtain ⟨a,xs,e1,hq,hl,hw⟩:=hw
 subst e1
 cases r
 obtain ⟨its,rv,ht,hz⟩:=I.tuple hq
 refine assign_Tuple_tuple (I.ok.hd hc) ht (by simp [hn,<- hl,rv.length]) hst fun h' hx=>?_
 have I1:Inv X pins σ H { s with heap:=h' }:=I.kept (t':=s.toks) fun b o e=>hx b o (Nat.ne_of_lt (Heap.lt_size e)) e
 exact h pins _ σ H xs _ Q I1 (by simpa using rv) hw
noncomputable def CC (to ti:TE) (t:y_):TG:=fun v σ H Q=>to σ H fun o H1=>ti σ H1 fun i H2=>t o i v H2 fun H3=>Q σ H3
theorem wn {o i:Expr} {to ti:TE} {t:y_} (ho:PE X o to) (hi:PE X i ti) (hs:B9 X t)
  (ha:∀ v,assign (.Subscript o i pos) X.env v=(do
   let ov <- holding [v] (eval o X.env)
   let iv <- holding [v,ov] (eval i X.env)
   standAt pos
   holding [v,ov,iv] (setItem ov iv v)
   release [v,ov,iv] []):=by intro _;rfl):PG X (.Subscript o i pos) (CC to ti t):=by
 intro pins s σ H v u Q I r h
 rw [ha]
 refine wpAny_bind (wpAny_holding (thn (ho pins s σ H _ I h) fun ov s1 ⟨x,H1,I1,r1,q1⟩=>?_))
 refine wpAny_bind (wpAny_holding (thn (hi pins s1 σ H1 _ I1 q1) fun iv s2 ⟨y,H2,I2,r2,q2⟩=>?_))
 refine wpAny_bind (wpAny_standAt (wpAny_bind (wpAny_holding (thn (hs pins s2 σ H2 x y v ov iv u _ I2 r1 r2 r q2) fun _ s3 ⟨H3,I3,q3⟩=>?_))))
 exact wpAny_release ⟨σ,H3,I3,q3⟩
noncomputable def u3 (te:TE) (g:TG):TS:=fun D σ H=>te σ H fun x H1=>g x σ H1 D.nx
theorem sV {tg e:Expr} {te:TE} {g:TG} (he:PE X e te) (hg:PG X tg g) (hs:swapsWithSole [tg] e pos.line X.env=pure false:=by rfl) (hw:swappedStores [tg] e X.env=pure none:=by rfl)
  (h1:(assignEach [tg] X.env).map (·.2)=[assign tg X.env]:=by rfl):PS X (.Assign [tg] e pos) (u3 te g):=by
 intro pins s σ H D I h
 refine wpAny_Assign_stores (thn (he pins s σ H _ I h) fun v s1 ⟨x,H1,I1,r1,q1⟩=>?_) hs hw
 rw [h1]
 exact thn (hg pins s1 σ H1 x v _ I1 r1 q1) fun _ s2 q=>q
theorem mH {i:Nat} {x:Str} {e:Expr} {te:TE} {pos':Pos} (hN:X.N.Nodup) (hi:X.N[i]?=some x) (hx:Loc X.env.scope x) (he:PE X e te) (hs:swapsWith e (some (.Name x pos')) pos.line X.env=pure false:=by rfl) (hf:X.fn x=true\/X.env.scope.names.lookup x=some .local:=by first | exact .inl rfl | exact .inr rfl | assumption) :
  PS X (.Assign [.Name x pos'] e pos) (u3 te (iW i)):=by
 intro pins s σ H D I h
 refine wpAny_Assign_Name (thn (he pins s σ H _ I h) fun v s1 ⟨y,H1,I1,r1,q1⟩=>?_) hs
 exact qU I1 hN hi hx r1 (fun s2 I2=>⟨_,H1,I2,q1⟩) hf
end
section
variable {X:Cx} {pos:Pos}
noncomputable def zy (c:TT) (tb:TS):TS:=fun D σ H=>∃ W:Nat->St->Hp->Prop,(∃ m,W m σ H)/\∀ m σ H,W m σ H ->
 c σ H fun b H1=>if b=true then ∃ N:St->Hp->Prop,(∀ σ' H',N σ' H'->∃ m',m' < m/\W m' σ' H')/\tb { D with nx:=N,ct:=N,bk:=D.nx } σ H1 else D.nx σ H1
theorem wa {c:Expr} {body:List Stmt} {tc:TT} {tb:TS} (hp:PassesOwn (model X.prog X.w) X.A X.env X.xe) (hc:PT X c tc) (hb:PSs X body tb):PS X (.While c body [] pos) (zy tc tb):=by
 intro pins s σ H D I h
 obtain ⟨W,⟨m0,w0⟩,kB⟩:=h
 refine wpAny_While (codeAny_whileLoop (fun n s'=>∃ σ' H',Inv X pins σ' H' s'/\W n σ' H') ?_ m0 ⟨σ,H,I,w0⟩)
 rintro n s1 ⟨σ1,H1,I1,w1⟩
 refine wpAny_passesOwn hp (thn (hc pins s1 σ1 H1 _ I1 (kB n σ1 H1 w1)) fun b s2 ⟨H2,I2,q2⟩=>?_)
 cases b with
 | true =>
  obtain ⟨N,hN,q2⟩:=q2
  rw [if_pos rfl]
  refine wpAny_passesOwn hp (thn (hb pins s2 σ1 H2 _ I2 q2) fun f s3 q3=>?_)
  cases f with
  | next =>
   obtain ⟨σ3,H3,I3,n3⟩:=q3
   obtain ⟨m',hm,w3⟩:=hN σ3 H3 n3
   exact ⟨m',hm,σ3,H3,I3,w3⟩
  | cont =>
   obtain ⟨σ3,H3,I3,n3⟩:=q3
   obtain ⟨m',hm,w3⟩:=hN σ3 H3 n3
   exact ⟨m',hm,σ3,H3,I3,w3⟩
  | brk=>exact q3
  | ret v=>exact q3
 | false =>
  rw [if_neg Bool.false_ne_true]
  exact wpAny_execs_nil ⟨σ1,H2,I2,q2⟩
end
structure It where
 go:Nat->Hp->Prop
 yld:Nat->Hp->V->Hp->Prop
 stop:Nat->Hp->Prop
noncomputable def oM (X:Cx) (pins:List (Addr × Obj)) (H:Hp) (b:Addr):Prop :=
 H b=none/\b ≠ X.env.locals/\b ∉ X.fs/\(b ∈ X.ex\/X.s₀.heap.objs.size<=b)/\(∀ x c,X.env.cells.lookup x=some c->c ≠ b)/\∀ p ∈ X.pn ++ pins,p.1 ≠ b
theorem Inv.fpOk {X:Cx} {pins:List (Addr × Obj)} {σ:St} {H H':Hp} {s:Shared} {b:Addr} (I:Inv X pins σ H s) (hb:s.heap.objs.size<=b) (hn:H' b=none):oM X pins H' b:=by
 refine ⟨hn,Nat.ne_of_gt (Nat.lt_of_lt_of_le I.lt hb),I.nofs hb,.inr (Nat.le_trans I.sz hb),fun x c e z=>?_,fun p hp z=>?_⟩
 ·obtain ⟨v,q⟩:=I.cell x c e
  exact absurd (Nat.lt_of_lt_of_le q.lt (by rw [z];exact hb)) (Nat.lt_irrefl _)
 ·exact absurd (Nat.lt_of_lt_of_le (Heap.lt_size (I.pin p hp).1) (by rw [z];exact hb)) (Nat.lt_irrefl _)
structure tM (P:Program) (w:World) (K:PySem.W.Frag) (tg:Expr) (J:It) (fp:List Addr) (it:Addr) (tn:Nat->Heap->Prop):Prop where
 mem:it ∈ fp
 obj:∀ i h,tn i h->∀ b ∈ fp,∃ o,h.get? b=some o/\∀ v,o.data ≠ .cell v
 keep:∀ i h h',tn i h->(∀ b ∈ fp,∀ o,h.get? b=some o->h'.get? b=some o)->tn i h'
 item:∀ (X:Cx),X.prog=P->X.w=w->X.K=K->X.calm=true->∀ (i:Nat) (pins:List (Addr × Obj)) (s:Shared) (σ:St) (H:Hp) (E:Value->Shared->Prop),Inv X pins σ H s->(∀ b ∈ fp,oM X pins H b)->tn i s.heap->J.go i H ->
  wpAny (model P w) X.A (pyNext (.ref it)) (fun r s1=>∃ u,r=some u /\
   wpAny (model P w) X.A (letOwnedTupleGo tg (.ref it) u) (fun _ s2=>∃ x H',Inv X pins σ H' s2/\RelV x u/\J.yld i H x H'/\tn (i + 1) s2.heap/\∀ b ∈ fp,H' b=none) E s1) E s
 done:∀ (X:Cx),X.prog=P->X.w=w->X.K=K->X.calm=true->∀ (i:Nat) (pins:List (Addr × Obj)) (s:Shared) (σ:St) (H:Hp) (E:Value->Shared->Prop),Inv X pins σ H s->(∀ b ∈ fp,oM X pins H b)->tn i s.heap->J.stop i H ->
  wpAny (model P w) X.A (pyNext (.ref it)) (fun r s1=>r=none/\Inv X pins σ H s1) E s
 self:∀ (A:Around) (i:Nat) (s:Shared) (Q:Value->Shared->Prop) (E:Value->Shared->Prop),tn i s.heap->Q (.ref it) s->wpAny (model P w) A (pyIter (.ref it)) Q E s
noncomputable abbrev TI:=St->Hp->(It->Hp->Prop)->Prop
noncomputable def PIE (X:Cx) (pins:List (Addr × Obj)) (σ:St) (tg:Expr) (R:It->Hp->Prop) (itv:Value) (s2:Shared):Prop :=
 ∃ (it:Addr) (fp:List Addr) (tn:Nat->Heap->Prop) (J:It) (H':Hp),itv=.ref it/\Inv X pins σ H' s2/\tM X.prog X.w X.K tg J fp it tn/\tn 0 s2.heap/\(∀ b ∈ fp,oM X pins H' b)/\R J H'
noncomputable def PI (X:Cx) (tg iter:Expr) (wi:TI):Prop :=
 ∀ (pins:List (Addr × Obj)) (s:Shared) (σ:St) (H:Hp) (R:It->Hp->Prop),Inv X pins σ H s->wi σ H R ->
  wpAny (model X.prog X.w) X.A (eval iter X.env) (fun v s1=>wpAny (model X.prog X.w) X.A (pyIter v) (PIE X pins σ tg R) X.xe s1) X.xe s
theorem wP {M : Model} {A : Around} {E : Value -> Shared -> Prop} {s : Shared} {tg : Expr} {it : Addr} {u : Value} {o : Obj} {n : String} {vs : Array Value} {Q : Unit -> Shared -> Prop} (ho : s.heap.get? it = some o) (hc : o.cls = .type n) (hd : o.data = .fields vs)
    (hn : ["enumerate", "zip", "dict_itemiterator", "dict_reverseitemiterator", "odict_iterator", "itertools.zip_longest", "itertools.pairwise"].contains n = false) (hQ : Q () s) : wpAny M A (letOwnedTupleGo tg (.ref it) u) Q E s := by
  unfold letOwnedTupleGo
  cases tg <;> first
    | exact wpAny_pure hQ
    | (cases u <;> first
        | exact wpAny_pure hQ
        | (refine wpAny_bind (wpAny_load ho ?_)
           rw [hc, hd]
           show wpAny M A (if (["enumerate", "zip", "dict_itemiterator", "dict_reverseitemiterator", "odict_iterator", "itertools.zip_longest", "itertools.pairwise"].contains n && vs[0]? == some (rawInt _)) = true then _ else _) Q E s
           rw [if_neg (by intro h; rw [hn, Bool.false_and] at h; cases h)]
           exact wpAny_pure hQ))
noncomputable def Itl (K:PySem.W.Frag) (a:Addr):It :=
 ⟨fun i H=>∃ xs x,SqL K H a xs/\xs[i]?=some x,fun i H x H'=>H'=H/\∀ xs,SqL K H a xs->xs[i]?=some x,fun i H=>∃ xs,SqL K H a xs/\xs.length<=i⟩
noncomputable def Itt (K:PySem.W.Frag) (a:Addr):It :=
 ⟨fun i H=>∃ xs x,SqT K H a xs/\xs[i]?=some x,fun i H x H'=>H'=H/\∀ xs,SqT K H a xs->xs[i]?=some x,fun i H=>∃ xs,SqT K H a xs/\xs.length<=i⟩
noncomputable def Itr (lo:Int) (n:Nat):It:=⟨fun i _=>i < n,fun i H x H'=>H'=H/\x=.int (lo + i),fun i _=>n<=i⟩
theorem oO {P:Program} {w:World} {K:PySem.W.Frag} {tg:Expr} (a it:Addr):tM P w K tg (Itl K a) [it] it (fun i h=>h.IsListIter it a i) where
 mem:=by simp
 obj:=fun i h st b hb=>by
  have e:b=it:=by simpa using hb
  subst e
  obtain ⟨o,e,c,d⟩:=st
  exact ⟨o,e,fun v z=>by rw [d] at z;cases z⟩
 keep:=fun i h h' st k=>st.at fun o e=>k it (by simp) o e
 item:=by
  intro X hP hw hK hc i pins s σ H E I hf st hg
  subst hP hw hK
  obtain ⟨xs,x,hq,hx⟩:=hg
  obtain ⟨its,rv,p,hz⟩:=I.list hq
  obtain ⟨u,hu,ru⟩:=rv.get hx
  obtain ⟨f0,f1,f2,f3,f4,f5⟩:=hf it (by simp)
  refine wpAny_pyNext_list_item st p.isList (x:=u) (by simpa using hu) fun h' st' sb=>?_
  have I1:Inv X pins σ H { s with heap:=h' }:=I.turned (t':=s.toks) (fun b o hb e=>(sb.2 b hb).trans e) f0 f1 f3 f4 f5
  obtain ⟨o,e,c,d⟩:=id st'
  exact ⟨u,rfl,wP (s:={ s with heap:=h' }) e c d (by decide) ⟨x,H,I1,ru,⟨rfl,fun ys hy=>by rw [I.list_inj hy hq];exact hx⟩,st',fun b hb=>(hf b hb).1⟩⟩
 done:=by
  intro X hP hw hK hc i pins s σ H E I hf st hg
  subst hP hw hK
  obtain ⟨xs,hq,hx⟩:=hg
  obtain ⟨its,rv,p,hz⟩:=I.list hq
  obtain ⟨f0,f1,f2,f3,f4,f5⟩:=hf it (by simp)
  have hl:=rv.length
  exact wpAny_pyNext_list_end (I.ok.hd hc) st p.isList (by simp;omega) fun h' eb=>⟨rfl,I.turned (t':=s.toks) (fun b o hb e=>eb b o hb e) f0 f1 f3 f4 f5⟩
 self:=fun _ _ _ _ _ st h=>wpAny_pyIter_listiter st h
theorem sK {P:Program} {w:World} {K:PySem.W.Frag} {tg:Expr} (a it:Addr):tM P w K tg (Itt K a) [it] it (fun i h=>h.IsTupleIter it a i) where
 mem:=by simp
 obj:=fun i h st b hb=>by
  have e:b=it:=by simpa using hb
  subst e
  obtain ⟨o,e,c,d⟩:=st
  exact ⟨o,e,fun v z=>by rw [d] at z;cases z⟩
 keep:=fun i h h' st k=>st.at fun o e=>k it (by simp) o e
 item:=by
  intro X hP hw hK hc i pins s σ H E I hf st hg
  subst hP hw hK
  obtain ⟨xs,x,hq,hx⟩:=hg
  obtain ⟨its,rv,p,hz⟩:=I.tuple hq
  obtain ⟨u,hu,ru⟩:=rv.get hx
  obtain ⟨f0,f1,f2,f3,f4,f5⟩:=hf it (by simp)
  refine wpAny_pyNext_tuple_item st (show s.heap.IsTuple a its.toArray from p) (x:=u) (by simpa using hu) fun h' st' sb=>?_
  have I1:Inv X pins σ H { s with heap:=h' }:=I.turned (t':=s.toks) (fun b o hb e=>(sb.2 b hb).trans e) f0 f1 f3 f4 f5
  obtain ⟨o,e,c,d⟩:=id st'
  exact ⟨u,rfl,wP (s:={ s with heap:=h' }) e c d (by decide) ⟨x,H,I1,ru,⟨rfl,fun ys hy=>by rw [I.tuple_inj hy hq];exact hx⟩,st',fun b hb=>(hf b hb).1⟩⟩
 done:=by
  intro X hP hw hK hc i pins s σ H E I hf st hg
  subst hP hw hK
  obtain ⟨xs,hq,hx⟩:=hg
  obtain ⟨its,rv,p,hz⟩:=I.tuple hq
  obtain ⟨f0,f1,f2,f3,f4,f5⟩:=hf it (by simp)
  have hl:=rv.length
  exact wpAny_pyNext_tuple_end (I.ok.hd hc) st (show s.heap.IsTuple a its.toArray from p) (by simp;omega) fun h' eb=>⟨rfl,I.turned (t':=s.toks) (fun b o hb e=>eb b o hb e) f0 f1 f3 f4 f5⟩
 self:=fun _ _ _ _ _ st h=>wpAny_pyIter_tupleiter st h
theorem sL {P:Program} {w:World} {K:PySem.W.Frag} {tg:Expr} (it:Addr) (lo:Int) (n:Nat):tM P w K tg (Itr lo n) [it] it (fun i h=>IsRangeIter h it (lo + (i:Nat) * 1) ((n:Int) - (i:Nat)) 1) where
 mem:=by simp
 obj:=fun i h st b hb=>by
  have e:b=it:=by simpa using hb
  subst e
  exact ⟨_,st,fun v z=>by
   have z':Data.fields _=Data.cell v:=z
   cases z'⟩
 keep:=fun i h h' st k=>k it (by simp) _ st
 item:=by
  intro X hP hw hK hc i pins s σ H E I hf st hg
  subst hP hw hK
  obtain ⟨f0,f1,f2,f3,f4,f5⟩:=hf it (by simp)
  have W:=Walks.range (prog:=X.prog) (w:=X.w) (I.ok.hd hc) it lo 1 n
  refine W.item i s _ _ hg st fun v h' tk hv st' kk=>?_
  obtain ⟨t,rfl⟩:=hv
  have I1:Inv X pins σ H { s with heap:=h',toks:=tk }:=I.turned (fun b o hb e=>kk b o (by simpa using hb) e) f0 f1 f3 f4 f5
  refine ⟨_,rfl,wP (s:={ s with heap:=h',toks:=tk }) (n:="range_iterator") st' rfl rfl (by decide) ⟨.int (lo + i),H,I1,⟨t,?_⟩,⟨rfl,rfl⟩,st',fun b hb=>(hf b hb).1⟩⟩
  rw [Int.mul_one]
 done:=by
  intro X hP hw hK hc i pins s σ H E I hf st hg
  subst hP hw hK
  obtain ⟨f0,f1,f2,f3,f4,f5⟩:=hf it (by simp)
  exact wpAny_pyNext_range_end (I.ok.hd hc) st (by have:n<=i:=hg;omega) fun h' eb=>⟨rfl,I.turned (t':=s.toks) (fun b o hb e=>eb b o hb e) f0 f1 f3 f4 f5⟩
 self:=fun _ _ _ _ _ st h=>wpAny_pyIter_rangeiter st h
end L2
namespace L2
open PySem PySem.Spec PyProof.Rows
section
variable {X:Cx} {tg:Expr}
noncomputable def BS (K:PySem.W.Frag) (tl:TE):TI:=fun σ H R=>tl σ H fun x H1=>∃ a,x=.ref a/\(∃ xs,SqL K H1 a xs)/\R (Itl K a) H1
theorem xU {l:Expr} {tl:TE} (hl:PE X l tl):PI X tg l (BS X.K tl):=by
 intro pins s σ H R I h
 refine thn (hl pins s σ H _ I h) fun v s1 ⟨x,H1,I1,r1,q1⟩=>?_
 obtain ⟨a,e,⟨xs,hq⟩,q⟩:=q1
 subst e
 cases r1
 obtain ⟨its,rv,p,hz⟩:=I1.list hq
 refine wpAny_pyIter_list p.isList ?_
 refine ⟨s1.heap.objs.size,[s1.heap.objs.size],_,_,H1,rfl,I1.kept (t':=s1.toks) fun b o e=>Heap.get?_push_of_some _ e,oO a _,⟨_,Heap.get?_push_size _ rfl,rfl,rfl⟩,fun b hb=>?_,q⟩
 have e:b=s1.heap.objs.size:=by simpa using hb
 subst e
 exact I1.fpOk (Nat.le_refl _) (I1.hok.fresh (Nat.le_refl _))
theorem v8 {pins:List (Addr × Obj)} {σ:St} {H:Hp} {s:Shared} {R:It->Hp->Prop} {E:Value->Shared->Prop} {lo hi:Int} {t u v:Tok} {tk:Nat} (I:Inv X pins σ H s) (h1:-(2 ^ 62)<=lo) (h2:lo < 2 ^ 62) (h3:-(2 ^ 62)<=hi) (h4:hi < 2 ^ 62)
  (q:R (Itr lo (hi - lo).toNat) H):wpAny (model X.prog X.w) X.A (pyIter (.ref s.heap.objs.size)) (PIE X pins σ tg R) E { s with heap:=s.heap.push { cls:=.type "range",data:=.fields #[.int lo t,.int hi u,.int 1 v] },toks:=tk }:=by
 refine wpAny_pyIter_range (IsRange.new ..) (small_one h1 h2 h3 h4) ?_
 have I1:Inv X pins σ H { s with heap:=s.heap.push { cls:=.type "range",data:=.fields #[.int lo t,.int hi u,.int 1 v] },toks:=tk }:=I.kept fun b o e=>Heap.get?_push_of_some _ e
 refine ⟨(s.heap.push { cls:=.type "range",data:=.fields #[.int lo t,.int hi u,.int 1 v] }).objs.size,[(s.heap.push { cls:=.type "range",data:=.fields #[.int lo t,.int hi u,.int 1 v] }).objs.size],_,_,H,rfl,
  I1.kept (t':=tk) fun b o e=>Heap.get?_push_of_some _ e,sL _ lo (hi - lo).toNat,?_,fun b hb=>?_,q⟩
 ·have e1:lo + ((0:Nat):Int) * 1=lo:=by simp
  have e2:(((hi - lo).toNat:Nat):Int) - ((0:Nat):Int)=Builtin.Range.rangeSize lo hi 1:=by rw [rangeSize_one];split <;> omega
  show IsRangeIter _ _ (lo + ((0:Nat):Int) * 1) ((((hi - lo).toNat:Nat):Int) - ((0:Nat):Int)) 1
  rw [e1,e2]
  exact Heap.get?_push_size _ rfl
 ·have e:b=(s.heap.push { cls:=.type "range",data:=.fields #[.int lo t,.int hi u,.int 1 v] }).objs.size:=by simpa using hb
  subst e
  exact I1.fpOk (Nat.le_refl _) (I1.hok.fresh (Nat.le_refl _))
noncomputable def BR (ta:TA):TI:=fun σ H R=>ta σ H fun vs H1=>∃ j:Int,vs=[.int j]/\-(2 ^ 62)<=j/\j < 2 ^ 62/\R (Itr 0 j.toNat) H1
theorem vg {a:Expr} {ta:TA} {p pos:Pos} (hg:Gl X "range") (hm:X.mg "range"=none) (ha:PA X [a] ta) (hs:starEach [a] X.env=[(false,eval a X.env)]:=by rfl):PI X tg (.Call (.Name "range" p) [a] [] pos) (BR ta):=by
 intro pins s σ H R I h
 refine Call_ (iU I hg hm boot_range (PyProof.Rows.callWith_type1 (thn (ha pos pins s σ H _ I h) fun us s1 ⟨vs,H1,I1,r1,q1⟩=>?_) hs rfl))
 obtain ⟨j,e,q1,q2,q⟩:=q1
 subst e
 cases r1 with
 | cons r rr =>
  cases rr
  obtain ⟨t,rfl⟩:=r
  exact call_range_1 (v8 I1 (by omega) (by omega) q1 q2 (by simpa using q))
noncomputable def Bi (wi:TI) (g:TG) (tb:TS):TS:=fun D σ H=>wi σ H fun J H1=>∃ W:Nat->Nat->St->Hp->Prop,(∃ m,W 0 m σ H1)/\∀ i m σ H,W i m σ H ->
 (J.stop i H/\D.nx σ H)\/(J.go i H/\∃ N:St->Hp->Prop,(∀ σ' H',N σ' H'->∃ m',m' < m/\W (i + 1) m' σ' H')/\∀ x H',J.yld i H x H'->g x σ H' fun σ2 H2=>tb { D with nx:=N,ct:=N,bk:=D.nx } σ2 H2)
noncomputable def d9 (fp:List Addr) (h:Heap):List (Addr × Obj):=fp.filterMap fun b=>(h.get? b).map fun o=>(b,o)
theorem gi {fp:List Addr} {h:Heap} {b:Addr} {o:Obj} (hb:b ∈ fp) (e:h.get? b=some o):(b,o) ∈ d9 fp h:=List.mem_filterMap.mpr ⟨b,hb,by rw [e];rfl⟩
theorem jm {fp:List Addr} {h:Heap} {p:Addr × Obj} (hp:p ∈ d9 fp h):p.1 ∈ fp/\h.get? p.1=some p.2:=by
 obtain ⟨b,hb,e⟩:=List.mem_filterMap.mp hp
 cases q:h.get? b with
 | none=>rw [q] at e;cases e
 | some o =>
  rw [q] at e
  have e':(b,o)=p:=Option.some.inj e
  subst e'
  exact ⟨hb,q⟩
theorem Inv.pinned {pins:List (Addr × Obj)} {σ:St} {H:Hp} {s:Shared} {fp:List Addr} (I:Inv X pins σ H s) (hf:∀ b ∈ fp,oM X pins H b) (ho:∀ b ∈ fp,∃ o,s.heap.get? b=some o/\∀ v,o.data ≠ .cell v):Inv X (pins ++ d9 fp s.heap) σ H s :=
 I.pins_of fun p hp=>(List.mem_append.mp hp).elim (fun z=>I.pin p (List.mem_append_right _ z)) fun z=>by
  obtain ⟨hb,e⟩:=jm z
  obtain ⟨f0,f1,f2,_⟩:=hf p.1 hb
  obtain ⟨o,e',d⟩:=ho p.1 hb
  rw [e] at e';cases e'
  exact ⟨e,f0,f1,f2,d⟩
theorem Inv.unpinned {pins pl:List (Addr × Obj)} {σ:St} {H:Hp} {s:Shared} (I:Inv X (pins ++ pl) σ H s):Inv X pins σ H s:=I.pins_of fun p hp=>I.pin p (List.mem_append_right _ (List.mem_append_left _ hp))
theorem we {iter:Expr} {body:List Stmt} {wi:TI} {g:TG} {tb:TS} {pos:Pos} (hp:PassesOwn (model X.prog X.w) X.A X.env X.xe) (hc:X.calm=true) (hi:PI X tg iter wi) (hg:PG X tg g) (hb:PSs X body tb)
  (hs:∀ x,foldedSetIterable iter X.env x=pure x:=by intro _;rfl):PS X (.For tg iter body [] pos) (Bi wi g tb):=by
 intro pins s σ H D I h
 refine wpAny_For (thn (hi pins s σ H _ I h) fun v s1 h1=>thn h1 fun itv s2 h2=>?_) hs
 obtain ⟨it,fp,tn,J,H2,e,I2,T,st2,f2,W,⟨m0,w0⟩,kB⟩:=h2
 subst e
 have stat:∀ {H':Hp},(∀ b ∈ fp,H' b=none)->∀ b ∈ fp,oM X pins H' b:=fun hn b hb=>⟨hn b hb,(f2 b hb).2⟩
 refine codeAny_forLoop_any (fun n s'=>∃ i σ' H',Inv X pins σ' H' s'/\tn i s'.heap/\(∀ b ∈ fp,H' b=none)/\W i n σ' H') ?_ m0 ⟨0,σ,H2,I2,st2,fun b hb=>(f2 b hb).1,w0⟩
 rintro n s3 ⟨i,σ3,H3,I3,st3,fr3,w3⟩
 rcases kB i n σ3 H3 w3 with ⟨stop,qn⟩ | ⟨go,N,hN,step⟩
 ·refine wpAny_passesOwn hp (thn (T.done X rfl rfl rfl hc i pins s3 σ3 H3 X.xe I3 (stat fr3) st3 stop) fun r s4 ⟨hr,I4⟩=>?_)
  subst hr
  exact wpAny_execs_nil ⟨σ3,H3,I4,qn⟩
 ·refine wpAny_passesOwn hp (thn (T.item X rfl rfl rfl hc i pins s3 σ3 H3 X.xe I3 (stat fr3) st3 go) fun r s4 ⟨u,hr,h4⟩=>?_)
  subst hr
  refine wpAny_passesOwn hp (thn h4 fun _ s5 ⟨x,H5,I5,r5,y5,st5,fr5⟩=>?_)
  have I5':=I5.pinned (stat fr5) (T.obj _ _ st5)
  refine wpAny_passesOwn hp (thn (hg _ s5 σ3 H5 x u _ I5' r5 (step x H5 y5)) fun _ s6 ⟨σ6,H6,I6,q6⟩=>?_)
  refine wpAny_passesOwn hp (thn (hb _ s6 σ6 H6 _ I6 q6) fun f s7 q7=>?_)
  have again:∀ {σ7:St} {H7:Hp},Inv X (pins ++ d9 fp s5.heap) σ7 H7 s7->N σ7 H7->∃ m,m < n/\∃ i σ' H',Inv X pins σ' H' s7/\tn i s7.heap/\(∀ b ∈ fp,H' b=none)/\W i m σ' H':=fun {σ7 H7} I7 n7=>by
   obtain ⟨m',hm,w7⟩:=hN σ7 H7 n7
   refine ⟨m',hm,i + 1,σ7,H7,I7.unpinned,T.keep _ _ _ st5 fun b hb o e=>(I7.pin (b,o) (List.mem_append_right _ (List.mem_append_right _ (gi hb e)))).1,fun b hb=>?_,w7⟩
   obtain ⟨o,e,d⟩:=T.obj _ _ st5 b hb
   exact (I7.pin (b,o) (List.mem_append_right _ (List.mem_append_right _ (gi hb e)))).2.1
  cases f with
  | next=>obtain ⟨σ7,H7,I7,n7⟩:=q7;exact again I7 n7
  | cont=>obtain ⟨σ7,H7,I7,n7⟩:=q7;exact again I7 n7
  | brk=>obtain ⟨σ7,H7,I7,q7⟩:=q7;exact ⟨σ7,H7,I7.unpinned,q7⟩
  | ret v=>obtain ⟨x7,σ7,H7,I7,r7,q7⟩:=q7;exact ⟨x7,σ7,H7,I7.unpinned,r7,q7⟩
end
theorem wR {K:PySem.W.Frag} {a:Addr} {xs:List V} {g:TG} {tb:TS} {D:ky} {σ:St} {H:Hp} (Pv:Nat->St->Hp->Prop) (h0:Pv 0 σ H) (hl:∀ i σ H,i<=xs.length->Pv i σ H->SqL K H a xs)
  (hs:∀ i x σ H,xs[i]?=some x->Pv i σ H->g x σ H fun σ2 H2=>tb { D with nx:=Pv (i + 1),ct:=Pv (i + 1),bk:=D.nx } σ2 H2) (hd:∀ σ H,Pv xs.length σ H->D.nx σ H) :
  ∃ W:Nat->Nat->St->Hp->Prop,(∃ m,W 0 m σ H)/\∀ i m σ H,W i m σ H ->
   ((Itl K a).stop i H/\D.nx σ H)\/((Itl K a).go i H/\∃ N:St->Hp->Prop,(∀ σ' H',N σ' H'->∃ m',m' < m/\W (i + 1) m' σ' H')/\∀ x H',(Itl K a).yld i H x H'->g x σ H' fun σ2 H2=>tb { D with nx:=N,ct:=N,bk:=D.nx } σ2 H2):=by
 refine ⟨fun i m σ H=>m=xs.length - i/\i<=xs.length/\Pv i σ H,⟨xs.length,by simp,Nat.zero_le _,h0⟩,?_⟩
 rintro i m σ H ⟨rfl,hi,p⟩
 have q:=hl i σ H hi p
 by_cases hlt:i < xs.length
 ·refine .inr ⟨⟨xs,xs[i],q,by simp [hlt]⟩,Pv (i + 1),fun σ' H' p'=>⟨xs.length - (i + 1),by omega,rfl,hlt,p'⟩,fun x H' y=>?_⟩
  obtain ⟨e,y⟩:=y
  subst e
  exact hs i x σ _ (y xs q) p
 ·have e:i=xs.length:=by omega
  subst e
  exact .inl ⟨⟨xs,q,Nat.le_refl _⟩,hd σ H p⟩
end L2
namespace L2
open PySem PySem.Spec PyProof.Rows
noncomputable abbrev R2:=V->V->Hp->VK->Prop
noncomputable def OpR (X:Cx) (f:Value->Value->Sem Value) (r:R2):Prop :=
 ∀ (pins:List (Addr × Obj)) (s:Shared) (σ:St) (H:Hp) (x y:V) (v u:Value) (Q:VK),Inv X pins σ H s->RelV x v->RelV y u->r x y H Q ->
  wpAny (model X.prog X.w) X.A (f v u) (EP X pins σ Q) X.xe s
noncomputable def UnR (X:Cx) (f:Value->Sem Value) (r:V->Hp->VK->Prop):Prop :=
 ∀ (pins:List (Addr × Obj)) (s:Shared) (σ:St) (H:Hp) (x:V) (v:Value) (Q:VK),Inv X pins σ H s->RelV x v->r x H Q ->
  wpAny (model X.prog X.w) X.A (f v) (EP X pins σ Q) X.xe s
noncomputable def jB (X:Cx) (f:Value) (r:List V->Hp->VK->Prop):Prop :=
 ∀ (pins:List (Addr × Obj)) (s:Shared) (σ:St) (H:Hp) (xs:List V) (us:List Value) (Q:VK),Inv X pins σ H s->Vals xs us->r xs H Q ->
  wpAny (model X.prog X.w) X.A (call f us) (EP X pins σ Q) X.xe s
noncomputable def tOp (r:R2) (ta tb:TE):TE:=fun σ H Q=>ta σ H fun x H1=>tb σ H1 fun y H2=>r x y H2 Q
noncomputable def tUn (r:V->Hp->VK->Prop) (ta:TE):TE:=fun σ H Q=>ta σ H fun x H1=>r x H1 Q
noncomputable def rI (C:Int->Int->Prop) (g:Int->Int->V):R2:=fun x y H Q=>∃ i j,x=.int i/\y=.int j/\C i j/\Q (g i j) H
noncomputable def rI0 (g:Int->Int->V):R2:=fun x y H Q=>∃ i j,x=.int i/\y=.int j/\Q (g i j) H
noncomputable def rU (g:Int->V):V->Hp->VK->Prop:=fun x H Q=>∃ i,x=.int i/\Q (g i) H
section
variable {X:Cx} {a b c:Expr} {ta tb tc:TE} {pos:Pos}
theorem AY (ha:PE X a ta) (hb:PE X b tb) {pins:List (Addr × Obj)} {s:Shared} {σ:St} {H:Hp} {R:V->V->Hp->Prop} (I:Inv X pins σ H s)
  (h:ta σ H fun x H1=>tb σ H1 fun y H2=>R x y H2) {Q:Value->Shared->Prop} {f:Value->Value->Sem Value}
  (hf:∀ v u s2 x y H2,Inv X pins σ H2 s2->RelV x v->RelV y u->R x y H2->wpAny (model X.prog X.w) X.A (f v u) Q X.xe s2) :
  wpAny (model X.prog X.w) X.A (eval a X.env) (fun v s₁=>wpAny (model X.prog X.w) X.A (eval b X.env) (fun u s₂=>wpAny (model X.prog X.w) X.A (f v u) Q X.xe s₂) X.xe s₁) X.xe s:=by
 refine thn (ha pins s σ H _ I h) fun v s1 ⟨x,H1,I1,r1,q1⟩=>?_
 refine thn (hb pins s1 σ H1 _ I1 q1) fun u s2 ⟨y,H2,I2,r2,q2⟩=>?_
 exact hf v u s2 x y H2 I2 r1 r2 q2
theorem BH {op:Operator} {r:R2} (ho:OpR X (binaryOp op) r) (ha:PE X a ta) (hb:PE X b tb):PE X (.BinOp a op b pos) (tOp r ta tb):=by
 intro pins s σ H Q I h
 exact wpAny_BinOp (AY ha hb I h fun v u s2 x y H2 I2 rx ry q=>ho pins s2 σ H2 x y v u Q I2 rx ry q)
theorem BG {op:UnaryOp} {r:V->Hp->VK->Prop} (ho:UnR X (unaryOp op) r) (ha:PE X a ta):PE X (.UnaryOp op a pos) (tUn r ta):=by
 intro pins s σ H Q I h
 exact UnaryOp_ (thn (ha pins s σ H _ I h) fun v s1 ⟨x,H1,I1,r1,q1⟩=>ho pins s1 σ H1 x v Q I1 r1 q1)
theorem opI {f:Value->Value->Sem Value} {C:Int->Int->Prop} {g:Int->Int->Int}
  (rule:∀ (i j:Int) (t u:Tok) (s:Shared) (Q:Value->Shared->Prop) (E:Value->Shared->Prop),C i j->Q (.int (g i j) s.toks) { s with toks:=s.toks + 1 }->wpAny (model X.prog X.w) X.A (f (.int i t) (.int j u)) Q E s) :
  OpR X f (rI C fun i j=>.int (g i j)):=by
 intro pins s σ H x y v u Q I rx ry h
 obtain ⟨i,j,rfl,rfl,hc,q⟩:=h
 obtain ⟨t,rfl⟩:=rx
 obtain ⟨t',rfl⟩:=ry
 exact rule i j t t' s _ _ hc ⟨.int (g i j),H,I.tok _,⟨_,rfl⟩,q⟩
theorem Cy {f:Value->Value->Sem Value} {g:Int->Int->Int}
  (rule:∀ (i j:Int) (t u:Tok) (s:Shared) (Q:Value->Shared->Prop) (E:Value->Shared->Prop),Q (.int (g i j) s.toks) { s with toks:=s.toks + 1 }->wpAny (model X.prog X.w) X.A (f (.int i t) (.int j u)) Q E s) :
  OpR X f (rI0 fun i j=>.int (g i j)):=by
 intro pins s σ H x y v u Q I rx ry h
 obtain ⟨i,j,rfl,rfl,q⟩:=h
 obtain ⟨t,rfl⟩:=rx
 obtain ⟨t',rfl⟩:=ry
 exact rule i j t t' s _ _ ⟨.int (g i j),H,I.tok _,⟨_,rfl⟩,q⟩
theorem Am {f:Value->Value->Sem Value} {g:Int->Int->Bool}
  (rule:∀ (i j:Int) (t u:Tok) (s:Shared) (Q:Value->Shared->Prop) (E:Value->Shared->Prop),Q (.bool (g i j)) s->wpAny (model X.prog X.w) X.A (f (.int i t) (.int j u)) Q E s) :
  OpR X f (rI0 fun i j=>.bl (g i j)):=by
 intro pins s σ H x y v u Q I rx ry h
 obtain ⟨i,j,rfl,rfl,q⟩:=h
 obtain ⟨t,rfl⟩:=rx
 obtain ⟨t',rfl⟩:=ry
 exact rule i j t t' s _ _ ⟨.bl (g i j),H,I,rfl,q⟩
noncomputable def B_ (i j:Int):Prop:=0 < j/\j < 1073741824
noncomputable def CMul (i j:Int):Prop:=(-(2 ^ 64) < i/\i < 2 ^ 64)\/(-(2 ^ 64) < j/\j < 2 ^ 64)
theorem CMul.ok {i j:Int} (h:CMul i j):IntMulOk i j:=by
 rcases h with ⟨h1,h2⟩ | ⟨h1,h2⟩
 ·exact .of_left (intBits_le_64 h1 h2)
 ·exact .of_right (intBits_le_64 h1 h2)
theorem op_add:OpR X (binaryOp .Add) (rI0 fun i j=>.int (i + j)):=Cy fun _ _ _ _ _ _ _ q=>add_int q
theorem Aj:OpR X (binaryOp .Mult) (rI CMul fun i j=>.int (i * j)):=opI fun _ _ _ _ _ _ _ hc q=>mul_int q hc.ok
theorem ye:OpR X (binaryOp .FloorDiv) (rI B_ fun i j=>.int (i / j)):=opI fun i j _ _ _ _ _ hc q=>by
 have h1:(0:Int) < j:=hc.1
 have h2:j < 1073741824:=hc.2
 exact floordiv_int (by omega) (by rw [Int.fdiv_eq_ediv_of_nonneg i (by omega)];exact q) (.inl (PyProof.noPylong_small (by omega)))
theorem Ak:OpR X (binaryOp .Mod) (rI (fun _ j=>0 < j) fun i j=>.int (i % j)):=opI fun i j _ _ _ _ _ hc q=>by
 have h1:(0:Int) < j:=hc
 exact mod_int' (by omega) (by rw [Int.fmod_eq_emod_of_nonneg i (by omega)];exact q)
theorem unI {f:Value->Sem Value} {g:Int->Int}
  (rule:∀ (i:Int) (t:Tok) (s:Shared) (Q:Value->Shared->Prop) (E:Value->Shared->Prop),Q (.int (g i) s.toks) { s with toks:=s.toks + 1 }->wpAny (model X.prog X.w) X.A (f (.int i t)) Q E s) :
  UnR X f (rU fun i=>.int (g i)):=by
 intro pins s σ H x v Q I rx h
 obtain ⟨i,rfl,q⟩:=h
 obtain ⟨t,rfl⟩:=rx
 exact rule i t s _ _ ⟨.int (g i),H,I.tok _,⟨_,rfl⟩,q⟩
theorem zv:UnR X (unaryOp .USub) (rU fun i=>.int (-i)):=unI fun _ _ _ _ _ q=>neg_int q
end
section
variable {X:Cx} {a b c:Expr} {ta tb tc:TE} {pos:Pos}
theorem zi:OpR X (compareOp .Lt) (rI0 fun i j=>.bl (decide (i < j))):=Am fun _ _ _ _ _ _ _ q=>lt_int q
theorem oU:OpR X (compareOp .LtE) (rI0 fun i j=>.bl (decide (i<=j))):=Am fun _ _ _ _ _ _ _ q=>le_int q
theorem BI:OpR X (compareOp .Gt) (rI0 fun i j=>.bl (decide (j < i))):=Am fun _ _ _ _ _ _ _ q=>gt_int q
theorem OpR.or {f:Value->Value->Sem Value} {r r':R2} (h:OpR X f r) (h':OpR X f r'):OpR X f (fun x y H Q=>r x y H Q\/r' x y H Q):=by
 intro pins s σ H x y v u Q I rx ry q
 rcases q with q | q
 ·exact h pins s σ H x y v u Q I rx ry q
 ·exact h' pins s σ H x y v u Q I rx ry q
theorem kG (b:Expr) {op:CmpOp} (h:op ≠ .In:=by decide) (h2:op ≠ .NotIn:=by decide):behindInMarks op b=false:=by
 have e1:(op == CmpOp.In)=false:=by cases op <;> first | rfl | exact absurd rfl h
 have e2:(op == CmpOp.NotIn)=false:=by cases op <;> first | rfl | exact absurd rfl h2
 cases b <;> simp [behindInMarks,e1,e2]
theorem xZ {op:CmpOp} {r:R2} (ho:OpR X (compareOp op) r) (ha:PE X a ta) (hb:PE X b tb) (hm:behindInMarks op b=false):PE X (.Compare a [op] [b] pos) (tOp r ta tb):=by
 intro pins s σ H Q I h
 exact wpAny_Compare1 (AY ha hb I h fun v u s2 x y H2 I2 rx ry q=>ho pins s2 σ H2 x y v u Q I2 rx ry q) hm
noncomputable def zd (t:TE):TT:=fun σ H Q=>t σ H fun x H'=>∃ k,x=.bl k/\Q k H'
theorem t6 {op:CmpOp} {r:R2} (ho:OpR X (compareOp op) r) (ha:PE X a ta) (hb:PE X b tb) (hm:behindInMarks op b=false):PT X (.Compare a [op] [b] pos) (zd (tOp r ta tb)):=by
 intro pins s σ H Q I h
 refine wpAny_isTrue_Compare1 (thn (ha pins s σ H _ I h) fun v s1 ⟨x,H1,I1,r1,q1⟩=>thn (hb pins s1 σ H1 _ I1 q1) fun u s2 ⟨y,H2,I2,r2,q2⟩ =>
  thn (ho pins s2 σ H2 x y v u _ I2 r1 r2 q2) fun c s3 ⟨z,H3,I3,r3,k,e,q3⟩=>?_) hm
 subst e
 cases r3
 exact wpAny_truthy_bool ⟨H3,I3,q3⟩
noncomputable def sO (r r':R2) (ta tb tc:TE):TE:=fun σ H Q=>ta σ H fun x H1=>tb σ H1 fun y H2=>r x y H2 fun z H3=>∃ k,z=.bl k /\
 (if k=true then tc σ H3 fun w' H4=>r' y w' H4 Q else Q (.bl false) H3)
theorem wu {op op':CmpOp} {r r':R2} (ho:OpR X (compareOp op) r) (ho':OpR X (compareOp op') r') (ha:PE X a ta) (hb:PE X b tb) (hc:PE X c tc)
  (hm:lastMarks [op,op'] [b,c]=false:=by with_unfolding_all rfl):PE X (.Compare a [op,op'] [b,c] pos) (sO r r' ta tb tc):=by
 intro pins s σ H Q I h
 refine Compare_chain (thn (ha pins s σ H _ I h) fun v s1 ⟨x,H1,I1,r1,q1⟩=>chain_link (thn (hb pins s1 σ H1 _ I1 q1) fun u s2 ⟨y,H2,I2,r2,q2⟩ =>
  thn (ho pins s2 σ H2 x y v u _ I2 r1 r2 q2) fun d s3 ⟨z,H3,I3,r3,k,e,q3⟩=>?_)) hm
 subst e
 cases r3
 refine wpAny_truthy_bool ?_
 cases k with
 | false=>exact ite_ff ⟨.bl false,H3,I3,rfl,q3⟩
 | true=>exact ite_tt (chain_last (thn (hc pins s3 σ H3 _ I3 q3) fun w' s4 ⟨z',H4,I4,r4,q4⟩=>ho' pins s4 σ H4 y z' u w' Q I4 r2 r4 q4))
theorem v_ {op op':CmpOp} {r r':R2} (ho:OpR X (compareOp op) r) (ho':OpR X (compareOp op') r') (ha:PE X a ta) (hb:PE X b tb) (hc:PE X c tc)
  (hm:lastMarks [op,op'] [b,c]=false:=by with_unfolding_all rfl):PT X (.Compare a [op,op'] [b,c] pos) (zd (sO r r' ta tb tc)):=by
 intro pins s σ H Q I h
 refine isTrue_chain (thn (ha pins s σ H _ I h) fun v s1 ⟨x,H1,I1,r1,q1⟩=>test_link (thn (hb pins s1 σ H1 _ I1 q1) fun u s2 ⟨y,H2,I2,r2,q2⟩ =>
  thn (ho pins s2 σ H2 x y v u _ I2 r1 r2 q2) fun d s3 ⟨z,H3,I3,r3,k,e,q3⟩=>?_)) hm
 subst e
 cases r3
 refine wpAny_truthy_bool ?_
 cases k with
 | false =>
  obtain ⟨k',e',q'⟩:=q3
  cases e'
  exact ite_ff ⟨H3,I3,q'⟩
 | true =>
  refine ite_tt (test_last (thn (hc pins s3 σ H3 _ I3 q3) fun w' s4 ⟨z',H4,I4,r4,q4⟩=>thn (ho' pins s4 σ H4 y z' u w' _ I4 r2 r4 q4) fun d' s5 ⟨z2,H5,I5,r5,k2,e2,q5⟩=>?_))
  subst e2
  cases r5
  exact wpAny_truthy_bool ⟨H5,I5,q5⟩
theorem qb:(sizeLine:Nat) < 2 ^ 63:=by rw [sizeLine_eq];decide
theorem mq {x:V} {us:List Value} (r:Vals [x] us):∃ u,us=[u]/\RelV x u:=by
 cases r with
 | cons r1 r2=>cases r2;exact ⟨_,rfl,r1⟩
theorem Be {x y:V} {us:List Value} (r:Vals [x,y] us):∃ u w',us=[u,w']/\RelV x u/\RelV y w':=by
 cases r with
 | cons r1 r2 =>
  cases r2 with
  | cons r3 r4=>cases r4;exact ⟨_,_,rfl,r1,r3⟩
theorem o8 (hc:X.calm=true):jB X (.builtin "max") (fun xs H Q=>∃ i j,xs=[.int i,.int j]/\Q (.int (if j > i then j else i)) H):=by
 intro pins s σ H xs us Q I r h
 obtain ⟨i,j,rfl,q⟩:=h
 obtain ⟨u,w',rfl,⟨t,rfl⟩,⟨t',rfl⟩⟩:=Be r
 refine max_two_ints (I.ok.hd hc) fun h' tk k=>⟨_,H,I.kept k,?_,q⟩
 by_cases hj:j > i
 ·rw [if_pos hj,if_pos hj];exact ⟨_,rfl⟩
 ·rw [if_neg hj,if_neg hj];exact ⟨_,rfl⟩
end
end L2
namespace L2
open PySem PySem.Spec PyProof.Rows
structure ObjM (h:Heap) (x dx C:Addr) (mA:Str->Option Value):Prop where
 obj:h.get? x=some (PySem.W.instObj C dx)
 ns:h.Ns1 dx mA
 ne:dx ≠ x
theorem vp {h:Heap} {dx:Addr} {mA:Str->Option Value} (n:h.Ns1 dx mA):∃ od,h.get? dx=some od/\∀ name,PySem.W.lookIn name od=some (mA name):=by
 obtain ⟨o,es,ep,ho,hd,hk,_,hm⟩:=n
 refine ⟨o,ho,fun name=>?_⟩
 have e:=hm name
 unfold nsFind findBy at e
 rw [<- Array.find?_toList] at e
 unfold PySem.W.lookIn
 rw [hd]
 dsimp only
 split
 ·rename_i y q
  rw [q] at e
  exact congrArg some e
 ·rename_i q
  rw [q] at e
  have a:es.toList.any (·.refKey)=false:=by
   rw [List.any_eq_false]
   intro y hy
   obtain ⟨z,t,hkey⟩:=hk y (Array.mem_toList_iff.mp hy)
   simp [DictEntry.refKey,hkey]
  have a':¬ es.toList.any (·.refKey)=true:=by rw [a];exact Bool.false_ne_true
  rw [if_neg a']
  exact congrArg some e
theorem ObjM.look {h:Heap} {x dx C:Addr} {mA:Str->Option Value} (I:ObjM h x dx C mA):∃ od,PySem.W.InstAt h x (PySem.W.instObj C dx) C (some od)/\∀ name,PySem.W.lookIn name od=some (mA name) :=
 let ⟨od,ho,hl⟩:=vp I.ns
 ⟨od,⟨I.obj,rfl,rfl,ho⟩,hl⟩
section
variable {prog:Program} {w:World} {A:Around} {E:Value->Shared->Prop} {s:Shared} {K:PySem.W.Frag} {x dx C f:Addr} {mA:Str->Option Value} {name:Str} {v:Value}
theorem yw {expr:Bool} {Q:Value->Shared->Prop} (X:K.In s.heap) (I:ObjM s.heap x dx C mA) (hg:PySem.W.plainGet K C name=true) (hh:PySem.W.hasDictIn K C=true)
  (ha:PySem.W.findIn K (.ref C) name=some none) (hv:mA name=some v) (hv':PySem.W.handedIn v=true) (h:Q v { s with toks:=s.toks + 1 }) :
  wpAny (model prog w) A (getAttr (.ref x) name expr) Q E s:=by
 obtain ⟨od,J,hl⟩:=I.look
 exact PySem.W.get_value X J (PySem.W.plainGet_of hg).1 (PySem.W.findObj_own hh ha rfl (by rw [hl,hv])) hv' h
theorem xH {ns:List Str} {Q:Unit->Shared->Prop} (X:K.In s.heap) (I:ObjM s.heap x dx C mA)
  (hs:PySem.W.findIn K (.ref C) "__setattr__"=some (some (.builtin "object.__setattr__"))) (hp:PySem.W.plainOver K C=true) (ht:PySem.W.takerIn K C name=some none) (hh:PySem.W.hasDictIn K C=true)
  (hw:PySem.Within mA ns) (hsz:ns.length<=sizeLine)
  (h:∀ h',ObjM h' x dx C (fun y=>if y=name then some v else mA y)->Heap.SameBut dx s.heap h'->Q () { s with heap:=h',toks:=s.toks + 2 }) :
  wpAny (model prog w) A (setAttr (.ref x) name v) Q E s:=by
 obtain ⟨od,J,hl⟩:=I.look
 refine PySem.W.set_plain X J hs (PySem.W.osa_open (s:={ s with toks:=s.toks + 1 }) (r:=none) X J hp ht fun b=>?_)
 obtain ⟨cd,hc,hd'⟩:=PySem.W.any_some hh
 have hx:s.heap.get? x=some ⟨.ref C,some dx,.plain,#[]⟩:=I.obj
 refine wpAny_bind (wpAny_pure (wpAny_bind (wpAny_bind (wpAny_loadPart hx (wpAny_bind (PySem.W.Looks.here (s:={ s with toks:=s.toks + 1 }) (PySem.W.looks_clsIn X hc) ?_))))))
 rw [hd']
 refine wpAny_pure (a:=some dx) (wpAny_bind (wpAny_pure (wpAny_bind ?_)))
 refine wpAny_nsSet1 (s:={ s with toks:=s.toks + 1 }) I.ns fun h' hn2 hs2=>?_
 obtain ⟨oD,esD,epD,hoD,hdD,hcD⟩:=hn2.count (PySem.Within.cons name v hw)
 refine wpAny_bind (wpAny_lookBehind hoD (by rw [hdD];exact pastItsLine_dict (Nat.le_trans hcD (by rw [List.length_cons];omega))) ?_)
 exact wpAny_pure (h _ ⟨(hs2.2 _ (Ne.symm I.ne)).trans I.obj,hn2,I.ne⟩ hs2)
theorem wD {R:Result->Shared->Prop} {vs:List Value} {kw:List (Str × Value)} (X:K.In s.heap) (hm:PySem.W.makesIn K C=true)
  (hi:PySem.W.findIn K (.ref C) "__init__"=some (some (.ref f))) (hf:PySem.W.typeIn K (.ref f)=some (.type "function"))
  (h:codeAny (model prog w) (A.under (.builtin "type.__call__" ⟨.ref C :: vs,kw⟩)) (.call (.ref f) ⟨.ref (s.heap.objs.size + 1) :: vs,kw⟩) (PySem.W.InitBack (s.heap.objs.size + 1) R)
   {s with heap:=(s.heap.push PySem.W.emptyDict).push (PySem.W.instObj C s.heap.objs.size) }) :
  codeAny (model prog w) A (.call (.ref C) ⟨vs,kw⟩) R s:=by
 obtain ⟨hh,g,d,t,os⟩:=s
 exact PySem.W.make_core (PySem.W.makes_of X hm) (PySem.W.looks_findIn X hi) (fun self=>PySem.W.bind_fn X self hf) (.inl rfl) h
end
noncomputable def hJ (f:Str) (v:V):List (Str × V)->List (Str × V)
 | []=>[(f,v)]
 | (g,x) :: r=>if g=f then (g,v) :: r else (g,x) :: hJ f v r
theorem lf (f g:Str) (v:V):∀ fs:List (Str × V),(hJ f v fs).lookup g=if g=f then some v else fs.lookup g
 | []=>by
  show List.lookup g [(f,v)]=_
  by_cases h:g=f
  ·have hb:(g == f)=true:=beq_iff_eq.mpr h
   simp only [List.lookup,hb,if_pos h]
  ·have hb:(g == f)=false:=beq_eq_false_iff_ne.mpr h
   simp only [List.lookup,hb,if_neg h]
 | (k,x) :: r=>by
  have ih:=lf f g v r
  rw [show hJ f v ((k,x) :: r)=(if k=f then (k,v) :: r else (k,x) :: hJ f v r) from rfl]
  by_cases hk:k=f
  ·rw [if_pos hk]
   by_cases h:g=k
   ·have hb:(g == k)=true:=beq_iff_eq.mpr h
    simp only [List.lookup,hb,if_pos (h.trans hk)]
   ·have hb:(g == k)=false:=beq_eq_false_iff_ne.mpr h
    simp only [List.lookup,hb,if_neg (fun e:g=f=>h (e.trans hk.symm))]
  ·rw [if_neg hk]
   by_cases h:g=k
   ·have hb:(g == k)=true:=beq_iff_eq.mpr h
    simp only [List.lookup,hb,if_neg (fun e:g=f=>hk (h.symm.trans e))]
   ·have hb:(g == k)=false:=beq_eq_false_iff_ne.mpr h
    simp only [List.lookup,hb]
    exact ih
theorem kM (f:Str) (v:V):∀ fs:List (Str × V),f ∈ (hJ f v fs).map (·.1)/\∀ g,g ∈ fs.map (·.1)->g ∈ (hJ f v fs).map (·.1)
 | []=>⟨by simp [hJ],fun g h=>by simp at h⟩
 | (k,x) :: r=>by
  obtain ⟨i1,i2⟩:=kM f v r
  rw [show hJ f v ((k,x) :: r)=(if k=f then (k,v) :: r else (k,x) :: hJ f v r) from rfl]
  by_cases hk:k=f
  ·rw [if_pos hk]
   subst hk
   exact ⟨by simp,fun g h=>by simpa using h⟩
  ·rw [if_neg hk]
   refine ⟨?_,fun g h=>?_⟩
   ·rw [List.map_cons]
    exact List.mem_cons_of_mem _ i1
   ·rw [List.map_cons] at h ⊢
    rcases List.mem_cons.mp h with e | e
    ·exact List.mem_cons.mpr (.inl e)
    ·exact List.mem_cons_of_mem _ (i2 g e)
theorem lg (f:Str) (v:V):∀ fs:List (Str × V),(hJ f v fs).length<=fs.length + 1
 | []=>by simp [hJ]
 | (k,x) :: r=>by
  have ih:=lg f v r
  rw [show hJ f v ((k,x) :: r)=(if k=f then (k,v) :: r else (k,x) :: hJ f v r) from rfl]
  by_cases hk:k=f
  ·rw [if_pos hk,List.length_cons,List.length_cons];omega
  ·rw [if_neg hk,List.length_cons,List.length_cons];omega
theorem RelO.some_of {v:V} {o:Option Value} (r:RelO (some v) o):∃ u,o=some u/\RelV v u:=by
 cases o with
 | none=>exact (show False from r).elim
 | some u=>exact ⟨u,rfl,r⟩
theorem vw {v:V} {u:Value} (r:RelV v u):PySem.W.handedIn u=true:=by
 cases v with
 | non=>cases (show u=Value.none from r);rfl
 | bl b=>cases (show u=Value.bool b from r);rfl
 | int i=>obtain ⟨t,e⟩:=(show ∃ t,u=Value.int i t from r);cases e;rfl
 | str x=>obtain ⟨t,e⟩:=(show ∃ t,u=Value.str x t from r);cases e;rfl
 | byt b=>obtain ⟨t,e⟩:=(show ∃ t,u=Value.bytes b t from r);cases e;rfl
 | flt b=>obtain ⟨t,e⟩:=(show ∃ t,u=Value.float b t from r);cases e;rfl
 | ref a=>cases (show u=Value.ref a from r);rfl
 | ty n=>cases (show u=Value.type n from r);rfl
section
variable {P:Program} {w:World} {H H':Hp} {h h':Heap} {a C dx:Addr} {fs fs':List (Str × V)}
theorem qh (hok:HOk P w H h) (e:H a=some (.ins C dx fs)):∃ mA,ObjM h a dx C mA/\(∀ f,RelO (fs.lookup f) (mA f))/\PySem.Within mA (fs.map (·.1))/\fs.length<=1000/\H dx=some (.own a):=by
 obtain ⟨d,z,ne,ob,mA,n,r,q⟩:=(show ObjOk P w H h a (.ins C dx fs) from hok a _ e)
 exact ⟨mA,⟨ob,n,ne⟩,r,q,z,d⟩
end
structure Cls (K:PySem.W.Frag) (C:Addr):Prop where
 pg:PySem.W.plainGet K C Str.empty=true
 hd:PySem.W.hasDictIn K C=true
 po:PySem.W.plainOver K C=true
 sa:PySem.W.findIn K (.ref C) "__setattr__"=some (some (.builtin "object.__setattr__"))
theorem Cls.get {K:PySem.W.Frag} {C:Addr} (c:Cls K C) (f:Str):PySem.W.plainGet K C f=true:=c.pg
noncomputable def NoAttr (K:PySem.W.Frag) (C:Addr) (f:Str):Prop:=PySem.W.findIn K (.ref C) f=some none
theorem NoAttr.taker {K:PySem.W.Frag} {C:Addr} {f:Str} (n:NoAttr K C f):PySem.W.takerIn K C f=some none:=by
 unfold PySem.W.takerIn
 rw [show PySem.W.findIn K (.ref C) f=some none from n]
 rfl
section
variable {X:Cx} {pins:List (Addr × Obj)} {σ:St} {H:Hp} {s:Shared} {a C dx:Addr} {fs:List (Str × V)} {f:Str} {v:V} {A:Around} {E:Value->Shared->Prop}
theorem tt {b:Bool} {Q:Value->Shared->Prop} (I:Inv X pins σ H s) (e:H a=some (.ins C dx fs)) (c:Cls X.K C) (n:NoAttr X.K C f) (l:fs.lookup f=some v)
  (h:∀ u s',Inv X pins σ H s'->RelV v u->Q u s'):wpAny (model X.prog X.w) A (getAttr (.ref a) f b) Q E s:=by
 obtain ⟨mA,O,r,_,_,_⟩:=qh I.hok e
 obtain ⟨u,hu,ru⟩:=RelO.some_of (v:=v) (o:=mA f) (by rw [<- l];exact r f)
 exact yw I.kIn O (c.get f) c.hd n hu (vw ru) (h u _ (I.tok _) ru)
theorem sQ {y:V} {u:Value} {Q:Unit->Shared->Prop} (I:Inv X pins σ H s) (e:H a=some (.ins C dx fs)) (c:Cls X.K C) (n:NoAttr X.K C f) (hl:fs.length < 1000) (ry:RelV y u)
  (h:∀ s',Inv X pins σ (upd H a (.ins C dx (hJ f y fs))) s'->Q () s'):wpAny (model X.prog X.w) A (setAttr (.ref a) f u) Q E s:=by
 obtain ⟨mA,O,r,wi,_,ho⟩:=qh I.hok e
 have hz:(fs.map (·.1)).length<=sizeLine:=by rw [List.length_map,sizeLine_eq];omega
 refine xH I.kIn O c.sa c.po n.taker c.hd wi hz fun h' O' sb=>h _ ?_
 have hd:∃ o,h'.get? dx=some o:=let ⟨o,_,_,e',_⟩:=O'.ns;⟨o,e'⟩
 refine I.write (x:=a) (e:=dx) (by rw [e];exact True.intro) (.inr ho) (fun b q hb z=>(sb.2 b hb).trans z) hd ?_
 refine ⟨by rw [aJ O.ne];exact ho,?_,O.ne,O'.obj,_,O'.ns,fun g=>?_,fun g hg=>?_⟩
 ·have:=lg f y fs;omega
 ·show RelO ((hJ f y fs).lookup g) (if g=f then some u else mA g)
  rw [lf]
  by_cases q:g=f
  ·rw [if_pos q,if_pos q];exact ry
  ·rw [if_neg q,if_neg q];exact r g
 ·by_cases q:g=f
  ·rw [q];exact (kM f y fs).1
  ·refine (kM f y fs).2 g (wi g fun z=>hg ?_)
   show (if g=f then some u else mA g)=none
   rw [if_neg q];exact z
theorem Inv.made (I:Inv X pins σ H s):Inv X pins σ (upd (upd H s.heap.objs.size (.own (s.heap.objs.size + 1))) (s.heap.objs.size + 1) (.ins C s.heap.objs.size []))
  {s with heap:=(s.heap.push PySem.W.emptyDict).push (PySem.W.instObj C s.heap.objs.size) }:=by
 have e1:(s.heap.push PySem.W.emptyDict).get? s.heap.objs.size=some PySem.W.emptyDict:=Heap.get?_push_size s.heap rfl
 have e2:((s.heap.push PySem.W.emptyDict).push (PySem.W.instObj C s.heap.objs.size)).get? (s.heap.objs.size + 1)=some (PySem.W.instObj C s.heap.objs.size):=by
  have:=Heap.get?_push_size (s.heap.push PySem.W.emptyDict) (o:=PySem.W.instObj C s.heap.objs.size) rfl
  rwa [Heap.size_push] at this
 have e3:(s.heap.push PySem.W.emptyDict).Ns s.heap.objs.size (fun _=>none):=⟨PySem.W.emptyDict,#[],_,e1,rfl,(fun e he=>absurd he (by simp)),fun _=>rfl⟩
 have I1:=I.laid (a:=s.heap.objs.size) (o:=.own (s.heap.objs.size + 1)) (h':=s.heap.push PySem.W.emptyDict) (t':=s.toks) (fun b u q=>Heap.get?_push_of_some _ q) (Nat.le_refl _) ⟨_,e1⟩
 refine I1.laid (a:=s.heap.objs.size + 1) (o:=.ins C s.heap.objs.size []) (t':=s.toks) (fun b u q=>Heap.get?_push_of_some _ q) (Nat.le_of_eq (Heap.size_push _ _)) ?_
 have ne:s.heap.objs.size ≠ s.heap.objs.size + 1:=Nat.ne_of_lt (Nat.lt_succ_self _)
 refine ⟨by rw [aJ ne,bi],Nat.zero_le _,ne,e2,fun _=>none,(Heap.Ns1.of_empty e3).at fun o q=>Heap.get?_push_of_some _ q,fun _=>True.intro,fun y hy=>absurd rfl hy⟩
theorem y7 {prog:Program} {w:World} {env:Env} {e:Expr} {f:Str} {pos:Pos} {s:Shared} {Q:Value->Shared->Prop} (hb:attributeBase e f env (eval e env)=eval e env)
  (h:wpAny (model prog w) A (eval e env) (fun o s₁=>wpAny (model prog w) A (getAttr o f true) Q E s₁) E s):wpAny (model prog w) A (eval (.Attribute e f pos) env) Q E s :=
 Attribute_any_ h (by rw [arm_eval_Attribute,hb])
end
noncomputable def Cs (K:PySem.W.Frag) (ta:TE) (f:Str):TE:=fun σ H Q=>ta σ H fun x H1=>∃ a C dx fs v,x=.ref a/\H1 a=some (.ins C dx fs)/\Cls K C/\NoAttr K C f/\fs.lookup f=some v/\Q v H1
noncomputable def pH (K:PySem.W.Frag) (ta tv:TE) (f:Str):TS:=fun D σ H=>tv σ H fun y H1=>ta σ H1 fun x H2=>∃ a C dx fs,x=.ref a/\H2 a=some (.ins C dx fs)/\Cls K C/\NoAttr K C f/\fs.length < 1000 /\
 D.nx σ (upd H2 a (.ins C dx (hJ f y fs)))
section
variable {X:Cx} {o e value:Expr} {f:Str} {pos pos' tpos:Pos} {ta tv:TE}
theorem z9 (he:PE X e ta) (hb:attributeBase e f X.env (eval e X.env)=eval e X.env):PE X (.Attribute e f pos) (Cs X.K ta f):=by
 intro pins s σ H Q I h
 refine y7 hb (thn (he pins s σ H _ I h) fun u s1 ⟨x,H1,I1,rx,a,C,dx,fs,v,ex,ea,c,n,l,q⟩=>?_)
 subst ex
 obtain rfl:u=Value.ref a:=rx
 exact tt I1 ea c n l fun u' s2 I2 ru=>⟨v,H1,I2,ru,q⟩
theorem zU (ha:PE X o ta) (hv:PE X value tv) (hs:swapsWith value (some (.Attribute o f pos')) pos.line X.env=pure false):PS X (.Assign [.Attribute o f pos'] value pos) (pH X.K ta tv f):=by
 intro pins s σ H D I h
 refine plainObj_wpAny_Assign_Attribute (thn (hv pins s σ H _ I h) fun u s1 ⟨y,H1,I1,ry,q⟩=>thn (ha pins s1 σ H1 _ I1 q) fun ov s2 ⟨x,H2,I2,rx,a,C,dx,fs,ex,ea,c,n,l,q2⟩=>?_) hs
 subst ex
 obtain rfl:ov=Value.ref a:=rx
 exact sQ I2 ea c n l ry fun s3 I3=>⟨σ,_,I3,q2⟩
end
section
variable {X:Cx} {pins:List (Addr × Obj)} {σ:St} {H:Hp} {s:Shared} {A:Around} {E:Value->Shared->Prop} {Q:Value->Shared->Prop} {c:Value} {b:Bool}
inductive k_ (K:PySem.W.Frag) (H:Hp):V->Value->Prop where
 | non:k_ K H .non (.type "NoneType")
 | bl (x:Bool):k_ K H (.bl x) (.type "bool")
 | int (i:Int):k_ K H (.int i) (.type "int")
 | str (x:Str):k_ K H (.str x) (.type "str")
 | flt (x:UInt64):k_ K H (.flt x) (.type "float")
 | lst {a:Addr} {xs:List V} (e:H a=some (.lst xs)):k_ K H (.ref a) (.type "list")
 | frz {a:Addr} {o:Obj} {xs:List V} (e:H a=some (.frz o (.lst xs))):k_ K H (.ref a) (.type "list")
 | tup {a:Addr} {xs:List V} (e:H a=some (.tup xs)):k_ K H (.ref a) (.type "tuple")
 | dK {a:Addr} {kvs:List (Key × V)} (e:H a=some (.dK kvs)):k_ K H (.ref a) (.type "dict")
 | dT {a:Addr} {kvs:List (List Key × V)} (e:H a=some (.dT kvs)):k_ K H (.ref a) (.type "dict")
 | ins {a C dx:Addr} {fs:List (Str × V)} (e:H a=some (.ins C dx fs)) (cl:Cls K C) (ha:PySem.W.findIn K (.ref C) "__class__"=some (some (.builtin "object.__class__")))
   (hn:PySem.W.specialIn K (.builtin "object.__class__") "__get__"=some (some (.builtin "getset_descriptor.__get__"))) (htk:PySem.W.takesIn K (.builtin "object.__class__")=some true)
   (hm:PySem.W.mroIn K C (.type "object")=some true):k_ K H (.ref a) (.ref C)
theorem vq {x:V} {u t:Value} (I:Inv X pins σ H s) (rx:RelV x u) (ty:k_ X.K H x t) (e:PySem.W.kitOne X.K t c=some b) (h:∀ tk,Q (.bool b) { s with toks:=tk }) :
  wpAny (model X.prog X.w) A (call (.builtin "isinstance") [u,c]) Q E s:=by
 cases ty with
 | non=>cases (show u=Value.none from rx);exact PySem.W.kia_one PySem.W.kitx_none I.kIn True.intro e (fun z=>nomatch z) h
 | bl y=>cases (show u=Value.bool y from rx);exact PySem.W.kia_one PySem.W.kitx_bool I.kIn True.intro e (fun z=>nomatch z) h
 | int i=>obtain ⟨t,q⟩:=(show ∃ t,u=Value.int i t from rx);cases q;exact PySem.W.kia_one PySem.W.kitx_int I.kIn True.intro e (fun z=>nomatch z) h
 | str y=>obtain ⟨t,q⟩:=(show ∃ t,u=Value.str y t from rx);cases q;exact PySem.W.kia_one PySem.W.kitx_str I.kIn True.intro e (fun z=>nomatch z) h
 | flt y=>obtain ⟨t,q⟩:=(show ∃ t,u=Value.float y t from rx);cases q;exact PySem.W.kia_one PySem.W.kitx_float I.kIn True.intro e (fun z=>nomatch z) h
 | @lst a xs ea =>
  cases (show u=Value.ref a from rx)
  obtain ⟨_,_,n,_,h1⟩:=(show ObjOk X.prog X.w H s.heap a (.lst xs) from I.hok a _ ea)
  exact PySem.W.kia_one PySem.W.kitx_list I.kIn ⟨_,h1,rfl⟩ e (fun z=>nomatch z) h
 | @frz a ob xs ea =>
  cases (show u=Value.ref a from rx)
  obtain ⟨_,_,_,n,_,h1⟩:=(show ObjOk X.prog X.w H s.heap a (.frz ob (.lst xs)) from I.hok a _ ea)
  exact PySem.W.kia_one PySem.W.kitx_list I.kIn ⟨_,h1,rfl⟩ e (fun z=>nomatch z) h
 | @tup a xs ea =>
  cases (show u=Value.ref a from rx)
  obtain ⟨_,_,_,p⟩:=(show ObjOk X.prog X.w H s.heap a (.tup xs) from I.hok a _ ea)
  obtain ⟨o,h1,h2,_⟩:=p
  exact PySem.W.kia_one PySem.W.kitx_tuple I.kIn ⟨o,h1,h2⟩ e (fun z=>nomatch z) h
 | @dK a kvs ea =>
  cases (show u=Value.ref a from rx)
  obtain ⟨_,_,vs,_,p⟩:=(show ObjOk X.prog X.w H s.heap a (.dK kvs) from I.hok a _ ea)
  obtain ⟨o,es,ep,h1,h2,_⟩:=p
  exact PySem.W.kia_one PySem.W.kitx_dict I.kIn ⟨o,h1,h2.1⟩ e (fun z=>nomatch z) h
 | @dT a kvs ea =>
  cases (show u=Value.ref a from rx)
  obtain ⟨_,_,xs,_,o,es,ep,h1,h2,_⟩:=(show ObjOk X.prog X.w H s.heap a (.dT kvs) from I.hok a _ ea)
  exact PySem.W.kia_one PySem.W.kitx_dict I.kIn ⟨o,h1,h2.1⟩ e (fun z=>nomatch z) h
 | @ins a C dx fs ea cl ha hn htk hm =>
  cases (show u=Value.ref a from rx)
  obtain ⟨mA,O,_⟩:=qh I.hok ea
  obtain ⟨od,J,_⟩:=O.look
  exact PySem.W.kia_one (PySem.W.kitx_own (cl.get _) cl.hd ha hn htk hm) I.kIn J e (fun z=>nomatch z) h
end
end L2
namespace L2
open PySem PySem.Spec PyProof.Rows
structure Room (k:Nat) (A:Around):Prop where
 hd:A.handled=none
 dp:A.depth + 3 * k + 5 < recursionLimit
 un:A.units + 16 * k + 200 < cLine
theorem Room.mono {j k:Nat} {A:Around} (r:Room k A) (h:j<=k):Room j A:=⟨r.hd,by have:=r.dp;omega,by have:=r.un;omega⟩
theorem Room.deeper {k:Nat} {A:Around} (r:Room (k + 1) A) (env:Env):Room k (A.deeper env) :=
 ⟨r.hd,by have:=r.dp;show A.depth + 1 + 3 * k + 5 < _;omega,by have:=r.un;show A.units + 3 + 16 * k + 200 < _;omega⟩
theorem tf {A:Around} {C:Addr} {us:List Value} {kw:List (Str × Value)}:(A.under (.builtin "type.__call__" ⟨.ref C :: us,kw⟩)).depth=A.depth + 1:=by
 first | rfl | simp [Around.under,Code.weight,Code.isCreation,Code.isGuard,Code.isCaller,Code.frames,Code.isFrame,guardIds]
theorem td {A:Around} {C:Addr} {us:List Value} {kw:List (Str × Value)}:(A.under (.builtin "type.__call__" ⟨.ref C :: us,kw⟩)).units=A.units + 1:=by
 first | rfl | simp [Around.under,Code.cUnits,Code.frames,Code.isFrame]
theorem Room.make {k:Nat} {A:Around} (r:Room (k + 1) A) (C:Addr) (us:List Value) (kw:List (Str × Value)):Room k (A.under (.builtin "type.__call__" ⟨.ref C :: us,kw⟩)) :=
 ⟨r.hd,by have:=r.dp;rw [tf];omega,by have:=r.un;rw [td];omega⟩
theorem Room.depth {k:Nat} {A:Around} (r:Room k A):A.depth < recursionLimit:=by have:=r.dp;omega
noncomputable def Cp:TA:=fun _ H Q=>Q [] H
noncomputable def Bj (ta:TE) (tr:TA):TA:=fun σ H Q=>ta σ H fun x H1=>tr σ H1 fun xs H2=>Q (x :: xs) H2
section
variable {X:Cx} {e:Expr} {es:List Expr} {te:TE} {t:TA} {pos:Pos}
theorem fh:PA X [] Cp:=fun _ _ _ _ H Q I h=>Calls.spliced_nil ⟨[],H,I,.nil,h⟩
theorem dN (ha:PE X e te) (hr:PA X es t) (hs:starEach (e :: es) X.env=(false,eval e X.env) :: starEach es X.env:=by rfl):PA X (e :: es) (Bj te t):=by
 intro pos pins s σ H Q I h
 rw [hs]
 show wpAny _ _ (spliced ((false,eval e X.env) :: backTo pos (starEach es X.env))) _ _ s
 refine Calls.spliced_cons (thn (ha pins s σ H _ I h) fun u s1 ⟨x,H1,I1,r1,q1⟩=>?_)
 exact thn (hr pos pins s1 σ H1 _ I1 q1) fun us s2 ⟨xs,H2,I2,r2,q2⟩=>⟨x :: xs,H2,I2,.cons r1 r2,q2⟩
noncomputable def Ck (t:TA):TE:=fun σ H Q=>t σ H fun xs H1=>xs.length<=sizeLine/\∀ p,H1 p=none->Q (.ref p) (upd H1 p (.tup xs))
noncomputable def Cq (t:TA):TE:=fun σ H Q=>t σ H fun xs H1=>xs.length<=sizeLine/\∀ p,H1 p=none->Q (.ref p) (upd H1 p (.lst xs))
theorem z4 {x1} (h:PA X es t):PE X (.Tuple es x1 pos) (Ck t):=by
 intro pins s σ H Q I hq
 refine wpAny_Tuple_spliced (thn (h pos pins s σ H _ I hq) fun us s1 ⟨xs,H1,I1,r,z,q⟩=>⟨by rw [<- r.length];exact z,?_⟩)
 have hf:H1 s1.heap.objs.size=none:=I1.hok.fresh (Nat.le_refl _)
 refine ⟨.ref s1.heap.objs.size,upd H1 s1.heap.objs.size (.tup xs),I1.laid (t':=s1.toks) (fun b u e=>Heap.get?_push_of_some _ e) (Nat.le_refl _) ?_,rfl,q _ hf⟩
 exact ⟨z,us,r,⟨_,Heap.get?_push_size _ rfl,rfl,_,rfl⟩⟩
theorem wq (h:PA X es t):PE X (.List es pos) (Cq t):=by
 intro pins s σ H Q I hq
 refine wpAny_List_spliced (thn (h pos pins s σ H _ I hq) fun us s1 ⟨xs,H1,I1,r,z,q⟩=>⟨by rw [<- r.length];exact z,?_⟩)
 have hf:H1 s1.heap.objs.size=none:=I1.hok.fresh (Nat.le_refl _)
 refine ⟨.ref s1.heap.objs.size,upd H1 s1.heap.objs.size (.lst xs),I1.laid (t':=s1.toks) (fun b u e=>Heap.get?_push_of_some _ e) (Nat.le_refl _) ?_,rfl,q _ hf⟩
 exact ⟨z,us,0,r,Heap.get?_push_size _ rfl⟩
end
noncomputable abbrev Sp:=List V->Hp->VK->XK->Prop
noncomputable abbrev CXT:=List Env->Hp->Shared->XK->Value->Shared->Prop
structure Env0 (P:Program) (w:World) (K:PySem.W.Frag) (mg:Str->Option Value) (base:Heap) (A:Around) (outer:List Env) (s:Shared) (H:Hp):Prop where
 frames:A.frames=some outer
 mod:Mod K mg base
 bs:∀ b o,base.get? b=some o->s.heap.get? b=some o/\H b=none
 bsz:base.objs.size<=s.heap.objs.size
 funs:s.heap.FunFrames base outer
 frf:∀ b ∈ frs outer,H b=none
 hok:HOk P w H s.heap
 bare:AllBare s.gens
noncomputable def CE (outer:List Env) (P:Program) (w:World) (H:Hp) (s:Shared) (Q:VK) (u:Value) (s':Shared):Prop :=
 ∃ v H',s'.os=s.os/\AllBare s'.gens/\Un (frs outer) [] H H' s.heap s'.heap/\HOk P w H' s'.heap/\RelV v u/\Q v H'
noncomputable def CR (CX:CXT) (outer:List Env) (P:Program) (w:World) (H:Hp) (s:Shared) (Q:VK) (E:XK) (r:Result) (s':Shared):Prop :=
 match r with
 | .ok (.ret u)=>CE outer P w H s Q u s'
 | .ok _=>False
 | .error e=>CX outer H s E e s'
structure FnOk (P:Program) (w:World) (K:PySem.W.Frag) (mg:Str->Option Value) (base:Heap) (CX:CXT) (k:Nat) (f:Addr) (fd:FuncData) (ps:List Str) (sp:Sp):Prop where
 len:∀ vs H Q E,sp vs H Q E->vs.length=ps.length
 run:∀ (A:Around) (outer:List Env) (s:Shared) (H:Hp) (args:Args) (us:List Value) (vs:List V) (Q:VK) (E:XK),Room k A->Env0 P w K mg base A outer s H->BindsTo s fd args (ps.zip us)->Vals vs us->sp vs H Q E ->
  codeAny (model P w) A (.call (.ref f) args) (CR CX outer P w H s Q E) s
theorem FnOk.imp {P:Program} {w:World} {K:PySem.W.Frag} {mg:Str->Option Value} {base:Heap} {CX:CXT} {k:Nat} {f:Addr} {fd:FuncData} {ps:List Str} {sp sp':Sp} (F:FnOk P w K mg base CX k f fd ps sp)
  (h:∀ vs H Q E,sp' vs H Q E->sp vs H Q E):FnOk P w K mg base CX k f fd ps sp' :=
 ⟨fun vs H Q E q=>F.len vs H Q E (h _ _ _ _ q),fun A outer s H args us vs Q E hr he hb hv hs=>F.run A outer s H args us vs Q E hr he hb hv (h _ _ _ _ hs)⟩
theorem Env0.make {P:Program} {w:World} {K:PySem.W.Frag} {mg:Str->Option Value} {base:Heap} {A:Around} {outer:List Env} {s:Shared} {H:Hp} (e:Env0 P w K mg base A outer s H) (C:Addr) (us:List Value) (kw:List (Str × Value)) :
  Env0 P w K mg base (A.under (.builtin "type.__call__" ⟨.ref C :: us,kw⟩)) outer s H:=⟨by first | exact e.frames | (simpa [Around.under,Code.envs,Code.isFrame,pushEnvs] using e.frames),e.mod,e.bs,e.bsz,e.funs,e.frf,e.hok,e.bare⟩
section
variable {X:Cx} {pins:List (Addr × Obj)} {σ:St} {H:Hp} {s s':Shared}
theorem Inv.env0 (I:Inv X pins σ H s):Env0 X.prog X.w X.K X.mg X.base X.A X.stack s H :=
 ⟨I.ok.frames,I.ok.mod,I.bs,Nat.le_trans I.ok.bsz I.sz,I.stack,I.stkFree,I.hok,I.bare⟩
theorem Inv.after {Q:VK} {u:Value} (I:Inv X pins σ H s) (h:CE X.stack X.prog X.w H s Q u s'):EP X pins σ Q u s':=by
 obtain ⟨v,H',os,bare,un,hok,r,q⟩:=h
 obtain ⟨hh,g,d,t,os'⟩:=s'
 obtain rfl:os'=s.os:=os
 exact ⟨v,H',I.call (h':=hh) (g':=g) (d':=d) (t':=t) (ch:=[]) un hok bare (fun b z=>absurd z (by simp)),r,q⟩
end
noncomputable def Binds (K:PySem.W.Frag) (fd:FuncData) (ps:List Str) (ds:List Value):Prop :=
 ∀ (s:Shared) (us:List Value),K.In s.heap->(us ++ ds).length=ps.length->BindsTo s fd ⟨us,[]⟩ (ps.zip (us ++ ds))
theorem Binds.all {K:PySem.W.Frag} {fd:FuncData} {ps:List Str} (h:∀ us:List Value,us.length=ps.length->bindArgs fd ⟨us,[]⟩=pure (ps.zip us)):Binds K fd ps []:=fun s us _ hl=>by
 rw [List.append_nil] at hl ⊢
 exact .of_eq (h us hl)
noncomputable def qQ (CX:CXT) (X:Cx) (E:XK):Prop:=∀ (pins:List (Addr × Obj)) (σ:St) (H:Hp) (s:Shared) (e:Value) (s':Shared),Inv X pins σ H s->CX X.stack H s E e s'->X.xe e s'
section
variable {X:Cx} {CX:CXT} {k:Nat} {f C:Addr} {fd:FuncData} {ps:List Str} {sp:Sp} {dvs:List V} {ds:List Value} {E:XK} {x m:Str} {p pos apos:Pos} {e o:Expr} {es:List Expr} {ta:TE} {t:TA}
theorem pJ {pins:List (Addr × Obj)} {σ:St} {H:Hp} {s:Shared} {Q:VK} {us:List Value} {vs:List V} (F:FnOk X.prog X.w X.K X.mg X.base CX k f fd ps sp) (hr:Room k X.A) (hb:Binds X.K fd ps ds) (hd:Vals dvs ds) (hx:qQ CX X E)
  (I:Inv X pins σ H s) (r:Vals vs us) (h:sp (vs ++ dvs) H Q E):wpAny (model X.prog X.w) X.A (call (.ref f) us) (EP X pins σ Q) X.xe s:=by
 have r2:Vals (vs ++ dvs) (us ++ ds):=r.append hd
 have hl:(us ++ ds).length=ps.length:=by rw [<- r2.length];exact F.len _ _ _ _ h
 refine wpAny_call (codeAny_mono (F.run X.A X.stack s H ⟨us,[]⟩ (us ++ ds) (vs ++ dvs) Q E hr I.env0 (hb s us I.kIn hl) r2 h) fun r s' hq=>?_)
 cases r with
 | error e=>exact hx pins σ H s e s' I hq
 | ok fl =>
  cases fl with
  | ret u=>exact I.after hq
  | next=>exact False.elim hq
  | brk=>exact False.elim hq
  | cont=>exact False.elim hq
structure Mk (K:PySem.W.Frag) (C f:Addr):Prop where
 makes:PySem.W.makesIn K C=true
 init:PySem.W.findIn K (.ref C) "__init__"=some (some (.ref f))
 fn:PySem.W.isFn K (.ref f)=true
 kp:PySem.W.keepIn K (.ref C)=true
theorem v5 {pins:List (Addr × Obj)} {σ:St} {H:Hp} {s:Shared} {Q:VK} {us:List Value} {vs:List V} (M:Mk X.K C f) (F:FnOk X.prog X.w X.K X.mg X.base CX k f fd ps sp) (hr:Room (k + 1) X.A) (hb:Binds X.K fd ps ds) (hd:Vals dvs ds)
  (hx:qQ CX X E) (I:Inv X pins σ H s) (r:Vals vs us)
  (h:∀ x dx,H x=none->H dx=none->dx ≠ x->sp (.ref x :: (vs ++ dvs)) (upd (upd H dx (.own x)) x (.ins C dx [])) (fun v H2=>v=.non/\Q (.ref x) H2) E) :
  wpAny (model X.prog X.w) X.A (call (.ref C) us) (EP X pins σ Q) X.xe s:=by
 have hq:=h (s.heap.objs.size + 1) s.heap.objs.size (I.hok.fresh (Nat.le_succ _)) (I.hok.fresh (Nat.le_refl _)) (Nat.ne_of_lt (Nat.lt_succ_self _))
 have I2:=Inv.made (C:=C) I
 have r2:Vals (V.ref (s.heap.objs.size + 1) :: (vs ++ dvs)) (Value.ref (s.heap.objs.size + 1) :: (us ++ ds)):=.cons rfl (r.append hd)
 have hl:(Value.ref (s.heap.objs.size + 1) :: us ++ ds).length=ps.length:=by
  have e:=r2.length
  rw [F.len _ _ _ _ hq] at e
  exact e.symm
 refine wpAny_call (wD (f:=f) I.kIn M.makes M.init (beq_iff_eq.mp M.fn) (codeAny_mono (F.run _ X.stack _ _ ⟨Value.ref (s.heap.objs.size + 1) :: us,[]⟩ (Value.ref (s.heap.objs.size + 1) :: (us ++ ds)) _ _ E (hr.make C us [])
  (I2.env0.make C us []) (hb _ (Value.ref (s.heap.objs.size + 1) :: us) I2.kIn hl) r2 hq) fun r s' hq'=>?_))
 cases r with
 | error e=>exact hx pins σ _ _ e s' I2 hq'
 | ok fl =>
  cases fl with
  | ret u =>
   obtain ⟨v,H',I3,rv,ev,q3⟩:=I2.after hq'
   subst ev
   exact ⟨rv,⟨V.ref (s.heap.objs.size + 1),H',I3,rfl,q3⟩⟩
  | next=>exact False.elim hq'
  | brk=>exact False.elim hq'
  | cont=>exact False.elim hq'
end
section
variable {X:Cx} {CX:CXT} {k:Nat} {f C:Addr} {fd:FuncData} {ps ks:List Str} {sp:Sp} {E:XK} {x m:Str} {p pos apos kpos:Pos} {e o:Expr} {es:List Expr} {kws:List Keyword} {te ta:TE} {t tk:TA} {nm:Option Str}
variable {g:List Value->List Value->List Value} {gV:List V->List V->List V}
end
structure aH (N P:List Str) (sc:Scope):Prop where
 kind:sc.kind=.function
 co:sc.isCoroutine=false
 gen:sc.isGenerator=false
 nd:N.Nodup
 pre:N.take P.length=P
 par:∀ x ∈ P,sc.names.lookup x=some .local\/sc.names.lookup x=some .cell
 nofree:∀ y ∈ sc.names,y.2 ≠ .free
theorem o_ {kindOf:Str->Option NameKind} {x:Str}:∀ {binds:List (Str × Value)} {m:Str->Option Value},(∀ v,(x,v) ∉ binds)->bindL kindOf binds m x=m x
 | [],_,_=>rfl
 | (n,v) :: r,m,h=>by
  unfold bindL
  rw [o_ fun w hw=>h w (List.mem_cons_of_mem _ hw)]
  split
  ·have:x ≠ n:=by rintro rfl;exact h v List.mem_cons_self
   simp [this]
  ·rfl
theorem pc {kindOf:Str->Option NameKind} {x:Str}:∀ {binds:List (Str × Value)} {m:Str->Option Value},(∀ v,(x,v) ∉ binds)->bindC kindOf binds m x=m x
 | [],_,_=>rfl
 | (n,v) :: r,m,h=>by
  unfold bindC
  rw [pc fun w hw=>h w (List.mem_cons_of_mem _ hw)]
  split
  ·rfl
  ·have:x ≠ n:=by rintro rfl;exact h v List.mem_cons_self
   simp [this]
theorem pb {kindOf:Str->Option NameKind} {x:Str} {v:Value}:∀ {P:List Str} {vs:List Value} {i:Nat} {m:Str->Option Value},P.Nodup->P[i]?=some x->vs[i]?=some v->kindOf x=some .local ->
  bindL kindOf (P.zip vs) m x=some v
 | [],_,_,_,_,h,_,_=>by simp at h
 | _ :: _,[],_,_,_,_,h,_=>by simp at h
 | p :: P,w :: vs,0,m,nd,h1,h2,hk=>by
  simp at h1 h2;subst h1;subst h2
  show bindL kindOf ((p,w) :: P.zip vs) m p=_
  unfold bindL
  rw [o_ fun v hv=>(List.nodup_cons.mp nd).1 (List.of_mem_zip hv).1,if_pos hk]
  simp
 | p :: P,w :: vs,i + 1,m,nd,h1,h2,hk=>by
  show bindL kindOf ((p,w) :: P.zip vs) m x=_
  unfold bindL
  exact pb (i:=i) (List.nodup_cons.mp nd).2 (by simpa using h1) (by simpa using h2) hk
theorem pf {kindOf:Str->Option NameKind} {x:Str} {v:Value}:∀ {P:List Str} {vs:List Value} {i:Nat} {m:Str->Option Value},P.Nodup->P[i]?=some x->vs[i]?=some v->kindOf x ≠ some .local ->
  bindC kindOf (P.zip vs) m x=some v
 | [],_,_,_,_,h,_,_=>by simp at h
 | _ :: _,[],_,_,_,_,h,_=>by simp at h
 | p :: P,w :: vs,0,m,nd,h1,h2,hk=>by
  simp at h1 h2;subst h1;subst h2
  show bindC kindOf ((p,w) :: P.zip vs) m p=_
  unfold bindC
  rw [pc fun v hv=>(List.nodup_cons.mp nd).1 (List.of_mem_zip hv).1,if_neg hk]
  simp
 | p :: P,w :: vs,i + 1,m,nd,h1,h2,hk=>by
  show bindC kindOf ((p,w) :: P.zip vs) m x=_
  unfold bindC
  exact pf (i:=i) (List.nodup_cons.mp nd).2 (by simpa using h1) (by simpa using h2) hk
noncomputable def start (N:List Str) (vs:List V):St:=vs.map some ++ List.replicate (N.length - vs.length) none
noncomputable def bX (CX:CXT) (P:Program) (w:World) (K:PySem.W.Frag) (mg:Str->Option Value) (base:Heap) (N:List Str) (qual:Str) (scope:Scope) (f:Addr) (cd:Value) (A:Around) (outer:List Env) (s:Shared) (H:Hp) (E:XK):Cx where
 prog:=P
 w:=w
 K:=K
 mg:=mg
 base:=base
 A:=A.deeper (envOfC qual scope s.heap.objs.size f cd)
 N:=N
 s₀:=s
 H₀:=H
 env:=envOfC qual scope s.heap.objs.size f cd
 outer:=outer
 stack:=envOfC qual scope s.heap.objs.size f cd :: outer
 ex:=[]
 calm:=true
 fn:=fun _=>true
 pn:=[]
 xe:=fun e s'=>wpAny (model P w) (A.deeper (envOfC qual scope s.heap.objs.size f cd)) (leaving (envOfC qual scope s.heap.objs.size f cd) e) (fun _ s''=>CX outer H s E e s'') (fun e' s''=>CX outer H s E e' s'') s'
theorem sw {sc:Scope} {n:Nat} {x:Str} (h:sc.names.lookup x=some .cell):∃ c,(cellsFrom n sc.names []).lookup x=some c:=by
 have q:=PySem.W.cellsFrom_some sc.names n [] (.inl h)
 exact Option.isSome_iff_exists.mp q
theorem vu {CX:CXT} {P:Program} {w:World} {K:PySem.W.Frag} {mg:Str->Option Value} {base:Heap} {N ps:List Str} {qual:Str} {scope:Scope} {f:Addr} {cd:Value} {A:Around} {outer:List Env} {s s1:Shared} {H:Hp} {E:XK} {us:List Value} {vs:List V}
  (S:aH N ps scope) (hd:A.handled=none) (e0:Env0 P w K mg base A outer s H) (hl:vs.length=ps.length) (r:Vals vs us)
  (x:InCallC s s.heap.objs.size (bindL (envOfC qual scope s.heap.objs.size f cd).kindOf (ps.zip us) fun _=>none) (cellsFrom (s.heap.objs.size + 1) scope.names []) (bindC (envOfC qual scope s.heap.objs.size f cd).kindOf (ps.zip us) fun _=>none) s1) :
  Inv (bX CX P w K mg base N qual scope f cd A outer s H E) [] (start N vs) H s1:=by
 have hpl:ps.length<=N.length:=by have:=congrArg List.length S.pre;rw [List.length_take] at this;omega
 obtain ⟨h1,tk,rfl,hk⟩:=x.done
 have noA:∀ b:Addr,b ∉ (bX CX P w K mg base N qual scope f cd A outer s H E).ex:=fun b z=>absurd (show b ∈ ([]:List Addr) from z) (by simp)
 refine ⟨⟨e0.mod,S.kind,rfl,rfl,Nat.le_refl _,fun y z c h1 h2=>?_,fun y hy=>?_,fun y c _ h=>?_,fun _=>hd,Around.frames_deeper e0.frames,.inr ⟨rfl,rfl⟩,fun b z=>absurd z (noA b),e0.bs,e0.bsz,fun b _ _=>noA b,fun b z=>absurd z (noA b),e0.funs,e0.frf⟩,
  rfl,e0.bare,Un.kept hk,⟨_,x.toInCall.ns,fun i y v h1 h2 h3=>?_⟩,fun y c h=>⟨_,x.cell y c h⟩,e0.hok.fresh (Nat.le_refl _),fun y c h=>?_,fun p hp=>absurd (show p ∈ ([]:List (Addr × Obj)) from hp) (by simp),e0.hok.kept hk,?_⟩
 ·exact name_of_addr x.apart (PySem.mem_of_lookup h1) (PySem.mem_of_lookup h2)
 ·have hy:scope.names.lookup y=some .cell\/scope.names.lookup y=some .free:=hy
  rcases hy with hy | hy
  ·exact sw hy
  ·exact absurd rfl (S.nofree _ (PySem.mem_of_lookup hy))
 ·exact Nat.le_of_lt (x.above y c (PySem.mem_of_lookup h))
 ·have hi:i < vs.length:=by
   unfold start at h2
   by_cases hi:i < vs.length
   ·exact hi
   ·rw [List.getElem?_append_right (by simpa using hi)] at h2
    rw [List.getElem?_replicate] at h2
    split at h2 <;> cases h2
  have ha:vs[i]?=some v:=by
   unfold start at h2
   rw [List.getElem?_append_left (by simpa using hi),List.getElem?_map] at h2
   cases e:vs[i]? with
   | none=>rw [e] at h2;cases h2
   | some a=>rw [e] at h2;cases h2;rfl
  obtain ⟨u,hu,rv⟩:=r.get ha
  have hp:ps[i]?=some y:=by
   rw [<- S.pre,List.getElem?_take_of_lt (by omega)];exact h1
  have ndP:ps.Nodup:=by rw [<- S.pre];exact S.nd.sublist (List.take_sublist _ _)
  refine ⟨u,rv,?_⟩
  rcases S.par y (List.mem_of_getElem? hp) with k | k
  ·exact .inl ⟨k,pb ndP hp hu k⟩
  ·obtain ⟨c,e⟩:=sw (n:=s.heap.objs.size + 1) k
   refine .inr ⟨.inl k,c,e,?_⟩
   have q:=x.cell y c e
   rw [pf ndP hp hu (by show scope.names.lookup y ≠ _;rw [k];decide)] at q
   exact q
 ·exact e0.hok.fresh (Nat.le_of_lt (x.above y c (PySem.mem_of_lookup h)))
 ·unfold start
  show _=N.length
  rw [List.length_append,List.length_map,List.length_replicate]
  omega
theorem BU {CX:CXT} {P:Program} {w:World} {K:PySem.W.Frag} {mg:Str->Option Value} {base:Heap} {k:Nat} {f:Addr} {name qual:Str} {params:Arguments} {body:List Stmt} {scope:Scope} {dV kV doc pm cdv ct oc:Value} {an od:Option Addr}
  {osl:Array (Option Value)} {N ps:List Str} {sp:Sp} (lk:K.lookup f=some ⟨oc,od,.func (PySem.W.fnOf name qual params body scope dV kV doc pm an cdv ct),osl⟩) (hcd:PySem.W.codeIn K cdv qual=true) (S:aH N ps scope)
  (len:∀ vs H Q E,sp vs H Q E->vs.length=ps.length)
  (hbody:∀ (A:Around) (outer:List Env) (s:Shared) (H:Hp) (vs:List V) (Q:VK) (E:XK),Room k (A.deeper (envOfC qual scope s.heap.objs.size f cdv))->sp vs H Q E ->
   ∃ t,PSs (bX CX P w K mg base N qual scope f cdv A outer s H E) body t/\t { nx:=fun _ H'=>Q .non H',rt:=Q } (start N vs) H) :
  FnOk P w K mg base CX (k + 1) f (PySem.W.fnOf name qual params body scope dV kV doc pm an cdv ct) ps sp:=by
 refine ⟨len,fun A outer s H args us vs Q E hr e0 hb r hsp=>?_⟩
 have hl:=len _ _ _ _ hsp
 have KX:K.In s.heap:=e0.mod.kin.keeps fun b o e=>(e0.bs b o e).1
 have lim:s.heap.NoLimit:=e0.mod.nolimit.keeps fun b o e=>(e0.bs b o e).1
 have hkind:∀ y ∈ ps.zip us,scope.names.lookup y.1=some .local\/(scope.names.lookup y.1=some .cell/\((cellsFrom (s.heap.objs.size + 1) scope.names []).lookup y.1).isSome=true):=fun ⟨n,v⟩ hy=>by
  rcases S.par n (List.of_mem_zip hy).1 with q | q
  ·exact .inl q
  ·exact .inr ⟨q,PySem.W.cellsFrom_some _ _ _ (.inl q)⟩
 refine codeAny_call_function hr.depth (KX _ _ lk) rfl S.co S.gen rfl (PySem.W.codeRec_of KX hcd) (hb _ _ _ _ ?_)
 refine wpAny_newFunctionEnv_cells S.kind hkind fun env he s1 x=>?_
 subst he
 refine ⟨lim.keeps x.toInCall.keep,codeAny_func ?_⟩
 obtain ⟨t,ht,hq⟩:=hbody A outer s H vs Q E (hr.deeper _) hsp
 have I:Inv (bX CX P w K mg base N qual scope f cdv A outer s H E) [] (start N vs) H s1:=vu S hr.hd e0 hl r x
 refine wpAny_mono (ht [] s1 (start N vs) H _ I hq) (fun fl s' hs=>?_) fun e s' hs=>hs
 have fin:∀ {σ':St} {H':Hp} {v:V} {u:Value},Inv (bX CX P w K mg base N qual scope f cdv A outer s H E) [] σ' H' s'->RelV v u->Q v H'->CE outer P w H s Q u s' :=
  fun {σ' H' v u} J rv q=>⟨v,H',J.os,J.bare,J.base,J.hok,rv,q⟩
 cases fl with
 | ret u =>
  obtain ⟨v,σ',H',J,rv,q⟩:=hs
  exact fin J rv q
 | next =>
  obtain ⟨σ',H',J,q⟩:=hs
  exact fin (v:=V.non) (u:=Value.none) J rfl q
 | brk =>
  obtain ⟨_,_,_,q⟩:=hs
  exact False.elim q
 | cont =>
  obtain ⟨_,_,_,q⟩:=hs
  exact False.elim q
end L2
namespace L2
open PySem PySem.Spec PyProof.Rows
section
variable {X:Cx} {x:Str} {p pos:Pos} {e:Expr} {es:List Expr} {t:TA} {id T:String} {r:List V->Hp->VK->Prop}
noncomputable def tCB (r:List V->Hp->VK->Prop) (t:TA):TE:=fun σ H Q=>t σ H fun vs H1=>r vs H1 Q
theorem aE (hc:jB X (.builtin id) r) (hg:Gl X x) (hm:X.mg x=none) (hv:bootBuiltins x=some (.builtin id)) (ha:PA X (e :: es) t) (hn:x ≠ "__name__":=by decide) (hdb:(x == ("__debug__":Str))=false:=by decide)
  (he:starEach (e :: es) X.env=(false,eval e X.env) :: starEach es X.env:=by rfl) (hpl:(backTo pos (starEach es X.env)).any (·.1)=false:=by rfl):PE X (.Call (.Name x p) (e :: es) [] pos) (tCB r t):=by
 intro pins s σ H Q I h
 refine wpAny_Call_Name_kw (iU I hg hm hv ?_ hn hdb)
 exact PyProof.Rows.callWith_builtin1 (thn (ha pos pins s σ H _ I h) fun us s1 ⟨vs,H1,I1,r1,q1⟩=>hc pins s1 σ H1 vs us Q I1 r1 q1) he hpl
theorem bw (hc:jB X (.type T) r) (hg:Gl X x) (hm:X.mg x=none) (hv:bootBuiltins x=some (.type T)) (ha:PA X (e :: es) t) (hn:x ≠ "__name__":=by decide) (hdb:(x == ("__debug__":Str))=false:=by decide)
  (he:starEach (e :: es) X.env=(false,eval e X.env) :: starEach es X.env:=by rfl) (hpl:(backTo pos (starEach es X.env)).any (·.1)=false:=by rfl):PE X (.Call (.Name x p) (e :: es) [] pos) (tCB r t):=by
 intro pins s σ H Q I h
 refine wpAny_Call_Name_kw (iU I hg hm hv ?_ hn hdb)
 exact PyProof.Rows.callWith_type1 (thn (ha pos pins s σ H _ I h) fun us s1 ⟨vs,H1,I1,r1,q1⟩=>hc pins s1 σ H1 vs us Q I1 r1 q1) he hpl
end
end L2
namespace HT
open PySem PyProof.Rows
section
open PySem.SeqAt
open PySem.AutoSeq1 (wpAny_loadPart')
open PySem.MeetsSeq PySem.MeetsSeq2 PySem.MeetsSeq3
end
section
variable {prog:Program} {w:World} {A:Around} {E:Value->Shared->Prop} {s:Shared}
end
end HT
namespace L2
open PySem PySem.Spec PyProof.Rows
theorem m9 {ns:List Int}:∀ {us:List Value},Vals (ns.map V.int) us->IntsAre us ns:=by
 induction ns with
 | nil=>intro us r;rw [List.map_nil] at r;cases r;exact .nil
 | cons n ns ih =>
  intro us r
  rw [List.map_cons] at r
  cases r with
  | cons r1 r2 =>
   obtain ⟨t,e⟩:=r1
   subst e
   exact .cons n t (ih r2)
section
variable {X:Cx} {e:Expr} {te:TE} {lo hi:Option Expr} {tl th:TO} {pos p2:Pos}
end
end L2
namespace L2
open PySem PySem.Spec PyProof.Rows
noncomputable def ixN (n:Nat) (i:Int):Option Nat:=if 0<=i then (if i < n then some i.toNat else none) else if -(n:Int)<=i then some (i + n).toNat else none
noncomputable def atI {α:Type} (xs:List α) (i:Int):Option α:=(ixN xs.length i).bind fun j=>xs[j]?
theorem yo {n:Nat} {i:Int} {j:Nat} (h:ixN n i=some j):seqIndex? i n=some j/\j < n/\-(n:Int)<=i/\i < n:=by
 unfold ixN at h
 by_cases h0:0<=i
 ·rw [if_pos h0] at h
  by_cases h1:i < n
  ·rw [if_pos h1] at h
   have e:i.toNat=j:=Option.some.inj h
   exact ⟨by rw [seqIndex_of h0 h1,e],by omega,by omega,h1⟩
  ·rw [if_neg h1] at h;cases h
 ·rw [if_neg h0] at h
  by_cases h1:-(n:Int)<=i
  ·rw [if_pos h1] at h
   have e:(i + n).toNat=j:=Option.some.inj h
   exact ⟨by rw [seqIndex_neg (by omega) h1,e],by omega,h1,by omega⟩
  ·rw [if_neg h1] at h;cases h
theorem qO {α:Type} {xs:List α} {i:Int} {v:α} (h:atI xs i=some v):∃ j,seqIndex? i xs.length=some j/\xs[j]?=some v/\j < xs.length/\-(xs.length:Int)<=i/\i < xs.length:=by
 unfold atI at h
 cases e:ixN xs.length i with
 | none=>rw [e] at h;cases h
 | some j =>
  rw [e] at h
  obtain ⟨h1,h2,h3,h4⟩:=yo e
  exact ⟨j,h1,h,h2,h3,h4⟩
noncomputable def kx (b:Expr):Prop:=∀ o i,subscripted b false o i=operate [o,i] (getItem o i)
noncomputable def IxR (X:Cx) (r:R2):Prop :=
 ∀ (value slice:Expr) (pins:List (Addr × Obj)) (s:Shared) (σ:St) (H:Hp) (x y:V) (v u:Value) (Q:VK),Inv X pins σ H s->RelV x v->RelV y u->r x y H Q ->
  subscripted slice false v u=operate [v,u] (getItem v u)->wpAny (model X.prog X.w) X.A (subscriptTail value slice v u) (EP X pins σ Q) X.xe s
noncomputable def MtR (X:Cx) (id:String) (r:V->List V->Hp->VK->Prop):Prop :=
 ∀ (pins:List (Addr × Obj)) (s:Shared) (σ:St) (H:Hp) (x:V) (xs:List V) (v:Value) (us:List Value) (Q:VK),Inv X pins σ H s->RelV x v->Vals xs us->r x xs H Q ->
  wpAny (model X.prog X.w) X.A (call (.builtin id) (v :: us)) (EP X pins σ Q) X.xe s
section
variable {X:Cx} {a b:Expr} {ta tb:TE} {pos:Pos}
theorem IxR.or {r r':R2} (h:IxR X r) (h':IxR X r'):IxR X (fun x y H Q=>r x y H Q\/r' x y H Q):=by
 intro value slice pins s σ H x y v u Q I rx ry q hs
 rcases q with q | q
 ·exact h value slice pins s σ H x y v u Q I rx ry q hs
 ·exact h' value slice pins s σ H x y v u Q I rx ry q hs
theorem wr {r:R2} (hr:IxR X r) (ha:PE X a ta) (hb:PE X b tb) (hs:kx b):PE X (.Subscript a b pos) (tOp r ta tb):=by
 intro pins s σ H Q I h
 exact Subscript_ (AY ha hb I h fun v u s2 x y H2 I2 rx ry q=>hr a b pins s2 σ H2 x y v u Q I2 rx ry q (hs _ _))
noncomputable def Bs (K:PySem.W.Frag):R2:=fun x y H Q=>∃ p xs i v,x=.ref p/\y=.int i/\SqL K H p xs/\atI xs i=some v/\Q v H
noncomputable def Bq (K:PySem.W.Frag):R2:=fun x y H Q=>∃ p xs i v,x=.ref p/\y=.int i/\SqT K H p xs/\atI xs i=some v/\Q v H
noncomputable def Br:R2:=fun x y H Q=>∃ z i c,x=.str z/\y=.int i/\z.length<=sizeLine/\atI z.cps.toList i=some c/\Q (.str ⟨#[c]⟩) H
theorem ix_list:IxR X (Bs X.K):=by
 intro value slice pins s σ H x y v u Q I rx ry h hs
 obtain ⟨p,xs,i,z,rfl,rfl,hq,he,q⟩:=h
 cases rx
 obtain ⟨t,rfl⟩:=ry
 obtain ⟨its,r,pl,hz⟩:=I.list hq
 obtain ⟨j,h1,h2,h3,h4,h5⟩:=qO he
 obtain ⟨w,ew,rw'⟩:=r.get h2
 have hl:=r.length
 have hn:=qb
 have fin:EP X pins σ Q w s:=⟨z,H,I,rw',q⟩
 by_cases h0:0<=i
 ·have hj:i.toNat=j:=by
   rw [seqIndex_of h0 h5] at h1
   exact Option.some.inj h1
  exact item_listR pl.isList h0 (by omega) (by rw [hj];simpa using ew) fin hs
 ·have hj:(i + (its.toArray.size:Int)).toNat=j:=by
   rw [seqIndex_neg (by omega) h4] at h1
   rw [List.size_toArray,<- hl]
   exact Option.some.inj h1
  exact subscriptTail_builtinR (x:=w) pl.isList.typeIs slot_list_getitem.lookup
   (wpAny_getItem_list_neg (Q:=fun r s'=>r=w/\EP X pins σ Q r s') pl.isList (by omega) (by rw [List.size_toArray] <;> omega) (by omega) (by rw [hj];simpa using ew) ⟨rfl,fin⟩) hs
theorem ix_tup:IxR X (Bq X.K):=by
 intro value slice pins s σ H x y v u Q I rx ry h hs
 obtain ⟨p,xs,i,z,rfl,rfl,hq,he,q⟩:=h
 cases rx
 obtain ⟨t,rfl⟩:=ry
 obtain ⟨its,r,pl,hz⟩:=I.tuple hq
 obtain ⟨j,h1,h2,h3,h4,h5⟩:=qO he
 obtain ⟨w,ew,rw'⟩:=r.get h2
 have hl:=r.length
 have hn:=qb
 have fin:EP X pins σ Q w s:=⟨z,H,I,rw',q⟩
 exact subscriptTail_builtinR (x:=w) pl.typeIs slot_tuple_getitem.lookup
  (getItem_tuple (j:=j) (Q:=fun r s'=>r=w/\EP X pins σ Q r s') pl (by omega) (by omega) (by rw [List.size_toArray,<- hl];exact h1) (by simpa using ew) ⟨rfl,fin⟩) hs
theorem Ax:IxR X Br:=by
 intro value slice pins s σ H x y v u Q I rx ry h hs
 obtain ⟨z,i,c,rfl,rfl,hz,he,q⟩:=h
 obtain ⟨t,rfl⟩:=rx
 obtain ⟨t',rfl⟩:=ry
 obtain ⟨j,h1,h2,h3,h4,h5⟩:=qO he
 have hl:z.cps.toList.length=z.length:=by simp [Str.length]
 rw [hl] at h1 h4 h5
 have hn:=qb
 exact tail_any (typeIs_str s z t) slot_str_getitem.lookup (getItem_str (c:=c) (by
  have e1:decide (i < -(2 ^ 63:Int))=false:=decide_eq_false (by omega)
  have e2:decide (i ≥ 2 ^ 63)=false:=decide_eq_false (by omega)
  rw [e1,e2,Bool.or_false]) (by rw [h1];simpa using h2) ⟨.str ⟨#[c]⟩,H,I.tok _,⟨_,rfl⟩,q⟩) hs
noncomputable def rIx (K:PySem.W.Frag):R2:=fun x y H Q=>Bs K x y H Q\/Bq K x y H Q\/Br x y H Q
theorem wK:IxR X (rIx X.K):=ix_list.or (ix_tup.or Ax)
theorem ax:jB X (.builtin "len") (fun xs H Q=>∃ p ys,xs=[.ref p]/\(SqL X.K H p ys\/SqT X.K H p ys)/\Q (.int ys.length) H):=by
 intro pins s σ H xs us Q I r h
 obtain ⟨p,ys,rfl,hq,q⟩:=h
 obtain ⟨u,rfl,rx⟩:=mq r
 cases rx
 have hn:=qb
 rcases hq with hq | hq
 ·obtain ⟨its,r',pl,hz⟩:=I.list hq
  have hlen:=r'.length
  exact Calls.call_len_list pl.isList (by simp only [List.size_toArray] <;> omega) ⟨.int ys.length,H,I.tok _,⟨s.toks + 1,by rw [List.size_toArray,hlen]⟩,q⟩
 ·obtain ⟨its,r',pl,hz⟩:=I.tuple hq
  have hlen:=r'.length
  exact len_tuple pl (by simp only [List.size_toArray] <;> omega) ⟨.int ys.length,H,I.tok _,⟨s.toks + 1,by rw [List.size_toArray,hlen]⟩,q⟩
theorem bS:jB X (.type "list") (fun xs H Q=>∃ p ys,xs=[.ref p]/\(SqL X.K H p ys\/SqT X.K H p ys)/\∀ l,H l=none->Q (.ref l) (upd H l (.lst ys))):=by
 intro pins s σ H xs us Q I r h
 obtain ⟨p,ys,rfl,hq,q⟩:=h
 obtain ⟨u,rfl,rx⟩:=mq r
 cases rx
 have fin:∀ (its:List Value),Vals ys its->ys.length<=sizeLine->∀ (h':Heap) (c':Nat),(∀ b o',s.heap.get? b=some o'->h'.get? b=some o') ->
   h'.get? s.heap.objs.size=some { cls:=.type "list",dict:=none,data:=.seq its.toArray c',slots:=#[] }->EP X pins σ Q (.ref s.heap.objs.size) { s with heap:=h' }:=fun its r' hz h' c' kp e =>
  ⟨.ref s.heap.objs.size,_,I.laid (t':=s.toks) kp (Nat.le_refl _) (show ObjOk X.prog X.w _ h' _ (.lst ys) from ⟨hz,its,c',r',e⟩),rfl,q _ (I.hok.fresh (Nat.le_refl _))⟩
 rcases hq with hq | hq
 ·obtain ⟨its,r',pl,hz⟩:=I.list hq
  have hlen:=r'.length
  obtain ⟨o,ho,hc,n,hd⟩:=pl.isList
  exact call_list_seq p (.inl rfl) ho hc hd (fun h' c' kp e=>fin its r' hz h' c' kp e) (by simp only [List.size_toArray] <;> omega)
 ·obtain ⟨its,r',pl,hz⟩:=I.tuple hq
  have hlen:=r'.length
  obtain ⟨o,ho,hc,n,hd⟩:=pl
  exact call_list_seq p (.inr rfl) ho hc hd (fun h' c' kp e=>fin its r' hz h' c' kp e) (by simp only [List.size_toArray] <;> omega)
theorem eD:jB X (.type "tuple") (fun xs H Q=>∃ p ys,xs=[.ref p]/\((SqL X.K H p ys/\∀ l,H l=none->Q (.ref l) (upd H l (.tup ys)))\/(SqT X.K H p ys/\Q (.ref p) H))):=by
 intro pins s σ H xs us Q I r h
 obtain ⟨p,ys,rfl,h⟩:=h
 obtain ⟨u,rfl,rx⟩:=mq r
 cases rx
 rcases h with ⟨hq,q⟩ | ⟨hq,q⟩
 ·obtain ⟨its,r',pl,hz⟩:=I.list hq
  have hlen:=r'.length
  refine call_tuple_list pl.isList (fun h' kp=>?_) (by simp only [List.size_toArray] <;> omega)
  have I1:Inv X pins σ H { s with heap:=h' }:=I.kept (t':=s.toks) kp
  have I2:Inv X pins σ (upd H h'.objs.size (.tup ys)) { s with heap:=h'.push { cls:=.type "tuple",data:=.seq its.toArray } } :=
   I1.laid (t':=s.toks) (fun b o e=>Heap.get?_push_of_some _ e) (Nat.le_refl _) (show ObjOk X.prog X.w _ _ _ (.tup ys) from ⟨hz,its,r',IsTup.new _ _⟩)
  exact ⟨.ref h'.objs.size,_,I2,rfl,q _ (I1.hok.fresh (Nat.le_refl _))⟩
 ·obtain ⟨its,r',pl,hz⟩:=I.tuple hq
  exact call_tuple_same pl ⟨.ref p,H,I,rfl,q⟩
noncomputable def tyV (K:PySem.W.Frag) (T:String) (x:V) (H:Hp):Prop:=match x with
 | .str _=>T="str"
 | .int _=>T="int"
 | .ref p=>(T="list"/\∃ xs,SqL K H p xs)\/(T="tuple"/\∃ o,K.lookup p=some o/\o.cls=.type "tuple"/\o.dict=none) \/
   (T="dict"/\((∃ kvs,H p=some (.dK kvs))\/∃ kvs,H p=some (.dT kvs)))\/(T="set"/\∃ S n,H p=some (.set S n))
 | _=>False
theorem zw {pins:List (Addr × Obj)} {σ:St} {H:Hp} {s:Shared} {T:String} {x:V} {v:Value} (I:Inv X pins σ H s) (r:RelV x v) (ty:tyV X.K T x H) :
  s.TypeIs v T/\∀ a,v=.ref a->∃ ob,s.heap.get? a=some ob/\ob.dict=none:=by
 cases x with
 | str z =>
  obtain ⟨t,rfl⟩:=r
  cases (show T="str" from ty)
  exact ⟨typeIs_str s z t,fun _ e=>nomatch e⟩
 | int i =>
  obtain ⟨t,rfl⟩:=r
  cases (show T="int" from ty)
  exact ⟨typeIs_int s i t,fun _ e=>nomatch e⟩
 | ref p =>
  cases r
  rcases ty with ⟨rfl,xs,hq⟩ | ⟨rfl,o,hk,hc,hd⟩ | ⟨rfl,hk⟩ | ⟨rfl,S,n,hk⟩
  ·obtain ⟨its,_,pl,_⟩:=I.list hq
   refine ⟨pl.isList.typeIs,fun a e=>?_⟩
   cases e
   obtain ⟨o,n,e,c,hd,_⟩:=pl
   exact ⟨o,e,hd⟩
  ·refine ⟨⟨o,I.kIn p o hk,hc⟩,fun a e=>?_⟩
   cases e
   exact ⟨o,I.kIn _ o hk,hd⟩
  ·have z:∃ o,s.heap.get? p=some o/\o.ExactDict:=by
    rcases hk with ⟨kvs,hk⟩ | ⟨kvs,hk⟩
    ·obtain ⟨_,_,_,_,o,_,_,e,ex,_⟩:=I.hok p _ hk
     exact ⟨o,e,ex⟩
    ·obtain ⟨_,_,_,_,o,_,_,e,ex,_⟩:=I.hok p _ hk
     exact ⟨o,e,ex⟩
   obtain ⟨o,e,ex⟩:=z
   refine ⟨⟨o,e,ex.1⟩,fun a e2=>?_⟩
   cases e2
   exact ⟨o,e,ex.2.1⟩
  ·obtain ⟨o,_,_,_,e,ex,_⟩:=I.hok p _ hk
   refine ⟨⟨o,e,ex.1⟩,fun a e2=>?_⟩
   cases e2
   exact ⟨o,e,ex.2.1⟩
 | _=>exact False.elim ty
noncomputable def tBM (K:PySem.W.Frag) (T:String) (r:V->List V->Hp->VK->Prop) (to:TE) (t:TA):TE:=fun σ H Q=>to σ H fun x H1=>tyV K T x H1/\t σ H1 fun xs H2=>r x xs H2 Q
variable {o e:Expr} {es:List Expr} {to:TE} {t:TA} {name:Str} {apos cpos:Pos} {T id:String} {r:V->List V->Hp->VK->Prop}
theorem ub (pa:PlainAttrs T) (slot:Slot T name id) (hty:typeOf (.builtin id)=pure (.type "method_descriptor")) (hm:MtR X id r) (ho:PE X o to) (ha:PA X (e :: es) t)
  (hbase:attributeBase o name X.env (eval o X.env)=eval o X.env:=by rfl)
  (hfew:((backTo cpos (starEach (e :: es) X.env)).all (fun x=>!x.1) && (backToKw cpos (keywordEach [] X.env)).all (fun x=>x.1.isSome)
   && decide ((e :: es).length + ([]:List Keyword).length + (if ([]:List Keyword).isEmpty then 0 else 1) < 30))=true:=by rfl)
  (hline:(apos.endLine == cpos.line)=true:=by rfl) (hs:starEach (e :: es) X.env=(false,eval e X.env) :: starEach es X.env:=by rfl) (hplain:(backTo cpos (starEach es X.env)).any (·.1)=false:=by rfl) :
  PE X (.Call (.Attribute o name apos) (e :: es) [] cpos) (tBM X.K T r to t):=by
 intro pins s σ H Q I h
 refine wpAny_Call_method_late hbase hfew hline rfl (thn (ho pins s σ H _ I h) fun v s1 ⟨x,H1,I1,r1,ty,q1⟩=>?_)
 obtain ⟨h1,h2⟩:=zw I1 r1 ty
 refine ⟨T,id,pa,slot,hty,h1,h2,?_⟩
 have hA:=ha cpos pins s1 σ H1 _ I1 q1
 rw [hs] at hA ⊢
 refine Calls.callWith_builtin (by show (false || (backTo cpos (starEach es X.env)).any (·.1))=false;rw [hplain] <;> rfl) (Calls.evalArgs_plain ?_)
 exact thn hA fun us s2 ⟨vs,H2,I2,r2,q2⟩=>hm pins s2 σ H2 x vs v us Q I2 r1 r2 q2
end
end L2
namespace L2
open PySem PySem.Spec PyProof.Rows
noncomputable def MtM (X:Cx) (id:String) (r:V->List V->Hp->VK->Prop):Prop :=
 ∀ (pins:List (Addr × Obj)) (s:Shared) (σ:St) (H:Hp) (x:V) (xs:List V) (v:Value) (us:List Value) (Q:VK),Inv X pins σ H s->RelV x v->Vals xs us->r x xs H Q ->
  wpAny (model X.prog X.w) X.A (call (.builtin id) (v :: us)) (EP X pins σ Q) X.xe s
theorem Vals.one:∀ {x:V} {us:List Value},Vals [x] us->∃ u,us=[u]/\RelV x u
 | _,_,.cons r .nil=>⟨_,rfl,r⟩
theorem Vals.two:∀ {x y:V} {us:List Value},Vals [x,y] us->∃ u v,us=[u,v]/\RelV x u/\RelV y v
 | _,_,_,.cons r (.cons q .nil)=>⟨_,_,rfl,r,q⟩
section
variable {X:Cx} {pins:List (Addr × Obj)} {σ:St} {H:Hp} {s:Shared} {l b:Addr} {xs ys zs:List V}
theorem Inv.lset {its its':List Value} {n:Nat} {f:Array Value->Array Value} {t':Nat} (I:Inv X pins σ H s) (hH:H l=some (.lst xs))
  (e:s.heap.get? l=some { cls:=.type "list",data:=.seq its.toArray n }) (hf:f its.toArray=its'.toArray) (hv:Vals ys its') (hz:ys.length<=sizeLine) :
  Inv X pins σ (upd H l (.lst ys)) { s with heap:=s.heap.update l (Obj.mapSeq f),toks:=t' }:=by
 have q:=PySem.IsL.update e f
 rw [hf] at q
 refine I.write (x:=l) (e:=l) (by rw [hH];exact trivial) (.inl rfl) (fun b' u hb hu=>(Heap.get?_update_other s.heap (Obj.mapSeq f) (Ne.symm hb)).trans hu) ⟨_,q⟩ ?_
 exact ⟨hz,its',_,hv,q⟩
theorem Inv.lnew {its:List Value} {t':Nat} (I:Inv X pins σ H s) (hv:Vals ys its) (hz:ys.length<=sizeLine) :
  Inv X pins σ (upd H s.heap.objs.size (.lst ys)) { s with heap:=s.heap.push { cls:=.type "list",data:=.seq its.toArray },toks:=t' } :=
 I.laid (fun _ _ q=>Heap.get?_push_of_some _ q) (Nat.le_refl _) ⟨hz,its,0,hv,Heap.get?_push_size _ rfl⟩
theorem Inv.fresh (I:Inv X pins σ H s):H s.heap.objs.size=none:=I.hok.fresh (Nat.le_refl _)
theorem Inv.lstM (I:Inv X pins σ H s) (hH:H l=some (.lst xs)):xs.length<=sizeLine/\∃ (its:List Value) (n:Nat),Vals xs its/\xs.length=its.length/\s.heap.get? l=some { cls:=.type "list",data:=.seq its.toArray n }:=by
 obtain ⟨z,its,n,r,e⟩:=I.hok l _ hH
 exact ⟨z,its,n,r,r.length,e⟩
end
section
variable {X:Cx}
noncomputable def pO:V->List V->Hp->VK->Prop:=fun x vs H Q=>∃ l xs y,x=.ref l/\vs=[y]/\H l=some (.lst xs)/\xs.length < sizeLine/\Q .non (upd H l (.lst (xs ++ [y])))
theorem kK:MtM X "list.append" pO:=by
 intro pins s σ H x vs v us Q I rx rv h
 obtain ⟨l,xs,y,rfl,rfl,hH,hz,q⟩:=h
 cases rx
 obtain ⟨u,rfl,ru⟩:=rv.one
 obtain ⟨z,its,n,r,hl,e⟩:=I.lstM hH
 refine call_meets F.slot_list_append ⟨_,e,rfl⟩ F.entry_list_append (F.args_list_append_2 _ _) (PySem.list_append l its.toArray n u (by rw [List.size_toArray];omega)) ⟨e,?_⟩
 refine ⟨.non,_,I.lset (its':=its ++ [u]) hH e (by simp) (r.append (.cons ru .nil)) ?_,rfl,q⟩
 rw [List.length_append,List.length_singleton]
 omega
noncomputable def zJ:R2:=fun x y H Q=>∃ l b xs zs,x=.ref l/\y=.ref b/\H l=some (.lst xs)/\H b=some (.lst zs)/\xs.length + zs.length<=sizeLine/\∀ p,H p=none->Q (.ref p) (upd H p (.lst (xs ++ zs)))
theorem Al:OpR X (binaryOp .Add) zJ:=by
 intro pins s σ H x y v u Q I rx ry h
 obtain ⟨l,b,xs,zs,rfl,rfl,hH,hB,hz,q⟩:=h
 cases rx
 cases ry
 obtain ⟨z,its,n,r,hl,e⟩:=I.lstM hH
 obtain ⟨z2,its2,n2,r2,hl2,e2⟩:=I.lstM hB
 refine PySem.P.add_list e e2 ?_ (by rw [List.size_toArray,List.size_toArray];omega)
 have ea:its.toArray ++ its2.toArray=(its ++ its2).toArray:=by simp
 rw [ea]
 exact ⟨.ref _,_,I.lnew (t':=s.toks) (r.append r2) (by rw [List.length_append];omega),rfl,q _ I.fresh⟩
end
section
variable {prog:Program} {w:World} {A:Around} {E:Value->Shared->Prop} {s:Shared}
end
section
variable {X:Cx}
end
end L2
namespace Att
open PySem PySem.W PySem.Calls PyProof.Rows
theorem lC {P:Params} {h:Heap}:∀ (ns:List Int) (vs:List Value),WellAll P h vs (ns.map WData.int)->IntsAre vs ns:=by
 intro ns
 induction ns with
 | nil =>
  intro vs w
  rw [List.map_nil] at w
  cases w
  exact .nil
 | cons n ns ih =>
  intro vs w
  rw [List.map_cons] at w
  cases w with
  | cons a b =>
   cases a
   exact .cons _ _ (ih _ b)
theorem u7 {l:OpenLaw} {n:Nat} (hn:l.most=some n) {P:Params} {h:Heap} {args:List WData} {vals:List Value}
  (hpre:l.row.toRowW.claim.pre args=true) (hwl:WellAll P h vals args) :
  ∃ a vs ns,vals=[Value.ref a]/\args=[WData.list (ns.map WData.int)]/\h.get? a=some { cls:=.type "list",data:=.seq vs.toArray }/\IntsAre vs ns/\ns.length<=n:=by
 have hsh:WShape.hasAll [] args [.list .int]=true:=(pre_splitW hpre).1
 have hc:l.pre.holds [] { args:=args }=true:=(pre_splitW hpre).2
 obtain ⟨d,r,rfl,h1,h2⟩:=hasAllW_cons hsh
 obtain rfl:=hasAllW_nil h2
 obtain ⟨xs,rfl,h3⟩:=hasW_list h1
 obtain ⟨ns,rfl⟩:=items_int h3
 have hlen:ns.length<=n:=by
  unfold OpenLaw.pre at hc
  have h4:(WTm.not (.lt (.lit (.int (n:Int))) (.len (.arg 0)))).holds [] { args:=[.list (ns.map .int)] }=true:=by
   have h4:=(holds_andW hc).1
   rw [hn] at h4
   exact h4
  have h5:=condW_of h4 (w_not (w_lt w_lit (w_len_list (w_arg rfl))))
  rw [List.length_map] at h5
  refine Nat.le_of_not_lt fun q=>?_
  have q':(n:Int) < ((ns.length:Nat):Int):=by omega
  first
   | (rw [decide_eq_true q'] at h5;exact absurd h5 (by decide))
   | (simp at h5;omega)
 cases hwl with
 | cons w1 w2 =>
  cases w2
  cases w1 with
  | list ho hall=>exact ⟨_,_,ns,rfl,rfl,ho,lC ns _ hall,hlen⟩
theorem vd (l:OpenLaw) (args:List WData):l.row.toRowW.claim.post args (.bool true) args=true :=
 postW_of (r:=l.row.toRowW) (X:=(true == true))
  (show WShape.has [] (.bool true) .bool=true by first | rfl | decide | simp [WShape.has,WShape.arms,WShape.armsAll])
  (show (WTm.eq .res (.lit (.bool true))).value [] { args:=args,res:=some (.bool true),after:=args }=some (.bool (true == true)) from w_eq_bool (w_res rfl) w_lit) rfl
theorem attach_call {l:OpenLaw} {n:Nat} {q:Program} {loose:List Str} {XP:(Str->Option Value)->Heap->Prop} {YP:World->Heap->Prop} {d:DefRec}
  (hn:l.most=some n) (hdf:d.params.defaults=[])
  (call:∀ (w:World) (s₀ s₁:Shared) (mg mb:Str->Option Value) (fa:Addr) (o:Obj) (pm cd doc:Value) (a:Addr) (vs:List Value) (ns:List Int),
   Ground q loose [] XP w s₀ mg mb s₁.heap->YP w s₁.heap ->
   s₁.heap.get? fa=some o->o.data=.func (docDef d.name d.params d.body d.scope pm cd doc)->s₁.heap.CodeRec cd d.name->mg d.name=some (.ref fa) ->
   s₁.heap.get? a=some { cls:=.type "list",data:=.seq vs.toArray }->IntsAre vs ns->ns.length<=n->s₁.gens=#[] ->
   codeAny (model l.prog w) callerA (.call (.ref fa) ⟨[.ref a],[]⟩) (fun r s'=>r=.ok (.ret (.bool true))/\OldK s₁.heap s'.heap/\s'.os=s₁.os/\AllBare s'.gens) s₁) :
  WalkO q loose XP YP l.row.toRowW d [] (fun f vs=>PySem.call f vs):=by
 intro w s₀ s₁ mg mb G Y fa o pm cd doc dV kV ho hd hcd hD hmg hg args vals as hpre hlay hrd hwl hlo
 obtain rfl:dV=.none:=Dflts.none hD hdf
 obtain rfl:kV=.none:=Dflts.noKw hD
 obtain ⟨a,vs,ns,rfl,rfl,hobj,hints,hlen⟩:=u7 hn hpre hwl
 refine enter_call (codeAny_mono (call w s₀ s₁ mg mb fa o pm cd doc a vs ns G Y ho (fd_plain hd) hcd hmg hobj hints hlen hg) fun r s' hq=>?_)
 obtain ⟨rfl,h2,h3,h4⟩:=hq
 exact ⟨.inl ⟨.bool true,.bool true,[],rfl,fun _=>rfl,.bool true,vd l _,fun _=>⟨List.Pairwise.nil,fun _ hm=>(nomatch hm)⟩⟩,h2,h3,h4⟩
section
variable {prog:Program} {w:World} {A:Around} {E:Value->Shared->Prop} {s:Shared} {K:Frag}
end
end Att
namespace L2
open PySem PySem.Spec PyProof.Rows
theorem oN:∀ {vs:List Value} {ns:List Int},IntsAre vs ns->Vals (ns.map V.int) vs
 | _,_,.nil=>.nil
 | _,_,.cons n t h=>.cons ⟨t,rfl⟩ (oN h)
noncomputable def A7 (H:Hp):Prop:=∀ b,H b=none\/∃ o xs,H b=some (.frz o (.lst xs))
theorem wJ {P:Program} {w:World} {K:PySem.W.Frag} {mg mb:Str->Option Value} {CX:CXT} {k:Nat} {fa a:Addr} {fd:FuncData} {x:Str} {sp:Sp} {s₁:Shared} {vs:List Value} {ns:List Int}
  (KX:K.In s₁.heap) (hns:s₁.heap.Ns mainGlobals mg) (hb:s₁.heap.Ns builtinsNs mb) (hbb:∀ x:Str,x ≠ "__name__"->mb x=bootBuiltins x) (hlim:s₁.heap.NoLimit) (hg:s₁.gens=#[])
  (ha:s₁.heap.get? a=some { cls:=.type "list",data:=.seq vs.toArray }) (hi:IntsAre vs ns) (hl:ns.length<=sizeLine) (hr:Room k callerA)
  (F:∀ base:Heap,K.In base->base.Ns mainGlobals mg->FnOk P w K mg base CX k fa fd [x] sp) (hbind:∀ (s:Shared) (u:Value),BindsTo s fd ⟨[u],[]⟩ [(x,u)])
  (hsp:∀ H:Hp,A7 H->SqL K H a (ns.map V.int)->sp [.ref a] H (fun v _=>v=.bl true) fun _ _ _=>False)
  (hCX:∀ H e s',CX [] H s₁ (fun _ _ _=>False) e s'->False) :
  codeAny (model P w) callerA (.call (.ref fa) ⟨[.ref a],[]⟩) (fun r s'=>r=.ok (.ret (.bool true))/\OldK s₁.heap s'.heap/\s'.os=s₁.os/\AllBare s'.gens) s₁:=by
 have rv:=oN hi
 have lenV:=hi.length
 have core:∀ H:Hp,A7 H->SqL K H a (ns.map V.int)->HOk P w H s₁.heap->(∀ b,H b ≠ none->b=a)->(H a ≠ none->K.lookup a=none) ->
   codeAny (model P w) callerA (.call (.ref fa) ⟨[.ref a],[]⟩) (fun r s'=>r=.ok (.ret (.bool true))/\OldK s₁.heap s'.heap/\s'.os=s₁.os/\AllBare s'.gens) s₁:=by
  intro H hO hS hok hA hK
  have base_of:∀ {b:Addr} {o:Obj},s₁.heap.get? b=some o->H b=none->(ql s₁.heap H).get? b=some o:=fun e n=>wO e n
  have noA:∀ {b:Addr} {o:Obj} {es:Array DictEntry} {ep:Nat},s₁.heap.get? b=some o->o.data=.dict es ep->H b=none:=fun {b o es ep} e d=>by
   cases q:H b with
   | none=>rfl
   | some u =>
    have e':b=a:=hA b (by rw [q];simp)
    subst e'
    rw [ha] at e;cases e
    have d':Data.seq vs.toArray _=Data.dict es ep:=d
    cases d'
  have nsK:∀ {b:Addr} {m:Str->Option Value},s₁.heap.Ns b m->(ql s₁.heap H).Ns b m:=fun {b m} ⟨o,es,ep,e,d,r⟩=>⟨o,es,ep,base_of e (noA e d),d,r⟩
  have hKb:K.In (ql s₁.heap H):=fun b o e=>base_of (KX b o e) (by
   cases q:H b with
   | none=>rfl
   | some u =>
    have e':b=a:=hA b (by rw [q];simp)
    subst e'
    rw [hK (by rw [q];simp)] at e;cases e)
  have hM:Mod K mg (ql s₁.heap H):=⟨hKb,nsK hns,⟨mb,nsK hb,hbb⟩,let ⟨mc,h1,h2⟩:=hlim;⟨mc,nsK h1,h2⟩⟩
  have e0:Env0 P w K mg (ql s₁.heap H) callerA [] s₁ H:=⟨rfl,hM,fun b o e=>yg e,Nat.le_of_eq (vv _ _),trivial,fun b hb=>absurd (show b ∈ ([]:List Addr) from hb) (by simp),hok,.of_eq hg⟩
  refine codeAny_mono ((F _ hKb (nsK hns)).run callerA [] s₁ H ⟨[.ref a],[]⟩ [.ref a] [.ref a] _ _ hr e0 (hbind s₁ (.ref a)) (.cons rfl .nil) (hsp H hO hS)) fun r s' h=>?_
  cases r with
  | error e=>exact (hCX H e s' h).elim
  | ok fl =>
   cases fl with
   | next=>exact False.elim h
   | brk=>exact False.elim h
   | cont=>exact False.elim h
   | ret u =>
    obtain ⟨v,H',os,bare,un,hok',r',q⟩:=h
    have q':v=.bl true:=q
    subst q'
    obtain rfl:u=Value.bool true:=r'
    refine ⟨rfl,OldK.of_keep fun b o e=>?_,os,bare⟩
    cases q:H b with
    | none=>exact un.keep b o e q (by intro z;exact absurd (show b ∈ ([]:List Addr) from z) (by simp)) (by simp)
    | some u =>
     rcases hO b with z | ⟨ob,xs,z⟩
     ·rw [q] at z;cases z
     ·have z2:=un.frzs b ob _ z
      obtain ⟨e1,_⟩:=hok b _ z
      obtain ⟨e2,_⟩:=hok' b _ z2
      rw [e] at e1;cases e1
      exact e2
 cases hk:K.lookup a with
 | some o =>
  have e:=KX a o hk
  rw [ha] at e
  cases e
  refine core (fun _=>none) (fun _=>.inl rfl) (.inr ⟨_,vs.toArray,_,hk,rfl,rfl,rfl,by rw [List.size_toArray,lenV];exact hl,by simpa using rv⟩) (fun b u z=>by have z':(none:Option HO)=some u:=z;cases z') (fun b z=>absurd rfl z) fun z=>absurd rfl z
 | none =>
  refine core (fun b=>if b=a then some (.frz { cls:=.type "list",data:=.seq vs.toArray } (.lst (ns.map V.int))) else none) (fun b=>?_) (.inl (.inr ⟨{ cls:=.type "list",data:=.seq vs.toArray },if_pos rfl⟩)) (fun b u z=>?_) (fun b z=>?_) fun _=>hk
  ·by_cases hb:b=a
   ·exact .inr ⟨_,_,if_pos hb⟩
   ·exact .inl (if_neg hb)
  ·by_cases hb:b=a
   ·have z':=(if_pos hb).symm.trans z
    cases z'
    subst hb
    exact ⟨ha,by rw [List.length_map];exact hl,vs,_,rv,ha⟩
   ·have z':=(if_neg hb).symm.trans z
    cases z'
  ·by_cases hb:b=a
   ·exact hb
   ·exact absurd (if_neg hb) z
end L2
namespace L2
open PySem PySem.Spec PyProof.Rows
theorem walk_of {l:PySem.W.OpenLaw} {n k:Nat} {q:Program} {loose:List Str} {XP:(Str->Option Value)->Heap->Prop} {YP:World->Heap->Prop} {d:DefRec} {K:Params->PySem.W.Frag} {CX:World->CXT} {sp:World->Sp} {x:Str}
  (hn:l.most=some n) (hn2:n<=sizeLine) (hdf:d.params.defaults=[]) (hr:Room k callerA)
  (hY:∀ (w:World) (h:Heap),YP w h->(K w.params).In h)
  (F:∀ (w:World) (mg:Str->Option Value) (fa:Addr) (h:Heap),(K w.params).In h->h.Ns mainGlobals mg->mg d.name=some (.ref fa) ->
   ∃ fd:FuncData,(∀ (s:Shared) (u:Value),BindsTo s fd ⟨[u],[]⟩ [(x,u)]) /\
    ∀ base:Heap,(K w.params).In base->base.Ns mainGlobals mg->FnOk l.prog w (K w.params) mg base (CX w) k fa fd [x] (sp w))
  (hsp:∀ (w:World) (H:Hp) (a:Addr) (ns:List Int),ns.length<=n->A7 H->SqL (K w.params) H a (ns.map V.int)->sp w [.ref a] H (fun v _=>v=.bl true) fun _ _ _=>False)
  (hCX:∀ (w:World) (H:Hp) (s:Shared) (e:Value) (s':Shared),CX w [] H s (fun _ _ _=>False) e s'->False) :
  PySem.W.WalkO q loose XP YP l.row.toRowW d [] (fun f vs=>PySem.call f vs):=by
 refine Att.attach_call hn hdf fun w s₀ s₁ mg mb fa o pm cd doc a vs ns G Y ho hd hcd hmg hobj hints hlen hg=>?_
 have KX:=hY w _ Y
 obtain ⟨fd,hb,hF⟩:=F w mg fa _ KX G.T.g hmg
 exact wJ KX G.T.g G.T.b G.T.builtins G.T.nolimit hg hobj hints (Nat.le_trans hlen hn2) hr hF hb (fun H hO hS=>hsp w H a ns hlen hO hS) fun H e s'=>hCX w H s₁ e s'
end L2
namespace L2
open PySem PySem.Spec PyProof.Rows
noncomputable def yt (s:Stmt) (j:Nat):Stmt:=match s with
 | .ClassDef _ _ _ body _ _ _ _ _ _ _=>body.getD j (.Pass ⟨0,0,0,0⟩)
 | _=>.Pass ⟨0,0,0,0⟩
noncomputable def aL (s:Stmt):Arguments:=match s with
 | .FunctionDef _ a _ _ _ _ _ _ _ _=>a
 | _=>{ posonlyargs:=[],args:=[],vararg:=none,kwonlyargs:=[],kw_defaults:=[],kwarg:=none,defaults:=[] }
noncomputable def aw (s:Stmt):List Stmt:=match s with
 | .FunctionDef _ _ b _ _ _ _ _ _ _=>b
 | _=>[]
noncomputable def ac (s:Stmt):Scope:=match s with
 | .FunctionDef _ _ _ _ _ _ sc _ _ _=>sc
 | _=>{ kind:=.function,names:=[],isGenerator:=false,isCoroutine:=false }
noncomputable abbrev CX0:CXT:=fun _ _ _ _ _ _=>False
noncomputable abbrev E0:XK:=fun _ _ _=>False
theorem rj {X:Cx}:qQ CX0 X E0:=fun _ _ _ _ _ _ _ h=>h.elim
structure Fun (K:PySem.W.Frag) (x qual:Str) (st:Stmt) (f:Addr) (fd:FuncData):Prop where
 ex:∃ (oc:Value) (od:Option Addr) (kV doc pm:Value) (an:Option Addr) (cdv ct:Value) (osl:Array (Option Value)),
  fd=PySem.W.fnOf x qual (aL st) (aw st) (ac st) .none kV doc pm an cdv ct/\K.lookup f=some ⟨oc,od,.func fd,osl⟩/\PySem.W.codeIn K cdv qual=true
 kp:PySem.W.keepIn K (.ref f)=true
section
variable {P:Program} {w:World} {K:PySem.W.Frag} {mg:Str->Option Value} {base:Heap}
theorem Fun.ok {x qual:Str} {st:Stmt} {f:Addr} {fd:FuncData} {N ps:List Str} {k:Nat} {sp:Sp} (F:Fun K x qual st f fd) (S:aH N ps (ac st)) (len:∀ vs H Q E,sp vs H Q E->vs.length=ps.length)
  (hbody:∀ (cdv:Value) (A:Around) (outer:List Env) (s:Shared) (H:Hp) (vs:List V) (Q:VK) (E:XK),Room k (A.deeper (envOfC qual (ac st) s.heap.objs.size f cdv))->sp vs H Q E ->
   ∃ t,PSs (bX CX0 P w K mg base N qual (ac st) f cdv A outer s H E).nox (aw st) t/\t { nx:=fun _ H'=>Q .non H',rt:=Q } (start N vs) H):FnOk P w K mg base CX0 (k + 1) f fd ps sp:=by
 obtain ⟨oc,od,kV,doc,pm,an,cdv,ct,osl,rfl,lk,hcd⟩:=F.ex
 refine BU lk hcd S len fun A outer s H vs Q E hr hsp=>?_
 obtain ⟨t,h,q⟩:=hbody cdv A outer s H vs Q E hr hsp
 exact ⟨t,h.nox,q⟩
theorem Fun.binds {x qual:Str} {st:Stmt} {f:Addr} {fd:FuncData} {ps:List Str} (F:Fun K x qual st f fd)
  (h:∀ (kV doc pm:Value) (an:Option Addr) (cdv ct:Value) (us:List Value),us.length=ps.length->bindArgs (PySem.W.fnOf x qual (aL st) (aw st) (ac st) .none kV doc pm an cdv ct) ⟨us,[]⟩=pure (ps.zip us)):Binds K fd ps []:=by
 obtain ⟨oc,od,kV,doc,pm,an,cdv,ct,osl,rfl,lk,hcd⟩:=F.ex
 exact .all (h kV doc pm an cdv ct)
theorem be {x qual:Str} {st:Stmt} {f:Addr} {oc:Value} {od an:Option Addr} {osl:Array (Option Value)} {kV doc pm cdv ct:Value} (l:K.lookup f=some ⟨oc,od,.func (PySem.W.fnOf x qual (aL st) (aw st) (ac st) .none kV doc pm an cdv ct),osl⟩)
  (c:PySem.W.codeIn K cdv qual=true) (k:PySem.W.keepIn K (.ref f)=true):Fun K x qual st f (PySem.W.fnOf x qual (aL st) (aw st) (ac st) .none kV doc pm an cdv ct):=⟨⟨oc,od,kV,doc,pm,an,cdv,ct,osl,rfl,l,c⟩,k⟩
end
section
variable {X:Cx}
theorem pv (i:Nat) {x:Str} {pos:Pos} (hN:X.N[i]?=some x:=by rfl) (hv:Vis X.env.scope x:=by first | exact Or.inl rfl | exact Or.inr (Or.inl rfl) | exact Or.inr (Or.inr rfl)) (hd:(x == ("__debug__":Str))=false:=by decide)
  (hcd:(x == ("__classdict__":Str))=false:=by decide):PE X (.Name x pos) (fN i):=zZ hN hv hd hcd
end
theorem AA {A B:Prop} (h:B):if false=true then A else B:=by
 rw [if_neg Bool.false_ne_true]
 exact h
theorem Az {A B:Prop} (h:A):if true=true then A else B:=by
 rw [if_pos rfl]
 exact h
noncomputable def Same (H H':Hp):Prop:=∀ b o,H b=some o->H' b=some o
theorem Same.refl (H:Hp):Same H H:=fun _ _ h=>h
theorem Same.trans {H H1 H2:Hp} (a:Same H H1) (b:Same H1 H2):Same H H2:=fun c o h=>b c o (a c o h)
theorem Same.seq {K:PySem.W.Frag} {H H':Hp} {a:Addr} {xs:List V} (e:Same H H') (h:SqL K H a xs):SqL K H' a xs:=by
 rcases h with (h | ⟨o,h⟩) | h
 ·exact .inl (.inl (e _ _ h))
 ·exact .inl (.inr ⟨o,e _ _ h⟩)
 ·exact .inr h
end L2
set_option compiler.extract_closed false
set_option genSizeOf true
set_option genInjectivity true
set_option autoImplicit false
namespace DL
open PySem PySem.Spec PyProof.Rows L2
noncomputable abbrev St:=L2.St
noncomputable def exN (c:Nat):Str:=match c with
 | 0=>"NoHall"
 | 1=>"NoArrow"
 | 2=>"NoBox"
 | 3=>"NoPicture"
 | 4=>"NoReading"
 | 5=>"NoThing"
 | _=>"NoSending"
structure A9 (h:Heap) (e:Addr) (cls:Value) (ch:List Addr):Prop where
 mem:e ∈ ch
 at_:∃ oe vs,h.get? e=some oe/\oe.cls=cls/\oe.dict=none/\oe.data=.fields vs/\1 < vs.size/\(vs[1]?=some .none\/∃ T oT ts fl,vs[1]?=some (.ref T)/\T ≠ e/\T ∈ ch/\h.get? T=some oT/\oT.data=.fields ts/\ts[3]?=some fl)
 thr:∀ b ∈ ch,∃ o vs,h.get? b=some o/\o.data=.fields vs
section
variable {M:Model} {A:Around} {E:Value->Shared->Prop} {s:Shared}
end
theorem _root_.L2.Inv.frn {X:Cx} {pins:List (Addr × Obj)} {σ:St} {H:Hp} {s:Shared} (I:Inv X pins σ H s):∀ b ∈ X.fs,H b=none:=fun b hb=>by
 obtain ⟨_,o,ho,_⟩:=I.ok.funs.mem hb
 exact I.base.free b o ho (I.ok.frf b hb) fun z=>I.ok.exfs b z hb
noncomputable def C0 (X:Cx) (pins:List (Addr × Obj)) (H:Hp) (b:Addr):Prop :=
 H b=none/\X.s₀.heap.get? b=none/\b ≠ X.env.locals/\b ∉ frs X.stack/\(∀ x c,X.env.cells.lookup x=some c->c ≠ b)/\∀ p ∈ X.pn ++ pins,p.1 ≠ b
section
variable {X:Cx} {pins:List (Addr × Obj)} {σ:St} {H:Hp} {s:Shared} {h':Heap} {ch:List Addr}
end
end DL
namespace DL
open PySem PySem.Spec PyProof.Rows L2
inductive D where
 | non | bl (b:Bool) | int (i:Int) | lst (xs:List D) | tup (xs:List D) | ob (e r t:D) | scr (ns:List Int) | exn (c:Nat)
noncomputable abbrev KA:=Int × Int × List Int
inductive OK where
 | s | l (k:OK) | p (j k:OK)
 deriving DecidableEq
inductive Slt where
 | shr (d:D) | own (xs:List D) | dic (kvs:List (KA × D)) | tre (k:OK) (d:D)
noncomputable abbrev Rho:=List (Option Slt)
structure RB where
 rho:Rho
 ad:Nat->List Addr
instance:Coe RB Rho:=⟨RB.rho⟩
inductive R (α:Type) where
 | val (a:α) | exc (c:Nat) | bad
noncomputable def R.bind {α β:Type}:R α->(α->R β)->R β
 | .val a,f=>f a
 | .exc c,_=>.exc c
 | .bad,_=>.bad
inductive Out where
 | nx (ρ:Rho) | rt (d:D) | bk (ρ:Rho) | ct (ρ:Rho)
noncomputable def exP (K:PySem.W.Frag) (c:Nat) (a:Addr):Heap->Prop:=fun h=>∃ ox Cc,h.get? a=some ox/\ox.cls=.ref Cc/\ox.dict=none/\(∃ vs,ox.data=.fields vs)/\PySem.W.nsIn K mainGlobals (exN c)=some (some (.ref Cc))
noncomputable def BZ (e r t:V):List (Str × V):=[("ends",e),("rests",r),("table",t)]
mutual
inductive Has (K:PySem.W.Frag) (C:Addr) (H:Hp):V->D->Prop where
 | non:Has K C H .non .non
 | bl (b:Bool):Has K C H (.bl b) (.bl b)
 | int (i:Int):Has K C H (.int i) (.int i)
 | lst {a:Addr} {vs:List V} {xs:List D}:H a=some (.lst vs)->HasL K C H vs xs->Has K C H (.ref a) (.lst xs)
 | tup {a:Addr} {vs:List V} {xs:List D}:H a=some (.tup vs)->HasL K C H vs xs->Has K C H (.ref a) (.tup xs)
 | scr {a:Addr} {ns:List Int}:SqL K H a (ns.map V.int)->Has K C H (.ref a) (.scr ns)
 | exn {a:Addr} {c:Nat}:H a=some (.ext (exP K c a))->Has K C H (.ref a) (.exn c)
 | ob {a dx:Addr} {ve vr vt:V} {e r t:D}:H a=some (.ins C dx (BZ ve vr vt))->Has K C H ve e->Has K C H vr r->Has K C H vt t->Has K C H (.ref a) (.ob e r t)
inductive HasL (K:PySem.W.Frag) (C:Addr) (H:Hp):List V->List D->Prop where
 | nil:HasL K C H [] []
 | cons {v:V} {d:D} {vs:List V} {ds:List D}:Has K C H v d->HasL K C H vs ds->HasL K C H (v :: vs) (d :: ds)
end
section
variable {K:PySem.W.Frag} {C:Addr} {H H':Hp}
mutual
theorem Has.mono (s:Same H H'):∀ {v:V} {d:D},Has K C H v d->Has K C H' v d
 | _,_,.non=>.non
 | _,_,.bl b=>.bl b
 | _,_,.int i=>.int i
 | _,_,.lst q h=>.lst (s _ _ q) (HasL.mono s h)
 | _,_,.tup q h=>.tup (s _ _ q) (HasL.mono s h)
 | _,_,.scr q=>.scr (s.seq q)
 | _,_,.exn q=>.exn (s _ _ q)
 | _,_,.ob q a b c=>.ob (s _ _ q) (Has.mono s a) (Has.mono s b) (Has.mono s c)
theorem HasL.mono (s:Same H H'):∀ {vs:List V} {ds:List D},HasL K C H vs ds->HasL K C H' vs ds
 | _,_,.nil=>.nil
 | _,_,.cons a b=>.cons (Has.mono s a) (HasL.mono s b)
end
theorem HasL.len:∀ {vs:List V} {ds:List D},HasL K C H vs ds->vs.length=ds.length
 | _,_,.nil=>rfl
 | _,_,.cons _ b=>by simp [HasL.len b]
theorem HasL.app:∀ {vs:List V} {ds:List D} {ws:List V} {es:List D},HasL K C H vs ds->HasL K C H ws es->HasL K C H (vs ++ ws) (ds ++ es)
 | _,_,_,_,.nil,h=>h
 | _,_,_,_,.cons a b,h=>.cons a (HasL.app b h)
theorem HasL.get:∀ {vs:List V} {ds:List D} {i:Nat} {d:D},HasL K C H vs ds->ds[i]?=some d->∃ v,vs[i]?=some v/\Has K C H v d
 | _,_,_,_,.nil,e=>by simp at e
 | _,_,0,_,.cons a _,e=>by simp at e;subst e;exact ⟨_,rfl,a⟩
 | _,_,i + 1,d,.cons _ b,e=>by
  obtain ⟨v,h1,h2⟩:=HasL.get (i:=i) (d:=d) b (by simpa using e)
  exact ⟨v,by simpa using h1,h2⟩
theorem HasL.get':∀ {vs:List V} {ds:List D} {i:Nat} {v:V},HasL K C H vs ds->vs[i]?=some v->∃ d,ds[i]?=some d/\Has K C H v d
 | _,_,_,_,.nil,e=>by simp at e
 | _,_,0,_,.cons a _,e=>by simp at e;subst e;exact ⟨_,rfl,a⟩
 | _,_,i + 1,v,.cons _ b,e=>by
  obtain ⟨d,h1,h2⟩:=HasL.get' (i:=i) (v:=v) b (by simpa using e)
  exact ⟨d,by simpa using h1,h2⟩
theorem HasL.drop:∀ {vs:List V} {ds:List D} (n:Nat),HasL K C H vs ds->HasL K C H (vs.drop n) (ds.drop n)
 | _,_,0,h=>h
 | _,_,_ + 1,.nil=>.nil
 | _,_,n + 1,.cons _ b=>HasL.drop n b
theorem HasL.take:∀ {vs:List V} {ds:List D} (n:Nat),HasL K C H vs ds->HasL K C H (vs.take n) (ds.take n)
 | _,_,0,_=>.nil
 | _,_,_ + 1,.nil=>.nil
 | _,_,n + 1,.cons a b=>.cons a (HasL.take n b)
theorem HasL.ints:∀ ns:List Int,HasL K C H (ns.map V.int) (ns.map D.int)
 | []=>.nil
 | n :: ns=>.cons (.int n) (HasL.ints ns)
end
noncomputable def wM:Slt->Bool
 | .shr _=>false
 | _=>true
noncomputable def Own (ρ:RB) (σ:St) (b:Addr):Prop:=∃ i:Nat,b ∈ ρ.ad i
open Classical in
noncomputable def msk (ρ:RB) (σ:St) (H:Hp):Hp:=fun b=>if Own ρ σ b then none else H b
section
variable {ρ:RB} {σ:St} {H H':Hp} {b:Addr} {o:HO}
theorem msk_some:msk ρ σ H b=some o ↔ ¬ Own ρ σ b/\H b=some o:=by
 unfold msk
 by_cases h:Own ρ σ b
 ·rw [if_pos h];exact ⟨fun e=>(by cases e),fun e=>absurd h e.1⟩
 ·rw [if_neg h];exact ⟨fun e=>⟨h,e⟩,fun e=>e.2⟩
theorem msk_sub:Same (msk ρ σ H) H:=fun b o e=>(msk_some.mp e).2
theorem br (s:Same H H'):Same (msk ρ σ H) (msk ρ σ H'):=fun b o e=>msk_some.mpr ⟨(msk_some.mp e).1,s _ _ (msk_some.mp e).2⟩
end
noncomputable def lZ (k:KA):Int:=reduceHash (Builtin.Tuple.tupleHashOf [hashInt k.1,hashInt k.2.1,reduceHash (Builtin.Tuple.tupleHashOf (k.2.2.map hashInt))])
noncomputable def CS (x:KA × Addr × Value):DictEntry:=⟨lZ x.1,.ref x.2.1,x.2.2⟩
noncomputable def dOk (a:Addr) (xs:List (KA × Addr × Value)) (h:Heap):Prop:=(a == sysModules)=false/\xs.length<=100001/\∃ o es ep,h.get? a=some o/\o.ExactDict/\o.data=.dict es ep/\es.toList=xs.map CS
noncomputable def km (a:Addr) (xs:List (KA × Addr × Value)):HO:=.ext (dOk a xs)
noncomputable def KeyIn (M:Hp) (k:KA) (a:Addr):Prop:=∃ ta,M a=some (.tup [.int k.1,.int k.2.1,.ref ta])/\M ta=some (.tup (k.2.2.map V.int))
noncomputable def EntOk (K:PySem.W.Frag) (C:Addr) (M:Hp) (p:KA × D) (q:KA × Addr × Value):Prop:=p.1=q.1/\KeyIn M p.1 q.2.1/\∃ v,RelV v q.2.2/\Has K C M v p.2
structure DicAt (K:PySem.W.Frag) (C:Addr) (M H:Hp) (a:Addr) (kvs:List (KA × D)):Prop where
 ex:∃ xs,H a=some (km a xs)/\(xs.map (·.1)).Nodup/\Paired (EntOk K C M) kvs xs
theorem KeyIn.mono {M M':Hp} {k:KA} {a:Addr} (m:Same M M') (h:KeyIn M k a):KeyIn M' k a:=by
 obtain ⟨ta,h1,h2⟩:=h
 exact ⟨ta,m _ _ h1,m _ _ h2⟩
theorem EntOk.mono {K:PySem.W.Frag} {C:Addr} {M M':Hp} {p:KA × D} {q:KA × Addr × Value} (m:Same M M') (h:EntOk K C M p q):EntOk K C M' p q:=by
 obtain ⟨h1,h2,v,h3,h4⟩:=h
 exact ⟨h1,h2.mono m,v,h3,h4.mono m⟩
theorem DicAt.mono {K:PySem.W.Frag} {C:Addr} {M M' H H':Hp} {a:Addr} {kvs:List (KA × D)} (e:∀ o,H a=some o->H' a=some o) (m:Same M M') (h:DicAt K C M H a kvs):DicAt K C M' H' a kvs:=by
 obtain ⟨xs,h1,h2,h3⟩:=h.ex
 exact ⟨xs,e _ h1,h2,Paired.mapP h3 fun p q z=>z.mono m⟩
mutual
inductive Tre (K:PySem.W.Frag) (C:Addr) (M H:Hp):OK->V->D->List Addr->Prop where
 | s {v:V} {d:D}:Has K C M v d->Tre K C M H .s v d []
 | l {k:OK} {a:Addr} {vs:List V} {xs:List D} {A:List Addr}:H a=some (.lst vs)->TreP K C M H (vs.map fun _=>k) vs xs A->a ∉ A->Tre K C M H (.l k) (.ref a) (.lst xs) (a :: A)
 | p {j k:OK} {a:Addr} {vs:List V} {xs:List D} {A:List Addr}:H a=some (.tup vs)->TreP K C M H [j,k] vs xs A->Tre K C M H (.p j k) (.ref a) (.tup xs) A
inductive TreP (K:PySem.W.Frag) (C:Addr) (M H:Hp):List OK->List V->List D->List Addr->Prop where
 | nil:TreP K C M H [] [] [] []
 | cons {k:OK} {ks:List OK} {v:V} {vs:List V} {d:D} {ds:List D} {A B:List Addr}:Tre K C M H k v d A->TreP K C M H ks vs ds B->(∀ a ∈ A,a ∉ B)->TreP K C M H (k :: ks) (v :: vs) (d :: ds) (A ++ B)
end
structure Stay (A:List Addr) (H H':Hp):Prop where
 at_:∀ a ∈ A,∀ o,H a=some o->H' a=some o
 tup:∀ a vs,H a=some (.tup vs)->H' a=some (.tup vs)
section
variable {K:PySem.W.Frag} {C:Addr} {H H' M M':Hp}
theorem Stay.of {A:List Addr} (s:Same H H'):Stay A H H':=⟨fun a _ o e=>s a o e,fun a vs e=>s a _ e⟩
theorem Stay.sub {A B:List Addr} (h:Stay A H H') (hs:∀ a ∈ B,a ∈ A):Stay B H H':=⟨fun a ha=>h.at_ a (hs a ha),h.tup⟩
mutual
theorem Tre.stay (m:Same M M'):∀ {k:OK} {v:V} {d:D} {A:List Addr},Stay A H H'->Tre K C M H k v d A->Tre K C M' H' k v d A
 | _,_,_,_,_,.s h=>.s (h.mono m)
 | _,_,_,_,y,.l e h n=>.l (y.at_ _ List.mem_cons_self _ e) (TreP.stay m (y.sub fun _ ha=>List.mem_cons_of_mem _ ha) h) n
 | _,_,_,_,y,.p e h=>.p (y.tup _ _ e) (TreP.stay m y h)
theorem TreP.stay (m:Same M M'):∀ {ks:List OK} {vs:List V} {ds:List D} {A:List Addr},Stay A H H'->TreP K C M H ks vs ds A->TreP K C M' H' ks vs ds A
 | _,_,_,_,_,.nil=>.nil
 | _,_,_,_,y,.cons h t n=>.cons (Tre.stay m (y.sub fun _ ha=>List.mem_append_left _ ha) h) (TreP.stay m (y.sub fun _ ha=>List.mem_append_right _ ha) t) n
end
mutual
theorem Tre.has (m:Same M H):∀ {k:OK} {v:V} {d:D} {A:List Addr},Tre K C M H k v d A->Has K C H v d
 | _,_,_,_,.s h=>h.mono m
 | _,_,_,_,.l e h _=>.lst e (TreP.has m h)
 | _,_,_,_,.p e h=>.tup e (TreP.has m h)
theorem TreP.has (m:Same M H):∀ {ks:List OK} {vs:List V} {ds:List D} {A:List Addr},TreP K C M H ks vs ds A->HasL K C H vs ds
 | _,_,_,_,.nil=>.nil
 | _,_,_,_,.cons h t _=>.cons (Tre.has m h) (TreP.has m t)
end
mutual
theorem Tre.lists:∀ {k:OK} {v:V} {d:D} {A:List Addr},Tre K C M H k v d A->∀ a ∈ A,∃ vs,H a=some (.lst vs)
 | _,_,_,_,.s _,a,ha=>by cases ha
 | _,_,_,_,.l e h _,a,ha=>by
  rcases List.mem_cons.mp ha with rfl | ha
  ·exact ⟨_,e⟩
  ·exact TreP.lists h a ha
 | _,_,_,_,.p _ h,a,ha=>TreP.lists h a ha
theorem TreP.lists:∀ {ks:List OK} {vs:List V} {ds:List D} {A:List Addr},TreP K C M H ks vs ds A->∀ a ∈ A,∃ vs,H a=some (.lst vs)
 | _,_,_,_,.nil,a,ha=>by cases ha
 | _,_,_,_,.cons h t _,a,ha=>by
  rcases List.mem_append.mp ha with ha | ha
  ·exact Tre.lists h a ha
  ·exact TreP.lists t a ha
end
theorem TreP.len:∀ {ks:List OK} {vs:List V} {ds:List D} {A:List Addr},TreP K C M H ks vs ds A->vs.length=ds.length/\ks.length=ds.length
 | _,_,_,_,.nil=>⟨rfl,rfl⟩
 | _,_,_,_,.cons _ t _=>⟨congrArg Nat.succ t.len.1,congrArg Nat.succ t.len.2⟩
theorem TreP.of:∀ {vs:List V} {ds:List D},HasL K C M vs ds->TreP K C M H (vs.map fun _=>.s) vs ds []
 | _,_,.nil=>.nil
 | _,_,.cons h t=>.cons (A:=[]) (B:=[]) (.s h) (TreP.of t) fun _ ha=>by cases ha
theorem TreP.flat:∀ {vs us:List V} {ds:List D} {A:List Addr},TreP K C M H (us.map fun _=>OK.s) vs ds A->A=[]/\HasL K C M vs ds
 | [],us,_,_,h=>by cases us with
  | nil=>cases h;exact ⟨rfl,.nil⟩
  | cons _ _=>cases h
 | v :: vs,us,_,_,h=>by cases us with
  | nil=>cases h
  | cons _ us=>cases h with
   | cons h t _=>cases h with
    | s h=>obtain ⟨e,t'⟩:=TreP.flat t;subst e;exact ⟨rfl,.cons h t'⟩
end
noncomputable def SlotOk (K:PySem.W.Frag) (C:Addr) (M H:Hp) (A:List Addr):Slt->Option (Option V)->Prop
 | .shr d,o=>∃ v,o=some (some v)/\Has K C M v d
 | .own xs,o=>∃ a vs,o=some (some (.ref a))/\a ∈ A/\H a=some (.lst vs)/\HasL K C M vs xs
 | .dic kvs,o=>∃ a,o=some (some (.ref a))/\a ∈ A/\DicAt K C M H a kvs
 | .tre k d,o=>∃ v B,o=some (some v)/\(∀ a ∈ B,a ∈ A)/\Tre K C M H k v d B
structure Rel (K:PySem.W.Frag) (C:Addr) (H0:Hp) (ρ:RB) (σ:St) (H:Hp):Prop where
 len:ρ.rho.length=σ.length
 keep:Same H0 (msk ρ σ H)
 at_:∀ (i:Nat) sl,ρ.rho[i]?=some (some sl)->SlotOk K C (msk ρ σ H) H (ρ.ad i) sl σ[i]?
 inj:∀ (i j:Nat) a,a ∈ ρ.ad i->a ∈ ρ.ad j->i=j
 kin:∀ (i:Nat) a,a ∈ ρ.ad i->(∃ vs,H a=some (.lst vs))\/∃ xs,H a=some (km a xs)
 bnd:∀ (i:Nat) a,a ∈ ρ.ad i->i < ρ.rho.length
noncomputable def vJ (K:PySem.W.Frag) (C:Addr) (H0:Hp) (ρ:Rho) (σ:St) (H:Hp):Prop:=∃ β:RB,β.rho=ρ/\Rel K C H0 β σ H
noncomputable def RB.put (ρ:RB) (i:Nat) (sl:Slt) (A:List Addr):RB:=⟨ρ.rho.set i (some sl),fun j=>if j=i then (if i < ρ.rho.length then A else []) else ρ.ad j⟩
section
variable {K:PySem.W.Frag} {C:Addr} {H0 H H' M M':Hp} {ρ:RB} {σ:St}
theorem SlotOk.stay {A:List Addr} {sl:Slt} {o:Option (Option V)} (y:Stay A H H') (m:Same M M') (h:SlotOk K C M H A sl o):SlotOk K C M' H' A sl o:=by
 cases sl with
 | shr d=>obtain ⟨v,e,h⟩:=h;exact ⟨v,e,h.mono m⟩
 | own xs=>obtain ⟨a,vs,e,n,q,h⟩:=h;exact ⟨a,vs,e,n,y.at_ _ n _ q,h.mono m⟩
 | dic kvs=>obtain ⟨a,e,n,h⟩:=h;exact ⟨a,e,n,h.mono (fun o q=>y.at_ _ n _ q) m⟩
 | tre k d=>obtain ⟨v,B,e,n,h⟩:=h;exact ⟨v,B,e,n,h.stay m (y.sub n)⟩
theorem SlotOk.mono {A:List Addr} {sl:Slt} {o:Option (Option V)} (s:Same H H') (m:Same M M') (h:SlotOk K C M H A sl o):SlotOk K C M' H' A sl o:=h.stay (.of s) m
theorem Rel.mono (r:Rel K C H0 ρ σ H) (s:Same H H'):Rel K C H0 ρ σ H' :=
 ⟨r.len,r.keep.trans (br s),fun i sl e=>(r.at_ i sl e).mono s (br s),r.inj,fun i a h=>(r.kin i a h).imp (fun ⟨vs,e⟩=>⟨vs,s _ _ e⟩) fun ⟨xs,e⟩=>⟨xs,s _ _ e⟩,r.bnd⟩
theorem Rel.rebase (r:Rel K C H0 ρ σ H):Rel K C (msk ρ σ H) ρ σ H:=⟨r.len,Same.refl _,r.at_,r.inj,r.kin,r.bnd⟩
theorem Rel.base {H1:Hp} (r:Rel K C H0 ρ σ H) (s:Same H1 H0):Rel K C H1 ρ σ H:=⟨r.len,s.trans r.keep,r.at_,r.inj,r.kin,r.bnd⟩
theorem Rel.ownAt (r:Rel K C H0 ρ σ H) {b:Addr} (h:Own ρ σ b):H b ≠ none:=by
 obtain ⟨i,h⟩:=h
 rcases r.kin i b h with ⟨vs,e⟩ | ⟨xs,e⟩ <;> (rw [e];exact fun z=>by cases z)
theorem Rel.new (r:Rel K C H0 ρ σ H) {p:Addr} {o:HO} (h:H p=none):msk ρ σ (upd H p o) p=some o :=
 msk_some.mpr ⟨fun z=>r.ownAt z h,bi⟩
theorem a_ {p:Addr} {o:HO} (h:H p=none):Same H (upd H p o):=fun b u e=>by
 rw [aJ (bo e h)];exact e
theorem gh {i j:Nat} {sl:Slt} {A:List Addr} {a:Addr} (h:a ∈ (ρ.put i sl A).ad j):(j=i/\i < ρ.rho.length/\a ∈ A)\/(j ≠ i/\a ∈ ρ.ad j):=by
 unfold RB.put at h
 dsimp only at h
 split at h
 ·rename_i e
  split at h
  ·exact .inl ⟨e,‹_›,h⟩
  ·cases h
 ·exact .inr ⟨‹_›,h⟩
theorem zN {i j:Nat} {sl sl':Slt} {A:List Addr} (h:(ρ.put i sl A).rho[j]?=some (some sl')):(j=i/\i < ρ.rho.length/\sl'=sl)\/(j ≠ i/\ρ.rho[j]?=some (some sl')):=by
 unfold RB.put at h
 dsimp only at h
 by_cases e:i=j
 ·subst e
  rw [List.getElem?_set] at h
  simp only [if_true] at h
  split at h
  ·cases h;exact .inl ⟨rfl,‹_›,rfl⟩
  ·cases h
 ·rw [List.getElem?_set_ne e] at h
  exact .inr ⟨fun z=>e z.symm,h⟩
theorem zM {i:Nat} {sl:Slt} {A:List Addr} {a:Addr} (hi:i < ρ.rho.length):(ρ.put i sl A).ad i=A:=by
 unfold RB.put
 dsimp only
 rw [if_pos rfl,if_pos hi]
theorem lT {i j:Nat} {sl:Slt} {A:List Addr} (h:j ≠ i):(ρ.put i sl A).ad j=ρ.ad j:=by
 unfold RB.put
 dsimp only
 rw [if_neg h]
theorem Rel.put (r:Rel K C H0 ρ σ H) {i:Nat} {sl:Slt} {A:List Addr} {σ':St} (hl:σ'.length=σ.length) (ho:∀ j:Nat,j ≠ i->σ'[j]?=σ[j]?)
  (fr:∀ a ∈ A,a ∈ ρ.ad i\/H a=none) (st:∀ j:Nat,j ≠ i->Stay (ρ.ad j) H H') (ks:∀ b o,msk ρ σ H b=some o->H' b=some o) (kA:∀ a ∈ A,(∃ vs,H' a=some (.lst vs))\/∃ xs,H' a=some (km a xs))
  (h:i < ρ.rho.length->Same (msk ρ σ H) (msk (ρ.put i sl A) σ' H')->SlotOk K C (msk (ρ.put i sl A) σ' H') H' A sl σ'[i]?):Rel K C H0 (ρ.put i sl A) σ' H':=by
 have own:∀ b,Own (ρ.put i sl A) σ' b->Own ρ σ b\/H b=none:=fun b z=>by
  obtain ⟨j,z⟩:=z
  rcases gh z with ⟨_,_,z⟩ | ⟨_,z⟩
  ·rcases fr b z with z | z
   ·exact .inl ⟨i,z⟩
   ·exact .inr z
  ·exact .inl ⟨j,z⟩
 have sub:Same (msk ρ σ H) (msk (ρ.put i sl A) σ' H'):=fun b o e=>by
  obtain ⟨h1,h2⟩:=msk_some.mp e
  refine msk_some.mpr ⟨fun z=>?_,ks b o e⟩
  rcases own b z with z | z
  ·exact h1 z
  ·rw [z] at h2;cases h2
 have kin':∀ (j:Nat) a,j ≠ i->a ∈ ρ.ad j->(∃ vs,H' a=some (.lst vs))\/∃ xs,H' a=some (km a xs):=fun j a hj ha=>(r.kin j a ha).imp (fun ⟨vs,e⟩=>⟨vs,(st j hj).at_ a ha _ e⟩) fun ⟨xs,e⟩=>⟨xs,(st j hj).at_ a ha _ e⟩
 refine ⟨?_,r.keep.trans sub,fun j sl' e=>?_,fun j k a x y=>?_,fun j a x=>?_,fun j a x=>?_⟩
 ·show (ρ.rho.set i (some sl)).length=_
  rw [List.length_set,hl];exact r.len
 ·rcases zN e with ⟨rfl,hi,rfl⟩ | ⟨hj,e⟩
  ·rw [zM (a:=0) hi];exact h hi sub
  ·rw [lT hj,ho j hj]
   exact (r.at_ j sl' e).stay (st j hj) sub
 ·rcases gh x with ⟨rfl,_,x⟩ | ⟨hj,x⟩
  ·rcases gh y with ⟨rfl,_,_⟩ | ⟨hk,y⟩
   ·rfl
   ·rcases fr a x with x | x
    ·exact r.inj _ _ a x y
    ·exact absurd x (r.ownAt ⟨k,y⟩)
  ·have x':=x
   rcases gh y with ⟨rfl,_,y⟩ | ⟨hk,y⟩
   ·rcases fr a y with y | y
    ·exact r.inj _ _ a x' y
    ·exact absurd y (r.ownAt ⟨j,x'⟩)
   ·exact r.inj _ _ a x' y
 ·rcases gh x with ⟨_,_,x⟩ | ⟨hj,x⟩
  ·exact kA a x
  ·exact kin' j a hj x
 ·show j < (ρ.rho.set i (some sl)).length
  rw [List.length_set]
  rcases gh x with ⟨rfl,hi,_⟩ | ⟨_,x⟩
  ·exact hi
  ·exact r.bnd j a x
theorem Rel.e (r:Rel K C H0 ρ σ H):vJ K C H0 ρ.rho σ H:=⟨ρ,rfl,r⟩
theorem lR {α:Type} {l:List α} {i:Nat} {a:α}:(l.set i a).length=l.length:=List.length_set
theorem pw {σ:St} {i:Nat} {v:V} (h:i < σ.length):(σ.set i (some v))[i]?=some (some v):=by
 rw [List.getElem?_set];simp [h]
theorem Rel.setShr (r:Rel K C H0 ρ σ H) {i:Nat} {v:V} {d:D} (h:Has K C (msk ρ σ H) v d):Rel K C H0 (ρ.put i (.shr d) []) (σ.set i (some v)) H :=
 r.put lR (fun j hj=>List.getElem?_set_ne fun z=>hj z.symm) (fun a ha=>by cases ha) (fun j _=>.of (Same.refl _)) (fun b o e=>(msk_some.mp e).2) (fun a ha=>by cases ha) fun hi s=>⟨v,pw (by rw [<- r.len];exact hi),h.mono s⟩
theorem Rel.setOwn (r:Rel K C H0 ρ σ H) {i:Nat} {a:Addr} {vs:List V} {xs:List D} (hn:H a=none) (h:HasL K C (msk ρ σ H) vs xs):Rel K C H0 (ρ.put i (.own xs) [a]) (σ.set i (some (.ref a))) (upd H a (.lst vs)) :=
 r.put lR (fun j hj=>List.getElem?_set_ne fun z=>hj z.symm) (fun b hb=>.inr (by cases List.mem_singleton.mp hb;exact hn)) (fun j _=>.of (a_ hn)) (fun b o e=>a_ hn b o (msk_some.mp e).2)
  (fun b hb=>.inl (by cases List.mem_singleton.mp hb;exact ⟨vs,bi⟩)) fun hi s=>⟨a,vs,pw (by rw [<- r.len];exact hi),List.mem_singleton.mpr rfl,bi,h.mono s⟩
theorem Rel.apart (r:Rel K C H0 ρ σ H) {i j:Nat} {a:Addr} {o:HO} (ha:a ∈ ρ.ad i) (hj:j ≠ i):Stay (ρ.ad j) H (upd H a o):=by
 refine ⟨fun b hb u e=>?_,fun b vs e=>?_⟩
 ·rw [aJ fun (z:b=a)=>hj (r.inj j i b hb (z ▸ ha))];exact e
 ·have:b ≠ a:=fun z=>by
   subst z
   rcases r.kin i b ha with ⟨us,e'⟩ | ⟨xs,e'⟩ <;> (rw [e] at e';cases e')
  rw [aJ this];exact e
theorem Rel.shown (r:Rel K C H0 ρ σ H) {i:Nat} {a:Addr} {o:HO} (ha:a ∈ ρ.ad i):∀ b u,msk ρ σ H b=some u->upd H a o b=some u:=fun b u e=>by
 obtain ⟨h1,h2⟩:=msk_some.mp e
 rw [aJ fun (z:b=a)=>h1 ⟨i,z ▸ ha⟩];exact h2
theorem Rel.write (r:Rel K C H0 ρ σ H) {i:Nat} {a:Addr} {xs ys:List D} {ws:List V} (e:ρ.rho[i]?=some (some (.own xs))) (q:σ[i]?=some (some (.ref a))) (h:HasL K C (msk ρ σ H) ws ys) :
  Rel K C H0 (ρ.put i (.own ys) [a]) σ (upd H a (.lst ws)):=by
 obtain ⟨b,vs,e1,ha,_,_⟩:=r.at_ i _ e
 rw [q] at e1;cases e1
 exact r.put rfl (fun j _=>rfl) (fun b hb=>.inl (by cases List.mem_singleton.mp hb;exact ha)) (fun j hj=>r.apart ha hj) (r.shown ha) (fun b hb=>.inl (by cases List.mem_singleton.mp hb;exact ⟨ws,bi⟩))
  fun hi s=>⟨a,ws,q,List.mem_singleton.mpr rfl,bi,h.mono s⟩
theorem Rel.freeze (r:Rel K C H0 ρ σ H) {i:Nat} {xs:List D} (e:ρ.rho[i]?=some (some (.own xs))):Rel K C H0 (ρ.put i (.shr (.lst xs)) []) σ H:=by
 obtain ⟨a,vs,q,ha,h1,h2⟩:=r.at_ i _ e
 refine r.put rfl (fun j _=>rfl) (fun b hb=>by cases hb) (fun j _=>.of (Same.refl _)) (fun b o z=>(msk_some.mp z).2) (fun b hb=>by cases hb) fun hi s=>⟨_,q,.lst (msk_some.mpr ⟨fun z=>?_,h1⟩) (h2.mono s)⟩
 obtain ⟨j,z⟩:=z
 rcases gh z with ⟨_,_,z⟩ | ⟨hj,z⟩
 ·cases z
 ·exact hj (r.inj j i a z ha)
mutual
theorem Tre.share (s:Same M M'):∀ {k:OK} {v:V} {d:D} {A:List Addr},Tre K C M H k v d A->(∀ a ∈ A,∀ o,H a=some o->M' a=some o)->(∀ a vs,H a=some (.tup vs)->M' a=some (.tup vs))->Has K C M' v d
 | _,_,_,_,.s h,_,_=>h.mono s
 | _,_,_,_,.l e h _,f,t=>.lst (f _ List.mem_cons_self _ e) (TreP.share s h (fun a ha=>f a (List.mem_cons_of_mem _ ha)) t)
 | _,_,_,_,.p e h,f,t=>.tup (t _ _ e) (TreP.share s h f t)
theorem TreP.share (s:Same M M'):∀ {ks:List OK} {vs:List V} {ds:List D} {A:List Addr},TreP K C M H ks vs ds A->(∀ a ∈ A,∀ o,H a=some o->M' a=some o)->(∀ a vs,H a=some (.tup vs)->M' a=some (.tup vs))->HasL K C M' vs ds
 | _,_,_,_,.nil,_,_=>.nil
 | _,_,_,_,.cons h t _,f,u=>.cons (Tre.share s h (fun a ha=>f a (List.mem_append_left _ ha)) u) (TreP.share s t (fun a ha=>f a (List.mem_append_right _ ha)) u)
end
theorem Rel.tups (r:Rel K C H0 ρ σ H) {a:Addr} {vs:List V} (e:H a=some (.tup vs)):¬ Own ρ σ a:=fun ⟨i,h⟩=>by
 rcases r.kin i a h with ⟨us,e'⟩ | ⟨xs,e'⟩ <;> (rw [e] at e';cases e')
theorem Rel.thaw (r:Rel K C H0 ρ σ H) {i:Nat} {k:OK} {d:D} (e:ρ.rho[i]?=some (some (.tre k d))):Rel K C H0 (ρ.put i (.shr d) []) σ H:=by
 obtain ⟨v,A,q,hA,h⟩:=r.at_ i _ e
 have own:∀ b,Own (ρ.put i (.shr d) []) σ b->Own ρ σ b/\b ∉ ρ.ad i:=fun b z=>by
  obtain ⟨j,z⟩:=z
  rcases gh z with ⟨_,_,z⟩ | ⟨hj,z⟩
  ·cases z
  ·exact ⟨⟨j,z⟩,fun y=>hj (r.inj j i b z y)⟩
 refine r.put rfl (fun j _=>rfl) (fun b hb=>by cases hb) (fun j _=>.of (Same.refl _)) (fun b o z=>(msk_some.mp z).2) (fun b hb=>by cases hb) fun hi s=>⟨_,q,h.share s (fun a ha o e=>?_) fun a vs e=>?_⟩
 ·exact msk_some.mpr ⟨fun z=>(own a z).2 (hA a ha),e⟩
 ·exact msk_some.mpr ⟨fun z=>r.tups e (own a z).1,e⟩
end
end DL
namespace DL
open PySem PySem.Spec PyProof.Rows L2
noncomputable def Fly (X:Cx) (pins:List (Addr × Obj)) (c:Nat) (H:Hp) (e:Value) (s:Shared):Prop:=∃ ea Cc ch,e=.ref ea/\X.mg (exN c)=some (.ref Cc)/\A9 s.heap ea (.ref Cc) ch/\∀ b ∈ ch,C0 X pins H b
noncomputable def XE (X:Cx) (c:Nat) (σ:St) (H:Hp):Prop:=∀ pins H' e s',Inv X pins σ H' s'->Same H H'->Fly X pins c H' e s'->X.xe e s'
noncomputable def XS (X:Cx) (c:Nat) (H0:Hp):Prop:=∀ pins σ' H' e s',Inv X pins σ' H' s'->Same H0 H'->Fly X pins c H' e s'->X.xe e s'
theorem XE.mono {X:Cx} {c:Nat} {σ:St} {H H':Hp} (s:Same H H') (h:XE X c σ H):XE X c σ H':=fun pins H2 e s' I s2 f=>h pins H2 e s' I (s.trans s2) f
theorem XS.mono {X:Cx} {c:Nat} {H H':Hp} (s:Same H H') (h:XS X c H):XS X c H':=fun pins σ H2 e s' I s2 f=>h pins σ H2 e s' I (s.trans s2) f
theorem XS.xe {X:Cx} {c:Nat} {σ:St} {H H':Hp} (s:Same H H') (h:XS X c H):XE X c σ H':=fun pins H2 e s' I s2 f=>h pins σ H2 e s' I (s.trans s2) f
inductive Brw (K:PySem.W.Frag) (C:Addr) (M H:Hp):V->D->Prop where
 | cl {v:V} {d:D}:Has K C M v d->Brw K C M H v d
 | own {a:Addr} {vs:List V} {xs:List D}:H a=some (.lst vs)->HasL K C M vs xs->Brw K C M H (.ref a) (.lst xs)
theorem Brw.mono {K:PySem.W.Frag} {C:Addr} {M M' H H':Hp} {v:V} {d:D} (m:Same M M') (s:Same H H') (h:Brw K C M H v d):Brw K C M' H' v d:=by
 cases h with
 | cl h=>exact .cl (h.mono m)
 | own e h=>exact .own (s _ _ e) (h.mono m)
section
variable (C:Addr) (X:Cx)
noncomputable abbrev eU (H0:Hp) (ρ:RB) (σ:St) (H:Hp):Prop:=Rel X.K C H0 ρ σ H
noncomputable abbrev tN (H0:Hp) (ρ:Rho) (σ:St) (H:Hp):Prop:=vJ X.K C H0 ρ σ H
noncomputable abbrev eV (ρ:RB) (σ:St) (H:Hp) (v:V) (d:D):Prop:=Has X.K C (msk ρ σ H) v d
noncomputable abbrev jA (ρ:RB) (σ:St) (H:Hp) (v:List V) (d:List D):Prop:=HasL X.K C (msk ρ σ H) v d
noncomputable abbrev A_ (ρ:RB) (σ:St) (H:Hp) (v:V) (d:D):Prop:=Brw X.K C (msk ρ σ H) H v d
noncomputable def pV (Rl:Hp->V->D->Prop) (r:R D) (σ:St) (H:Hp) (Q:VK):Prop:=match r with
 | .val d=>∀ v H',Same H H'->Rl H' v d->Q v H'
 | .exc c=>XE X c σ H
 | .bad=>False
noncomputable def pB (r:R Bool) (σ:St) (H:Hp) (Q:Bool->Hp->Prop):Prop:=match r with
 | .val b=>∀ H',Same H H'->Q b H'
 | .exc c=>XE X c σ H
 | .bad=>False
noncomputable def pL (Rl:Hp->List V->List D->Prop) (r:R (List D)) (σ:St) (H:Hp) (Q:List V->Hp->Prop):Prop:=match r with
 | .val d=>∀ v H',Same H H'->Rl H' v d->Q v H'
 | .exc c=>XE X c σ H
 | .bad=>False
noncomputable def teC (F:Rho->R D):TE:=fun σ H Q=>∃ ρ:RB,(∃ H0,eU C X H0 ρ σ H)/\pV X (eV C X ρ σ) (F ρ) σ H Q
noncomputable def teB (F:Rho->R D):TE:=fun σ H Q=>∃ ρ:RB,(∃ H0,eU C X H0 ρ σ H)/\pV X (A_ C X ρ σ) (F ρ) σ H Q
noncomputable def ttD (F:Rho->R Bool):TT:=fun σ H Q=>∃ ρ:RB,(∃ H0,eU C X H0 ρ σ H)/\pB X (F ρ) σ H Q
noncomputable def taD (F:Rho->R (List D)):TA:=fun σ H Q=>∃ ρ:RB,(∃ H0,eU C X H0 ρ σ H)/\pL X (jA C X ρ σ) (F ρ) σ H Q
noncomputable def ED (e:Expr) (F:Rho->R D):Prop:=PE X e (teC C X F)
noncomputable def EB (e:Expr) (F:Rho->R D):Prop:=PE X e (teB C X F)
noncomputable def TD (e:Expr) (F:Rho->R Bool):Prop:=PT X e (ttD C X F)
noncomputable def AD (es:List Expr) (F:Rho->R (List D)):Prop:=PA X es (taD C X F)
noncomputable def pS (o:R Out) (H0:Hp) (Dn:ky):Prop:=match o with
 | .val (.nx ρ')=>∀ σ' H',tN C X H0 ρ' σ' H'->Dn.nx σ' H'
 | .val (.bk ρ')=>∀ σ' H',tN C X H0 ρ' σ' H'->Dn.bk σ' H'
 | .val (.ct ρ')=>∀ σ' H',tN C X H0 ρ' σ' H'->Dn.ct σ' H'
 | .val (.rt d)=>∀ v H',Same H0 H'->Has X.K C H' v d->Dn.rt v H'
 | .exc c=>XS X c H0
 | .bad=>False
noncomputable def tsD (F:Rho->R Out):TS:=fun Dn σ H=>∃ ρ H0,tN C X H0 ρ σ H/\pS C X (F ρ) H0 Dn
noncomputable def SD (st:Stmt) (F:Rho->R Out):Prop:=PS X st (tsD C X F)
noncomputable def SDs (st:List Stmt) (F:Rho->R Out):Prop:=PSs X st (tsD C X F)
end
section
variable {C:Addr} {X:Cx} {ρ:RB} {σ:St} {H H':Hp}
theorem aW {e:Expr} {t t':TE} (h:PE X e t) (hw:∀ σ H Q,t' σ H Q->t σ H Q):PE X e t':=fun pins s σ H Q I q=>h pins s σ H Q I (hw σ H Q q)
theorem jZ {e:Expr} {t t':TT} (h:PT X e t) (hw:∀ σ H Q,t' σ H Q->t σ H Q):PT X e t':=fun pins s σ H Q I q=>h pins s σ H Q I (hw σ H Q q)
theorem lX {e:List Expr} {t t':TA} (h:PA X e t) (hw:∀ σ H Q,t' σ H Q->t σ H Q):PA X e t':=fun pos pins s σ H Q I q=>h pos pins s σ H Q I (hw σ H Q q)
theorem ck {e:Stmt} {t t':TS} (h:PS X e t) (hw:∀ D σ H,t' D σ H->t D σ H):PS X e t':=fun pins s σ H Q I q=>h pins s σ H Q I (hw Q σ H q)
theorem iO {e:List Stmt} {t t':TS} (h:PSs X e t) (hw:∀ D σ H,t' D σ H->t D σ H):PSs X e t':=fun pins s σ H Q I q=>h pins s σ H Q I (hw Q σ H q)
theorem pV.mono {Rl:Hp->V->D->Prop} {r:R D} {Q:VK} (s:Same H H') (h:pV X Rl r σ H Q):pV X Rl r σ H' Q:=by
 cases r with
 | val d=>exact fun v H2 s2 q=>h v H2 (s.trans s2) q
 | exc c=>exact XE.mono s h
 | bad=>exact h
theorem pB.mono {r:R Bool} {Q:Bool->Hp->Prop} (s:Same H H') (h:pB X r σ H Q):pB X r σ H' Q:=by
 cases r with
 | val d=>exact fun H2 s2=>h H2 (s.trans s2)
 | exc c=>exact XE.mono s h
 | bad=>exact h
theorem pL.mono {Rl:Hp->List V->List D->Prop} {r:R (List D)} {Q:List V->Hp->Prop} (s:Same H H') (h:pL X Rl r σ H Q):pL X Rl r σ H' Q:=by
 cases r with
 | val d=>exact fun v H2 s2 q=>h v H2 (s.trans s2) q
 | exc c=>exact XE.mono s h
 | bad=>exact h
theorem bj {α:Type} {Rl:Hp->V->D->Prop} {r:R D} {k:D->R α} {P:R α->Hp->Prop} {Q:VK} (hexc:∀ c,P (.exc c) H->XE X c σ H) (hbad:P .bad H->False) (h:P (r.bind k) H)
  (hk:∀ d v H1,Same H H1->Rl H1 v d->P (k d) H->Q v H1):pV X Rl r σ H Q:=by
 cases r with
 | val d=>exact fun v H1 s q=>hk d v H1 s q h
 | exc c=>exact hexc c h
 | bad=>exact hbad h
theorem j4 {α:Type} {r:R Bool} {k:Bool->R α} {P:R α->Hp->Prop} {Q:Bool->Hp->Prop} (hexc:∀ c,P (.exc c) H->XE X c σ H) (hbad:P .bad H->False) (h:P (r.bind k) H)
  (hk:∀ d H1,Same H H1->P (k d) H->Q d H1):pB X r σ H Q:=by
 cases r with
 | val d=>exact fun H1 s=>hk d H1 s h
 | exc c=>exact hexc c h
 | bad=>exact hbad h
theorem eG {α:Type} {Rl:Hp->List V->List D->Prop} {r:R (List D)} {k:List D->R α} {P:R α->Hp->Prop} {Q:List V->Hp->Prop} (hexc:∀ c,P (.exc c) H->XE X c σ H) (hbad:P .bad H->False) (h:P (r.bind k) H)
  (hk:∀ d v H1,Same H H1->Rl H1 v d->P (k d) H->Q v H1):pL X Rl r σ H Q:=by
 cases r with
 | val d=>exact fun v H1 s q=>hk d v H1 s q h
 | exc c=>exact hexc c h
 | bad=>exact hbad h
theorem EB.of {e : Expr} {F : Rho -> R D} (h : ED C X e F) : EB C X e F := aW h fun σ H Q yy0 => by
 obtain ⟨ρ, r, q⟩ := yy0
 exact ⟨ρ, r, by
  cases z : F ρ with
  | val d => rw [z] at q; exact fun v H' s h => q v H' s (.cl h)
  | exc c => rw [z] at q; exact q
  | bad => rw [z] at q; exact q⟩
noncomputable def vr (i:Nat):Rho->R D:=fun ρ=>match ρ[i]? with
 | some (some (.shr d))=>.val d
 | _=>.bad
noncomputable def vb (i:Nat):Rho->R D:=fun ρ=>match ρ[i]? with
 | some (some (.shr d))=>.val d
 | some (some (.own xs))=>.val (.lst xs)
 | some (some (.tre (.l .s) (.lst xs)))=>.val (.lst xs)
 | _=>.bad
theorem ai {i:Nat} {x:Str} {pos:Pos} (h:PE X (.Name x pos) (fN i)):ED C X (.Name x pos) (vr i):=by
 refine aW h fun σ H Q zz0=>?_
 obtain ⟨ρ,⟨H0,r⟩,q⟩:=zz0
 unfold vr at q
 split at q
 ·rename_i d e
  obtain ⟨v,e1,h1⟩:=r.at_ i _ e
  exact ⟨v,e1,q v H (Same.refl _) h1⟩
 ·exact q.elim
theorem ag {i:Nat} {x:Str} {pos:Pos} (h:PE X (.Name x pos) (fN i)):EB C X (.Name x pos) (vb i):=by
 refine aW h fun σ H Q zz1=>?_
 obtain ⟨ρ,⟨H0,r⟩,q⟩:=zz1
 unfold vb at q
 split at q
 ·rename_i d e
  obtain ⟨v,e1,h1⟩:=r.at_ i _ e
  exact ⟨v,e1,q v H (Same.refl _) (.cl h1)⟩
 ·rename_i xs e
  obtain ⟨a,vs,e1,_,h1,h2⟩:=r.at_ i _ e
  exact ⟨_,e1,q _ H (Same.refl _) (.own h1 h2)⟩
 ·rename_i xs e
  obtain ⟨v,B,e1,_,h⟩:=r.at_ i _ e
  cases h with
  | l h1 h2 _=>exact ⟨_,e1,q _ H (Same.refl _) (.own h1 h2.flat.2)⟩
 ·exact q.elim
noncomputable def kd (d:D):Rho->R D:=fun _=>.val d
theorem am {i j pos} : ED C X (.Constant (.int i) j pos) (kd (.int i)) := aW z8 fun σ H Q yy1 => by
 obtain ⟨ρ, r, q⟩ := yy1
 exact q _ H (Same.refl _) (.int i)
theorem eW {i j pos} : ED C X (.Constant (.bool i) j pos) (kd (.bl i)) := aW zh fun σ H Q yy2 => by
 obtain ⟨ρ, r, q⟩ := yy2
 exact q _ H (Same.refl _) (.bl i)
theorem nG {x : Str} {i : Int} {t : Tok} {pos : Pos} (hg : Gl X x) (hm : X.mg x = some (.int i t)) (hd : (x == ("__debug__" : Str)) = false := by decide) : ED C X (.Name x pos) (kd (.int i)) :=
  aW (xY (v := .int i) hg hm ⟨t, rfl⟩ hd) fun σ H Q yy4 => by
   obtain ⟨ρ, r, q⟩ := yy4
   exact q _ H (Same.refl _) (.int i)
noncomputable def bin (f:D->D->R D) (a b:Rho->R D):Rho->R D:=fun ρ=>(a ρ).bind fun x=>(b ρ).bind fun y=>f x y
noncomputable def OpD (C:Addr) (X:Cx) (r:R2) (f:D->D->R D):Prop:=∀ ρ σ H v w x y z (Q:VK),(∃ H0,eU C X H0 ρ σ H)->A_ C X ρ σ H v x->A_ C X ρ σ H w y->f x y=.val z->(∀ u H',Same H H'->eV C X ρ σ H' u z->Q u H')->r v w H Q
noncomputable def fM (f:D->D->R D):Prop:=∀ x y c,f x y ≠ .exc c
theorem pu {r:R2} {f:D->D->R D} {Fa Fb:Rho->R D} (hf:fM f) (ho:OpD C X r f) {σ:St} {H:Hp} {Q:VK} (h:teC C X (bin f Fa Fb) σ H Q):tOp r (teB C X Fa) (teB C X Fb) σ H Q:=by
 obtain ⟨ρ,⟨H0,r0⟩,q⟩:=h
 refine ⟨ρ,⟨H0,r0⟩,bj (P:=fun z H=>pV X (eV C X ρ σ) z σ H Q) (fun _ h=>h) (fun h=>h) q fun x v H1 s1 h1 q1=>?_⟩
 refine ⟨ρ,⟨H0,r0.mono s1⟩,bj (P:=fun z H=>pV X (eV C X ρ σ) z σ H Q) (fun _ h=>h) (fun h=>h) (q1.mono s1) fun y w H2 s2 h2 q2=>?_⟩
 cases e:f x y with
 | val z =>
  rw [e] at q2
  exact ho ρ σ H2 v w x y z Q ⟨H0,(r0.mono s1).mono s2⟩ (h1.mono (br s2) s2) h2 e fun u H3 s3 h3=>q2 u H3 (s2.trans s3) h3
 | exc c=>exact (hf x y c e).elim
 | bad=>rw [e] at q2;exact q2.elim
theorem uI {a b:Expr} {op:Operator} {pos:Pos} {r:R2} {f:D->D->R D} {Fa Fb:Rho->R D} (h:OpR X (binaryOp op) r) (hf:fM f) (ho:OpD C X r f) (ha:EB C X a Fa) (hb:EB C X b Fb) :
  ED C X (.BinOp a op b pos) (bin f Fa Fb):=aW (BH h ha hb) fun σ H Q q=>pu hf ho q
theorem AT {a b:Expr} {op:CmpOp} {pos:Pos} {r:R2} {f:D->D->R D} {Fa Fb:Rho->R D} (h:OpR X (compareOp op) r) (hf:fM f) (ho:OpD C X r f) (ha:EB C X a Fa) (hb:EB C X b Fb) (hm:behindInMarks op b=false) :
  ED C X (.Compare a [op] [b] pos) (bin f Fa Fb):=aW (xZ h ha hb hm) fun σ H Q q=>pu hf ho q
theorem B4 {a b:Expr} {pos:Pos} {r:R2} {f:D->D->R D} {Fa Fb:Rho->R D} (h:IxR X r) (hf:fM f) (ho:OpD C X r f) (ha:EB C X a Fa) (hb:EB C X b Fb) (hs:kx b) :
  ED C X (.Subscript a b pos) (bin f Fa Fb):=aW (wr h ha hb hs) fun σ H Q q=>pu hf ho q
noncomputable def asB:D->R Bool
 | .bl b=>.val b
 | _=>.bad
noncomputable def tst (F:Rho->R D):Rho->R Bool:=fun ρ=>(F ρ).bind asB
theorem Brw.int {K:PySem.W.Frag} {M H:Hp} {v:V} {i:Int} (h:Brw K C M H v (.int i)):v=.int i:=by
 cases h with
 | cl h=>cases h;rfl
theorem Brw.bl {K:PySem.W.Frag} {M H:Hp} {v:V} {i:Bool} (h:Brw K C M H v (.bl i)):v=.bl i:=by
 cases h with
 | cl h=>cases h;rfl
theorem Has.bl' {K:PySem.W.Frag} {M:Hp} {v:V} {i:Bool} (h:Has K C M v (.bl i)):v=.bl i:=by cases h;rfl
theorem Bk {F:Rho->R D} {σ:St} {H:Hp} {Q:Bool->Hp->Prop} (h:ttD C X (tst F) σ H Q):teC C X F σ H fun x H1=>∃ c,x=.bl c/\Q c H1:=by
 obtain ⟨ρ,⟨H0,r0⟩,q⟩:=h
 refine ⟨ρ,⟨H0,r0⟩,bj (P:=fun z H=>pB X z σ H Q) (fun _ h=>h) (fun h=>h) q fun x v H1 s1 h1 q1=>?_⟩
 cases x with
 | bl b=>exact ⟨b,Has.bl' h1,q1 H1 s1⟩
 | _=>exact q1.elim
theorem dQ {e:Expr} {F:Rho->R D} (h:ED C X e F) (he:∀ whole,isTrue e X.env whole=(do let v <- whole;standAt e.pos;holding [v] (truthy v)):=by intro _;rfl):TD C X e (tst F) :=
 jZ (zS h he) fun σ H Q q=>Bk q
theorem kC {a b:Expr} {op:CmpOp} {pos:Pos} {r:R2} {f:D->D->R D} {Fa Fb:Rho->R D} (h:OpR X (compareOp op) r) (hf:fM f) (ho:OpD C X r f) (ha:EB C X a Fa) (hb:EB C X b Fb) (hm:behindInMarks op b=false) :
  TD C X (.Compare a [op] [b] pos) (tst (bin f Fa Fb)):=jZ (t6 h ha hb hm) fun σ H Q q=>by
 obtain ⟨ρ,r0,q⟩:=q
 refine pu hf ho ⟨ρ,r0,?_⟩
 exact bj (P:=fun z H=>pB X z σ H Q) (fun _ h=>h) (fun h=>h) q fun x v H1 s1 h1 q1=>by
  cases x with
  | bl b=>exact ⟨b,Has.bl' h1,q1 H1 s1⟩
  | _=>exact q1.elim
noncomputable def vG (a b:Rho->R Bool):Rho->R Bool:=fun ρ=>(a ρ).bind fun x=>if x=true then b ρ else .val false
noncomputable def orB (a b:Rho->R Bool):Rho->R Bool:=fun ρ=>(a ρ).bind fun x=>if x=true then .val true else b ρ
noncomputable def ez (a:Rho->R Bool):Rho->R Bool:=fun ρ=>(a ρ).bind fun x=>.val (!x)
noncomputable def WD (C:Addr) (X:Cx) (e:Expr) (F:Rho->R Bool):Prop:=PW X e (ttD C X F)
theorem tZ {e:Expr} {t t':TT} (h:PW X e t) (hw:∀ σ H Q,t' σ H Q->t σ H Q):PW X e t':=fun wh pins s σ H Q I q=>h wh pins s σ H Q I (hw σ H Q q)
theorem tO {a:Expr} {pos:Pos} {F:Rho->R Bool} (h:TD C X a F):WD C X (.BoolOp .And [a] pos) F:=xQ h
theorem ft {a:Expr} {pos:Pos} {F:Rho->R Bool} (h:TD C X a F):WD C X (.BoolOp .Or [a] pos) F:=zK h
theorem vN {a b : Expr} {rest : List Expr} {pos : Pos} {Fa Fb : Rho -> R Bool} (ha : TD C X a Fa) (hb : WD C X (.BoolOp .And (b :: rest) pos) Fb) : WD C X (.BoolOp .And (a :: b :: rest) pos) (vG Fa Fb) :=
  tZ (zL ha hb) fun σ H Q yy5 => by
   obtain ⟨ρ, ⟨H0, r0⟩, q⟩ := yy5
   exact ⟨ρ, ⟨H0, r0⟩, j4 (P := fun z H => pB X z σ H Q) (fun _ h => h) (fun h => h) q fun x H1 s1 q1 => by
    cases x with
    | true => rw [if_pos rfl]; rw [if_pos rfl] at q1; exact ⟨ρ, ⟨H0, r0.mono s1⟩, q1.mono s1⟩
    | false => rw [if_neg Bool.false_ne_true]; rw [if_neg Bool.false_ne_true] at q1; exact q1 H1 s1⟩
theorem fH {a b : Expr} {rest : List Expr} {pos : Pos} {Fa Fb : Rho -> R Bool} (ha : TD C X a Fa) (hb : WD C X (.BoolOp .Or (b :: rest) pos) Fb) : WD C X (.BoolOp .Or (a :: b :: rest) pos) (orB Fa Fb) :=
  tZ (Bw ha hb) fun σ H Q yy6 => by
   obtain ⟨ρ, ⟨H0, r0⟩, q⟩ := yy6
   exact ⟨ρ, ⟨H0, r0⟩, j4 (P := fun z H => pB X z σ H Q) (fun _ h => h) (fun h => h) q fun x H1 s1 q1 => by
    cases x with
    | false => rw [if_neg Bool.false_ne_true]; rw [if_neg Bool.false_ne_true] at q1; exact ⟨ρ, ⟨H0, r0.mono s1⟩, q1.mono s1⟩
    | true => rw [if_pos rfl]; rw [if_pos rfl] at q1; exact q1 H1 s1⟩
theorem jC {e:Expr} {F:Rho->R Bool} (h:WD C X e F):TD C X e F:=h.pt
theorem dB {a : Expr} {pos : Pos} {F : Rho -> R Bool} (h : TD C X a F) : TD C X (.UnaryOp .Not a pos) (ez F) :=
  jZ (zT h) fun σ H Q yy7 => by
   obtain ⟨ρ, r0, q⟩ := yy7
   exact ⟨ρ, r0, j4 (P := fun z H => pB X z σ H Q) (fun _ h => h) (fun h => h) q fun x H1 s1 q1 => q1 H1 s1⟩
noncomputable def xz (a b:Rho->R D):Rho->R D:=fun ρ=>(a ρ).bind fun x=>(asB x).bind fun c=>if c=true then b ρ else .val (.bl false)
noncomputable def BJ (a:Rho->R D):Rho->R D:=fun ρ=>(a ρ).bind fun x=>(asB x).bind fun c=>.val (.bl (!c))
theorem xj {a:Expr} {op} {pos:Pos} {F:Rho->R D} (h:ED C X a F):ED C X (.BoolOp op [a] pos) F:=z5 h
theorem tE {a b : Expr} {rest : List Expr} {pos : Pos} {Fa Fb : Rho -> R D} (ha : ED C X a Fa) (hb : ED C X (.BoolOp .And (b :: rest) pos) Fb) : ED C X (.BoolOp .And (a :: b :: rest) pos) (xz Fa Fb) :=
  aW (z_ ha hb) fun σ H Q yy8 => by
   obtain ⟨ρ, ⟨H0, r0⟩, q⟩ := yy8
   exact ⟨ρ, ⟨H0, r0⟩, bj (P := fun z H => pV X (eV C X ρ σ) z σ H Q) (fun _ h => h) (fun h => h) q fun x v H1 s1 h1 q1 => by
    cases x with
    | bl c =>
      refine ⟨c, Has.bl' h1, ?_⟩
      cases c with
      | true => exact Az ⟨ρ, ⟨H0, r0.mono s1⟩, q1.mono s1⟩
      | false => exact AA (q1 _ H1 s1 (.bl false))
    | _ => exact q1.elim⟩
theorem AQ {a : Expr} {pos : Pos} {F : Rho -> R D} (h : ED C X a F) : ED C X (.UnaryOp .Not a pos) (BJ F) :=
  aW (z6 h) fun σ H Q yy10 => by
   obtain ⟨ρ, ⟨H0, r0⟩, q⟩ := yy10
   exact ⟨ρ, ⟨H0, r0⟩, bj (P := fun z H => pV X (eV C X ρ σ) z σ H Q) (fun _ h => h) (fun h => h) q fun x v H1 s1 h1 q1 => by
    cases x with
    | bl c => exact ⟨c, Has.bl' h1, q1 _ H1 s1 (.bl _)⟩
    | _ => exact q1.elim⟩
noncomputable def aN:Rho->R (List D):=fun _=>.val []
noncomputable def aC (a:Rho->R D) (r:Rho->R (List D)):Rho->R (List D):=fun ρ=>(a ρ).bind fun x=>(r ρ).bind fun xs=>.val (x :: xs)
theorem ao : AD C X [] aN := lX fh fun σ H Q yy12 => by
 obtain ⟨ρ, r0, q⟩ := yy12
 exact q [] H (Same.refl _) .nil
theorem ab {e : Expr} {es : List Expr} {Fa : Rho -> R D} {Fr : Rho -> R (List D)} (ha : ED C X e Fa) (hr : AD C X es Fr) (hs : starEach (e :: es) X.env = (false, eval e X.env) :: starEach es X.env := by rfl) : AD C X (e :: es) (aC Fa Fr) :=
  lX (dN ha hr hs) fun σ H Q yy13 => by
   obtain ⟨ρ, ⟨H0, r0⟩, q⟩ := yy13
   exact ⟨ρ, ⟨H0, r0⟩, bj (P := fun z H => pL X (jA C X ρ σ) z σ H Q) (fun _ h => h) (fun h => h) q fun x v H1 s1 h1 q1 =>
    ⟨ρ, ⟨H0, r0.mono s1⟩, eG (P := fun z H => pL X (jA C X ρ σ) z σ H Q) (fun _ h => h) (fun h => h) (q1.mono s1) fun xs vs H2 s2 h2 q2 => q2 _ H2 s2 (.cons (h1.mono (br s2)) h2)⟩⟩
noncomputable def LIM:Nat:=100000
theorem qd {n:Nat} (h:n<=LIM):n<=sizeLine:=Nat.le_trans h (by decide)
theorem As {n:Nat} (h:n<=LIM):n < sizeLine:=Nat.lt_of_le_of_lt h (by decide)
noncomputable def mkT (xs:List D):R D:=if xs.length<=LIM then .val (.tup xs) else .bad
noncomputable def mkL (xs:List D):R D:=if xs.length<=LIM then .val (.lst xs) else .bad
noncomputable def eT (a:Rho->R (List D)):Rho->R D:=fun ρ=>(a ρ).bind mkT
noncomputable def eL (a:Rho->R (List D)):Rho->R D:=fun ρ=>(a ρ).bind mkL
theorem dm {es : List Expr} {x1} {pos : Pos} {F : Rho -> R (List D)} (h : AD C X es F) : ED C X (.Tuple es x1 pos) (eT F) :=
  aW (z4 h) fun σ H Q yy14 => by
   obtain ⟨ρ, ⟨H0, r0⟩, q⟩ := yy14
   exact ⟨ρ, ⟨H0, r0⟩, eG (P := fun z H => pV X (eV C X ρ σ) z σ H Q) (fun _ h => h) (fun h => h) q fun xs vs H1 s1 h1 q1 => by
    unfold mkT at q1
    split at q1
    · rename_i hl
      refine ⟨by rw [h1.len]; exact qd hl, fun p hp => q1 _ _ (s1.trans (a_ hp)) ?_⟩
      exact .tup ((r0.mono s1).new hp) (h1.mono (br (a_ hp)))
    · exact q1.elim⟩
theorem dS {es : List Expr} {pos : Pos} {F : Rho -> R (List D)} (h : AD C X es F) : ED C X (.List es pos) (eL F) :=
  aW (wq h) fun σ H Q yy15 => by
   obtain ⟨ρ, ⟨H0, r0⟩, q⟩ := yy15
   exact ⟨ρ, ⟨H0, r0⟩, eG (P := fun z H => pV X (eV C X ρ σ) z σ H Q) (fun _ h => h) (fun h => h) q fun xs vs H1 s1 h1 q1 => by
    unfold mkL at q1
    split at q1
    · rename_i hl
      refine ⟨by rw [h1.len]; exact qd hl, fun p hp => q1 _ _ (s1.trans (a_ hp)) ?_⟩
      exact .lst ((r0.mono s1).new hp) (h1.mono (br (a_ hp)))
    · exact q1.elim⟩
end
end DL
namespace DL
open PySem PySem.Spec PyProof.Rows L2
section
variable {C:Addr} {X:Cx} {ρ:RB} {σ:St} {H H':Hp}
noncomputable def iI (f:Int->Int->R D):D->D->R D
 | .int i,.int j=>f i j
 | _,_=>.bad
theorem jk {f:Int->Int->R D} (h:∀ i j c,f i j ≠ .exc c):fM (iI f):=by
 intro x y c
 cases x <;> cases y <;> simp [iI] <;> exact h _ _ c
theorem sX {g:Int->Int->V} {f:Int->Int->R D} (h:∀ i j z,f i j=.val z->∀ K C H,Has K C H (g i j) z):OpD C X (rI0 g) (iI f):=by
 intro ρ σ H v w x y z Q r hx hy e k
 cases x with
 | int i =>
  cases y with
  | int j=>exact ⟨i,j,hx.int,hy.int,k _ H (Same.refl _) (h i j z e _ _ _)⟩
  | _=>cases e
 | _=>cases e
theorem ww {P:Int->Int->Prop} {g:Int->Int->V} {f:Int->Int->R D} (h:∀ i j z,f i j=.val z->P i j/\∀ K C H,Has K C H (g i j) z):OpD C X (rI P g) (iI f):=by
 intro ρ σ H v w x y z Q r hx hy e k
 cases x with
 | int i =>
  cases y with
  | int j=>exact ⟨i,j,hx.int,hy.int,(h i j z e).1,k _ H (Same.refl _) ((h i j z e).2 _ _ _)⟩
  | _=>cases e
 | _=>cases e
noncomputable def h_ (i j:Int):R D:=if (-(2 ^ 64) < i/\i < 2 ^ 64)\/(-(2 ^ 64) < j/\j < 2 ^ 64) then .val (.int (i * j)) else .bad
noncomputable def bu (i j:Int):R D:=if 0 < j then .val (.int (i % j)) else .bad
noncomputable def e9 (i j:Int):R D:=if 0 < j/\j < 1073741824 then .val (.int (i / j)) else .bad
noncomputable def flt (i j:Int):R D:=.val (.bl (decide (i < j)))
noncomputable def fle (i j:Int):R D:=.val (.bl (decide (i<=j)))
noncomputable def fgt (i j:Int):R D:=.val (.bl (decide (j < i)))
theorem x_:OpD C X (rI CMul fun i j=>.int (i * j)) (iI h_):=ww fun i j z e=>by
 unfold h_ at e;split at e
 ·cases e;exact ⟨‹_›,fun _ _ _=>.int _⟩
 ·cases e
theorem ya:OpD C X (rI (fun _ j=>0 < j) fun i j=>.int (i % j)) (iI bu):=ww fun i j z e=>by
 unfold bu at e;split at e
 ·cases e;exact ⟨‹_›,fun _ _ _=>.int _⟩
 ·cases e
theorem yb:OpD C X (rI B_ fun i j=>.int (i / j)) (iI e9):=ww fun i j z e=>by
 unfold e9 at e;split at e
 ·cases e;exact ⟨‹_›,fun _ _ _=>.int _⟩
 ·cases e
theorem Ad:OpD C X (rI0 fun i j=>.bl (decide (i < j))) (iI flt):=sX fun i j z e=>by cases e;exact fun _ _ _=>.bl _
theorem Ae:OpD C X (rI0 fun i j=>.bl (decide (i<=j))) (iI fle):=sX fun i j z e=>by cases e;exact fun _ _ _=>.bl _
theorem Ah:OpD C X (rI0 fun i j=>.bl (decide (j < i))) (iI fgt):=sX fun i j z e=>by cases e;exact fun _ _ _=>.bl _
theorem zO:fM (iI h_):=jk fun i j c e=>by unfold h_ at e;split at e <;> cases e
theorem zP:fM (iI bu):=jk fun i j c e=>by unfold bu at e;split at e <;> cases e
theorem zQ:fM (iI e9):=jk fun i j c e=>by unfold e9 at e;split at e <;> cases e
theorem By:fM (iI flt):=jk fun i j c e=>by cases e
theorem Bz:fM (iI fle):=jk fun i j c e=>by cases e
theorem BC:fM (iI fgt):=jk fun i j c e=>by cases e
noncomputable def cX:D->D->R D
 | .int i,.int j=>.val (.int (i + j))
 | .lst xs,.lst ys=>if xs.length + ys.length<=LIM then .val (.lst (xs ++ ys)) else .bad
 | _,_=>.bad
theorem Brw.lst {K:PySem.W.Frag} {M H:Hp} {v:V} {xs:List D} (s:Same M H) (h:Brw K C M H v (.lst xs)):∃ a vs,v=.ref a/\H a=some (.lst vs)/\HasL K C M vs xs:=by
 cases h with
 | cl h=>cases h with
  | lst q h=>exact ⟨_,_,rfl,s _ _ q,h⟩
 | own e h=>exact ⟨_,_,rfl,e,h⟩
theorem Brw.tup {K:PySem.W.Frag} {M H:Hp} {v:V} {xs:List D} (s:Same M H) (h:Brw K C M H v (.tup xs)):∃ a vs,v=.ref a/\H a=some (.tup vs)/\HasL K C M vs xs:=by
 cases h with
 | cl h=>cases h with
  | tup q h=>exact ⟨_,_,rfl,s _ _ q,h⟩
theorem Brw.scr {K:PySem.W.Frag} {M H:Hp} {v:V} {ns:List Int} (s:Same M H) (h:Brw K C M H v (.scr ns)):∃ a,v=.ref a/\SqL K H a (ns.map V.int):=by
 cases h with
 | cl h=>cases h with
  | scr q=>exact ⟨_,rfl,s.seq q⟩
theorem yc:OpD C X (fun x y H Q=>rI0 (fun i j=>.int (i + j)) x y H Q\/zJ x y H Q) cX:=by
 intro ρ σ H v w x y z Q r hx hy e k
 obtain ⟨H0,r⟩:=r
 cases x with
 | int i =>
  cases y with
  | int j=>cases e;exact .inl ⟨i,j,hx.int,hy.int,k _ H (Same.refl _) (.int _)⟩
  | _=>cases e
 | lst xs =>
  cases y with
  | lst ys =>
   simp only [cX] at e
   split at e
   ·rename_i hl
    cases e
    obtain ⟨a,vs,rfl,q1,h1⟩:=hx.lst msk_sub
    obtain ⟨b,ws,rfl,q2,h2⟩:=hy.lst msk_sub
    refine .inr ⟨a,b,vs,ws,rfl,rfl,q1,q2,by rw [h1.len,h2.len];exact qd hl,fun p hp=>k _ _ (a_ hp) ?_⟩
    exact .lst (r.new hp) ((h1.app h2).mono (br (a_ hp)))
   ·cases e
  | _=>cases e
 | _=>cases e
theorem zR:fM cX:=by
 intro x y c e
 unfold cX at e
 split at e
 ·cases e
 ·split at e <;> cases e
 ·cases e
theorem x9:OpR X (binaryOp .Add) (fun x y H Q=>rI0 (fun i j=>.int (i + j)) x y H Q\/zJ x y H Q):=op_add.or Al
noncomputable def fix:D->D->R D
 | .lst xs,.int i=>match atI xs i with
  | some d=>.val d
  | none=>.bad
 | .tup xs,.int i=>match atI xs i with
  | some d=>.val d
  | none=>.bad
 | .scr ns,.int i=>match atI ns i with
  | some d=>.val (.int d)
  | none=>.bad
 | _,_=>.bad
theorem BA:fM fix:=by
 intro x y c e
 unfold fix at e
 split at e
 ·split at e <;> cases e
 ·split at e <;> cases e
 ·split at e <;> cases e
 ·cases e
theorem y8 {α β:Type} (f:α->β) (xs:List α) (i:Int):L2.atI (xs.map f) i=(L2.atI xs i).map f:=by
 unfold L2.atI
 rw [List.length_map]
 cases ixN xs.length i with
 | none=>rfl
 | some j=>simp
theorem HasL.atI {K:PySem.W.Frag} {vs:List V} {xs:List D} {i:Int} {d:D} (h:HasL K C H vs xs) (e:atI xs i=some d):∃ v,L2.atI vs i=some v/\Has K C H v d:=by
 unfold L2.atI at e ⊢
 rw [h.len]
 cases q:ixN xs.length i with
 | none=>rw [q] at e;cases e
 | some j =>
  rw [q] at e
  exact h.get e
theorem Af:OpD C X (rIx X.K) fix:=by
 intro ρ σ H v w x y z Q r hx hy e k
 unfold fix at e
 split at e
 ·rename_i xs i
  split at e
  ·rename_i d q
   cases e
   obtain ⟨a,vs,rfl,q1,h1⟩:=hx.lst msk_sub
   obtain ⟨u,q2,h2⟩:=h1.atI q
   exact .inl ⟨a,vs,i,u,rfl,hy.int,SqL.of q1,q2,k _ H (Same.refl _) h2⟩
  ·cases e
 ·rename_i xs i
  split at e
  ·rename_i d q
   cases e
   obtain ⟨a,vs,rfl,q1,h1⟩:=hx.tup msk_sub
   obtain ⟨u,q2,h2⟩:=h1.atI q
   exact .inr (.inl ⟨a,vs,i,u,rfl,hy.int,SqT.of q1,q2,k _ H (Same.refl _) h2⟩)
  ·cases e
 ·rename_i ns i
  split at e
  ·rename_i d q
   cases e
   obtain ⟨a,rfl,q1⟩:=hx.scr msk_sub
   exact .inl ⟨a,_,i,.int d,rfl,hy.int,q1,by rw [y8,q];rfl,k _ H (Same.refl _) (.int d)⟩
  ·cases e
 ·cases e
theorem eQ {a b:Expr} {pos:Pos} {Fa Fb:Rho->R D} (ha:EB C X a Fa) (hb:EB C X b Fb):ED C X (.BinOp a .Add b pos) (bin cX Fa Fb):=uI x9 zR yc ha hb
theorem qy {a b:Expr} {pos:Pos} {Fa Fb:Rho->R D} (ha:EB C X a Fa) (hb:EB C X b Fb):ED C X (.BinOp a .Mult b pos) (bin (iI h_) Fa Fb):=uI Aj zO x_ ha hb
theorem dO {a b:Expr} {pos:Pos} {Fa Fb:Rho->R D} (ha:EB C X a Fa) (hb:EB C X b Fb):ED C X (.BinOp a .Mod b pos) (bin (iI bu) Fa Fb):=uI Ak zP ya ha hb
theorem gC {a b:Expr} {pos:Pos} {Fa Fb:Rho->R D} (ha:EB C X a Fa) (hb:EB C X b Fb):ED C X (.BinOp a .FloorDiv b pos) (bin (iI e9) Fa Fb):=uI ye zQ yb ha hb
theorem zb {a b:Expr} {pos:Pos} {Fa Fb:Rho->R D} (ha:EB C X a Fa) (hb:EB C X b Fb):TD C X (.Compare a [.Lt] [b] pos) (tst (bin (iI flt) Fa Fb)):=kC zi By Ad ha hb (kG _)
theorem Bf {a b:Expr} {pos:Pos} {Fa Fb:Rho->R D} (ha:EB C X a Fa) (hb:EB C X b Fb):TD C X (.Compare a [.LtE] [b] pos) (tst (bin (iI fle) Fa Fb)):=kC oU Bz Ae ha hb (kG _)
theorem zc {a b:Expr} {pos:Pos} {Fa Fb:Rho->R D} (ha:EB C X a Fa) (hb:EB C X b Fb):TD C X (.Compare a [.Gt] [b] pos) (tst (bin (iI fgt) Fa Fb)):=kC BI BC Ah ha hb (kG _)
theorem ay {a b:Expr} {pos:Pos} {Fa Fb:Rho->R D} (ha:EB C X a Fa) (hb:EB C X b Fb) (hs:kx b:=by exact fun _ _=>rfl):ED C X (.Subscript a b pos) (bin fix Fa Fb):=B4 wK BA Af ha hb hs
noncomputable def lE:D->R D
 | .int i=>.val (.int (-i))
 | _=>.bad
noncomputable def una (f:D->R D) (a:Rho->R D):Rho->R D:=fun ρ=>(a ρ).bind f
theorem nC {a : Expr} {pos : Pos} {F : Rho -> R D} (h : EB C X a F) : ED C X (.UnaryOp .USub a pos) (una lE F) :=
  aW (BG zv h) fun σ H Q yy0 => by
   obtain ⟨ρ, r0, q⟩ := yy0
   exact ⟨ρ, r0, bj (P := fun z H => pV X (eV C X ρ σ) z σ H Q) (fun _ h => h) (fun h => h) q fun x v H1 s1 h1 q1 => by
    cases x with
    | int i => exact ⟨i, h1.int, q1 _ H1 s1 (.int _)⟩
    | _ => exact q1.elim⟩
noncomputable def chn (f g:Int->Int->Bool) (a b c:Rho->R D):Rho->R D:=fun ρ=>(a ρ).bind fun x=>(b ρ).bind fun y=>match x,y with
 | .int i,.int j=>if f i j=true then (c ρ).bind fun z=>match z with
   | .int k=>.val (.bl (g j k))
   | _=>.bad
  else .val (.bl false)
 | _,_=>.bad
end
end DL
namespace DL
open PySem PySem.Spec PyProof.Rows L2
section
variable {C:Addr} {X:Cx} {ρ:RB} {σ:St} {H H':Hp}
theorem oP {f g:Int->Int->Bool} {Fa Fb Fc:Rho->R D} {σ:St} {H:Hp} {Q:VK} (h:teC C X (chn f g Fa Fb Fc) σ H Q) :
  sO (rI0 fun i j=>.bl (f i j)) (rI0 fun i j=>.bl (g i j)) (teB C X Fa) (teB C X Fb) (teB C X Fc) σ H Q:=by
 obtain ⟨ρ,⟨H0,r0⟩,q⟩:=h
 refine ⟨ρ,⟨H0,r0⟩,bj (P:=fun z H=>pV X (eV C X ρ σ) z σ H Q) (fun _ h=>h) (fun h=>h) q fun x v H1 s1 h1 q1=>?_⟩
 refine ⟨ρ,⟨H0,r0.mono s1⟩,bj (P:=fun z H=>pV X (eV C X ρ σ) z σ H Q) (fun _ h=>h) (fun h=>h) (q1.mono s1) fun y w H2 s2 h2 q2=>?_⟩
 cases x with
 | int i =>
  cases y with
  | int j =>
   refine ⟨i,j,h1.int,h2.int,f i j,rfl,?_⟩
   cases e:f i j with
   | false =>
    simp only [e,Bool.false_eq_true,if_false] at q2 ⊢
    exact q2 _ H2 s2 (.bl false)
   | true =>
    simp only [e,if_true] at q2 ⊢
    refine ⟨ρ,⟨H0,(r0.mono s1).mono s2⟩,bj (P:=fun z H=>pV X (eV C X ρ σ) z σ H Q) (fun _ h=>h) (fun h=>h) (q2.mono s2) fun z w' H3 s3 h3 q3=>?_⟩
    cases z with
    | int k=>exact ⟨j,k,h2.int,h3.int,q3 _ H3 s3 (.bl _)⟩
    | _=>exact q3.elim
  | _=>exact q2.elim
 | _=>exact q2.elim
theorem xl {a b c:Expr} {op op':CmpOp} {pos:Pos} {f g:Int->Int->Bool} {Fa Fb Fc:Rho->R D} (ho:OpR X (compareOp op) (rI0 fun i j=>.bl (f i j))) (ho':OpR X (compareOp op') (rI0 fun i j=>.bl (g i j)))
  (ha:EB C X a Fa) (hb:EB C X b Fb) (hc:EB C X c Fc) (hm:lastMarks [op,op'] [b,c]=false:=by with_unfolding_all rfl):ED C X (.Compare a [op,op'] [b,c] pos) (chn f g Fa Fb Fc) :=
 aW (wu ho ho' ha hb hc hm) fun σ H Q q=>oP q
theorem qS {a b c:Expr} {op op':CmpOp} {pos:Pos} {f g:Int->Int->Bool} {Fa Fb Fc:Rho->R D} (ho:OpR X (compareOp op) (rI0 fun i j=>.bl (f i j))) (ho':OpR X (compareOp op') (rI0 fun i j=>.bl (g i j)))
  (ha:EB C X a Fa) (hb:EB C X b Fb) (hc:EB C X c Fc) (hm:lastMarks [op,op'] [b,c]=false:=by with_unfolding_all rfl):TD C X (.Compare a [op,op'] [b,c] pos) (tst (chn f g Fa Fb Fc)) :=
 jZ (v_ ho ho' ha hb hc hm) fun σ H Q q=>by
  obtain ⟨ρ,r0,q⟩:=q
  refine oP ⟨ρ,r0,?_⟩
  exact bj (P:=fun z H=>pB X z σ H Q) (fun _ h=>h) (fun h=>h) q fun x v H1 s1 h1 q1=>by
   cases x with
   | bl b=>exact ⟨b,Has.bl' h1,q1 H1 s1⟩
   | _=>exact q1.elim
noncomputable def eO (f:Nat):D->R D
 | .ob e r t=>match f with
  | 0=>.val e
  | 1=>.val r
  | _=>.val t
 | _=>.bad
theorem fk {e : Expr} {f : Str} {k : Nat} {pos : Pos} {F : Rho -> R D} (h : EB C X e F) (c : Cls X.K C) (n : NoAttr X.K C f) (hb : attributeBase e f X.env (eval e X.env) = eval e X.env)
    (hk : ∀ ve vr vt, (BZ ve vr vt).lookup f = some (match k with | 0 => ve | 1 => vr | _ => vt)) : ED C X (.Attribute e f pos) (una (eO k) F) :=
  aW (z9 h hb) fun σ H Q yy0 => by
   obtain ⟨ρ, r0, q⟩ := yy0
   exact ⟨ρ, r0, bj (P := fun z H => pV X (eV C X ρ σ) z σ H Q) (fun _ h => h) (fun h => h) q fun x v H1 s1 h1 q1 => by
    cases x with
    | ob de dr dt =>
      cases h1 with
      | cl h1 =>
        cases h1 with
        | @ob a dx ve vr vt _ _ _ e1 g1 g2 g3 =>
          refine ⟨a, C, dx, _, _, rfl, msk_sub _ _ e1, c, n, hk ve vr vt, ?_⟩
          match k with
          | 0 => exact q1 _ H1 s1 g1
          | 1 => exact q1 _ H1 s1 g2
          | _ + 2 => exact q1 _ H1 s1 g3
    | _ => exact q1.elim⟩
noncomputable def aU:D->R D
 | .lst xs=>.val (.int xs.length)
 | .tup xs=>.val (.int xs.length)
 | .scr ns=>.val (.int ns.length)
 | _=>.bad
theorem bf {e : Expr} {p pos : Pos} {F : Rho -> R D} (h : EB C X e F) (hg : Gl X "len") (hm : X.mg "len" = none) (hst : starEach [e] X.env = (false, eval e X.env) :: starEach [] X.env := by rfl)
    (hs : ∀ t : TA, PA X [e] t -> PE X (.Call (.Name "len" p) [e] [] pos) (tCB (fun xs H Q => ∃ p ys, xs = [.ref p] /\ (SqL X.K H p ys \/ SqT X.K H p ys) /\ Q (.int ys.length) H) t) := by
      exact fun t ha => aE ax (by assumption) (by assumption) PySem.boot_len ha) : ED C X (.Call (.Name "len" p) [e] [] pos) (una aU F) :=
  aW (hs _ (dN h fh hst)) fun σ H Q yy1 => by
   obtain ⟨ρ, r0, q⟩ := yy1
   exact ⟨ρ, r0, bj (P := fun z H => pV X (eV C X ρ σ) z σ H Q) (fun _ h => h) (fun h => h) q fun x v H1 s1 h1 q1 => by
    cases x with
    | lst xs =>
      obtain ⟨a, vs, rfl, e1, h2⟩ := h1.lst msk_sub
      exact ⟨a, vs, rfl, .inl (SqL.of e1), q1 _ H1 s1 (by rw [h2.len]; exact .int _)⟩
    | tup xs =>
      obtain ⟨a, vs, rfl, e1, h2⟩ := h1.tup msk_sub
      exact ⟨a, vs, rfl, .inr (SqT.of e1), q1 _ H1 s1 (by rw [h2.len]; exact .int _)⟩
    | scr ns =>
      obtain ⟨a, rfl, e1⟩ := h1.scr msk_sub
      exact ⟨a, _, rfl, .inl e1, q1 _ H1 s1 (by rw [List.length_map]; exact .int _)⟩
    | _ => exact q1.elim⟩
noncomputable def yz:List D->R D
 | [.int i,.int j]=>.val (.int (if j > i then j else i))
 | _=>.bad
noncomputable def yR (F:Rho->R (List D)):Rho->R D:=fun ρ=>(F ρ).bind yz
theorem AS {a b : Expr} {p pos : Pos} {F : Rho -> R (List D)} (hc : X.calm = true) (h : AD C X [a, b] F) (hg : Gl X "max") (hm : X.mg "max" = none)
    (hs : ∀ t : TA, PA X [a, b] t -> PE X (.Call (.Name "max" p) [a, b] [] pos) (tCB (fun xs H Q => ∃ i j, xs = [.int i, .int j] /\ Q (.int (if j > i then j else i)) H) t) := by
      exact fun t ha => aE (o8 (by assumption)) (by assumption) (by assumption) PySem.boot_max ha) : ED C X (.Call (.Name "max" p) [a, b] [] pos) (yR F) :=
  aW (hs _ h) fun σ H Q yy2 => by
   obtain ⟨ρ, r0, q⟩ := yy2
   exact ⟨ρ, r0, eG (P := fun z H => pV X (eV C X ρ σ) z σ H Q) (fun _ h => h) (fun h => h) q fun xs vs H1 s1 h1 q1 => by
    unfold yz at q1
    split at q1
    · rename_i i j
      cases h1 with
      | cons a1 b1 => cases b1 with
        | cons a2 b2 => cases b2; cases a1; cases a2; exact ⟨i, j, rfl, q1 _ H1 s1 (.int _)⟩
    · exact q1.elim⟩
noncomputable def pF (Rl:Hp->List V->List D->Prop) (r:R (List D)) (σ:St) (H:Hp) (Q:VK):Prop:=match r with
 | .val xs=>∀ a vs H1,Same H H1->H1 a=none->Rl H1 vs xs->Q (.ref a) (upd H1 a (.lst vs))
 | .exc c=>XE X c σ H
 | .bad=>False
variable (C X) in
noncomputable def teF (F:Rho->R (List D)):TE:=fun σ H Q=>∃ ρ:RB,(∃ H0,eU C X H0 ρ σ H)/\pF (X:=X) (jA C X ρ σ) (F ρ) σ H Q
variable (C X) in
noncomputable def FD (e:Expr) (F:Rho->R (List D)):Prop:=PE X e (teF C X F)
noncomputable def Aq (r:R (List D)):R D:=r.bind fun xs=>.val (.lst xs)
noncomputable def eLs (F:Rho->R (List D)):Rho->R D:=fun ρ=>Aq (F ρ)
theorem cC {e : Expr} {F : Rho -> R (List D)} (h : FD C X e F) : ED C X e (eLs F) := aW h fun σ H Q yy3 => by
 obtain ⟨ρ, ⟨H0, r0⟩, q⟩ := yy3
 exact ⟨ρ, ⟨H0, r0⟩, by
  unfold eLs at q
  cases e : F ρ with
  | val xs =>
    rw [e] at q
    exact fun a vs H1 s1 hn h1 => q _ _ (s1.trans (a_ hn)) (.lst ((r0.mono s1).new hn) (h1.mono (br (a_ hn))))
  | exc c => rw [e] at q; exact q
  | bad => rw [e] at q; exact q⟩
noncomputable def lim (r:R (List D)):R (List D):=r.bind fun xs=>if xs.length<=LIM then .val xs else .bad
noncomputable def ib (F:Rho->R (List D)):Rho->R (List D):=fun ρ=>lim (F ρ)
theorem iX {es : List Expr} {pos : Pos} {F : Rho -> R (List D)} (h : AD C X es F) : FD C X (.List es pos) (ib F) :=
  aW (wq h) fun σ H Q yy4 => by
   obtain ⟨ρ, ⟨H0, r0⟩, q⟩ := yy4
   exact ⟨ρ, ⟨H0, r0⟩, eG (P := fun z H => pF (X := X) (jA C X ρ σ) z σ H Q) (fun _ h => h) (fun h => h) q fun xs vs H1 s1 h1 q1 => by
    split at q1
    · rename_i hl
      exact ⟨by rw [h1.len]; exact qd hl, fun p hp => q1 p vs H1 s1 hp h1⟩
    · exact q1.elim⟩
noncomputable def itD:D->R (List D)
 | .lst xs=>.val xs
 | .tup xs=>.val xs
 | .scr ns=>.val (ns.map .int)
 | _=>.bad
noncomputable def fIt (F:Rho->R D):Rho->R (List D):=fun ρ=>(F ρ).bind itD
theorem fF {e : Expr} {p pos : Pos} {F : Rho -> R D} (h : EB C X e F) (hg : Gl X "list") (hm : X.mg "list" = none) (hst : starEach [e] X.env = (false, eval e X.env) :: starEach [] X.env := by rfl)
    (hs : ∀ t : TA, PA X [e] t -> PE X (.Call (.Name "list" p) [e] [] pos) (tCB (fun xs H Q => ∃ p ys, xs = [.ref p] /\ (SqL X.K H p ys \/ SqT X.K H p ys) /\ ∀ l, H l = none -> Q (.ref l) (upd H l (.lst ys))) t) := by
      exact fun t ha => bw bS (by assumption) (by assumption) PySem.boot_list ha) : FD C X (.Call (.Name "list" p) [e] [] pos) (fIt F) :=
  aW (hs _ (dN h fh hst)) fun σ H Q yy5 => by
   obtain ⟨ρ, r0, q⟩ := yy5
   exact ⟨ρ, r0, bj (P := fun z H => pF (X := X) (jA C X ρ σ) z σ H Q) (fun _ h => h) (fun h => h) q fun x v H1 s1 h1 q1 => by
    cases x with
    | lst xs =>
      obtain ⟨a, vs, rfl, e1, h2⟩ := h1.lst msk_sub
      exact ⟨a, vs, rfl, .inl (SqL.of e1), fun l hl => q1 l vs H1 s1 hl h2⟩
    | tup xs =>
      obtain ⟨a, vs, rfl, e1, h2⟩ := h1.tup msk_sub
      exact ⟨a, vs, rfl, .inr (SqT.of e1), fun l hl => q1 l vs H1 s1 hl h2⟩
    | scr ns =>
      obtain ⟨a, rfl, e1⟩ := h1.scr msk_sub
      exact ⟨a, _, rfl, .inl e1, fun l hl => q1 l _ H1 s1 hl (HasL.ints ns)⟩
    | _ => exact q1.elim⟩
noncomputable def jv:D->R D
 | .lst xs=>.val (.tup xs)
 | .tup xs=>.val (.tup xs)
 | _=>.bad
theorem kj {e : Expr} {p pos : Pos} {F : Rho -> R D} (h : EB C X e F) (hg : Gl X "tuple") (hm : X.mg "tuple" = none) (hst : starEach [e] X.env = (false, eval e X.env) :: starEach [] X.env := by rfl)
    (hs : ∀ t : TA, PA X [e] t -> PE X (.Call (.Name "tuple" p) [e] [] pos) (tCB (fun xs H Q => ∃ p ys, xs = [.ref p] /\ ((SqL X.K H p ys /\ ∀ l, H l = none -> Q (.ref l) (upd H l (.tup ys))) \/ (SqT X.K H p ys /\ Q (.ref p) H))) t) := by
      exact fun t ha => bw eD (by assumption) (by assumption) PySem.boot_tuple ha) : ED C X (.Call (.Name "tuple" p) [e] [] pos) (una jv F) :=
  aW (hs _ (dN h fh hst)) fun σ H Q yy6 => by
   obtain ⟨ρ, ⟨H0, r0⟩, q⟩ := yy6
   exact ⟨ρ, ⟨H0, r0⟩, bj (P := fun z H => pV X (eV C X ρ σ) z σ H Q) (fun _ h => h) (fun h => h) q fun x v H1 s1 h1 q1 => by
    cases x with
    | lst xs =>
      obtain ⟨a, vs, rfl, e1, h2⟩ := h1.lst msk_sub
      exact ⟨a, vs, rfl, .inl ⟨SqL.of e1, fun l hl => q1 _ _ (s1.trans (a_ hl)) (.tup ((r0.mono s1).new hl) (h2.mono (br (a_ hl))))⟩⟩
    | tup xs =>
      cases h1 with
      | cl h1 =>
        cases h1 with
        | tup e1 h2 => exact ⟨_, _, rfl, .inr ⟨SqT.of (msk_sub _ _ e1), q1 _ H1 s1 (.tup e1 h2)⟩⟩
    | _ => exact q1.elim⟩
noncomputable def sq (a b:Rho->R Out):Rho->R Out:=fun ρ=>(a ρ).bind fun o=>match o with
 | .nx ρ'=>b ρ'
 | o=>.val o
noncomputable def nxt:Rho->R Out:=fun ρ=>.val (.nx ρ)
noncomputable def asg (i:Nat) (e:Rho->R D):Rho->R Out:=fun ρ=>(e ρ).bind fun d=>.val (.nx (ρ.set i (some (.shr d))))
noncomputable def own (i:Nat) (e:Rho->R (List D)):Rho->R Out:=fun ρ=>(e ρ).bind fun xs=>.val (.nx (ρ.set i (some (.own xs))))
noncomputable def ret (e:Rho->R D):Rho->R Out:=fun ρ=>(e ρ).bind fun d=>.val (.rt d)
noncomputable def drp (e:Rho->R D):Rho->R Out:=fun ρ=>(e ρ).bind fun _=>.val (.nx ρ)
noncomputable def iff (t:Rho->R Bool) (a b:Rho->R Out):Rho->R Out:=fun ρ=>(t ρ).bind fun c=>if c=true then a ρ else b ρ
noncomputable def bad:Rho->R Out:=fun _=>.bad
theorem aQ : SDs C X [] nxt := iO xR fun D σ H yy7 => by
 obtain ⟨_, H0, ⟨ρ, rfl, r⟩, q⟩ := yy7
 exact q σ H r.e
theorem aq {st:Stmt} {rest:List Stmt} {F G:Rho->R Out} (h1:SD C X st F) (h2:SDs C X rest G):SDs C X (st :: rest) (sq F G) :=
 iO (iP h1 h2) fun D σ H zz0=>by
  obtain ⟨_,H0,⟨ρ,rfl,r⟩,q⟩:=zz0
  refine ⟨ρ,H0,r.e,?_⟩
  unfold sq at q
  cases e:F ρ with
  | val o =>
   rw [e] at q
   cases o with
   | nx ρ'=>exact fun σ' H' r'=>⟨ρ',H0,r',q⟩
   | rt d=>exact q
   | bk ρ'=>exact q
   | ct ρ'=>exact q
  | exc c=>rw [e] at q;exact q
  | bad=>rw [e] at q;exact q
theorem ar {st:Stmt} {F:Rho->R Out} (h:SD C X st F):SDs C X [st] F:=lU h
theorem eM {H0:Hp} {Dn:ky} {c:Nat} {ρ:RB} {σ:St} {H:Hp} (r:eU C X H0 ρ σ H) (h:pS C X (.exc c) H0 Dn):XE X c σ H:=XS.xe (r.keep.trans msk_sub) h
theorem bx {i : Nat} {x : Str} {e : Expr} {pos pos' : Pos} {F : Rho -> R D} (hN : X.N.Nodup) (hi : X.N[i]? = some x) (hx : Loc X.env.scope x) (he : ED C X e F) (hs : swapsWith e (some (.Name x pos')) pos.line X.env = pure false := by rfl)
    (hf : X.fn x = true \/ X.env.scope.names.lookup x = some .local := by first | exact .inl rfl | exact .inr rfl | assumption) : SD C X (.Assign [.Name x pos'] e pos) (asg i F) :=
  ck (mH hN hi hx he hs hf) fun D σ H yy8 => by
   obtain ⟨_, H0, ⟨ρ, rfl, r⟩, q⟩ := yy8
   exact ⟨ρ, ⟨H0, r⟩, bj (P := fun z _ => pS C X z H0 D) (fun c h => eM r h) (fun h => h) q fun d v H1 s1 h1 q1 => q1 _ _ ⟨_, rfl, (r.mono s1).setShr h1⟩⟩
theorem jD {i : Nat} {x : Str} {e : Expr} {pos pos' : Pos} {F : Rho -> R (List D)} (hN : X.N.Nodup) (hi : X.N[i]? = some x) (hx : Loc X.env.scope x) (he : FD C X e F) (hs : swapsWith e (some (.Name x pos')) pos.line X.env = pure false := by rfl)
    (hf : X.fn x = true \/ X.env.scope.names.lookup x = some .local := by first | exact .inl rfl | exact .inr rfl | assumption) : SD C X (.Assign [.Name x pos'] e pos) (own i F) :=
  ck (mH hN hi hx he hs hf) fun D σ H yy9 => by
   obtain ⟨_, H0, ⟨ρ, rfl, r⟩, q⟩ := yy9
   exact ⟨ρ, ⟨H0, r⟩, by
    unfold own at q
    cases e : F ρ with
    | val xs =>
      rw [e] at q
      exact fun a vs H1 s1 hn h1 => q _ _ ⟨_, rfl, (r.mono s1).setOwn hn h1⟩
    | exc c => rw [e] at q; exact eM r q
    | bad => rw [e] at q; exact q⟩
theorem aT {e : Expr} {pos : Pos} {F : Rho -> R D} (he : ED C X e F) : SD C X (.Return (some e) pos) (ret F) :=
  ck (wc he) fun D σ H yy10 => by
   obtain ⟨_, H0, ⟨ρ, rfl, r⟩, q⟩ := yy10
   exact ⟨ρ, ⟨H0, r⟩, bj (P := fun z _ => pS C X z H0 D) (fun c h => eM r h) (fun h => h) q fun d v H1 s1 h1 q1 => q1 v H1 ((r.mono s1).keep.trans msk_sub) (h1.mono msk_sub)⟩
theorem gA {e : Expr} {pos : Pos} {F : Rho -> R D} (he : EB C X e F) (hs : swapsWith e none pos.line X.env = pure false := by rfl) : SD C X (.Expr e pos) (drp F) :=
  ck (j0 he hs) fun D σ H yy11 => by
   obtain ⟨_, H0, ⟨ρ, rfl, r⟩, q⟩ := yy11
   exact ⟨ρ, ⟨H0, r⟩, bj (P := fun z _ => pS C X z H0 D) (fun c h => eM r h) (fun h => h) q fun d v H1 s1 h1 q1 => q1 _ _ (r.mono s1).e⟩
theorem bD {c : Expr} {a b : List Stmt} {pos : Pos} {Ft : Rho -> R Bool} {Fa Fb : Rho -> R Out} (hc : TD C X c Ft) (ha : SDs C X a Fa) (hb : SDs C X b Fb) : SD C X (.If c a b pos) (iff Ft Fa Fb) :=
  ck (BE hc ha hb) fun D σ H yy12 => by
   obtain ⟨_, H0, ⟨ρ, rfl, r⟩, q⟩ := yy12
   exact ⟨ρ, ⟨H0, r⟩, j4 (P := fun z _ => pS C X z H0 D) (fun c h => eM r h) (fun h => h) q fun c H1 s1 q1 => by
    cases c with
    | true => exact Az ⟨ρ, H0, (r.mono s1).e, q1⟩
    | false => exact AA ⟨ρ, H0, (r.mono s1).e, q1⟩⟩
theorem e_ {st : Stmt} : SD C X st bad := ck wd fun D σ H yy13 => by
 obtain ⟨_, H0, ⟨ρ, rfl, r⟩, q⟩ := yy13
 exact q
noncomputable def frz (i:Nat) (ρ:Rho):Rho:=match ρ[i]? with
 | some (some (.own xs))=>ρ.set i (some (.shr (.lst xs)))
 | some (some (.tre _ d))=>ρ.set i (some (.shr d))
 | _=>ρ
theorem Rel.frz {K:PySem.W.Frag} {H0:Hp} {ρ:Rho} (r:vJ K C H0 ρ σ H) (i:Nat):vJ K C H0 (DL.frz i ρ) σ H:=by
 obtain ⟨ρ,rfl,r⟩:=r
 unfold DL.frz
 split
 ·exact ⟨_,rfl,r.freeze ‹_›⟩
 ·exact ⟨_,rfl,r.thaw ‹_›⟩
 ·exact r.e
theorem xI {sts : List Stmt} {F : Rho -> R Out} (i : Nat) (h : SDs C X sts F) : SDs C X sts (fun ρ => F (frz i ρ)) := iO h fun D σ H yy16 => by
 obtain ⟨ρ, H0, r, q⟩ := yy16
 exact ⟨frz i ρ, H0, Rel.frz r i, q⟩
noncomputable def app (i:Nat) (e:Rho->R D):Rho->R Out:=fun ρ=>match ρ[i]? with
 | some (some (.own xs))=>(e ρ).bind fun d=>if xs.length < LIM then .val (.nx (ρ.set i (some (.own (xs ++ [d]))))) else .bad
 | _=>.bad
theorem iL {i:Nat} {x:Str} {e:Expr} {p ap cp pos:Pos} {F:Rho->R D} (hv:PE X (.Name x p) (fN i)) (he:ED C X e F)
  (hs:∀ {to:TE} {t:TA},PE X (.Name x p) to->PA X [e] t->PS X (.Expr (.Call (.Attribute (.Name x p) "append" ap) [e] [] cp) pos) (mr (tBM X.K "list" pO to t)):=by
   exact fun ho ha=>j0 (ub PySem.F.plainAttrs_list PySem.F.slot_list_append PySem.F.type_list_append kK ho ha))
  (hst:starEach [e] X.env=(false,eval e X.env) :: starEach [] X.env:=by rfl) :
  SD C X (.Expr (.Call (.Attribute (.Name x p) "append" ap) [e] [] cp) pos) (app i F) :=
 ck (hs hv (dN he fh hst)) fun D σ H zz1=>by
  obtain ⟨_,H0,⟨ρ,rfl,r⟩,q⟩:=zz1
  unfold app at q
  split at q
  ·rename_i xs e0
   obtain ⟨a,vs,e1,_,h1,h2⟩:=r.at_ i _ e0
   refine ⟨_,e1,.inl ⟨rfl,_,SqL.of h1⟩,ρ,⟨H0,r⟩,bj (P:=fun z _=>pS C X z H0 D) (fun c h=>eM r h) (fun h=>h) q fun d v H1 s1 h3 q1=>?_⟩
   split at q1
   ·rename_i hl
    have h2':=h2.mono (br (ρ:=ρ) (σ:=σ) s1)
    refine ⟨a,vs,v,rfl,rfl,s1 _ _ h1,by rw [h2.len];exact Nat.lt_of_lt_of_le hl (by decide),?_⟩
    exact q1 _ _ ⟨_,rfl,(r.mono s1).write e0 e1 (h2'.app (.cons h3 .nil))⟩
   ·exact q1.elim
  ·exact q.elim
end
end DL
namespace DL
open PySem PySem.Spec PyProof.Rows L2
noncomputable def AF:HO->Bool
 | .lst _=>true
 | .ins _ _ _=>true
 | .own _=>true
 | .ext _=>true
 | _=>false
structure Hid (H:Hp) (h:Heap) (zs:List Addr):Prop where
 kind:∀ z ∈ zs,∃ o,H z=some o/\AF o=true
 insd:∀ z ∈ zs,∀ c dx fs,H z=some (.ins c dx fs)->dx ∈ zs
 own:∀ z ∈ zs,∀ a,H z=some (.own a)->a ∈ zs
 obj:∀ z ∈ zs,∃ o,h.get? z=some o/\∀ v,o.data ≠ .cell v
noncomputable def cut (zs:List Addr) (H:Hp):Hp:=fun b=>if b ∈ zs then none else H b
noncomputable def jn (zs:List Addr) (H M:Hp):Hp:=fun b=>if b ∈ zs then H b else M b
theorem cut_some {zs:List Addr} {H:Hp} {b:Addr} {o:HO}:cut zs H b=some o ↔ b ∉ zs/\H b=some o:=by
 unfold cut
 by_cases h:b ∈ zs
 ·rw [if_pos h];exact ⟨fun e=>(by cases e),fun e=>absurd h e.1⟩
 ·rw [if_neg h];exact ⟨fun e=>⟨h,e⟩,fun e=>e.2⟩
theorem gu {zs:List Addr} {H:Hp} {b:Addr} (h:b ∈ zs):cut zs H b=none:=by unfold cut;rw [if_pos h]
theorem jy {zs:List Addr} {H M:Hp} {b:Addr} (h:b ∈ zs):jn zs H M b=H b:=by unfold jn;rw [if_pos h]
theorem cW {zs:List Addr} {H M:Hp} {b:Addr} (h:b ∉ zs):jn zs H M b=M b:=by unfold jn;rw [if_neg h]
section
variable {X:Cx} {pins:List (Addr × Obj)} {σ:St} {H M:Hp} {s s':Shared} {zs:List Addr}
theorem _root_.L2.Inv.hide (I:Inv X pins σ H s) (Z:Hid H s.heap zs):Inv X (pins ++ d9 zs s.heap) σ (cut zs H) s:=by
 have nk:∀ b o,H b=some o->AF o=false->b ∉ zs:=fun b o e k hb=>by
  obtain ⟨o',e',k'⟩:=Z.kind b hb
  rw [e] at e';cases e';rw [k] at k';cases k'
 have nz:∀ b,H b=none->b ∉ zs:=fun b e hb=>by
  obtain ⟨o',e',k'⟩:=Z.kind b hb
  rw [e] at e';cases e'
 have none':∀ b,H b=none->cut zs H b=none:=fun b e=>by unfold cut;split <;> first | rfl | exact e
 have I1:Inv X pins σ (cut zs H) s:=by
  refine ⟨I.ok,I.os,I.bare,⟨I.base.keep,I.base.slot,fun b o q n hx=>none' b (I.base.free b o q n hx),I.base.there,fun b xs e=>?_,fun b o u e=>?_,fun b ps e=>?_⟩,I.loc,I.cell,none' _ I.free,fun x c e=>none' _ (I.freeC x c e),fun p hp=>?_,fun a o e=>?_,I.len⟩
  ·have e1:=I.base.tups b xs e
   exact cut_some.mpr ⟨nk b _ e1 rfl,e1⟩
  ·have e1:=I.base.frzs b o u e
   exact cut_some.mpr ⟨nk b _ e1 rfl,e1⟩
  ·obtain ⟨more,e1⟩:=I.base.tbls b ps e
   exact ⟨more,cut_some.mpr ⟨nk b _ e1 rfl,e1⟩⟩
  ·obtain ⟨h1,h2,h3⟩:=I.pin p hp
   exact ⟨h1,none' _ h2,h3⟩
  ·obtain ⟨h1,h2⟩:=cut_some.mp e
   refine (I.hok a o h2).stay (fun b u _ q=>q) (fun b q=>cut_some.mpr ⟨fun hb=>h1 (Z.own b hb a q),q⟩) fun b xs q=>cut_some.mpr ⟨nk b _ q rfl,q⟩
 refine I1.pins_of fun p hp=>?_
 rcases List.mem_append.mp hp with hp | hp
 ·exact I1.pin p (List.mem_append_right _ hp)
 ·obtain ⟨h1,h2⟩:=jm hp
  obtain ⟨o',e',k'⟩:=Z.kind p.1 h1
  obtain ⟨o,e,d⟩:=Z.obj p.1 h1
  rw [h2] at e;cases e
  refine ⟨h2,gu h1,fun z=>?_,fun z=>?_,d⟩
  ·rw [z,I.free] at e';cases e'
  ·rw [I.frn _ z] at e';cases e'
theorem _root_.L2.Inv.showG {σ':St} {pins' pins'':List (Addr × Obj)} (I:Inv X pins σ H s) (Z:Hid H s.heap zs) (J:Inv X pins' σ' M s') (h1:∀ p ∈ d9 zs s.heap,p ∈ pins') (h2:∀ p ∈ pins'',p ∈ pins'/\H p.1=none):Inv X pins'' σ' (jn zs H M) s'/\∀ z ∈ zs,M z=none:=by
 have nk:∀ b o,H b=some o->AF o=false->b ∉ zs:=fun b o e k hb=>by
  obtain ⟨o',e',k'⟩:=Z.kind b hb
  rw [e] at e';cases e';rw [k] at k';cases k'
 have nz:∀ b,H b=none->b ∉ zs:=fun b e hb=>by
  obtain ⟨o',e',k'⟩:=Z.kind b hb
  rw [e] at e';cases e'
 have pin:∀ z ∈ zs,∀ o,s.heap.get? z=some o->s'.heap.get? z=some o/\M z=none:=fun z hz o e=>by
  have q:=J.pin (z,o) (List.mem_append_right _ (h1 _ (gi hz e)))
  exact ⟨q.1,q.2.1⟩
 have mz:∀ z ∈ zs,M z=none:=fun z hz=>by
  obtain ⟨o,e,_⟩:=Z.obj z hz
  exact (pin z hz o e).2
 have none':∀ b,H b=none->M b=none->jn zs H M b=none:=fun b e e'=>by rw [cW (nz b e)];exact e'
 refine ⟨⟨J.ok,J.os,J.bare,⟨J.base.keep,J.base.slot,fun b o q n hx=>none' b (I.base.free b o q n hx) (J.base.free b o q n hx),J.base.there,fun b xs e=>?_,fun b o u e=>?_,fun b ps e=>?_⟩,J.loc,J.cell,none' _ I.free J.free,fun x c e=>none' _ (I.freeC x c e) (J.freeC x c e),fun p hp=>?_,fun a o e=>?_,J.len⟩,mz⟩
 ·rw [cW (nk b _ (I.base.tups b xs e) rfl)];exact J.base.tups b xs e
 ·rw [cW (nk b _ (I.base.frzs b o u e) rfl)];exact J.base.frzs b o u e
 ·obtain ⟨more,e1⟩:=I.base.tbls b ps e
  rw [cW (nk b _ e1 rfl)];exact J.base.tbls b ps e
 ·rcases List.mem_append.mp hp with hp | hp
  ·obtain ⟨q1,q2,q3⟩:=J.pin p (List.mem_append_left _ hp)
   exact ⟨q1,none' _ (I.pin p (List.mem_append_left _ hp)).2.1 q2,q3⟩
  ·obtain ⟨q1,q2,q3⟩:=J.pin p (List.mem_append_right _ (h2 p hp).1)
   exact ⟨q1,none' _ (h2 p hp).2 q2,q3⟩
 ·by_cases ha:a ∈ zs
  ·rw [jy ha] at e
   obtain ⟨o',e',k'⟩:=Z.kind a ha
   rw [e] at e';cases e'
   have ok:=I.hok a o e
   have same:∀ u,s.heap.get? a=some u->s'.heap.get? a=some u:=fun u q=>(pin a ha u q).1
   cases o with
   | lst xs=>obtain ⟨z,its,n,r,e1⟩:=ok;exact ⟨z,its,n,r,same _ e1⟩
   | own y=>obtain ⟨u,e1⟩:=ok;exact ⟨u,same _ e1⟩
   | ext φ=>obtain ⟨p,⟨u,e1⟩,st⟩:=ok;exact ⟨st _ _ p fun o q=>same o q,⟨u,same _ e1⟩,st⟩
   | ins c dx fs =>
    obtain ⟨d,z,ne,e1,mA,⟨od,es,ep,e2,rest⟩,r⟩:=ok
    have hd:dx ∈ zs:=Z.insd a ha c dx fs e
    exact ⟨by rw [jy hd];exact d,z,ne,same _ e1,mA,⟨od,es,ep,(pin dx hd _ e2).1,rest⟩,r⟩
   | _=>cases k'
  ·rw [cW ha] at e
   refine (J.hok a o e).stay (fun b u _ q=>q) (fun b q=>?_) fun b xs q=>?_
   ·rw [cW fun hb=>by rw [mz b hb] at q;cases q];exact q
   ·rw [cW fun hb=>by rw [mz b hb] at q;cases q];exact q
theorem _root_.L2.Inv.show' (I:Inv X pins σ H s) (Z:Hid H s.heap zs) (J:Inv X (pins ++ d9 zs s.heap) σ M s'):Inv X pins σ (jn zs H M) s'/\∀ z ∈ zs,M z=none :=
 I.showG Z J (fun p hp=>List.mem_append_right _ hp) fun p hp=>⟨List.mem_append_left _ hp,(I.pin p (List.mem_append_right _ hp)).2.1⟩
end
noncomputable def d_ (ρ:RB) (σ:St):List Addr:=(List.range ρ.rho.length).flatMap ρ.ad
theorem gj {ρ:RB} {σ:St} {b:Addr} (hb:∀ (i:Nat) a,a ∈ ρ.ad i->i < ρ.rho.length):b ∈ d_ ρ σ ↔ Own ρ σ b:=by
 unfold d_
 rw [List.mem_flatMap]
 exact ⟨fun ⟨i,_,h⟩=>⟨i,h⟩,fun ⟨i,h⟩=>⟨i,List.mem_range.mpr (hb i b h),h⟩⟩
theorem h8 {ρ:RB} {σ:St} {H:Hp} (hb:∀ (i:Nat) a,a ∈ ρ.ad i->i < ρ.rho.length):msk ρ σ H=cut (d_ ρ σ) H:=by
 funext b
 unfold msk cut
 by_cases h:Own ρ σ b
 ·rw [if_pos h,if_pos ((gj hb).mpr h)]
 ·rw [if_neg h,if_neg fun z=>h ((gj hb).mp z)]
theorem Rel.hid {X:Cx} {C:Addr} {pins:List (Addr × Obj)} {σ:St} {H H0:Hp} {s:Shared} {ρ:RB} (r:eU C X H0 ρ σ H) (I:Inv X pins σ H s):Hid H s.heap (d_ ρ σ):=by
 have key:∀ z ∈ d_ ρ σ,(∃ vs,H z=some (.lst vs))\/∃ xs,H z=some (km z xs):=fun z hz=>by
  obtain ⟨i,h⟩:=(gj r.bnd).mp hz
  exact r.kin i z h
 refine ⟨fun z hz=>?_,fun z hz c dx fs e=>?_,fun z hz a e=>?_,fun z hz=>?_⟩
 ·rcases key z hz with ⟨vs,e⟩ | ⟨vs,e⟩ <;> exact ⟨_,e,rfl⟩
 ·rcases key z hz with ⟨vs,e'⟩ | ⟨vs,e'⟩ <;> (rw [e] at e';cases e')
 ·rcases key z hz with ⟨vs,e'⟩ | ⟨vs,e'⟩ <;> (rw [e] at e';cases e')
 ·rcases key z hz with ⟨vs,e'⟩ | ⟨vs,e'⟩
  ·obtain ⟨_,its,n,_,e1⟩:=I.hok z _ e'
   exact ⟨_,e1,fun v q=>by cases q⟩
  ·obtain ⟨⟨_,_,o,es,ep,e1,_,e2,_⟩,_⟩:=I.hok z _ e'
   exact ⟨o,e1,fun v q=>by rw [e2] at q;cases q⟩
noncomputable def spD (K:PySem.W.Frag) (C:Addr) (n:Nat) (den:List D->R D):Sp:=fun vs H Q _=>vs.length=n/\∃ ds,HasL K C H vs ds/\match den ds with
 | .val d=>∀ v H',Same H H'->Has K C H' v d->Q v H'
 | _=>False
section
variable {C:Addr} {X:Cx}
noncomputable def noex:R D->R D
 | .val d=>.val d
 | _=>.bad
noncomputable def cal (n:Nat) (den:List D->R D) (a:Rho->R (List D)):Rho->R D:=fun ρ=>(a ρ).bind fun ds=>if ds.length=n then noex (den ds) else .bad
theorem yP {CX:CXT} {k n:Nat} {f:Addr} {fd:FuncData} {ps:List Str} {den:List D->R D} {x:Str} {p pos:Pos} {e:Expr} {es:List Expr} {Fa:Rho->R (List D)}
  (F:FnOk X.prog X.w X.K X.mg X.base CX k f fd ps (spD X.K C n den)) (hr:Room k X.A) (hg:Gl X x) (hm:X.mg x=some (.ref f)) (hk:PySem.W.keepIn X.K (.ref f)=true) (hb:Binds X.K fd ps []) (hx:qQ CX X E0)
  (ha:AD C X (e :: es) Fa) (hdb:(x == ("__debug__":Str))=false:=by decide) (he:starEach (e :: es) X.env=(false,eval e X.env) :: starEach es X.env:=by rfl) (hpl:(backTo pos (starEach es X.env)).any (·.1)=false:=by rfl) :
  ED C X (.Call (.Name x p) (e :: es) [] pos) (cal n den Fa):=by
 rintro pins s σ H Q I ⟨ρ,⟨H0,r0⟩,q⟩
 refine wpAny_Call_Name_kw (jp I hg hm ?_ hdb)
 refine PySem.W.callWith_K (h₀:=X.base) I.ok.mod.kin hk (thn (ha pos pins s σ H (fun vs H1=>∃ ds d,ds.length=n/\Same H H1/\jA C X ρ σ H1 vs ds/\den ds=.val d/\∀ v H',Same H H'->eV C X ρ σ H' v d->Q v H') I
  ⟨ρ,⟨H0,r0⟩,eG (P:=fun z H=>pV X (eV C X ρ σ) z σ H Q) (fun _ h=>h) (fun h=>h) q fun ds vs H1 s1 h1 q1=>?_⟩) fun us s1 ⟨vs,H1,I1,rv,ds,d,hl,s1',h1,e1,q1⟩=>⟨I1.kIn,?_⟩) he hpl
 ·split at q1
  ·rename_i hl
   cases e1:den ds with
   | val d=>rw [e1] at q1;exact ⟨ds,d,hl,s1,h1,e1,q1⟩
   | exc c=>rw [e1] at q1;exact q1.elim
   | bad=>rw [e1] at q1;exact q1.elim
  ·exact q1.elim
 ·have r1:=r0.mono s1'
  have Z:=Rel.hid r1 I1
  have J:=I1.hide Z
  refine thn (pJ (E:=E0) (Q:=fun v M'=>Same (cut (d_ ρ σ) H1) M'/\Has X.K C M' v d) F hr hb .nil hx J rv ?_) fun u s2 ⟨v,M',J2,ru,sm,hv⟩=>?_
  ·rw [List.append_nil]
   refine ⟨h1.len.trans hl,ds,by rw [<- h8 r0.bnd];exact h1,?_⟩
   rw [e1]
   exact fun v H' s2 h2=>⟨s2,h2⟩
  ·obtain ⟨I2,mz⟩:=I1.show' Z J2
   have sj:Same H1 (jn (d_ ρ σ) H1 M'):=fun b o eb=>by
    by_cases hb:b ∈ d_ ρ σ
    ·rw [jy hb];exact eb
    ·rw [cW hb];exact sm b o (cut_some.mpr ⟨hb,eb⟩)
   have em:msk ρ σ (jn (d_ ρ σ) H1 M')=M':=by
    rw [h8 r0.bnd]
    funext b
    by_cases hb:b ∈ d_ ρ σ
    ·rw [gu hb,mz b hb]
    ·unfold cut;rw [if_neg hb,cW hb]
   exact ⟨v,_,I2,ru,q1 v _ (s1'.trans sj) (by show Has _ _ (msk ρ σ _) v d;rw [em];exact hv)⟩
end
end DL
namespace DL
open PySem PySem.Spec PyProof.Rows L2
noncomputable def tgN (i:Nat):D->Rho->Option Rho:=fun x ρ=>some (ρ.set i (some (.shr x)))
noncomputable def tg2 (i j:Nat):D->Rho->Option Rho:=fun x ρ=>match x with
 | .tup [a,b]=>some ((ρ.set i (some (.shr a))).set j (some (.shr b)))
 | _=>none
section
variable {C:Addr} {X:Cx}
variable (C X) in
noncomputable def gtD (ix:List Nat) (T:D->Rho->Option Rho):TG:=fun v σ H Q=>∃ (ρ:RB) (H0:Hp) (x:D) (ρ':Rho),eU C X H0 ρ σ H/\eV C X ρ σ H v x/\T x ρ=some ρ'/\∀ (σ':St) (β:RB),β.rho=ρ'->(∀ j:Nat,β.ad j=if j ∈ ix then [] else ρ.ad j)->eU C X H0 β σ' H->(∀ j:Nat,j ∉ ix->σ'[j]?=σ[j]?)->Q σ' H
variable (C X) in
noncomputable def GD (tg:Expr) (ix:List Nat) (T:D->Rho->Option Rho):Prop:=PG X tg (gtD C X ix T)
theorem ua {tg:Expr} {t t':TG} (h:PG X tg t) (hw:∀ v σ H Q,t' v σ H Q->t v σ H Q):PG X tg t':=fun pins s σ H v u Q I r q=>h pins s σ H v u Q I r (hw v σ H Q q)
theorem pT {ρ:RB} {i:Nat} {d:D} (j:Nat):(ρ.put i (.shr d) []).ad j=if j=i then [] else ρ.ad j:=by
 unfold RB.put
 dsimp only
 split
 ·split <;> rfl
 ·rfl
theorem uf {ρ:RB} {σ σ':St} {H:Hp} {i:Nat} {d:D}:Same (msk ρ σ H) (msk (ρ.put i (.shr d) []) σ' H):=fun b o eb=>by
 obtain ⟨h1,h2⟩:=msk_some.mp eb
 refine msk_some.mpr ⟨fun ⟨j,z⟩=>?_,h2⟩
 rcases gh z with ⟨_,_,z⟩ | ⟨_,z⟩
 ·cases z
 ·exact h1 ⟨j,z⟩
theorem aS {i:Nat} {x:Str} {pos:Pos} (hN:X.N.Nodup) (hi:X.N[i]?=some x) (hx:Loc X.env.scope x) (hf:X.fn x=true\/X.env.scope.names.lookup x=some .local:=by first | exact .inl rfl | exact .inr rfl | assumption) :
  GD C X (.Name x pos) [i] (tgN i):=ua (aM hN hi hx hf) fun v σ H Q zz0=>by
 obtain ⟨ρ,H0,x,ρ',r,h,e,k⟩:=zz0
 cases e
 exact k _ _ rfl (fun j=>by rw [pT];by_cases e1:j=i <;> simp [e1]) (r.setShr h) fun j hj=>List.getElem?_set_ne fun z=>hj (by simp [z])
theorem dv {i j:Nat} {x y:Str} {px py pos:Pos} {n:Nat} (hc:X.calm=true) (h1:PG X (.Name x px) (iW i)) (h2:PG X (.Name y py) (iW j))
  (hs1:(assignEach [.Name x px,.Name y py] X.env).map (·.2)=assign (.Name x px) X.env :: (assignEach [.Name y py] X.env).map (·.2):=by rfl)
  (hs2:(assignEach [.Name y py] X.env).map (·.2)=assign (.Name y py) X.env :: (assignEach [] X.env).map (·.2):=by rfl)
  (hn:(assignEach [.Name x px,.Name y py] X.env).length=2:=by rfl) (hst:(assignEach [.Name x px,.Name y py] X.env).findIdx? (·.1)=none:=by rfl) :
  GD C X (.Tuple [.Name x px,.Name y py] n pos) [i,j] (tg2 i j):=ua (zY hc (rh h1 (rh h2 xW hs2) hs1) hn hst) fun v σ H Q zz1=>by
 obtain ⟨ρ,H0,d,ρ',r,h,e,k⟩:=zz1
 unfold tg2 at e
 split at e
 ·rename_i a b
  cases e
  cases h with
  | tup q hl =>
   cases hl with
   | @cons va _ _ _ ha hl =>
    cases hl with
    | @cons vb _ _ _ hb hl =>
     cases hl
     refine ⟨_,_,rfl,SqT.of (msk_sub _ _ q),rfl,va,_,rfl,vb,_,rfl,rfl,?_⟩
     have r1:=r.setShr (i:=i) ha
     refine k _ _ rfl (fun m=>?_) (r1.setShr (i:=j) (hb.mono uf)) fun m hm=>?_
     ·rw [pT,pT]
      by_cases e1:m=i <;> by_cases e2:m=j <;> simp [e1,e2]
     ·rw [List.getElem?_set_ne fun z=>hm (by simp [z]),List.getElem?_set_ne fun z=>hm (by simp [z])]
 ·cases e
noncomputable def asT (T:D->Rho->Option Rho) (e:Rho->R D):Rho->R Out:=fun ρ=>(e ρ).bind fun d=>match T d ρ with
 | some ρ'=>.val (.nx ρ')
 | none=>.bad
theorem zD {tg e : Expr} {pos : Pos} {ix : List Nat} {T : D -> Rho -> Option Rho} {F : Rho -> R D} (he : ED C X e F) (hg : GD C X tg ix T) (hs : swapsWithSole [tg] e pos.line X.env = pure false := by rfl) (hw : swappedStores [tg] e X.env = pure none := by rfl)
    (h1 : (assignEach [tg] X.env).map (·.2) = [assign tg X.env] := by rfl) : SD C X (.Assign [tg] e pos) (asT T F) :=
  ck (sV he hg hs hw h1) fun D σ H yy0 => by
   obtain ⟨_, H0, ⟨ρ, rfl, r⟩, q⟩ := yy0
   exact ⟨ρ, ⟨H0, r⟩, bj (P := fun z _ => pS C X z H0 D) (fun c h => eM r h) (fun h => h) q fun d v H1 s1 h1 q1 => by
    split at q1
    · rename_i ρ' e1
      exact ⟨ρ, H0, d, ρ', r.mono s1, h1, e1, fun σ' β eb _ r' _ => q1 σ' H1 ⟨β, eb, r'⟩⟩
    · exact q1.elim⟩
structure qP (K:PySem.W.Frag) (C:Addr) (J:It) (xs:List D) (M:Hp):Prop where
 go:∀ (i:Nat) x H2,Same M H2->xs[i]?=some x->J.go i H2/\∀ v H3,J.yld i H2 v H3->Same H2 H3/\∀ ρ σ,(∀ b,Own ρ σ b->H2 b ≠ none)->Same M (msk ρ σ H2)->Has K C (msk ρ σ H3) v x
 stop:∀ H2,Same M H2->J.stop xs.length H2
variable (C X) in
noncomputable def itI (F:Rho->R (List D)):TI:=fun σ H Rk=>∃ ρ:RB,(∃ H0,eU C X H0 ρ σ H)/\match F ρ with
 | .val xs=>∀ J H',Same H H'->qP X.K C J xs (msk ρ σ H')->Rk J H'
 | .exc c=>XE X c σ H
 | .bad=>False
variable (C X) in
noncomputable def ID (tg iter:Expr) (F:Rho->R (List D)):Prop:=PI X tg iter (itI C X F)
theorem lW {tg e:Expr} {t t':TI} (h:PI X tg e t) (hw:∀ σ H Q,t' σ H Q->t σ H Q):PI X tg e t':=fun pins s σ H R I q=>h pins s σ H R I (hw σ H R q)
theorem uX {K:PySem.W.Frag} {a:Addr} {vs:List V} {xs:List D} {M:Hp} (e:M a=some (.lst vs)) (h:HasL K C M vs xs):qP K C (Itl K a) xs M where
 go:=fun i x H2 s hx=>by
  obtain ⟨v,e1,h1⟩:=h.get hx
  refine ⟨⟨vs,v,SqL.of (s _ _ e),e1⟩,fun v' H3 y=>?_⟩
  obtain ⟨rfl,y⟩:=y
  have e2:=y vs (SqL.of (s _ _ e))
  rw [e1] at e2;cases e2
  exact ⟨Same.refl _,fun ρ σ _ m=>h1.mono m⟩
 stop:=fun H2 s=>⟨vs,SqL.of (s _ _ e),by rw [h.len];exact Nat.le_refl _⟩
theorem vP {K:PySem.W.Frag} {a:Addr} {vs:List V} {xs:List D} {M:Hp} (e:M a=some (.tup vs)) (h:HasL K C M vs xs):qP K C (Itt K a) xs M where
 go:=fun i x H2 s hx=>by
  obtain ⟨v,e1,h1⟩:=h.get hx
  refine ⟨⟨vs,v,SqT.of (s _ _ e),e1⟩,fun v' H3 y=>?_⟩
  obtain ⟨rfl,y⟩:=y
  have e2:=y vs (SqT.of (s _ _ e))
  rw [e1] at e2;cases e2
  exact ⟨Same.refl _,fun ρ σ _ m=>h1.mono m⟩
 stop:=fun H2 s=>⟨vs,SqT.of (s _ _ e),by rw [h.len];exact Nat.le_refl _⟩
theorem vQ {K:PySem.W.Frag} {a:Addr} {ns:List Int} {M:Hp} (e:SqL K M a (ns.map V.int)):qP K C (Itl K a) (ns.map D.int) M where
 go:=fun i x H2 s hx=>by
  obtain ⟨v,e1,h1⟩:=(HasL.ints (K:=K) (C:=C) (H:=M) ns).get hx
  refine ⟨⟨_,v,s.seq e,e1⟩,fun v' H3 y=>?_⟩
  obtain ⟨rfl,y⟩:=y
  have e2:=y _ (s.seq e)
  rw [e1] at e2;cases e2
  exact ⟨Same.refl _,fun ρ σ _ m=>h1.mono m⟩
 stop:=fun H2 s=>⟨_,s.seq e,by simp⟩
noncomputable def rng (lo:Int) (n:Nat):List D:=(List.range n).map fun (k:Nat)=>D.int (lo + (k:Int))
theorem vR {K:PySem.W.Frag} {lo:Int} {n:Nat} {M:Hp}:qP K C (Itr lo n) (rng lo n) M where
 go:=fun i x H2 s hx=>by
  have hi:i < n:=by have:=(List.getElem?_eq_some_iff.mp hx).1;simpa [rng] using this
  refine ⟨hi,fun v H3 y=>?_⟩
  obtain ⟨rfl,rfl⟩:=y
  refine ⟨Same.refl _,fun ρ σ _ m=>?_⟩
  have:x=.int (lo + (i:Int)):=by
   unfold rng at hx
   rw [List.getElem?_map,List.getElem?_range hi] at hx
   exact (Option.some.inj hx).symm
  rw [this];exact .int _
 stop:=fun H2 s=>by simp [rng,Itr]
theorem zX {tg l:Expr} {tl:TE} (hl:PE X l tl):PI X tg l (fun σ H R=>tl σ H fun x H1=>∃ a,x=.ref a/\(((∃ xs,SqL X.K H1 a xs)/\R (Itl X.K a) H1)\/((∃ xs,SqT X.K H1 a xs)/\R (Itt X.K a) H1))):=by
 intro pins s σ H R I h
 refine thn (hl pins s σ H _ I h) fun v s1 zz3=>?_
 obtain ⟨x,H1,I1,r1,q1⟩:=zz3
 obtain ⟨a,e,q1⟩:=q1
 subst e
 cases r1
 rcases q1 with ⟨⟨xs,hq⟩,q⟩ | ⟨⟨xs,hq⟩,q⟩
 ·obtain ⟨its,rv,p,hz⟩:=I1.list hq
  refine wpAny_pyIter_list p.isList ?_
  refine ⟨s1.heap.objs.size,[s1.heap.objs.size],_,_,H1,rfl,I1.kept (t':=s1.toks) fun b o e=>Heap.get?_push_of_some _ e,oO a _,⟨_,Heap.get?_push_size _ rfl,rfl,rfl⟩,fun b hb=>?_,q⟩
  have e:b=s1.heap.objs.size:=by simpa using hb
  subst e
  exact I1.fpOk (Nat.le_refl _) (I1.hok.fresh (Nat.le_refl _))
 ·obtain ⟨its,rv,p,hz⟩:=I1.tuple hq
  refine wpAny_pyIter_tuple (show s1.heap.IsTuple a its.toArray from p) ?_
  refine ⟨s1.heap.objs.size,[s1.heap.objs.size],_,_,H1,rfl,I1.kept (t':=s1.toks) fun b o e=>Heap.get?_push_of_some _ e,sK a _,⟨_,Heap.get?_push_size _ rfl,rfl,rfl⟩,fun b hb=>?_,q⟩
  have e:b=s1.heap.objs.size:=by simpa using hb
  subst e
  exact I1.fpOk (Nat.le_refl _) (I1.hok.fresh (Nat.le_refl _))
theorem b_ {tg e : Expr} {F : Rho -> R D} (h : ED C X e F) : ID C X tg e (fIt F) := lW (zX h) fun σ H R yy2 => by
 obtain ⟨ρ, ⟨H0, r⟩, q⟩ := yy2
 exact ⟨ρ, ⟨H0, r⟩, by
  unfold fIt at q
  cases e : F ρ with
  | val d =>
    rw [e] at q
    intro v H1 s1 h1
    cases h1 with
    | lst e1 h1 => exact ⟨_, rfl, .inl ⟨⟨_, SqL.of (msk_sub _ _ e1)⟩, q _ H1 s1 (uX e1 h1)⟩⟩
    | tup e1 h1 => exact ⟨_, rfl, .inr ⟨⟨_, SqT.of (msk_sub _ _ e1)⟩, q _ H1 s1 (vP e1 h1)⟩⟩
    | scr e1 => exact ⟨_, rfl, .inl ⟨⟨_, msk_sub.seq e1⟩, q _ H1 s1 (vQ e1)⟩⟩
    | _ => exact q.elim
  | exc c => rw [e] at q; exact q
  | bad => rw [e] at q; exact q⟩
noncomputable def n0:List D->R (List D)
 | [.int j]=>if -(2 ^ 62)<=j/\j < 2 ^ 62 then .val (rng 0 j.toNat) else .bad
 | _=>.bad
noncomputable def dh (F:Rho->R (List D)):Rho->R (List D):=fun ρ=>(F ρ).bind n0
theorem cS {tg a : Expr} {p pos : Pos} {F : Rho -> R (List D)} (hg : Gl X "range") (hm : X.mg "range" = none) (ha : AD C X [a] F) (hs : starEach [a] X.env = [(false, eval a X.env)] := by rfl) :
    ID C X tg (.Call (.Name "range" p) [a] [] pos) (dh F) := lW (vg hg hm ha hs) fun σ H R yy3 => by
     obtain ⟨ρ, ⟨H0, r⟩, q⟩ := yy3
     exact ⟨ρ, ⟨H0, r⟩, by
  unfold dh at q
  cases e : F ρ with
  | val ds =>
    rw [e] at q
    dsimp only [DL.R.bind] at q
    intro vs H1 s1 h1
    unfold n0 at q
    split at q
    · rename_i e0
      split at e0
      · rename_i j
        split at e0
        · rename_i hj
          cases e0
          cases h1 with
          | cons a b => cases a; cases b; exact ⟨j, rfl, hj.1, hj.2, q _ H1 s1 vR⟩
        · cases e0
      · cases e0
    · rename_i e0
      split at e0
      · split at e0 <;> cases e0
      · cases e0
    · exact q.elim
  | exc c => rw [e] at q; exact q
  | bad => rw [e] at q; exact q⟩
noncomputable def cR (T:D->Rho->Option Rho) (F:Rho->R Out):List D->Rho->R Out
 | [],ρ=>.val (.nx ρ)
 | x :: xs,ρ=>match T x ρ with
  | some ρ1=>(F ρ1).bind fun o=>match o with
   | .nx ρ2=>cR T F xs ρ2
   | .ct ρ2=>cR T F xs ρ2
   | .bk ρ2=>.val (.nx ρ2)
   | .rt d=>.val (.rt d)
  | none=>.bad
noncomputable def cA (src:Rho->R (List D)) (T:D->Rho->Option Rho) (F:Rho->R Out):Rho->R Out:=fun ρ=>(src ρ).bind fun xs=>cR T F xs ρ
theorem wQ {ix:List Nat} {src:Rho->R (List D)} {T:D->Rho->Option Rho} {F:Rho->R Out} {D:ky} {σ:St} {H:Hp} (h:tsD C X (cA src T F) D σ H):Bi (itI C X src) (gtD C X ix T) (tsD C X F) D σ H:=by
 obtain ⟨_,H0,⟨ρ,rfl,r⟩,q⟩:=h
 refine ⟨ρ,⟨H0,r⟩,?_⟩
 unfold cA at q
 cases e:src ρ with
 | exc c=>rw [e] at q;exact eM r q
 | bad=>rw [e] at q;exact q
 | val xs =>
  rw [e] at q
  intro J H1 s1 wk
  have r1:=r.mono s1
  have hM:Same H0 (msk ρ σ H1):=r1.keep
  refine ⟨fun i m σ' H'=>m=xs.length - i/\i<=xs.length/\∃ ρ':RB,eU C X (msk ρ σ H1) ρ' σ' H'/\pS C X (cR T F (xs.drop i) ρ') H0 D,⟨xs.length,rfl,Nat.zero_le _,ρ,r1.rebase,q⟩,?_⟩
  rintro i m σ' H' ⟨rfl,hi,ρ',r',q'⟩
  have sm:Same (msk ρ σ H1) H':=r'.keep.trans msk_sub
  by_cases hlt:i < xs.length
  ·have ex:xs[i]?=some xs[i]:=by simp [hlt]
   have ed:xs.drop i=xs[i] :: xs.drop (i + 1):=List.drop_eq_getElem_cons hlt
   rw [ed] at q'
   obtain ⟨go,yld⟩:=wk.go i _ H' sm ex
   refine .inr ⟨go,fun σ2 H2=>∃ ρ2:RB,eU C X (msk ρ σ H1) ρ2 σ2 H2/\pS C X (cR T F (xs.drop (i + 1)) ρ2) H0 D,fun σ2 H2 ⟨ρ2,r2,q2⟩=>⟨xs.length - (i + 1),by omega,rfl,hlt,ρ2,r2,q2⟩,fun v H3 y=>?_⟩
   obtain ⟨s3,hv⟩:=yld v H3 y
   have hv':=hv ρ' σ' (fun b ob=>r'.ownAt ob) r'.keep
   unfold cR at q'
   split at q'
   ·rename_i ρ1 e1
    refine ⟨ρ',_,xs[i],ρ1,r'.mono s3,hv',e1,fun σ2 β eb _ r2 _=>⟨ρ1,_,⟨β,eb,r2⟩,?_⟩⟩
    cases eF:F ρ1 with
    | val o =>
     rw [eF] at q'
     cases o with
     | nx ρ2=>exact fun σ4 H4 ⟨β4,e4,r4⟩=>⟨β4,r4,by rw [e4];exact q'⟩
     | ct ρ2=>exact fun σ4 H4 ⟨β4,e4,r4⟩=>⟨β4,r4,by rw [e4];exact q'⟩
     | bk ρ2=>exact fun σ4 H4 ⟨β4,e4,r4⟩=>q' σ4 H4 ⟨β4,e4,r4.base hM⟩
     | rt d=>exact fun v4 H4 s4 h4=>q' v4 H4 (hM.trans s4) h4
    | exc c=>rw [eF] at q';exact XS.mono hM q'
    | bad=>rw [eF] at q';exact q'
   ·exact q'.elim
  ·have ei:i=xs.length:=by omega
   subst ei
   rw [List.drop_length] at q'
   exact .inl ⟨wk.stop H' sm,q' σ' H' (r'.base hM).e⟩
theorem cw {tg iter:Expr} {body:List Stmt} {pos:Pos} {ix:List Nat} {src:Rho->R (List D)} {T:D->Rho->Option Rho} {F:Rho->R Out} (hp:PassesOwn (model X.prog X.w) X.A X.env X.xe) (hc:X.calm=true) (hi:ID C X tg iter src) (hg:GD C X tg ix T) (hb:SDs C X body F)
  (hs:∀ x,foldedSetIterable iter X.env x=pure x:=by intro _;rfl):SD C X (.For tg iter body [] pos) (cA src T F) :=
 ck (we hp hc hi hg hb hs) fun D σ H h=>wQ h
end
noncomputable def st0 (N:List Str) (ds:List D):Rho:=ds.map (fun d=>some (.shr d)) ++ List.replicate (N.length - ds.length) none
noncomputable def fin:R Out->R D
 | .val (.nx _)=>.val .non
 | .val (.rt d)=>.val d
 | .val _=>.bad
 | .exc c=>.exc c
 | .bad=>.bad
theorem xG {N:List Str} {ds:List D} {i:Nat} {sl:Slt} (h:(st0 N ds)[i]?=some (some sl)):∃ d,sl=.shr d/\ds[i]?=some d:=by
 unfold st0 at h
 by_cases hi:i < ds.length
 ·rw [List.getElem?_append_left (by simpa using hi),List.getElem?_map] at h
  cases e:ds[i]? with
  | none=>rw [e] at h;cases h
  | some d=>rw [e] at h;cases h;exact ⟨d,rfl,rfl⟩
 ·rw [List.getElem?_append_right (by simpa using hi),List.getElem?_replicate] at h
  split at h <;> cases h
theorem oS {K:PySem.W.Frag} {C:Addr} {H:Hp} {N:List Str} {vs:List V} {ds:List D} (h:HasL K C H vs ds):vJ K C H (st0 N ds) (L2.start N vs) H:=by
 have sub:Same H (msk ⟨st0 N ds,fun _=>[]⟩ (L2.start N vs) H):=fun b o e=>msk_some.mpr ⟨fun ⟨_,z⟩=>(List.not_mem_nil z).elim,e⟩
 refine ⟨⟨st0 N ds,fun _=>[]⟩,rfl,?_,sub,fun i sl e=>?_,fun i j a z=>(List.not_mem_nil z).elim,fun i a z=>(List.not_mem_nil z).elim,fun i a z=>(List.not_mem_nil z).elim⟩
 ·show (st0 N ds).length=_
  unfold st0 L2.start
  simp [h.len]
 ·obtain ⟨d,rfl,e1⟩:=xG e
  obtain ⟨v,e2,h2⟩:=h.get e1
  refine ⟨v,?_,h2.mono sub⟩
  have hi:i < vs.length:=(List.getElem?_eq_some_iff.mp e2).1
  unfold L2.start
  rw [List.getElem?_append_left (by simpa using hi),List.getElem?_map,e2]
  rfl
section
variable {P:Program} {w:World} {K:PySem.W.Frag} {mg:Str->Option Value} {base:Heap} {C:Addr}
theorem bt {x qual:Str} {st:Stmt} {f:Addr} {fd:FuncData} {N ps:List Str} {k:Nat} {den:Rho->R Out} (F:Fun K x qual st f fd) (sc:aH N ps (ac st))
  (hb:∀ (cdv:Value) (A:Around) (outer:List Env) (s:Shared) (H:Hp) (E:XK),Room k (A.deeper (envOfC qual (ac st) s.heap.objs.size f cdv)) ->
   SDs C (bX CX0 P w K mg base N qual (ac st) f cdv A outer s H E).nox (aw st) den) :
  FnOk P w K mg base CX0 (k + 1) f fd ps (spD K C ps.length fun ds=>fin (den (st0 N ds))):=by
 refine F.ok sc (fun vs H Q E h=>h.1) (fun cdv A outer s H vs Q E hr h=>⟨_,hb cdv A outer s H E hr,?_⟩)
 obtain ⟨_,ds,h,q⟩:=h
 refine ⟨st0 N ds,H,oS h,?_⟩
 dsimp only at q
 cases e:den (st0 N ds) with
 | val o =>
  rw [e] at q
  cases o with
  | nx ρ'=>exact fun σ' H' ⟨_,_,r⟩=>q _ H' (r.keep.trans msk_sub) .non
  | rt d=>exact fun v H' s' h'=>q v H' s' h'
  | bk ρ'=>exact q.elim
  | ct ρ'=>exact q.elim
 | exc c=>rw [e] at q;exact q.elim
 | bad=>rw [e] at q;exact q.elim
end
end DL
namespace DL
open PySem PySem.Spec PyProof.Rows L2
noncomputable def B3 (scope:Scope) (env:Env) (L:Addr) (cs:List (Str × Addr)):Env :=
 {scope:=relabel scope env,locals:=L,globals:=env.globals,cells:=cs,qual:=env.qual,func:=none,code:=env.code,frame:=env.frame,builtins:=env.builtins }
noncomputable def AB (o:Option NameKind):Bool:=match o with
 | some .cell=>true
 | _=>false
noncomputable def kc (o:Option NameKind):Bool:=match o with
 | some .cell=>true
 | some .free=>true
 | _=>false
noncomputable def cxC (X:Cx) (N':List Str) (scope:Scope) (L:Addr) (cs:List (Str × Addr)) (s:Shared) (H:Hp) (fp:List Addr):Cx :=
 {prog:=X.prog,w:=X.w,K:=X.K,mg:=X.mg,base:=X.base,A:=X.A,N:=N',s₀:=s,H₀:=H,env:=B3 scope X.env L cs,outer:=X.stack,stack:=X.stack,ex:=fp,
  fn:=fun x=>AB (scope.names.lookup x),calm:=X.calm,pn:=[],xe:=fun _ _=>False }
noncomputable def xr (N:List Str) (env:Env) (sc:Scope):List Str->Nat->Bool
 | [],_=>true
 | x :: r,i=>(match sc.names.lookup x with
   | some .free=>(match N[i]? with | some y=>y == x | none=>false) && kc (env.kindOf x)
   | some .local=>Nat.ble N.length i
   | some .cell=>Nat.ble N.length i
   | _=>true) && xr N env sc r (i + 1)
noncomputable def fK (env:Env) (x:Str) (k:NameKind):Bool:=match k with
 | .free=>kc (env.kindOf x)
 | _=>true
noncomputable def yY (env:Env):List (Str × NameKind)->Bool
 | []=>true
 | p :: r=>fK env p.1 p.2 && yY env r
noncomputable def lK (k:NameKind) (o:Option NameKind):Bool:=match k,o with
 | .local,some .local=>true
 | .local,_=>false
 | .free,some .free=>true
 | .free,_=>false
 | .cell,some .cell=>true
 | .cell,_=>false
 | _,_=>true
noncomputable def yX (names:List (Str × NameKind)):List (Str × NameKind)->Bool
 | []=>true
 | p :: r=>lK p.2 (names.lookup p.1) && yX names r
theorem BO {k:NameKind} {o:Option NameKind} (h:lK k o=true) (hk:k=.local\/k=.free\/k=.cell):o=some k:=by
 rcases hk with rfl | rfl | rfl
 ·cases o with
  | none=>cases h
  | some j=>cases j <;> first | rfl | cases h
 ·cases o with
  | none=>cases h
  | some j=>cases j <;> first | rfl | cases h
 ·cases o with
  | none=>cases h
  | some j=>cases j <;> first | rfl | cases h
noncomputable def tJ (N N':List Str) (env:Env) (sc:Scope):Bool:=xr N env sc N' 0 && (yY env sc.names && (yX sc.names sc.names && (Nat.ble N.length N'.length && (match sc.kind with | .function=>true | _=>false))))
theorem qg {o:Option NameKind} (h:kc o=true):o=some .cell\/o=some .free:=by
 unfold kc at h
 split at h <;> simp_all
theorem uR {N:List Str} {env:Env} {sc:Scope}:∀ {l:List Str} {k i:Nat} {x:Str},xr N env sc l k=true->l[i]?=some x ->
  (sc.names.lookup x=some .free->N[k + i]?=some x/\kc (env.kindOf x)=true)/\((sc.names.lookup x=some .local\/sc.names.lookup x=some .cell)->N.length<=k + i)
 | [],_,_,_,_,e=>by simp at e
 | y :: r,k,0,x,h,e=>by
  simp at e;subst e
  rw [xr,Bool.and_eq_true] at h
  obtain ⟨h,_⟩:=h
  refine ⟨fun z=>?_,fun z=>?_⟩
  ·rw [z] at h
   simp only [Bool.and_eq_true] at h
   obtain ⟨h1,h2⟩:=h
   refine ⟨?_,h2⟩
   split at h1
   ·rename_i w e1
    rw [Nat.add_zero,e1,beq_iff_eq.mp h1]
   ·cases h1
  ·rcases z with z | z <;> (rw [z] at h;exact Nat.le_of_ble_eq_true h)
 | y :: r,k,i + 1,x,h,e=>by
  rw [xr,Bool.and_eq_true] at h
  have q:=uR (k:=k + 1) (i:=i) (x:=x) h.2 (by simpa using e)
  rw [show k + (i + 1)=k + 1 + i by omega]
  exact q
theorem qG {env:Env}:∀ {l:List (Str × NameKind)} {x:Str},yY env l=true->(x,NameKind.free) ∈ l->kc (env.kindOf x)=true
 | [],_,_,h=>by cases h
 | p :: r,x,h,m=>by
  have h:fK env p.1 p.2=true/\yY env r=true:=Bool.and_eq_true_iff.mp h
  rcases List.mem_cons.mp m with e | m
  ·subst e;exact h.1
  ·exact qG h.2 m
theorem mh {names:List (Str × NameKind)}:∀ {l:List (Str × NameKind)} {x:Str} {k:NameKind},yX names l=true->(x,k) ∈ l->(k=.local\/k=.free\/k=.cell)->names.lookup x=some k
 | [],_,_,_,h,_=>by cases h
 | p :: r,x,k,h,m,hk=>by
  have h:lK p.2 (names.lookup p.1)=true/\yX names r=true:=Bool.and_eq_true_iff.mp h
  rcases List.mem_cons.mp m with e | m
  ·subst e;exact BO h.1 hk
  ·exact mh h.2 m hk
noncomputable def cSt (x:Str) (k:NameKind) (o:Option Addr) (acc:List (Str × Addr)):List (Str × Addr):=match k,o with
 | .free,some c=>(x,c) :: acc
 | _,_=>acc
noncomputable def eZ (env:Env):List (Str × NameKind)->List (Str × Addr)->List (Str × Addr)
 | [],acc=>acc
 | p :: r,acc=>eZ env r (cSt p.1 p.2 (env.cells.lookup p.1) acc)
theorem qK {x:Str} {k:NameKind} {o:Option Addr} {acc:List (Str × Addr)} (h:k ≠ .free):cSt x k o acc=acc:=by
 cases k with
 | free=>exact absurd rfl h
 | _=>rfl
theorem nL {x:Str} {k:NameKind} {acc:List (Str × Addr)}:cSt x k none acc=acc:=by cases k <;> rfl
theorem uP {env:Env} {scope:Scope} (h:∀ x,(x,NameKind.free) ∈ scope.names->∃ c,env.cells.lookup x=some c):closureFor scope env=pure (eZ env scope.names []):=by
 unfold closureFor
 have gen:∀ (l:List (Str × NameKind)) (acc:List (Str × Addr)) (f:Str × NameKind->List (Str × Addr)->Sem (ForInStep (List (Str × Addr)))),(∀ x,(x,NameKind.free) ∈ l->∃ c,env.cells.lookup x=some c) ->
   (∀ n k cs,f (n,k) cs=if (k == NameKind.free)=true then (do let a <- cellOf env n;pure (ForInStep.yield ((n,a) :: cs))) else pure (ForInStep.yield cs))->forIn l acc f=pure (eZ env l acc):=by
  intro l
  induction l with
  | nil=>intro acc f _ _;rfl
  | cons y r ih =>
   intro acc f hc hf
   obtain ⟨n,k⟩:=y
   rw [List.forIn_cons,hf]
   have ih':=fun acc=>ih acc f (fun x hx=>hc x (List.mem_cons_of_mem _ hx)) hf
   by_cases hk:k=.free
   ·subst hk
    obtain ⟨c,e⟩:=hc n List.mem_cons_self
    rw [if_pos (by rfl)]
    unfold cellOf
    rw [e]
    simp only [pure_bind]
    rw [ih']
    show pure (eZ env r ((n,c) :: acc))=pure (eZ env r (cSt n .free (env.cells.lookup n) acc))
    rw [e];rfl
   ·have hb:(k == NameKind.free)=false:=by simpa using hk
    rw [hb,if_neg Bool.false_ne_true,pure_bind]
    show forIn r acc f=_
    rw [ih']
    show _=pure (eZ env r (cSt n k (env.cells.lookup n) acc))
    rw [qK hk]
 dsimp only
 rw [gen scope.names [] _ h]
 ·rfl
 ·intro n k cs
  cases hb:k == NameKind.free <;> simp [hb]
theorem nK {env:Env}:∀ {l:List (Str × NameKind)} {acc:List (Str × Addr)} {x:Str} {c:Addr},(eZ env l acc).lookup x=some c->(∀ c',acc.lookup x=some c'->env.cells.lookup x=some c')->env.cells.lookup x=some c
 | [],acc,x,c,e,h=>h c e
 | (y,k) :: r,acc,x,c,e,h=>by
  have e:(eZ env r (cSt y k (env.cells.lookup y) acc)).lookup x=some c:=e
  refine nK e fun c' e'=>?_
  by_cases hk:k=.free
  ·subst hk
   cases e0:env.cells.lookup y with
   | none=>rw [e0,nL] at e';exact h c' e'
   | some c0 =>
    rw [e0] at e'
    have e':((y,c0) :: acc).lookup x=some c':=e'
    rw [List.lookup_cons] at e'
    cases hb:x == y with
    | true=>rw [hb] at e';cases e';rw [beq_iff_eq.mp hb];exact e0
    | false=>rw [hb] at e';exact h c' e'
  ·rw [qK hk] at e';exact h c' e'
theorem kQ {env:Env} {x:Str} {c:Addr} (hc:env.cells.lookup x=some c):∀ {l:List (Str × NameKind)} {acc:List (Str × Addr)},((x,NameKind.free) ∈ l\/acc.lookup x=some c)->(eZ env l acc).lookup x=some c
 | [],acc,h=>h.elim (fun z=>by cases z) id
 | (y,k) :: r,acc,h=>by
  show (eZ env r (cSt y k (env.cells.lookup y) acc)).lookup x=some c
  refine kQ hc ?_
  rcases h with h | h
  ·rcases List.mem_cons.mp h with e | h
   ·cases e
    right
    rw [hc]
    show ((x,c) :: acc).lookup x=some c
    rw [List.lookup_cons,beq_self_eq_true]
   ·exact .inl h
  ·right
   by_cases hk:k=.free
   ·subst hk
    cases e0:env.cells.lookup y with
    | none=>rw [nL];exact h
    | some c0 =>
     show ((y,c0) :: acc).lookup x=some c
     rw [List.lookup_cons]
     cases hb:x == y with
     | true=>rw [<- beq_iff_eq.mp hb,hc] at e0;exact e0.symm
     | false=>exact h
   ·rw [qK hk];exact h
theorem mi:∀ {names:List (Str × NameKind)} {n:Nat} {acc:List (Str × Addr)} {x:Str} {c:Addr},(cellsFrom n names acc).lookup x=some c->acc.lookup x=some c\/(n<=c/\(x,NameKind.cell) ∈ names)
 | [],_,_,_,_,e=>.inl e
 | (y,k) :: r,n,acc,x,c,e=>by
  unfold cellsFrom at e
  split at e
  ·rename_i hk
   rcases mi e with q | ⟨q,m⟩
   ·rw [List.lookup_cons] at q
    cases hb:x == y with
    | true=>rw [hb] at q;cases q;rw [beq_iff_eq.mp hb,beq_iff_eq.mp hk];exact .inr ⟨Nat.le_refl _,List.mem_cons_self⟩
    | false=>rw [hb] at q;exact .inl q
   ·exact .inr ⟨Nat.le_of_succ_le q,List.mem_cons_of_mem _ m⟩
  ·rcases mi e with q | ⟨q,m⟩
   ·exact .inl q
   ·exact .inr ⟨q,List.mem_cons_of_mem _ m⟩
theorem qH:∀ {names:List (Str × NameKind)} {n:Nat} {acc:List (Str × Addr)} {x:Str},(x,NameKind.cell) ∉ names->(cellsFrom n names acc).lookup x=acc.lookup x
 | [],_,_,_,_=>rfl
 | (y,k) :: r,n,acc,x,h=>by
  unfold cellsFrom
  split
  ·rename_i hk
   rw [qH fun m=>h (List.mem_cons_of_mem _ m),List.lookup_cons]
   cases hb:x == y with
   | true=>exact absurd (by rw [beq_iff_eq.mp hb,beq_iff_eq.mp hk];exact List.mem_cons_self) h
   | false=>rfl
  ·exact qH fun m=>h (List.mem_cons_of_mem _ m)
theorem xC {M:Model} {A:Around} {E:Value->Shared->Prop} {s:Shared} {scope:Scope} {cl:List (Str × Addr)} {env:Env} {Q:Env->Shared->Prop}
  (h:Q { scope:=scope,locals:=s.heap.objs.size,globals:=env.globals,cells:=cellsFrom (s.heap.objs.size + 1) scope.names cl,qual:=env.qual,func:=none,code:=env.code,frame:=env.frame,builtins:=env.builtins }
   {s with heap:=pushCells (s.heap.push { cls:=.type "dict",data:=.dict #[] }) scope.names }):wpAny M A (newFunctionEnv scope env.globals cl [] env.qual none .none (some env)) Q E s:=by
 simp only [newFunctionEnv,Option.isSome_some,if_true]
 refine wpAny_bind (wpAny_alloc ?_)
 refine wpAny_bind (wpAny_layCells _ (fun name kind cells=>by cases hkc:kind == NameKind.cell <;> simp [hkc]) _ _ _ _ ?_)
 rw [show ({ s with heap:=s.heap.push { cls:=.type "dict",data:=.dict #[] } }:Shared).heap.objs.size=s.heap.objs.size + 1 from Heap.size_push ..]
 exact wpAny_pure h
end DL
namespace DL
open PySem PySem.Spec PyProof.Rows L2
structure y9 (ix:List Nat) (T:D->Rho->Option Rho):Prop where
 len:∀ x ρ ρ',T x ρ=some ρ'->ρ'.length=ρ.length
 out:∀ x ρ ρ',T x ρ=some ρ'->∀ j:Nat,j ∉ ix->ρ'[j]?=ρ[j]?
 shr:∀ x ρ ρ',T x ρ=some ρ'->∀ (j:Nat) sl,j ∈ ix->ρ'[j]?=some (some sl)->wM sl=false
theorem b0 {i:Nat}:y9 [i] (tgN i) where
 len:=fun x ρ ρ' e=>by cases e;simp
 out:=fun x ρ ρ' e j hj=>by cases e;exact List.getElem?_set_ne fun z=>hj (by simp [z])
 shr:=fun x ρ ρ' e j sl hj h=>by
  cases e
  have:j=i:=by simpa using hj
  subst this
  rw [List.getElem?_set] at h
  simp only [if_true] at h
  split at h <;> cases h
  rfl
theorem tR {ρ:Rho} {i j:Nat} {d:D} {sl:Slt} (h:(ρ.set i (some (.shr d)))[j]?=some (some sl)) (hn:i ≠ j->wM sl=false):wM sl=false:=by
 by_cases hj:i=j
 ·subst hj
  rw [List.getElem?_set] at h
  simp only [if_true] at h
  split at h <;> cases h
  rfl
 ·exact hn hj
theorem pk {i j:Nat}:y9 [i,j] (tg2 i j) where
 len:=fun x ρ ρ' e=>by
  unfold tg2 at e;split at e
  ·cases e;simp
  ·cases e
 out:=fun x ρ ρ' e k hk=>by
  unfold tg2 at e;split at e
  ·cases e
   rw [List.getElem?_set_ne fun z=>hk (by simp [z]),List.getElem?_set_ne fun z=>hk (by simp [z])]
  ·cases e
 shr:=fun x ρ ρ' e k sl hk h=>by
  unfold tg2 at e;split at e
  ·cases e
   refine tR h fun hj=>?_
   rw [List.getElem?_set_ne hj] at h
   refine tR h fun hi=>?_
   simp at hk
   rcases hk with rfl | rfl
   ·exact absurd rfl hi
   ·exact absurd rfl hj
  ·cases e
noncomputable def noE {α:Type}:R α->R α
 | .val a=>.val a
 | _=>.bad
noncomputable def i7 (T:D->Rho->Option Rho) (t:Rho->R Bool) (e:Rho->R D):List D->Rho->R (List D)
 | [],_=>.val []
 | x :: xs,ρ=>match T x ρ with
  | some ρ1=>(noE (t ρ1)).bind fun b=>if b=true then (noE (e ρ1)).bind fun d=>(i7 T t e xs ρ).bind fun ds=>.val (d :: ds) else i7 T t e xs ρ
  | none=>.bad
variable {C:Addr} {X:Cx}
variable (C X) in
noncomputable def sJ (ifs:List Expr) (t:Rho->R Bool):Prop:=∀ (pins:List (Addr × Obj)) (s:Shared) (σ:St) (H:Hp) (Q:Bool->Hp->Prop),Inv X pins σ H s->ttD C X t σ H Q ->
 wpAny (model X.prog X.w) X.A (forIn ifs true fun c r=>if r=true then do let ok <- isTrue c X.env (eval c X.env);pure (ForInStep.yield ok) else pure (ForInStep.yield r)) (TP X pins σ Q) X.xe s
noncomputable def tT:Rho->R Bool:=fun _=>.val true
theorem bm:sJ C X [] tT:=fun pins s σ H Q I zz0=>by
 obtain ⟨ρ,r,q⟩:=zz0
 rw [List.forIn_nil]
 exact wpAny_pure ⟨H,I,q H (Same.refl _)⟩
theorem uu {c:Expr} {t:Rho->R Bool} (h:TD C X c t):sJ C X [c] t:=fun pins s σ H Q I q=>by
 rw [List.forIn_cons,if_pos rfl]
 refine wpAny_bind (wpAny_bind (thn (h pins s σ H Q I q) fun b s1 z=>wpAny_pure ?_))
 show wpAny _ _ (forIn [] b _) _ _ s1
 rw [List.forIn_nil]
 exact wpAny_pure z
noncomputable def RB.ext (ρ:RB) (m:Nat):RB:=⟨ρ.rho ++ List.replicate m none,ρ.ad⟩
theorem wC {ρ β:RB} {σ σ':St} (h:∀ j,β.ad j=ρ.ad j):msk β σ'=msk ρ σ:=by
 have e:β.ad=ρ.ad:=funext h
 funext G b
 unfold msk Own
 rw [e]
theorem xO {K:PySem.W.Frag} {H0 H:Hp} {ρ:RB} {σ σ':St} {m:Nat} (r:Rel K C H0 ρ σ H) (hl:σ'.length=ρ.rho.length + m) (hp:∀ j:Nat,j < ρ.rho.length->σ'[j]?=σ[j]?) :
  Rel K C H0 (ρ.ext m) σ' H/\msk (ρ.ext m) σ'=msk ρ σ:=by
 have at':∀ (i:Nat) sl,(ρ.rho ++ List.replicate m none)[i]?=some (some sl)->ρ.rho[i]?=some (some sl)/\i < ρ.rho.length:=fun i sl e=>by
  by_cases hi:i < ρ.rho.length
  ·rw [List.getElem?_append_left hi] at e;exact ⟨e,hi⟩
  ·rw [List.getElem?_append_right (by omega),List.getElem?_replicate] at e
   split at e <;> cases e
 have em:msk (ρ.ext m) σ'=msk ρ σ:=wC fun _=>rfl
 refine ⟨⟨?_,by rw [em];exact r.keep,fun i sl e=>?_,r.inj,r.kin,fun i a z=>?_⟩,em⟩
 ·show (ρ.rho ++ List.replicate m none).length=_
  simp [hl]
 ·obtain ⟨e1,hi⟩:=at' i sl e
  rw [em,hp i hi];exact r.at_ i sl e1
 ·show i < (ρ.rho ++ List.replicate m none).length
  rw [List.length_append];exact Nat.lt_of_lt_of_le (r.bnd i a z) (Nat.le_add_right _ _)
theorem Ao {ρ β:RB} {σ σ1:St} {ix:List Nat} (h:∀ j:Nat,β.ad j=if j ∈ ix then [] else ρ.ad j) (hix:∀ j ∈ ix,ρ.ad j=[]):msk β σ1=msk ρ σ:=wC fun j=>by
 rw [h j]
 split
 ·exact (hix j ‹_›).symm
 ·rfl
end DL
namespace DL
open PySem PySem.Spec PyProof.Rows L2
theorem qF {prog:Program} {w:World} {A:Around} {R:Result->Shared->Prop} {s:Shared} {elt target iter:Expr} {ifs:List Expr} {scope:Scope} {pos:Pos} {it acc:Value} {env:Env} (I:Nat->Shared->Prop)
  (kB:∀ n s,I n s->wpAny (model prog w) A (pyNext it) (fun r s₁=>match r with
   | none=>R (.ok .next) s₁
   | some v=>wpAny (model prog w) A (letOwnedTupleGo target it v) (fun _ s₀=>wpAny (model prog w) A (assign target env v) (fun _ s₂ =>
     wpAny (model prog w) A (forIn ifs true fun c r=>if r=true then do let ok <- isTrue c env (eval c env);pure (ForInStep.yield ok) else pure (ForInStep.yield r)) (fun ok s₃ =>
      if ok=true then wpAny (model prog w) A (eval elt env) (fun x s₄ =>
       wpAny (model prog w) A (call (.builtin "list.append") [acc,x]) (fun _ s₅=>∃ m,m < n/\I m s₅) (fun _ _=>False) s₄) (fun _ _=>False) s₃
      else ∃ m,m < n/\I m s₃) (fun _ _=>False) s₂) (fun _ _=>False) s₀) (fun _ _=>False) s₁) (fun _ _=>False) s)
  (n:Nat) (h:I n s):codeAny (model prog w) A (.compLoop (.ListComp elt [⟨target,iter,ifs,0⟩] scope pos) 0 it acc env) R s:=by
 refine codeAny_loop rfl I (fun n s hI=>?_) n h
 show wpAny _ A ((compTurn (.ListComp elt [⟨target,iter,ifs,0⟩] scope pos) 0 it acc env).onRaise (fun x=>do noteFrame x env;theTreesLotGoes x)) _ _ s
 refine wpAny_noted ?_
 rw [compTurn_list]
 refine wpAny_bind (wpAny_standAt (wpAny_bind (wpAny_mono (kB n s hI) (fun r s₁ h₁=>?_) fun _ _ h'=>h'.elim)))
 cases r with
 | none=>exact wpAny_pure h₁
 | some v =>
  refine wpAny_bind (wpAny_mono h₁ (fun _ s₀ h₀=>?_) fun _ _ h'=>h'.elim)
  refine wpAny_bind (wpAny_mono h₀ (fun _ s₂ h₂=>wpAny_bind (wpAny_mono h₂ (fun ok s₃ h₃=>?_) fun _ _ h'=>h'.elim)) fun _ _ h'=>h'.elim)
  cases ok with
  | false=>exact wpAny_pure ⟨rfl,h₃⟩
  | true =>
   exact wpAny_bind (wpAny_bind (wpAny_mono h₃ (fun x s₄ h₄=>wpAny_bind (wpAny_mono h₄ (fun _ s₅ h₅=>wpAny_pure (wpAny_pure ⟨rfl,h₅⟩)) fun _ _ h'=>h'.elim)) fun _ _ h'=>h'.elim))
theorem tK:∀ {names:List (Str × NameKind)} {n:Nat} {acc:List (Str × Addr)},(∀ x y c,acc.lookup x=some c->acc.lookup y=some c->x=y)->(∀ x c,acc.lookup x=some c->c < n) ->
  ∀ x y c,(cellsFrom n names acc).lookup x=some c->(cellsFrom n names acc).lookup y=some c->x=y
 | [],_,_,h,_=>h
 | (z,k) :: r,n,acc,h,hb=>by
  unfold cellsFrom
  split
  ·refine tK (fun x y c e1 e2=>?_) (fun x c e=>?_)
   ·rw [List.lookup_cons] at e1 e2
    cases b1:x == z with
    | true =>
     rw [b1] at e1;cases e1
     cases b2:y == z with
     | true=>rw [beq_iff_eq.mp b1,beq_iff_eq.mp b2]
     | false=>rw [b2] at e2;exact absurd (hb y _ e2) (Nat.lt_irrefl _)
    | false =>
     rw [b1] at e1
     cases b2:y == z with
     | true=>rw [b2] at e2;cases e2;exact absurd (hb x _ e1) (Nat.lt_irrefl _)
     | false=>rw [b2] at e2;exact h x y c e1 e2
   ·rw [List.lookup_cons] at e
    cases b1:x == z with
    | true=>rw [b1] at e;cases e;exact Nat.lt_succ_self _
    | false=>rw [b1] at e;exact Nat.lt_succ_of_lt (hb x c e)
  ·exact tK h hb
theorem qI:∀ {names:List (Str × NameKind)} {h:Heap} {acc:List (Str × Addr)} {x:Str} {c:Addr},(cellsFrom h.objs.size names acc).lookup x=some c->acc.lookup x=some c\/(pushCells h names).IsCell c none
 | [],_,_,_,_,e=>.inl e
 | (y,k) :: r,h,acc,x,c,e=>by
  unfold cellsFrom at e
  unfold pushCells
  split at e
  ·rename_i hk
   rw [if_pos hk]
   have e':(cellsFrom (h.push { cls:=.type "cell",data:=.cell none }).objs.size r ((y,h.objs.size) :: acc)).lookup x=some c:=by rw [Heap.size_push];exact e
   rcases qI e' with q | q
   ·rw [List.lookup_cons] at q
    cases b1:x == y with
    | true =>
     rw [b1] at q;cases q
     exact .inr ⟨_,pushCells_keeps r _ _ _ (Heap.get?_push_size _ rfl),rfl⟩
    | false=>rw [b1] at q;exact .inl q
   ·exact .inr q
  ·rename_i hk
   rw [if_neg hk]
   exact qI e
theorem o5 {env:Env}:∀ {l:List (Str × NameKind)} {acc:List (Str × Addr)} {x:Str} {c:Addr},(eZ env l acc).lookup x=some c->acc.lookup x=some c\/(x,NameKind.free) ∈ l
 | [],acc,x,c,e=>.inl e
 | (y,k) :: r,acc,x,c,e=>by
  have e:(eZ env r (cSt y k (env.cells.lookup y) acc)).lookup x=some c:=e
  rcases o5 e with q | q
  ·by_cases hk:k=.free
   ·subst hk
    cases e0:env.cells.lookup y with
    | none=>rw [e0,nL] at q;exact .inl q
    | some c0 =>
     rw [e0] at q
     have q:((y,c0) :: acc).lookup x=some c:=q
     rw [List.lookup_cons] at q
     cases hb:x == y with
     | true=>rw [beq_iff_eq.mp hb];exact .inr List.mem_cons_self
     | false=>rw [hb] at q;exact .inl q
   ·rw [qK hk] at q;exact .inl q
  ·exact .inr (List.mem_cons_of_mem _ q)
noncomputable def reK (env:Env) (n:Str) (k:NameKind):NameKind:=if (k == .free && env.scope.kind == .function && env.kindOf n == some .cell)=true then .cell else k
theorem tX {env:Env}:∀ {names:List (Str × NameKind)} {x:Str},
  (names.map fun (p:Str × NameKind)=>if (p.2 == .free && env.scope.kind == .function && env.kindOf p.1 == some .cell)=true then (p.1,NameKind.cell) else (p.1,p.2)).lookup x=(names.lookup x).map (reK env x)
 | [],_=>rfl
 | (n,k) :: r,x=>by
  have ih:=tX (env:=env) (names:=r) (x:=x)
  rw [List.map_cons]
  have e:(if (k == .free && env.scope.kind == .function && env.kindOf n == some .cell)=true then (n,NameKind.cell) else (n,k))=(n,reK env n k):=by
   unfold reK;split <;> rfl
  show List.lookup x ((if (k == .free && env.scope.kind == .function && env.kindOf n == some .cell)=true then (n,NameKind.cell) else (n,k)) :: _)=_
  rw [e,List.lookup_cons,List.lookup_cons]
  cases hb:x == n with
  | true=>rw [beq_iff_eq.mp hb];rfl
  | false=>exact ih
theorem hG {scope:Scope} {env:Env} {x:Str}:(relabel scope env).names.lookup x=(scope.names.lookup x).map (reK env x):=tX
theorem kF {env:Env} {x:Str} {k:NameKind}:(k=.free/\(reK env x k=.free\/reK env x k=.cell))\/(k ≠ .free/\reK env x k=k):=by
 unfold reK
 by_cases hk:k=.free
 ·subst hk;left;refine ⟨rfl,?_⟩;split <;> simp
 ·right;refine ⟨hk,?_⟩
  have:(k == NameKind.free)=false:=by simpa using hk
  rw [this];rfl
end DL
namespace DL
open PySem PySem.Spec PyProof.Rows L2
theorem yV {H:Hp}:cut [] H=H:=by
 funext b
 unfold cut
 rw [if_neg List.not_mem_nil]
theorem j8 {ρ:RB} {σ:St} {zs:List Addr} {H:Hp}:msk ρ σ (cut zs H)=cut zs (msk ρ σ H):=by
 funext b
 unfold msk cut
 by_cases h:Own ρ σ b <;> by_cases h':b ∈ zs <;> simp [h,h']
theorem qE {zs:List Addr} {H:Hp}:Same (cut zs H) H:=fun b o e=>(cut_some.mp e).2
theorem gf {H H':Hp} {b:Addr} (s:Same H H') (h:H' b=none):H b=none:=by
 cases e:H b with
 | none=>rfl
 | some o=>rw [s b o e] at h;cases h
section
variable {C:Addr} {X:Cx}
noncomputable def pK (C:Addr) (X:Cx) (k:OK) (ρ:RB) (r:R D) (σ:St) (H:Hp) (Q:VK):Prop:=match r with
 | .val d=>∀ v H' A,Same H H'->(∀ a ∈ A,H a=none)->Tre X.K C (cut A (msk ρ σ H')) H' k v d A->Q v H'
 | .exc c=>XE X c σ H
 | .bad=>False
variable (C X) in
noncomputable def teK (k:OK) (F:Rho->R D):TE:=fun σ H Q=>∃ ρ:RB,(∃ H0,eU C X H0 ρ σ H)/\pK C X k ρ (F ρ) σ H Q
variable (C X) in
noncomputable def KD (k:OK) (e:Expr) (F:Rho->R D):Prop:=PE X e (teK C X k F)
theorem uq {e:Expr} {F:Rho->R D} (h:ED C X e F):KD C X .s e F:=aW h fun σ H Q ⟨ρ,r,q⟩=>⟨ρ,r,by
 cases z:F ρ with
 | val d=>rw [z] at q;exact fun v H' s h=>q v H' [] s (fun a ha=>by cases ha) (.s (by rw [yV];exact h))
 | exc c=>rw [z] at q;exact q
 | bad=>rw [z] at q;exact q⟩
theorem zl {e:Expr} {F:Rho->R (List D)} (h:FD C X e F):KD C X (.l .s) e (eLs F):=aW h fun σ H Q ⟨ρ,⟨H0,r⟩,q⟩=>⟨ρ,⟨H0,r⟩,by
 unfold eLs at q
 cases z:F ρ with
 | val xs =>
  rw [z] at q
  intro a vs H1 s1 hn h1
  refine q _ _ [a] (s1.trans (a_ hn)) (fun b hb=>by cases List.mem_singleton.mp hb;exact gf s1 hn) (.l bi (TreP.of (h1.mono fun b o e=>cut_some.mpr ⟨fun hb=>?_,br (a_ hn) b o e⟩)) List.not_mem_nil)
  cases List.mem_singleton.mp hb
  rw [(msk_some.mp e).2] at hn;cases hn
 | exc c=>rw [z] at q;exact q
 | bad=>rw [z] at q;exact q⟩
theorem Tre.free {H0 H H':Hp} {ρ:RB} {σ:St} {k:OK} {v:V} {d:D} {A:List Addr} (r:eU C X H0 ρ σ H) (s:Same H H') (hA:∀ a ∈ A,H a=none) (h:Tre X.K C (cut A (msk ρ σ H')) H' k v d A):eV C X ρ σ H' v d :=
 h.share qE (fun a ha o e=>msk_some.mpr ⟨fun z=>r.ownAt z (hA a ha),e⟩) fun a vs e=>msk_some.mpr ⟨fun z=>(r.mono s).tups e z,e⟩
theorem xk {k:OK} {e:Expr} {F:Rho->R D} (h:KD C X k e F):ED C X e F:=aW h fun σ H Q ⟨ρ,⟨H0,r⟩,q⟩=>⟨ρ,⟨H0,r⟩,by
 cases z:F ρ with
 | val d=>rw [z] at q;exact fun v H' A s hA h=>q v H' s (h.free r s hA)
 | exc c=>rw [z] at q;exact q
 | bad=>rw [z] at q;exact q⟩
noncomputable def trS (i:Nat) (k:OK) (e:Rho->R D):Rho->R Out:=fun ρ=>(e ρ).bind fun d=>.val (.nx (ρ.set i (some (.tre k d))))
theorem Rel.setTre {K:PySem.W.Frag} {H0 H H':Hp} {ρ:RB} {σ:St} (r:Rel K C H0 ρ σ H) {i:Nat} {k:OK} {v:V} {d:D} {A:List Addr} (s:Same H H') (hA:∀ a ∈ A,H a=none) (h:Tre K C (cut A (msk ρ σ H')) H' k v d A) :
  Rel K C H0 (ρ.put i (.tre k d) A) (σ.set i (some v)) H':=by
 refine r.put lR (fun j hj=>List.getElem?_set_ne fun z=>hj z.symm) (fun a ha=>.inr (hA a ha)) (fun j _=>.of s) (fun b o e=>s b o (msk_some.mp e).2) (fun a ha=>.inl (h.lists a ha)) fun hi _=>⟨v,A,pw (by rw [<- r.len];exact hi),fun a ha=>ha,h.stay (fun b o e=>?_) (.of (Same.refl _))⟩
 obtain ⟨h1,h2⟩:=cut_some.mp e
 obtain ⟨h3,h4⟩:=msk_some.mp h2
 refine msk_some.mpr ⟨fun ⟨j,z⟩=>?_,h4⟩
 rcases gh z with ⟨_,_,z⟩ | ⟨_,z⟩
 ·exact h1 z
 ·exact h3 ⟨j,z⟩
theorem zC {i : Nat} {k : OK} {x : Str} {e : Expr} {pos pos' : Pos} {F : Rho -> R D} (hN : X.N.Nodup) (hi : X.N[i]? = some x) (hx : Loc X.env.scope x) (he : KD C X k e F) (hs : swapsWith e (some (.Name x pos')) pos.line X.env = pure false := by rfl)
    (hf : X.fn x = true \/ X.env.scope.names.lookup x = some .local := by first | exact .inl rfl | exact .inr rfl | assumption) : SD C X (.Assign [.Name x pos'] e pos) (trS i k F) :=
  ck (mH hN hi hx he hs hf) fun D σ H yy => by
   obtain ⟨_, H0, ⟨ρ, rfl, r⟩, q⟩ := yy
   exact ⟨ρ, ⟨H0, r⟩, by
    unfold trS at q
    cases z : F ρ with
    | val d => rw [z] at q; exact fun v H' A s hA h => q _ _ ⟨_, rfl, r.setTre s hA h⟩
    | exc c => rw [z] at q; exact eM r q
    | bad => rw [z] at q; exact q⟩
end
end DL
namespace DL
open PySem PySem.Spec PyProof.Rows L2
variable {C:Addr} {X:Cx}
theorem yU {a:Addr} {H:Hp} {o:HO} (h:H a=none):cut [a] (upd H a o)=H:=by
 funext b
 unfold cut
 by_cases hb:b=a
 ·rw [if_pos (by simp [hb]),hb,h]
 ·rw [if_neg (by simp [hb]),aJ hb]
theorem xD {a:Addr} {H:Hp} {o:HO} (h:H a=some o):upd (cut [a] H) a o=H:=by
 funext b
 by_cases hb:b=a
 ·rw [hb,bi,h]
 ·rw [aJ hb];unfold cut;rw [if_neg (by simp [hb])]
theorem tG {N':List Str} {scope:Scope} {n:Nat} (hchk:tJ X.N N' X.env scope=true) (hN:N'.length=X.N.length + n)
  {pins:List (Addr × Obj)} {σ:St} {H3:Hp} {s3:Shared} {fp:List Addr} (I3:Inv X pins σ H3 s3) (hfp:∀ b ∈ fp,b < s3.heap.objs.size) (f3:∀ b ∈ fp,oM X pins H3 b) :
  Inv (cxC X N' scope s3.heap.objs.size (cellsFrom (s3.heap.objs.size + 1) scope.names (eZ X.env scope.names [])) s3 H3 fp) [] (σ ++ List.replicate n none) H3
   {s3 with heap:=pushCells (s3.heap.push { cls:=.type "dict",data:=.dict #[] }) scope.names }:=by
 obtain ⟨c1,hchk⟩:=Bool.and_eq_true_iff.mp hchk
 obtain ⟨c2,hchk⟩:=Bool.and_eq_true_iff.mp hchk
 obtain ⟨c3,hchk⟩:=Bool.and_eq_true_iff.mp hchk
 obtain ⟨c4,c5⟩:=Bool.and_eq_true_iff.mp hchk
 have hkind:scope.kind=.function:=by
  revert c5
  cases scope.kind <;> simp
 have keep:∀ b o,s3.heap.get? b=some o->(pushCells (s3.heap.push { cls:=.type "dict",data:=.dict #[] }) scope.names).get? b=some o:=fun b o e=>pushCells_keeps _ _ b o (Heap.get?_push_of_some _ e)
 have I4:Inv X pins σ H3 { s3 with heap:=pushCells (s3.heap.push { cls:=.type "dict",data:=.dict #[] }) scope.names }:=I3.kept (t':=s3.toks) keep
 have sz:(s3.heap.push { cls:=.type "dict",data:=.dict #[] }).objs.size=s3.heap.objs.size + 1:=Heap.size_push ..
 have fr:∀ x,(x,NameKind.free) ∈ scope.names->∃ c,X.env.cells.lookup x=some c:=fun x hx=>I3.ok.has x (qg (qG c2 hx))
 have cl_old:∀ x c,(eZ X.env scope.names []).lookup x=some c->X.env.cells.lookup x=some c:=fun x c e=>nK e fun c' e'=>by cases e'
 have cl_lt:∀ x c,(eZ X.env scope.names []).lookup x=some c->c < s3.heap.objs.size:=fun x c e=>by
  obtain ⟨v,q⟩:=I3.cell x c (cl_old x c e)
  exact q.lt
 have look:∀ x c,(cellsFrom (s3.heap.objs.size + 1) scope.names (eZ X.env scope.names [])).lookup x=some c ->
   X.env.cells.lookup x=some c\/(s3.heap.objs.size + 1<=c/\(x,NameKind.cell) ∈ scope.names/\(pushCells (s3.heap.push { cls:=.type "dict",data:=.dict #[] }) scope.names).IsCell c none):=fun x c e=>by
  rcases mi e with q | ⟨q,m⟩
  ·exact .inl (cl_old x c q)
  ·rcases qI (h:=s3.heap.push { cls:=.type "dict",data:=.dict #[] }) (by rw [sz];exact e) with z | z
   ·exact absurd (Nat.lt_of_lt_of_le (cl_lt x c z) (Nat.le_of_succ_le q)) (Nat.lt_irrefl _)
   ·exact .inr ⟨q,m,z⟩
 have ok:(cxC X N' scope s3.heap.objs.size (cellsFrom (s3.heap.objs.size + 1) scope.names (eZ X.env scope.names [])) s3 H3 fp).Ok:=by
  refine ⟨I3.ok.mod,hkind,I3.ok.glob,I3.ok.blt,Nat.le_refl _,fun x y c e1 e2=>?_,fun x hx=>?_,fun x c hf e=>?_,I3.ok.hd,I3.ok.frames,.inl rfl,fun b hb=>⟨?_,fun x c e=>?_⟩,I3.bs,Nat.le_trans I3.ok.bsz I3.sz,fun b o e hb=>?_,fun b hb hz=>?_,I3.stack,I3.stkFree⟩
  ·exact tK (fun x y c e1 e2=>I3.ok.inj x y c (cl_old x c e1) (cl_old y c e2)) (fun x c e=>Nat.lt_succ_of_lt (cl_lt x c e)) x y c e1 e2
  ·have hx:(relabel scope X.env).names.lookup x=some .cell\/(relabel scope X.env).names.lookup x=some .free:=hx
   rw [hG] at hx
   cases e:scope.names.lookup x with
   | none=>rw [e] at hx;rcases hx with z | z <;> cases z
   | some k =>
    rw [e] at hx
    have:k=.cell\/k=.free:=by
     rcases kF (env:=X.env) (x:=x) (k:=k) with ⟨z,_⟩ | ⟨_,z⟩
     ·exact .inr z
     ·rcases hx with y | y
      ·left;have:=Option.some.inj y;rw [z] at this;exact this
      ·right;have:=Option.some.inj y;rw [z] at this;exact this
    refine Option.isSome_iff_exists.mp (PySem.W.cellsFrom_some _ _ _ ?_)
    rcases this with rfl | rfl
    ·exact .inl e
    ·obtain ⟨c,ec⟩:=fr x (PySem.mem_of_lookup e)
     right
     rw [kQ ec (.inl (PySem.mem_of_lookup e))]
     rfl
  ·have hf:AB (scope.names.lookup x)=true:=hf
   have e0:scope.names.lookup x=some .cell:=by
    unfold AB at hf
    split at hf
    ·assumption
    ·cases hf
   rcases mi e with q | ⟨q,m⟩
   ·rcases o5 q with z | z
    ·cases z
    ·have:=mh c3 z (.inr (.inl rfl));rw [e0] at this;cases this
   ·exact Nat.le_of_succ_le q
  ·exact Nat.ne_of_lt (hfp b hb)
  ·rcases look x c e with q | ⟨q,_,_⟩
   ·exact (f3 b hb).2.2.2.2.1 x c q
   ·exact fun z=>absurd (Nat.lt_of_lt_of_le (z ▸ hfp b hb) (Nat.le_of_succ_le q)) (Nat.lt_irrefl _)
  ·rcases (f3 b hb).2.2.2.1 with z | z
   ·exact I3.ok.noex b o e z
   ·exact absurd (Nat.lt_of_lt_of_le (Nat.lt_of_lt_of_le (Heap.lt_size e) I3.ok.bsz) z) (Nat.lt_irrefl _)
  ·have:=I3.stkSub b hz
   rcases List.mem_cons.mp this with z | z
   ·exact (f3 b hb).2.1 z
   ·exact (f3 b hb).2.2.1 z
 refine ⟨ok,rfl,I3.bare,Un.kept keep,⟨fun _=>none,(Heap.Ns.new s3.heap (.type "dict")).keeps (pushCells_keeps _ _),fun i x v h1 h2 h3=>?_⟩,fun x c e=>?_,I3.hok.fresh (Nat.le_refl _),fun x c e=>?_,fun p hp=>absurd (show p ∈ ([]:List (Addr × Obj)) from hp) (by simp),I4.hok,?_⟩
 ·have hl:=I3.len
  have hi:i < σ.length:=by
   by_cases hi:i < σ.length
   ·exact hi
   ·rw [List.getElem?_append_right (by omega),List.getElem?_replicate] at h2
    split at h2 <;> cases h2
  rw [List.getElem?_append_left hi] at h2
  have h3:Vis (relabel scope X.env) x:=h3
  obtain ⟨g1,g2⟩:=uR c1 h1
  rw [Nat.zero_add] at g1 g2
  have e0:scope.names.lookup x=some .free:=by
   unfold Vis at h3
   rw [hG] at h3
   cases e:scope.names.lookup x with
   | none=>rw [e] at h3;rcases h3 with z | z | z <;> cases z
   | some k =>
    rw [e] at h3
    rcases kF (env:=X.env) (x:=x) (k:=k) with ⟨z,_⟩ | ⟨z0,z⟩
    ·rw [z]
    ·exfalso
     have h3:some k=some NameKind.local\/some k=some NameKind.cell\/some k=some NameKind.free:=by
      have h4:some (reK X.env x k)=some NameKind.local\/some (reK X.env x k)=some NameKind.cell\/some (reK X.env x k)=some NameKind.free:=h3
      rw [z] at h4;exact h4
     rcases h3 with y | y | y
     ·have:=g2 (.inl (e.trans y));omega
     ·have:=g2 (.inr (e.trans y));omega
     ·exact z0 (Option.some.inj y)
  obtain ⟨e1,hk⟩:=g1 e0
  have hk:=qg hk
  obtain ⟨m0,hn0,hl0⟩:=I4.loc
  obtain ⟨u,ru,lk⟩:=hl0 i x v e1 h2 (.inr hk)
  refine ⟨u,ru,.inr ⟨?_,?_⟩⟩
  ·have:(relabel scope X.env).names.lookup x=some (reK X.env x .free):=by rw [hG,e0];rfl
   rcases kF (env:=X.env) (x:=x) (k:=.free) with ⟨_,z | z⟩ | ⟨z,_⟩
   ·rw [z] at this;exact .inr this
   ·rw [z] at this;exact .inl this
   ·exact absurd rfl z
  ·rcases lk with ⟨z,_⟩ | ⟨_,c,ec,q⟩
   ·rcases hk with y | y <;> (rw [z] at y;cases y)
   ·refine ⟨c,?_,q⟩
    show (cellsFrom _ scope.names _).lookup x=some c
    rw [qH fun m=>by have:=mh c3 m (.inr (.inr rfl));rw [e0] at this;cases this]
    exact kQ ec (.inl (PySem.mem_of_lookup e0))
 ·rcases look x c e with q | ⟨_,_,q⟩
  ·exact I4.cell x c q
  ·exact ⟨_,q⟩
 ·rcases look x c e with q | ⟨q,_,_⟩
  ·exact I3.freeC x c q
  ·exact I3.hok.fresh (by omega)
 ·show _=N'.length
  rw [List.length_append,List.length_replicate,hN,I3.len]
noncomputable abbrev cxA (X:Cx) (N':List Str) (scope:Scope) (a:Addr) (H2:Hp) (s3:Shared) (fp:List Addr):Cx:=cxC X N' scope s3.heap.objs.size (cellsFrom (s3.heap.objs.size + 1) scope.names (eZ X.env scope.names [])) s3 (upd H2 a (.lst [])) fp
noncomputable def zq (C:Addr) (X Y:Cx) (k:OK) (T:D->Rho->Option Rho) (t:Rho->R Bool) (e:Rho->R D) (n:Nat) (a:Addr) (H2:Hp) (σ:St) (ρ:RB) (fp:List Addr) (tn:Nat->Heap->Prop) (xs ds:List D) (m:Nat) (s:Shared):Prop :=
 ∃ (i:Nat) (σ':St) (H':Hp) (vs:List V) (ds1 ds2:List D) (A:List Addr),m=xs.length + 1 - i/\i<=xs.length /\
   Inv Y [] σ' H' s/\tn i s.heap/\(∀ b ∈ fp,H' b=none) /\
   (∀ j:Nat,j < ρ.rho.length->σ'[j]?=σ[j]?)/\H' a=some (.lst vs)/\Same H2 (cut (a :: A) H')/\TreP X.K C (msk ρ σ (cut (a :: A) H')) H' (vs.map fun _=>k) vs ds1 A/\a ∉ A /\
   i7 T t e (xs.drop i) (ρ.rho ++ List.replicate n none)=.val ds2/\ds1 ++ ds2=ds/\vs.length<=i
theorem TreP.app {K:PySem.W.Frag} {M H:Hp} {k:OK} {v:V} {d:D} {B:List Addr} (h:Tre K C M H k v d B):∀ {ks:List OK} {vs:List V} {ds:List D} {A:List Addr},TreP K C M H ks vs ds A->(∀ a ∈ A,a ∉ B)->∃ A',(∀ a,a ∈ A' ↔ a ∈ A\/a ∈ B)/\TreP K C M H (ks ++ [k]) (vs ++ [v]) (ds ++ [d]) A'
 | _,_,_,_,.nil,_=>⟨B ++ [],fun a=>by simp,.cons h .nil fun _ _=>List.not_mem_nil⟩
 | _,_,_,_,.cons (A:=A1) (B:=A2) g t n,f=>by
  obtain ⟨A',h1,h2⟩:=TreP.app h t fun a ha=>f a (List.mem_append_right _ ha)
  refine ⟨A1 ++ A',fun a=>by rw [List.mem_append,List.mem_append,h1 a,or_assoc],.cons g h2 fun a ha hb=>?_⟩
  rcases (h1 a).mp hb with hb | hb
  ·exact n a ha hb
  ·exact f a (List.mem_append_left _ ha) hb
theorem nJ {k:OK} {tg elt iter:Expr} {ifs:List Expr} {scope:Scope} {pos:Pos} {N':List Str} {ix:List Nat} {T:D->Rho->Option Rho} {t:Rho->R Bool} {e:Rho->R D} {n:Nat}
  (hcalm:X.calm=true) (hchk:tJ X.N N' X.env scope=true) (hN:N'.length=X.N.length + n) (hix:∀ j ∈ ix,X.N.length<=j)
  (hg:∀ L cs s H fp,GD C (cxC X N' scope L cs s H fp) tg ix T) (ht:∀ L cs s H fp,sJ C (cxC X N' scope L cs s H fp) ifs t) (he:∀ L cs s H fp,KD C (cxC X N' scope L cs s H fp) k elt e)
  {pins:List (Addr × Obj)} {σ:St} {H2 H0:Hp} {s2:Shared} {ρ:RB} {J:It} {fp:List Addr} {it:Addr} {tn:Nat->Heap->Prop} {xs ds:List D}
  (I2:Inv X pins σ H2 s2) (r2:eU C X H0 ρ σ H2) (TT:tM X.prog X.w X.K tg J fp it tn) (t0:tn 0 s2.heap) (f2:∀ b ∈ fp,oM X pins H2 b) (wk:qP X.K C J xs (msk ρ σ H2)) (hlen:xs.length<=LIM)
  (hd:i7 T t e xs (ρ.rho ++ List.replicate n none)=.val ds) {R:Value->Addr->Result->Shared->Prop} {E:Value->Shared->Prop}
  (hR:∀ a L vs A H' s1,Same H2 (cut (a :: A) H')->(∀ b ∈ a :: A,H2 b=none)->H' a=some (.lst vs)->a ∉ A->TreP X.K C (msk ρ σ (cut (a :: A) H')) H' (vs.map fun _=>k) vs ds A->Inv X pins σ H' s1->H' L=none->L ≠ X.env.locals->X.s₀.heap.objs.size<=L ->
   (∀ x c,X.env.cells.lookup x=some c->c ≠ L)->(∀ p ∈ X.pn ++ pins,p.1 ≠ L)->(∃ m,s1.heap.Ns L m)->R (.ref a) L (.ok .next) s1) :
  wpAny (model X.prog X.w) X.A (newList []) (fun acc s₃=>wpAny (model X.prog X.w) X.A (newFunctionEnv scope X.env.globals (eZ X.env scope.names []) [] X.env.qual none .none (some X.env)) (fun cenv s₄ =>
   codeAny (model X.prog X.w) X.A (.compStart (.ListComp elt [⟨tg,iter,ifs,0⟩] scope pos) 0 (.ref it) acc { cenv with scope:=relabel scope X.env }) (R acc cenv.locals) s₄) E s₃) E s2:=by
 refine wpAny_newObj_type (xC ?_)
 have hfr2:H2 s2.heap.objs.size=none:=I2.fresh
 have I3:=I2.lnew (its:=[]) (ys:=[]) (t':=s2.toks) .nil (Nat.zero_le _)
 have hfp:∀ b ∈ fp,b < s2.heap.objs.size:=fun b hb=>by
  obtain ⟨o,eo,_⟩:=TT.obj 0 _ t0 b hb
  exact Heap.lt_size eo
 have sz3:(s2.heap.push { cls:=.type "list",data:=.seq ([]:List Value).toArray }).objs.size=s2.heap.objs.size + 1:=Heap.size_push ..
 have f3:∀ b ∈ fp,oM X pins (upd H2 s2.heap.objs.size (.lst [])) b:=fun b hb=>⟨by rw [aJ (Nat.ne_of_lt (hfp b hb))];exact (f2 b hb).1,(f2 b hb).2⟩
 have I4:=tG (n:=n) hchk hN I3 (fun b hb=>by rw [sz3];exact Nat.lt_succ_of_lt (hfp b hb)) f3
 have keep:∀ b o,s2.heap.get? b=some o->(pushCells ((s2.heap.push { cls:=.type "list",data:=.seq ([]:List Value).toArray }).push { cls:=.type "dict",data:=.dict #[] }) scope.names).get? b=some o:=fun b o e =>
  pushCells_keeps _ _ b o (Heap.get?_push_of_some _ (Heap.get?_push_of_some _ e))
 have t4:tn 0 (pushCells ((s2.heap.push { cls:=.type "list",data:=.seq ([]:List Value).toArray }).push { cls:=.type "dict",data:=.dict #[] }) scope.names):=TT.keep 0 _ _ t0 fun b hb o e=>keep b o e
 generalize hs3:({ s2 with heap:=s2.heap.push { cls:=.type "list",data:=.seq ([]:List Value).toArray },toks:=s2.toks }:Shared)=s3 at I3 I4
 have hH3:({ s2 with heap:=s2.heap.push { cls:=.type "list",data:=.seq ([]:List Value).toArray },toks:=s2.toks }:Shared).heap=s3.heap:=by rw [hs3]
 have t4':tn 0 (pushCells (s3.heap.push { cls:=.type "dict",data:=.dict #[] }) scope.names):=by rw [<- hH3];exact t4
 have hrl:ρ.rho.length=X.N.length:=r2.len.trans I2.len
 generalize ha0:s2.heap.objs.size=a0 at *
 have loop:∀ s4:Shared,s4={ s3 with heap:=pushCells (s3.heap.push { cls:=.type "dict",data:=.dict #[] }) scope.names } ->
   codeAny (model X.prog X.w) X.A (.compLoop (.ListComp elt [⟨tg,iter,ifs,0⟩] scope pos) 0 (.ref it) (.ref a0) (B3 scope X.env s3.heap.objs.size (cellsFrom (s3.heap.objs.size + 1) scope.names (eZ X.env scope.names []))))
    (R (.ref a0) s3.heap.objs.size) s4:=by
  rintro s4 rfl
  refine qF (zq C X (cxA X N' scope a0 H2 s3 fp) k T t e n a0 H2 σ ρ fp tn xs ds) ?_ (xs.length + 1)
   ⟨0,_,_,[],[],ds,[],rfl,Nat.zero_le _,I4,t4',fun b hb=>(f3 b hb).1,fun j hj=>by rw [List.getElem?_append_left (by rw [<- r2.len];exact hj)],bi,by rw [yU hfr2];exact Same.refl _,.nil,List.not_mem_nil,hd,rfl,Nat.le_refl _⟩
  rintro m s ⟨i,σ',H',vs,ds1,ds2,A,rfl,hi,I,tni,hfn,hpre,ha,sm,hv,hnA,hc,hds,hvl⟩
  have lst:∀ z ∈ a0 :: A,∃ us,H' z=some (.lst us):=fun z hz=>by
   rcases List.mem_cons.mp hz with rfl | hz
   ·exact ⟨vs,ha⟩
   ·exact hv.lists z hz
  have Z:Hid H' s.heap (a0 :: A):=by
   refine ⟨fun z hz=>?_,fun z hz c dx fs q=>?_,fun z hz b q=>?_,fun z hz=>?_⟩
   ·obtain ⟨us,q⟩:=lst z hz;exact ⟨_,q,rfl⟩
   ·obtain ⟨us,q'⟩:=lst z hz;rw [q] at q';cases q'
   ·obtain ⟨us,q'⟩:=lst z hz;rw [q] at q';cases q'
   ·obtain ⟨us,q'⟩:=lst z hz
    obtain ⟨_,its,m,_,e1⟩:=I.hok _ _ q'
    exact ⟨_,e1,fun v q=>by cases q⟩
  have J0:=I.hide Z
  have hM:∀ b,H' b=none->cut (a0 :: A) H' b=none:=fun b q=>by unfold cut;split <;> first | rfl | exact q
  have stat:∀ {pn:List (Addr × Obj)} {G:Hp},(∀ b ∈ fp,G b=none)->(∀ p ∈ pn,∀ b ∈ fp,p.1 ≠ b)->∀ b ∈ fp,oM (cxA X N' scope a0 H2 s3 fp) pn G b:=fun {pn G} h1 h2 b hb =>
   ⟨h1 b hb,(I.ok.exf b hb).1,I.ok.exfs b hb,.inl hb,(I.ok.exf b hb).2,fun p hp=>h2 p hp b hb⟩
  have pna:∀ p ∈ ([]:List (Addr × Obj)) ++ d9 (a0 :: A) s.heap,∀ b ∈ fp,p.1 ≠ b:=fun p hp b hb z=>by
   obtain ⟨q1,_⟩:=jm (show p ∈ d9 (a0 :: A) s.heap from hp)
   obtain ⟨us,q⟩:=lst _ q1
   rw [z,hfn b hb] at q;cases q
  have sM:Same (msk ρ σ H2) (cut (a0 :: A) H'):=msk_sub.trans sm
  by_cases hlt:i < xs.length
  ·have ex:xs[i]?=some xs[i]:=by simp [hlt]
   have ed:xs.drop i=xs[i] :: xs.drop (i + 1):=List.drop_eq_getElem_cons hlt
   obtain ⟨go,yld⟩:=wk.go i _ _ sM ex
   refine wpAny_mono (TT.item (cxA X N' scope a0 H2 s3 fp) rfl rfl rfl hcalm i _ s σ' _ (fun _ _=>False) J0 (stat (fun b hb=>hM b (hfn b hb)) pna) tni go) (fun r s1 zz0=>?_) fun _ _ z=>z
   obtain ⟨u,hr,h1⟩:=zz0
   subst hr
   refine thn h1 fun _ s5 zz1=>?_
   obtain ⟨x,H5,I5,r5,y5,t5,n5⟩:=zz1
   obtain ⟨s5',hx⟩:=yld x H5 y5
   have hx5:Has X.K C (msk ρ σ H5) x xs[i]:=hx ρ σ (fun b ob q=>by
    have h2:=r2.ownAt ob
    cases q2:H2 b with
    | none=>exact h2 q2
    | some o=>rw [sm b o q2] at q;cases q) (br sm)
   have r5':=r2.mono (sm.trans s5')
   obtain ⟨re5,em5⟩:=xO (m:=n) r5' (σ':=σ') (by have q:=I5.len;rw [hrl];exact q.trans hN) hpre
   have I5p:=I5.pinned (stat n5 pna) (TT.obj _ _ t5)
   rw [ed] at hc
   unfold i7 at hc
   split at hc
   ·rename_i ρ1 eT
    have ix0:∀ j ∈ ix,(ρ.ext n).ad j=[]:=fun j hj=>by
     have h2:=hix j hj
     refine List.eq_nil_iff_forall_not_mem.mpr fun b hb=>?_
     have:=r2.bnd j b hb
     omega
    refine thn (hg _ _ _ _ _ _ s5 σ' H5 x u (fun σ6 H6=>H6=H5/\∃ β:RB,β.rho=ρ1/\(∀ j:Nat,β.ad j=if j ∈ ix then [] else (ρ.ext n).ad j)/\eU C X H0 β σ6 H5/\∀ j:Nat,j ∉ ix->σ6[j]?=σ'[j]?) I5p r5 ⟨_,H0,xs[i],ρ1,re5,by show Has _ _ (msk _ _ _) x _;rw [em5];exact hx5,eT,fun σ6 β q0 q3 q1 q2=>⟨rfl,β,q0,q3,q1,q2⟩⟩) fun _ s6 zz2=>?_
    obtain ⟨σ6,H6,I6,eH,β,eβ,aβ,r6,p6⟩:=zz2
    subst eH
    subst eβ
    have em6:msk β σ6=msk ρ σ:=(Ao aβ ix0).trans em5
    have pre6:∀ j:Nat,j < ρ.rho.length->σ6[j]?=σ[j]?:=fun j hj=>by
     rw [p6 j fun z=>by have:=hix j z;omega];exact hpre j hj
    cases et:t β with
    | exc c=>rw [et] at hc;cases hc
    | bad=>rw [et] at hc;cases hc
    | val b =>
     rw [et] at hc
     refine thn (ht _ _ _ _ _ _ s6 σ6 H6 (fun b' H7=>b'=b/\Same H6 H7) I6 ⟨β,⟨H0,r6⟩,by rw [et];exact fun H7 q=>⟨rfl,q⟩⟩) fun b' s7 zz3=>?_
     obtain ⟨H7,I7,eb,s67⟩:=zz3
     subst eb
     have fin:∀ {s9:Shared} {H9:Hp} {vs':List V} {ds1' ds2':List D} {A':List Addr},Inv (cxA X N' scope a0 H2 s3 fp) (d9 fp s5.heap) σ6 H9 s9 ->
       H9 a0=some (.lst vs')->Same H2 (cut (a0 :: A') H9)->TreP X.K C (msk ρ σ (cut (a0 :: A') H9)) H9 (vs'.map fun _=>k) vs' ds1' A'->a0 ∉ A'->i7 T t e (xs.drop (i + 1)) (ρ.rho ++ List.replicate n none)=.val ds2'->ds1' ++ ds2'=ds->vs'.length<=i + 1 ->
       ∃ m,m < xs.length + 1 - i/\zq C X (cxA X N' scope a0 H2 s3 fp) k T t e n a0 H2 σ ρ fp tn xs ds m s9:=fun {s9 H9 vs' ds1' ds2' A'} I9 g1 g3 g4 g4' g5 g6 g7=>by
      refine ⟨xs.length + 1 - (i + 1),by omega,i + 1,σ6,H9,vs',ds1',ds2',A',rfl,hlt,I9.pins_of fun p hp=>absurd hp (by simp),TT.keep _ _ _ t5 fun b hb o eo=>(I9.pin (b,o) (List.mem_append_right _ (gi hb eo))).1,fun b hb=>?_,pre6,g1,g3,g4,g4',g5,g6,g7⟩
      obtain ⟨o,eo,_⟩:=TT.obj _ _ t5 b hb
      exact (I9.pin (b,o) (List.mem_append_right _ (gi hb eo))).2.1
     have h1pins:∀ p ∈ d9 (a0 :: A) s.heap,p ∈ (([]:List (Addr × Obj)) ++ d9 (a0 :: A) s.heap) ++ d9 fp s5.heap:=fun p hp=>List.mem_append_left _ hp
     have h2pins:∀ p ∈ d9 fp s5.heap,p ∈ (([]:List (Addr × Obj)) ++ d9 (a0 :: A) s.heap) ++ d9 fp s5.heap/\H' p.1=none:=fun p hp=>⟨List.mem_append_right _ hp,hfn _ (jm hp).1⟩
     have s57:Same (cut (a0 :: A) H') H7:=s5'.trans s67
     have back:∀ {G:Hp},Same (cut (a0 :: A) H') G->(∀ z ∈ a0 :: A,G z=none)->Stay A H' (jn (a0 :: A) H' G):=fun {G} sG mz=>⟨fun b hb o q=>by rw [jy (List.mem_cons_of_mem _ hb)];exact q,fun b us q=>by
      have nb:b ∉ a0 :: A:=fun hb=>by obtain ⟨ws,q'⟩:=lst b hb;rw [q] at q';cases q'
      rw [cW nb];exact sG b _ (cut_some.mpr ⟨nb,q⟩)⟩
     cases b' with
     | false =>
      rw [if_neg Bool.false_ne_true]
      obtain ⟨I8,mz⟩:=I.showG Z I7 h1pins h2pins
      have eJ:cut (a0 :: A) (jn (a0 :: A) H' H7)=H7:=by
       funext b
       by_cases hb:b ∈ a0 :: A
       ·rw [gu hb,mz b hb]
       ·unfold cut;rw [if_neg hb,cW hb]
      exact fin (A':=A) I8 (by rw [jy List.mem_cons_self];exact ha) (by rw [eJ];exact sm.trans s57) (by rw [eJ];exact hv.stay (br s57) (back s57 mz)) hnA hc hds (Nat.le_succ_of_le hvl)
     | true =>
      rw [if_pos rfl]
      cases ee:e β with
      | exc c=>rw [ee] at hc;cases hc
      | bad=>rw [ee] at hc;cases hc
      | val d =>
       rw [ee] at hc
       refine thn (he _ _ _ _ _ _ s7 σ6 H7 (fun y H8=>∃ B,Same H7 H8/\(∀ b ∈ B,H7 b=none)/\Tre X.K C (cut B (msk ρ σ H8)) H8 k y d B) I7 ⟨β,⟨H0,r6.mono s67⟩,by rw [ee];exact fun y H8 B q1 q2 q3=>⟨B,q1,q2,by rw [<- em6];exact q3⟩⟩) fun yv s8 zz4=>?_
       obtain ⟨y,H8,I8,ry,B,s78,hB,hy⟩:=zz4
       obtain ⟨I9,mz⟩:=I.showG Z I8 h1pins h2pins
       have s8':Same (cut (a0 :: A) H') H8:=s57.trans s78
       cases ec:i7 T t e (xs.drop (i + 1)) (ρ.rho ++ List.replicate n none) with
       | exc c=>simp only [noE,DL.R.bind,ec,if_true] at hc;cases hc
       | bad=>simp only [noE,DL.R.bind,ec,if_true] at hc;cases hc
       | val ds3 =>
        simp only [noE,DL.R.bind,ec,if_true] at hc
        cases hc
        refine thn (kK _ s8 σ6 _ (.ref a0) [y] (.ref a0) [yv] (fun _ H9=>H9=upd (jn (a0 :: A) H' H8) a0 (.lst (vs ++ [y]))) I9 rfl (.cons ry .nil)
         ⟨_,vs,y,rfl,rfl,by rw [jy List.mem_cons_self];exact ha,As (by omega),rfl⟩) fun _ s9 ⟨_,H9,I10,_,eH9⟩=>?_
        have lB:∀ b ∈ B,b ∉ a0 :: A:=fun b hb hz=>by
         obtain ⟨us,q⟩:=hy.lists b hb
         rw [mz b hz] at q;cases q
        have at9:∀ b,b ≠ a0->H9 b=jn (a0 :: A) H' H8 b:=fun b hb=>by rw [eH9,aJ hb]
        have eJ:∀ A',(∀ b,b ∈ A' ↔ b ∈ A\/b ∈ B)->cut (a0 :: A') H9=cut B H8:=fun A' hA'=>by
         funext b
         by_cases hb:b ∈ a0 :: A
         ·have:b ∈ a0 :: A':=by
           rcases List.mem_cons.mp hb with z | z
           ·exact z ▸ List.mem_cons_self
           ·exact List.mem_cons_of_mem _ ((hA' b).mpr (.inl z))
          rw [gu this]
          unfold cut
          split
          ·rfl
          ·exact (mz b hb).symm
         ·have nb:b ≠ a0:=fun z=>hb (z ▸ List.mem_cons_self)
          by_cases hb2:b ∈ B
          ·rw [gu hb2,gu (List.mem_cons_of_mem _ ((hA' b).mpr (.inr hb2)))]
          ·have:b ∉ a0 :: A':=fun z=>by
            rcases List.mem_cons.mp z with z | z
            ·exact nb z
            ·rcases (hA' b).mp z with z | z
             ·exact hb (List.mem_cons_of_mem _ z)
             ·exact hb2 z
           unfold cut
           rw [if_neg this,if_neg hb2,at9 b nb,cW hb]
        have sB:Same (cut (a0 :: A) H') (cut B H8):=fun b o q=>cut_some.mpr ⟨fun hb=>absurd (hB b hb) (by rw [s57 b o q];exact fun z=>by cases z),s8' b o q⟩
        have st1:Stay A H' H9:=by
         refine ⟨fun b hb o q=>?_,fun b us q=>?_⟩
         ·rw [at9 b fun z=>hnA (z ▸ hb)];exact (back s8' mz).at_ b hb o q
         ·rw [at9 b fun z=>by rw [z,ha] at q;cases q];exact (back s8' mz).tup b us q
        have st2:Stay B H8 H9:=by
         refine ⟨fun b hb o q=>?_,fun b us q=>?_⟩
         ·rw [at9 b fun z=>lB b hb (z ▸ List.mem_cons_self),cW (lB b hb)];exact q
         ·have nb:b ∉ a0 :: A:=fun hz=>by rw [mz b hz] at q;cases q
          rw [at9 b fun z=>nb (z ▸ List.mem_cons_self),cW nb];exact q
        have g1:TreP X.K C (msk ρ σ (cut B H8)) H9 (vs.map fun _=>k) vs ds1 A:=hv.stay (br sB) st1
        have g2:Tre X.K C (msk ρ σ (cut B H8)) H9 k y d B:=hy.stay (by rw [j8];exact Same.refl _) st2
        obtain ⟨A',hA',g3⟩:=TreP.app g2 g1 fun b hb hb2=>lB b hb2 (List.mem_cons_of_mem _ hb)
        refine fin (A':=A') (vs':=vs ++ [y]) (ds1':=ds1 ++ [d]) (ds2':=ds3) I10 (by rw [eH9];exact bi) (by rw [eJ A' hA'];exact sm.trans sB) (by rw [eJ A' hA',List.map_append];exact g3) (fun z=>?_) ec (by rw [<- hds];simp) (by rw [List.length_append,List.length_singleton];omega)
        rcases (hA' a0).mp z with z | z
        ·exact hnA z
        ·exact lB a0 z List.mem_cons_self
   ·cases hc
  ·have ei:i=xs.length:=by omega
   subst ei
   rw [List.drop_length] at hc
   cases hc
   rw [List.append_nil] at hds
   subst hds
   refine wpAny_mono (TT.done (cxA X N' scope a0 H2 s3 fp) rfl rfl rfl hcalm xs.length _ s σ' _ (fun _ _=>False) J0 (stat (fun b hb=>hM b (hfn b hb)) pna) tni (wk.stop _ sM)) (fun r s1 zz5=>?_) fun _ _ z=>z
   obtain ⟨hr,I1⟩:=zz5
   subst hr
   obtain ⟨Ie,_⟩:=I.show' Z I1
   have eH:jn (a0 :: A) H' (cut (a0 :: A) H')=H':=by
    funext b
    by_cases hb:b ∈ a0 :: A
    ·rw [jy hb]
    ·rw [cW hb];unfold cut;rw [if_neg hb]
   rw [eH] at Ie
   have IX:Inv X pins σ H' s1:=I3.call' Ie.os Ie.base Ie.hok Ie.bare fun b hb=>⟨(f3 b hb).2.2.2.1,(f3 b hb).2.1,(f3 b hb).2.2.2.2.1,(f3 b hb).2.2.2.2.2⟩
   obtain ⟨m,hm,_⟩:=Ie.loc
   refine hR _ _ vs A H' s1 sm (fun b hb=>gf sm (gu hb)) ha hnA hv IX Ie.free (Nat.ne_of_gt I3.lt) I3.sz (fun x c q z=>?_) (fun p hp z=>?_) ⟨m,hm⟩
   ·obtain ⟨v,q⟩:=I3.cell x c q
    exact absurd (z ▸ q.lt) (Nat.lt_irrefl _)
   ·exact absurd (z ▸ Heap.lt_size (I3.pin p hp).1) (Nat.lt_irrefl _)
 exact codeAny_compStart_list (loop _ rfl) (TT.self X.A 0 _ _ _ t4' (loop _ rfl))
end DL
namespace DL
open PySem PySem.Spec PyProof.Rows L2
variable {C:Addr} {X:Cx}
noncomputable def bq (src:Rho->R (List D)) (n:Nat) (T:D->Rho->Option Rho) (t:Rho->R Bool) (e:Rho->R D):Rho->R (List D):=fun ρ=>(src ρ).bind fun xs=>if xs.length<=LIM then noE (i7 T t e xs (ρ ++ List.replicate n none)) else .bad
theorem su {k:OK} {src:Rho->R (List D)} {n:Nat} {T:D->Rho->Option Rho} {t:Rho->R Bool} {e:Rho->R D} {σ:St} {H:Hp} {Q:VK} {ρ:RB} {H0:Hp} (r:eU C X H0 ρ σ H) (q:pK C X (.l k) ρ (eLs (bq src n T t e) ρ) σ H Q) :
  itI C X src σ H fun J H2=>∃ xs ds,Same H H2/\eU C X H0 ρ σ H2/\qP X.K C J xs (msk ρ σ H2)/\xs.length<=LIM/\i7 T t e xs (ρ.rho ++ List.replicate n none)=.val ds/\∀ v H' A,Same H2 H'->(∀ a ∈ A,H2 a=none)->Tre X.K C (cut A (msk ρ σ H')) H' (.l k) v (.lst ds) A->Q v H':=by
 refine ⟨ρ,⟨H0,r⟩,?_⟩
 unfold eLs Aq bq at q
 cases es:src ρ with
 | exc c=>rw [es] at q;exact q
 | bad=>rw [es] at q;exact q
 | val xs =>
  rw [es] at q
  intro J H2 s2 wk
  simp only [DL.R.bind] at q
  by_cases hl:xs.length<=LIM
  ·rw [if_pos hl] at q
   cases ec:i7 T t e xs (ρ.rho ++ List.replicate n none) with
   | val ds=>rw [ec] at q;exact ⟨xs,ds,s2,r.mono s2,wk,hl,ec,fun v H' A s1 h1 h2=>q v H' A (s2.trans s1) (fun a ha=>gf s2 (h1 a ha)) h2⟩
   | exc c=>rw [ec] at q;exact q.elim
   | bad=>rw [ec] at q;exact q.elim
  ·rw [if_neg hl] at q;exact q.elim
theorem za {F:Rho->R (List D)} {σ:St} {H:Hp} {Q:VK} (h:teF C X F σ H Q):teK C X (.l .s) (eLs F) σ H Q:=by
 obtain ⟨ρ,⟨H0,r⟩,q⟩:=h
 refine ⟨ρ,⟨H0,r⟩,?_⟩
 unfold eLs
 cases e:F ρ with
 | val xs =>
  rw [e] at q
  intro v H' A s1 hA h1
  cases h1 with
  | @l _ a vs _ _ ha hp _ =>
   obtain ⟨eA,hl⟩:=hp.flat
   subst eA
   have q2:=q a vs (cut [a] H') (fun b o eb=>cut_some.mpr ⟨fun hb=>Option.some_ne_none _ (eb.symm.trans (hA b hb)),s1 b o eb⟩) (gu (List.mem_singleton.mpr rfl)) (by show HasL _ _ (msk ρ σ _) vs xs;rw [j8];exact hl)
   rw [xD ha] at q2
   exact q2
 | exc c=>rw [e] at q;exact q
 | bad=>rw [e] at q;exact q
section
variable {tg elt iter:Expr} {ifs:List Expr} {scope:Scope} {pos:Pos} {N':List Str} {ix:List Nat} {T:D->Rho->Option Rho} {t:Rho->R Bool} {e:Rho->R D} {n:Nat} {src:Rho->R (List D)}
theorem o6 (hchk:tJ X.N N' X.env scope=true):(∀ x,(x,NameKind.free) ∈ scope.names->kc (X.env.kindOf x)=true)/\scope.kind=.function/\∀ x ∈ scope.names,x.2=.local->scope.names.lookup x.1=some .local:=by
 obtain ⟨c1,hchk⟩:=Bool.and_eq_true_iff.mp hchk
 obtain ⟨c2,hchk⟩:=Bool.and_eq_true_iff.mp hchk
 obtain ⟨c3,hchk⟩:=Bool.and_eq_true_iff.mp hchk
 obtain ⟨c4,c5⟩:=Bool.and_eq_true_iff.mp hchk
 refine ⟨fun x hx=>qG c2 hx,?_,fun x hx hl=>?_⟩
 ·revert c5
  cases scope.kind <;> simp
 ·obtain ⟨n,k⟩:=x
  have hl:k=.local:=hl
  subst hl
  exact mh c3 hx (.inl rfl)
theorem lY {k:OK} (hcalm:X.calm=true) (hchk:tJ X.N N' X.env scope=true) (hN:N'.length=X.N.length + n) (hix:∀ j ∈ ix,X.N.length<=j) (hi:ID C X tg iter src)
  (hg:∀ L cs s H fp,GD C (cxC X N' scope L cs s H fp) tg ix T) (ht:∀ L cs s H fp,sJ C (cxC X N' scope L cs s H fp) ifs t) (he:∀ L cs s H fp,KD C (cxC X N' scope L cs s H fp) k elt e)
  (hs:∀ x,foldedSetIterable iter X.env x=pure x:=by intro _;rfl):KD C X (.l k) (.ListComp elt [⟨tg,iter,ifs,0⟩] scope pos) (eLs (bq src n T t e)):=by
 rintro pins s σ H Q I ⟨ρ,⟨H0,r⟩,q⟩
 obtain ⟨c2,hkind,hnames⟩:=o6 hchk
 rw [eval_ListComp]
 refine wpAny_comprehension_free (use:=none) rfl hs (uP fun x hx=>I.ok.has x (qg (c2 x hx))) hkind hnames ?_
 show wpAny _ _ (eval iter X.env) _ _ s
 refine thn (hi pins s σ H _ I (su r q)) fun v s1 h1=>thn h1 fun itv s2 zz0=>?_
 obtain ⟨it,fp,tn,J,H2,ei,I2,TT,t0,f2,xs,ds,s2',r2,wk,hl,hd,hq⟩:=zz0
 subst ei
 refine nJ (R:=fun acc L=>compPost (model X.prog X.w) X.A X.xe none (EP X pins σ Q) acc L) hcalm hchk hN hix hg ht he I2 r2 TT t0 f2 wk hl hd ?_
 rintro a L vs A H' s1 sf hA ha hn hv IX uL lne lsz lc lp ⟨m,hm⟩
 refine ⟨m,hm,fun h' hs'=>⟨.ref a,_,IX.turned (t':=s1.toks) (fun b o hb eo=>(hs'.2 b hb).trans eo) uL lne (.inr lsz) lc lp,rfl,hq _ H' (a :: A) (sf.trans qE) hA (.l ha (by rw [<- j8];exact hv) hn)⟩⟩
theorem bG (hcalm:X.calm=true) (hchk:tJ X.N N' X.env scope=true) (hN:N'.length=X.N.length + n) (hix:∀ j ∈ ix,X.N.length<=j) (tk:y9 ix T) (hi:ID C X tg iter src)
  (hg:∀ L cs s H fp,GD C (cxC X N' scope L cs s H fp) tg ix T) (ht:∀ L cs s H fp,sJ C (cxC X N' scope L cs s H fp) ifs t) (he:∀ L cs s H fp,ED C (cxC X N' scope L cs s H fp) elt e)
  (hs:∀ x,foldedSetIterable iter X.env x=pure x:=by intro _;rfl):FD C X (.ListComp elt [⟨tg,iter,ifs,0⟩] scope pos) (bq src n T t e) :=
 aW (lY hcalm hchk hN hix hi hg ht (fun L cs s H fp=>uq (he L cs s H fp)) hs) fun σ H Q h=>za h
theorem rd {k:OK} {i:Nat} {y:Str} {py spos:Pos} (hy:PG X (.Name y py) (iW i)) (hcalm:X.calm=true) (hchk:tJ X.N N' X.env scope=true) (hN:N'.length=X.N.length + n) (hix:∀ j ∈ ix,X.N.length<=j) (hi:ID C X tg iter src)
  (hg:∀ L cs s H fp,GD C (cxC X N' scope L cs s H fp) tg ix T) (ht:∀ L cs s H fp,sJ C (cxC X N' scope L cs s H fp) ifs t) (he:∀ L cs s H fp,KD C (cxC X N' scope L cs s H fp) k elt e)
  (hsw:swapsWith (.ListComp elt [⟨tg,iter,ifs,0⟩] scope pos) (some (.Name y py)) spos.line X.env=pure true)
  (hs:∀ x,foldedSetIterable iter X.env x=pure x:=by intro _;rfl):PS X (.Assign [.Name y py] (.ListComp elt [⟨tg,iter,ifs,0⟩] scope pos) spos) (u3 (teK C X (.l k) (eLs (bq src n T t e))) (iW i)):=by
 rintro pins s σ H Dn I ⟨ρ,⟨H0,r⟩,q⟩
 obtain ⟨c2,hkind,hnames⟩:=o6 hchk
 rw [exec_Assign_Name_used _ _ _ _ hsw]
 refine wpAny_bind (wpAny_standAt (wpAny_bind ?_))
 show wpAny _ _ (do let _ <- comprehension (.ListComp elt [⟨tg,iter,ifs,0⟩] scope pos) scope X.env _ (newList []) false (eval iter X.env) (some (assign (.Name y py) X.env))) _ _ s
 refine wpAny_bind (wpAny_mono (wpAny_comprehension_free (use:=some (assign (.Name y py) X.env)) (Q:=fun _ s'=>SP X pins Dn .next s') rfl hs (uP fun x hx=>I.ok.has x (qg (c2 x hx))) hkind hnames ?_) (fun _ s' hq=>wpAny_pure (wpAny_pure hq)) fun _ _ z=>z)
 refine thn (hi pins s σ H _ I (su r q)) fun v s1 h1=>thn h1 fun itv s2 zz1=>?_
 obtain ⟨it,fp,tn,J,H2,ei,I2,TT,t0,f2,xs,ds,s2',r2,wk,hl,hd,hq⟩:=zz1
 subst ei
 refine nJ (R:=fun acc L=>compPost (model X.prog X.w) X.A X.xe (some (assign (.Name y py) X.env)) (fun _ s'=>SP X pins Dn .next s') acc L) hcalm hchk hN hix hg ht he I2 r2 TT t0 f2 wk hl hd ?_
 rintro a L vs A H' s1 sf hA ha hn hv IX uL lne lsz lc lp ⟨m,hm⟩
 obtain ⟨oL,esL,epL,eoL,edL,restL⟩:=id hm
 have nfs:L ∉ X.fs:=fun z=>by
  obtain ⟨_,o,ho,_⟩:=I.ok.funs.mem z
  exact absurd (Nat.lt_of_lt_of_le (Heap.lt_size ho) lsz) (Nat.lt_irrefl _)
 have IP:Inv X (pins ++ [(L,oL)]) σ H' s1:=IX.pins_of fun p hp=>by
  rcases List.mem_append.mp hp with hp | hp
  ·exact IX.pin p (List.mem_append_right _ hp)
  ·have:p=(L,oL):=by simpa using hp
   subst this
   exact ⟨eoL,uL,lne,nfs,fun v z=>by rw [edL] at z;cases z⟩
 show wpAny _ _ (assign (.Name y py) X.env (.ref a)) _ _ s1
 refine thn (hy _ s1 σ _ (.ref a) (.ref a) Dn.nx IP rfl (hq _ H' (a :: A) (sf.trans qE) hA (.l ha (by rw [<- j8];exact hv) hn))) fun _ s2 zz2=>?_
 obtain ⟨σ',H',I',qn⟩:=zz2
 have pL:=I'.pin (L,oL) (List.mem_append_right _ (List.mem_append_right _ (by simp)))
 have I'':Inv X pins σ' H' s2:=I'.unpinned
 refine ⟨m,⟨oL,esL,epL,pL.1,edL,restL⟩,fun h' hs'=>⟨σ',H',I''.turned (t':=s2.toks) (fun b o hb eo=>(hs'.2 b hb).trans eo) pL.2.1 lne (.inr lsz) lc lp,qn⟩⟩
theorem hU {i:Nat} {y:Str} {py spos:Pos} (hy:PG X (.Name y py) (iW i)) (hcalm:X.calm=true) (hchk:tJ X.N N' X.env scope=true) (hN:N'.length=X.N.length + n) (hix:∀ j ∈ ix,X.N.length<=j) (tk:y9 ix T) (hi:ID C X tg iter src)
  (hg:∀ L cs s H fp,GD C (cxC X N' scope L cs s H fp) tg ix T) (ht:∀ L cs s H fp,sJ C (cxC X N' scope L cs s H fp) ifs t) (he:∀ L cs s H fp,ED C (cxC X N' scope L cs s H fp) elt e)
  (hsw:swapsWith (.ListComp elt [⟨tg,iter,ifs,0⟩] scope pos) (some (.Name y py)) spos.line X.env=pure true)
  (hs:∀ x,foldedSetIterable iter X.env x=pure x:=by intro _;rfl):PS X (.Assign [.Name y py] (.ListComp elt [⟨tg,iter,ifs,0⟩] scope pos) spos) (u3 (teF C X (bq src n T t e)) (iW i)) :=
 ck (rd hy hcalm hchk hN hix hi hg ht (fun L cs s H fp=>uq (he L cs s H fp)) hsw hs) fun D σ H h=>za h
theorem pA {i : Nat} {st : Stmt} {F : Rho -> R (List D)} (h : PS X st (u3 (teF C X F) (iW i))) : SD C X st (asg i (eLs F)) :=
  ck h fun D σ H yy0 => by
   obtain ⟨_, H0, ⟨ρ, rfl, r⟩, q⟩ := yy0
   exact ⟨ρ, ⟨H0, r⟩, by
    unfold asg eLs Aq at q
    cases e : F ρ with
    | val xs =>
      rw [e] at q
      exact fun a vs H1 s1 hn h1 => q _ _ ⟨_, rfl, (r.mono (s1.trans (a_ hn))).setShr (.lst ((r.mono s1).new hn) (h1.mono (br (a_ hn))))⟩
    | exc c => rw [e] at q; exact eM r q
    | bad => rw [e] at q; exact q⟩
theorem xJ {i : Nat} {st : Stmt} {F : Rho -> R (List D)} (h : PS X st (u3 (teF C X F) (iW i))) : SD C X st (own i F) :=
  ck h fun D σ H yy1 => by
   obtain ⟨_, H0, ⟨ρ, rfl, r⟩, q⟩ := yy1
   exact ⟨ρ, ⟨H0, r⟩, by
    unfold own at q
    cases e : F ρ with
    | val xs =>
      rw [e] at q
      exact fun a vs H1 s1 hn h1 => q _ _ ⟨_, rfl, (r.mono s1).setOwn hn h1⟩
    | exc c => rw [e] at q; exact eM r q
    | bad => rw [e] at q; exact q⟩
end
end DL
namespace DL
open PySem PySem.Spec PyProof.Rows L2
noncomputable def eqb:Nat->D->Bool
 | _,.non=>true
 | _,.bl _=>true
 | _,.int _=>true
 | n + 1,.lst xs=>xs.all (eqb n)
 | n + 1,.tup xs=>xs.all (eqb n)
 | _,_=>false
noncomputable def pyq:Nat->D->D->Bool
 | _,.non,.non=>true
 | _,.bl a,.bl b=>a == b
 | _,.bl a,.int b=>(if a then 1 else 0) == b
 | _,.int a,.bl b=>a == (if b then 1 else 0)
 | _,.int a,.int b=>a == b
 | n + 1,.lst xs,.lst ys=>decide (xs.length=ys.length) && (List.range xs.length).all fun j=>pyq n (xs.getD j .non) (ys.getD j .non)
 | n + 1,.tup xs,.tup ys=>decide (xs.length=ys.length) && (List.range xs.length).all fun j=>pyq n (xs.getD j .non) (ys.getD j .non)
 | _,_,_=>false
theorem pQ (n:Nat) (xs ys:List D):pyq (n + 1) (.lst xs) (.lst ys)=(decide (xs.length=ys.length) && (List.range xs.length).all fun j=>pyq n (xs.getD j .non) (ys.getD j .non)):=rfl
theorem pP (n:Nat) (xs ys:List D):pyq (n + 1) (.tup xs) (.tup ys)=(decide (xs.length=ys.length) && (List.range xs.length).all fun j=>pyq n (xs.getD j .non) (ys.getD j .non)):=rfl
section
variable {K:PySem.W.Frag} {C:Addr} {H:Hp}
theorem HasL.inj {n:Nat} (ih:∀ {v:V} {x y:D},eqb n x=true->eqb n y=true->Has K C H v x->Has K C H v y->x=y):∀ {vs:List V} {xs ys:List D},xs.all (eqb n)=true->ys.all (eqb n)=true->HasL K C H vs xs->HasL K C H vs ys->xs=ys
 | _,_,_,_,_,.nil,.nil=>rfl
 | _,_,_,h1,h2,.cons a b,.cons c d=>by
  rw [List.all_cons,Bool.and_eq_true] at h1 h2
  rw [ih h1.1 h2.1 a c,HasL.inj ih h1.2 h2.2 b d]
theorem Has.inj:∀ {n:Nat} {v:V} {x y:D},eqb n x=true->eqb n y=true->Has K C H v x->Has K C H v y->x=y:=by
 intro n
 induction n with
 | zero =>
  intro v x y h1 h2 a b
  cases a <;> cases b <;> first | rfl | cases h1 | cases h2
 | succ n ih =>
  intro v x y h1 h2 a b
  cases a with
  | non=>cases b;rfl
  | bl _=>cases b;rfl
  | int _=>cases b;rfl
  | lst e1 g1 =>
   cases b with
   | lst e2 g2=>rw [e1] at e2;cases e2;rw [HasL.inj ih h1 h2 g1 g2]
   | tup e2 g2=>rw [e1] at e2;cases e2
   | ob _ _ _ _=>cases h2
   | scr _=>cases h2
   | exn _=>cases h2
  | tup e1 g1 =>
   cases b with
   | tup e2 g2=>rw [e1] at e2;cases e2;rw [HasL.inj ih h1 h2 g1 g2]
   | lst e2 g2=>rw [e1] at e2;cases e2
   | ob _ _ _ _=>cases h2
   | scr _=>cases h2
   | exn _=>cases h2
  | ob _ _ _ _=>cases h1
  | scr _=>cases h1
  | exn _=>cases h1
theorem q_:∀ {n:Nat} {x:D},eqb n x=true->pyq n x x=true:=by
 intro n
 induction n with
 | zero =>
  intro x h
  cases x with
  | non=>rfl
  | bl b=>exact beq_self_eq_true _
  | int b=>exact beq_self_eq_true _
  | _=>cases h
 | succ n ih =>
  intro x h
  cases x with
  | non=>rfl
  | bl b=>exact beq_self_eq_true _
  | int b=>exact beq_self_eq_true _
  | lst xs =>
   rw [pQ]
   simp only [decide_true,Bool.true_and,List.all_eq_true,List.mem_range]
   intro j hj
   have h:xs.all (eqb n)=true:=h
   rw [List.all_eq_true] at h
   have e:xs.getD j .non=xs[j]:=by simp [List.getD,List.getElem?_eq_getElem hj]
   rw [e]
   exact ih (h _ (List.getElem_mem hj))
  | tup xs =>
   rw [pP]
   simp only [decide_true,Bool.true_and,List.all_eq_true,List.mem_range]
   intro j hj
   have h:xs.all (eqb n)=true:=h
   rw [List.all_eq_true] at h
   have e:xs.getD j .non=xs[j]:=by simp [List.getD,List.getElem?_eq_getElem hj]
   rw [e]
   exact ih (h _ (List.getElem_mem hj))
  | ob _ _ _=>cases h
  | scr _=>cases h
  | exn _=>cases h
end
open SeqAt in
theorem zo {X:Cx} {C:Addr} {H:Hp} {s:Shared} {n:Nat} {A:Around} {xs ys:List D} {vs ws:List V} {its its2:List Value}
  (ih:∀ {x y:D} {v w:V} {u t:Value},eqb n x=true->eqb n y=true->Has X.K C H v x->Has X.K C H w y->RelV v u->RelV w t->EqAt A s u t (pyq n x y))
  (h1:∀ x ∈ xs,eqb n x=true) (h2:∀ x ∈ ys,eqb n x=true) (g1:HasL X.K C H vs xs) (g2:HasL X.K C H ws ys) (r:Vals vs its) (r2:Vals ws its2) (j:Nat) (h1':j < its.toArray.size) (h2':j < its2.toArray.size) :
  EqAt A s its.toArray[j] its2.toArray[j] (pyq n (xs.getD j .non) (ys.getD j .non)):=by
 have j1:j < xs.length:=by rw [<- g1.len,r.length];exact h1'
 have j2:j < ys.length:=by rw [<- g2.len,r2.length];exact h2'
 obtain ⟨vj,ev,hv⟩:=g1.get (List.getElem?_eq_getElem j1)
 obtain ⟨wj,ew,hw⟩:=g2.get (List.getElem?_eq_getElem j2)
 obtain ⟨uj,eu,ruj⟩:=r.get ev
 obtain ⟨tj,et,rtj⟩:=r2.get ew
 have eu':its.toArray[j]=uj:=(List.getElem?_eq_some_iff.mp eu).2
 have et':its2.toArray[j]=tj:=(List.getElem?_eq_some_iff.mp et).2
 have ex:xs.getD j .non=xs[j]:=by rw [List.getD,List.getElem?_eq_getElem j1];rfl
 have ey:ys.getD j .non=ys[j]:=by rw [List.getD,List.getElem?_eq_getElem j2];rfl
 rw [eu',et',ex,ey]
 exact ih (h1 _ (List.getElem_mem j1)) (h2 _ (List.getElem_mem j2)) hv hw ruj rtj
open SeqAt in
theorem tL {X:Cx} {C:Addr} {pins:List (Addr × Obj)} {σ:St} {H:Hp} {s:Shared} (I:Inv X pins σ H s):∀ (n:Nat) {A:Around} {x y:D} {v w:V} {u t:Value},A.units + n < cLine->eqb n x=true->eqb n y=true->Has X.K C H v x->Has X.K C H w y->RelV v u->RelV w t ->
  RcAt A s u t (pyq n x y)/\EqAt A s u t (pyq n x y)/\RcNeAt A s u t (!pyq n x y):=by
 intro n
 induction n with
 | zero =>
  intro A x y v w u t hu h1 h2 a b ru rt
  cases a with
  | non =>
   cases ru
   cases b with
   | non=>cases rt;exact ⟨RcAt.none_none,EqAt.same _,RcNeAt.none_none⟩
   | bl _=>cases rt;exact ⟨RcAt.none_bool _,EqAt.none_bool _,RcNeAt.none_bool _⟩
   | int _=>obtain ⟨_,rfl⟩:=rt;exact ⟨RcAt.none_int _ _,EqAt.none_int _ _,RcNeAt.none_int _ _⟩
   | _=>cases h2
  | bl _ =>
   cases ru
   cases b with
   | non=>cases rt;exact ⟨RcAt.bool_none _,EqAt.bool_none _,RcNeAt.bool_none _⟩
   | bl _=>cases rt;exact ⟨RcAt.bool_bool _ _,EqAt.bool_bool _ _,RcNeAt.bool_bool _ _⟩
   | int _=>obtain ⟨_,rfl⟩:=rt;exact ⟨RcAt.bool_int _ _ _,EqAt.bool_int _ _ _,RcNeAt.bool_int _ _ _⟩
   | _=>cases h2
  | int _ =>
   obtain ⟨_,rfl⟩:=ru
   cases b with
   | non=>cases rt;exact ⟨RcAt.int_none _ _,EqAt.int_none _ _,RcNeAt.int_none _ _⟩
   | bl _=>cases rt;exact ⟨RcAt.int_bool _ _ _,EqAt.int_bool _ _ _,RcNeAt.int_bool _ _ _⟩
   | int _=>obtain ⟨_,rfl⟩:=rt;exact ⟨RcAt.int_int _ _ _ _,EqAt.int_int _ _ _ _,RcNeAt.int_int _ _ _ _⟩
   | _=>cases h2
  | _=>cases h1
 | succ n ih =>
  intro A x y v w u t hu h1 h2 a b ru rt
  have hA:A.units < cLine:=by omega
  have hin:A.in1.units + n < cLine:=by show A.units + 1 + n < cLine;omega
  cases a with
  | non =>
   cases ru
   cases b with
   | non=>cases rt;exact ⟨RcAt.none_none,EqAt.same _,RcNeAt.none_none⟩
   | bl _=>cases rt;exact ⟨RcAt.none_bool _,EqAt.none_bool _,RcNeAt.none_bool _⟩
   | int _=>obtain ⟨_,rfl⟩:=rt;exact ⟨RcAt.none_int _ _,EqAt.none_int _ _,RcNeAt.none_int _ _⟩
   | lst e2 g2=>cases rt;obtain ⟨its,r,p,_⟩:=I.list (SqL.of e2);exact ⟨RcAt.none_list p.isList hA,EqAt.none_list p.isList hA,RcNeAt.none_list p.isList hA⟩
   | tup e2 g2=>cases rt;obtain ⟨its,r,p,_⟩:=I.tuple (SqT.of e2);exact ⟨RcAt.none_tuple p hA,EqAt.none_tuple p hA,RcNeAt.none_tuple p hA⟩
   | _=>cases h2
  | bl _ =>
   cases ru
   cases b with
   | non=>cases rt;exact ⟨RcAt.bool_none _,EqAt.bool_none _,RcNeAt.bool_none _⟩
   | bl _=>cases rt;exact ⟨RcAt.bool_bool _ _,EqAt.bool_bool _ _,RcNeAt.bool_bool _ _⟩
   | int _=>obtain ⟨_,rfl⟩:=rt;exact ⟨RcAt.bool_int _ _ _,EqAt.bool_int _ _ _,RcNeAt.bool_int _ _ _⟩
   | lst e2 g2=>cases rt;obtain ⟨its,r,p,_⟩:=I.list (SqL.of e2);exact ⟨RcAt.bool_list _ p.isList hA,EqAt.bool_list _ p.isList hA,RcNeAt.bool_list _ p.isList hA⟩
   | tup e2 g2=>cases rt;obtain ⟨its,r,p,_⟩:=I.tuple (SqT.of e2);exact ⟨RcAt.bool_tuple _ p hA,EqAt.bool_tuple _ p hA,RcNeAt.bool_tuple _ p hA⟩
   | _=>cases h2
  | int _ =>
   obtain ⟨_,rfl⟩:=ru
   cases b with
   | non=>cases rt;exact ⟨RcAt.int_none _ _,EqAt.int_none _ _,RcNeAt.int_none _ _⟩
   | bl _=>cases rt;exact ⟨RcAt.int_bool _ _ _,EqAt.int_bool _ _ _,RcNeAt.int_bool _ _ _⟩
   | int _=>obtain ⟨_,rfl⟩:=rt;exact ⟨RcAt.int_int _ _ _ _,EqAt.int_int _ _ _ _,RcNeAt.int_int _ _ _ _⟩
   | lst e2 g2=>cases rt;obtain ⟨its,r,p,_⟩:=I.list (SqL.of e2);exact ⟨RcAt.int_list _ _ p.isList hA,EqAt.int_list _ _ p.isList hA,RcNeAt.int_list _ _ p.isList hA⟩
   | tup e2 g2=>cases rt;obtain ⟨its,r,p,_⟩:=I.tuple (SqT.of e2);exact ⟨RcAt.int_tuple _ _ p hA,EqAt.int_tuple _ _ p hA,RcNeAt.int_tuple _ _ p hA⟩
   | _=>cases h2
  | @lst la vs xs e1 g1 =>
   cases ru
   obtain ⟨its,r,p,_⟩:=I.list (SqL.of e1)
   cases b with
   | non=>cases rt;exact ⟨RcAt.list_none p.isList hA,EqAt.list_none p.isList hA,RcNeAt.list_none p.isList hA⟩
   | bl _=>cases rt;exact ⟨RcAt.list_bool _ p.isList hA,EqAt.list_bool _ p.isList hA,RcNeAt.list_bool _ p.isList hA⟩
   | int _=>obtain ⟨_,rfl⟩:=rt;exact ⟨RcAt.list_int _ _ p.isList hA,EqAt.list_int _ _ p.isList hA,RcNeAt.list_int _ _ p.isList hA⟩
   | tup e2 g2=>cases rt;obtain ⟨its2,r2,p2,_⟩:=I.tuple (SqT.of e2);exact ⟨RcAt.list_tuple p.isList p2 hA,EqAt.list_tuple p.isList p2 hA,RcNeAt.list_tuple p.isList p2 hA⟩
   | @lst lb ws ys e2 g2 =>
    cases rt
    obtain ⟨its2,r2,p2,_⟩:=I.list (SqL.of e2)
    have l1:its.length=xs.length:=by rw [<- r.length,g1.len]
    have l2:its2.length=ys.length:=by rw [<- r2.length,g2.len]
    have el:=zo (A:=A.in1) (s:=s) (fun a b c d e f=>(ih hin a b c d e f).2.1) (List.all_eq_true.mp h1) (List.all_eq_true.mp h2) g1 g2 r r2
    have rc:RcAt A s (.ref la) (.ref lb) (pyq (n + 1) (.lst xs) (.lst ys)):=by
     rw [pQ]
     by_cases hl:xs.length=ys.length
     ·have q:=RcAt.lists (A:=A) (s:=s) (e:=fun j=>pyq n (xs.getD j .non) (ys.getD j .non)) p.isList p2.isList (by simp [l1,l2,hl]) hA el
      have es:its.toArray.size=xs.length:=by simp [l1]
      rw [es] at q
      rw [decide_eq_true hl,Bool.true_and]
      exact q
     ·rw [decide_eq_false hl,Bool.false_and]
      exact RcAt.lists_lengths p.isList p2.isList (by simp [l1,l2,hl]) hA
    have rn:RcNeAt A s (.ref la) (.ref lb) (!pyq (n + 1) (.lst xs) (.lst ys)):=by
     rw [pQ]
     by_cases hl:xs.length=ys.length
     ·have q:=RcNeAt.lists (A:=A) (s:=s) (e:=fun j=>pyq n (xs.getD j .non) (ys.getD j .non)) p.isList p2.isList (by simp [l1,l2,hl]) hA el
      have es:its.toArray.size=xs.length:=by simp [l1]
      rw [es] at q
      rw [decide_eq_true hl,Bool.true_and]
      exact q
     ·rw [decide_eq_false hl,Bool.false_and]
      exact RcNeAt.lists_lengths p.isList p2.isList (by simp [l1,l2,hl]) hA
    refine ⟨rc,?_,rn⟩
    by_cases hab:la=lb
    ·subst hab
     have:=Has.inj h1 h2 (.lst e1 g1) (.lst e2 g2)
     rw [this,q_ h2]
     exact EqAt.same _
    ·exact EqAt.of_refs hab rc
   | _=>cases h2
  | @tup la vs xs e1 g1 =>
   cases ru
   obtain ⟨its,r,p,_⟩:=I.tuple (SqT.of e1)
   cases b with
   | non=>cases rt;exact ⟨RcAt.tuple_none p hA,EqAt.tuple_none p hA,RcNeAt.tuple_none p hA⟩
   | bl _=>cases rt;exact ⟨RcAt.tuple_bool _ p hA,EqAt.tuple_bool _ p hA,RcNeAt.tuple_bool _ p hA⟩
   | int _=>obtain ⟨_,rfl⟩:=rt;exact ⟨RcAt.tuple_int _ _ p hA,EqAt.tuple_int _ _ p hA,RcNeAt.tuple_int _ _ p hA⟩
   | lst e2 g2=>cases rt;obtain ⟨its2,r2,p2,_⟩:=I.list (SqL.of e2);exact ⟨RcAt.tuple_list p p2.isList hA,EqAt.tuple_list p p2.isList hA,RcNeAt.tuple_list p p2.isList hA⟩
   | @tup lb ws ys e2 g2 =>
    cases rt
    obtain ⟨its2,r2,p2,_⟩:=I.tuple (SqT.of e2)
    have l1:its.length=xs.length:=by rw [<- r.length,g1.len]
    have l2:its2.length=ys.length:=by rw [<- r2.length,g2.len]
    have el:=zo (A:=A.in1) (s:=s) (fun a b c d e f=>(ih hin a b c d e f).2.1) (List.all_eq_true.mp h1) (List.all_eq_true.mp h2) g1 g2 r r2
    have rc:RcAt A s (.ref la) (.ref lb) (pyq (n + 1) (.tup xs) (.tup ys)):=by
     rw [pP]
     have q:=RcAt.tuples (A:=A) (s:=s) (e:=fun j=>pyq n (xs.getD j .non) (ys.getD j .non)) p p2 hA el
     have es:its.toArray.size=xs.length:=by simp [l1]
     have es2:its2.toArray.size=ys.length:=by simp [l2]
     rw [es,es2] at q
     by_cases hl:xs.length=ys.length
     ·rw [hl,Nat.min_self,beq_self_eq_true,Bool.and_true] at q
      rw [decide_eq_true hl,Bool.true_and,hl]
      exact q
     ·rw [decide_eq_false hl,Bool.false_and]
      rw [show (xs.length == ys.length)=false by simpa using hl,Bool.and_false] at q
      exact q
    have rn:RcNeAt A s (.ref la) (.ref lb) (!pyq (n + 1) (.tup xs) (.tup ys)):=by
     rw [pP]
     have q:=RcNeAt.tuples (A:=A) (s:=s) (e:=fun j=>pyq n (xs.getD j .non) (ys.getD j .non)) p p2 hA el
     have es:its.toArray.size=xs.length:=by simp [l1]
     have es2:its2.toArray.size=ys.length:=by simp [l2]
     rw [es,es2] at q
     by_cases hl:xs.length=ys.length
     ·rw [hl,Nat.min_self,beq_self_eq_true,Bool.and_true] at q
      rw [decide_eq_true hl,Bool.true_and,hl]
      exact q
     ·rw [decide_eq_false hl,Bool.false_and]
      rw [show (xs.length == ys.length)=false by simpa using hl,Bool.and_false] at q
      exact q
    refine ⟨rc,?_,rn⟩
    by_cases hab:la=lb
    ·subst hab
     have:=Has.inj h1 h2 (.tup e1 g1) (.tup e2 g2)
     rw [this,q_ h2]
     exact EqAt.same _
    ·exact EqAt.of_refs hab rc
   | _=>cases h2
  | _=>cases h1
open SeqAt in
theorem zn {X:Cx} {C:Addr} {pins:List (Addr × Obj)} {σ:St} {H:Hp} {s:Shared} (I:Inv X pins σ H s):∀ (n:Nat) {A:Around} {x y:D} {v w:V} {u t:Value},A.units + n < cLine->eqb n x=true->eqb n y=true->Has X.K C H v x->Has X.K C H w y->RelV v u->RelV w t ->
  RcAt A s u t (pyq n x y)/\EqAt A s u t (pyq n x y) :=
 fun n _ _ _ _ _ _ _ hu h1 h2 a b c d=>⟨(tL I n hu h1 h2 a b c d).1,(tL I n hu h1 h2 a b c d).2.1⟩
open SeqAt in
theorem BL {X:Cx} {C:Addr} {pins:List (Addr × Obj)} {σ:St} {H:Hp} {s:Shared} (I:Inv X pins σ H s):∀ (n:Nat) {A:Around} {x y:D} {v w:V} {u t:Value},A.units + n < cLine->eqb n x=true->eqb n y=true->Has X.K C H v x->Has X.K C H w y->RelV v u->RelV w t ->
  RcNeAt A s u t (!pyq n x y) :=
 fun n _ _ _ _ _ _ _ hu h1 h2 a b c d=>(tL I n hu h1 h2 a b c d).2.2
theorem Brw.has {K:PySem.W.Frag} {C:Addr} {M H:Hp} {v:V} {d:D} (s:Same M H) (h:Brw K C M H v d):Has K C H v d:=by
 cases h with
 | cl h=>exact h.mono s
 | own e h=>exact .lst e (h.mono s)
section
variable {C:Addr} {X:Cx}
noncomputable def feq (x y:D):R D:=if eqb 9 x=true/\eqb 9 y=true then .val (.bl (pyq 9 x y)) else .bad
noncomputable def fne (x y:D):R D:=if eqb 9 x=true/\eqb 9 y=true then .val (.bl (!pyq 9 x y)) else .bad
noncomputable def xP (K:PySem.W.Frag) (C:Addr) (neg:Bool):R2:=fun v w H Q=>∃ x y,eqb 9 x=true/\eqb 9 y=true/\Has K C H v x/\Has K C H w y/\Q (.bl (if neg then !pyq 9 x y else pyq 9 x y)) H
theorem wx (hu:X.A.units + 9 < cLine):OpR X (compareOp .Eq) (xP X.K C false):=by
 intro pins s σ H x y v u Q I rx ry h
 obtain ⟨dx,dy,e1,e2,h1,h2,q⟩:=h
 exact (zn I 9 hu e1 e2 h1 h2 rx ry).1 _ _ _ _ ⟨.bl _,H,I,rfl,q⟩
theorem Ai (hu:X.A.units + 9 < cLine):OpR X (compareOp .NotEq) (xP X.K C true):=by
 intro pins s σ H x y v u Q I rx ry h
 obtain ⟨dx,dy,e1,e2,h1,h2,q⟩:=h
 exact BL I 9 hu e1 e2 h1 h2 rx ry _ _ _ _ ⟨.bl _,H,I,rfl,q⟩
theorem wv:OpD C X (xP X.K C false) feq:=by
 intro ρ σ H v w x y z Q r hx hy e k
 unfold feq at e
 split at e
 ·rename_i hh
  cases e
  exact ⟨x,y,hh.1,hh.2,hx.has msk_sub,hy.has msk_sub,k _ H (Same.refl _) (.bl _)⟩
 ·cases e
theorem Ac:OpD C X (xP X.K C true) fne:=by
 intro ρ σ H v w x y z Q r hx hy e k
 unfold fne at e
 split at e
 ·rename_i hh
  cases e
  exact ⟨x,y,hh.1,hh.2,hx.has msk_sub,hy.has msk_sub,k _ H (Same.refl _) (.bl _)⟩
 ·cases e
theorem zg:fM feq:=fun x y c e=>by unfold feq at e;split at e <;> cases e
theorem Bx:fM fne:=fun x y c e=>by unfold fne at e;split at e <;> cases e
theorem B5 {a b:Expr} {pos:Pos} {Fa Fb:Rho->R D} (hu:X.A.units + 9 < cLine) (ha:EB C X a Fa) (hb:EB C X b Fb):ED C X (.Compare a [.Eq] [b] pos) (bin feq Fa Fb):=AT (wx (C:=C) hu) zg wv ha hb (kG _)
theorem gx {a b:Expr} {pos:Pos} {Fa Fb:Rho->R D} (hu:X.A.units + 9 < cLine) (ha:EB C X a Fa) (hb:EB C X b Fb):TD C X (.Compare a [.Eq] [b] pos) (tst (bin feq Fa Fb)):=kC (wx (C:=C) hu) zg wv ha hb (kG _)
theorem du {a b:Expr} {pos:Pos} {Fa Fb:Rho->R D} (hu:X.A.units + 9 < cLine) (ha:EB C X a Fa) (hb:EB C X b Fb):TD C X (.Compare a [.NotEq] [b] pos) (tst (bin fne Fa Fb)):=kC (Ai (C:=C) hu) Bx Ac ha hb (kG _)
end
end DL
namespace DL
open PySem PySem.Spec PyProof.Rows L2
variable {C:Addr} {X:Cx}
noncomputable def Ite (K:PySem.W.Frag) (a:Addr):It :=
 ⟨fun i H=>∃ xs x,SqL K H a xs/\xs[i]?=some x,fun i H v H'=>∃ p x,H p=none/\v=.ref p/\H'=upd H p (.tup [.int (i:Int),x])/\∀ xs,SqL K H a xs->xs[i]?=some x,fun i H=>∃ xs,SqL K H a xs/\xs.length<=i⟩
theorem u0 {P:Program} {w:World} {K:PySem.W.Frag} {es:List Expr} {k:Nat} {pos:Pos} (a it e:Addr) (hne:e ≠ it) :
  tM P w K (.Tuple es k pos) (Ite K a) [e,it] e (fun i h=>(∃ old,IsEnum h e it i old)/\h.IsListIter it a i) where
 mem:=by simp
 obj:=fun i h st b hb=>by
  obtain ⟨⟨old,he⟩,o,eo,c,d⟩:=st
  have hb:b=e\/b=it:=by simpa using hb
  rcases hb with rfl | rfl
  ·exact ⟨_,he,fun v z=>by have z':Data.fields _=Data.cell v:=z;cases z'⟩
  ·exact ⟨o,eo,fun v z=>by rw [d] at z;cases z⟩
 keep:=fun i h h' st kk=>by
  obtain ⟨⟨old,he⟩,st⟩:=st
  exact ⟨⟨old,kk e (by simp) _ he⟩,st.at fun o q=>kk it (by simp) o q⟩
 item:=by
  intro X hP hw hK hc i pins s σ H E I hf st hg
  subst hP hw hK
  obtain ⟨⟨old,he⟩,hit⟩:=st
  obtain ⟨xs,x,hq,hx⟩:=hg
  obtain ⟨its,rv,p,hz⟩:=I.list hq
  obtain ⟨u,hu,ru⟩:=rv.get hx
  refine wpAny_pyNext_enum_item he hit p.isList (x:=u) (by simpa using hu) hne fun h' out hit' ht hsz hk=>?_
  refine ⟨_,rfl,wpAny_letOwnedTupleGo_enum out fun h'' he'' sb=>?_⟩
  have fr:=I.fresh
  have hk2:∀ b o,b ≠ e->b ≠ it->s.heap.get? b=some o->h''.get? b=some o:=fun b o h1 h2 eo=>(sb.2 b h1).trans (hk b o h1 h2 eo)
  have hse:s.heap.objs.size ≠ e:=Nat.ne_of_gt (Heap.lt_size he)
  have ht2:h''.get? s.heap.objs.size=some { cls:=.type "tuple",data:=.seq #[.int i s.toks,u] }:=(sb.2 _ hse).trans ht
  have ne':∀ b,H b ≠ none->b ≠ e/\b ≠ it:=fun b hb=>⟨fun z=>hb (by rw [z];exact (hf e (by simp)).1),fun z=>hb (by rw [z];exact (hf it (by simp)).1)⟩
  have I1:Inv X pins σ (upd H s.heap.objs.size (.tup [.int (i:Int),x])) { s with heap:=h'',toks:=s.toks + 1 }:=by
   refine I.call' (s':={ s with heap:=h'',toks:=s.toks + 1 }) (ch:=[e,it]) rfl ⟨fun b o q n hfs hx=>hk2 b o (fun z=>hx (by simp [z])) (fun z=>hx (by simp [z])) q,fun b o q n hfs hx=>⟨o.slots,hk2 b o (fun z=>hx (by simp [z])) (fun z=>hx (by simp [z])) q⟩,
    fun b o q n hx=>?_,fun b o q hx=>⟨o,hk2 b o (fun z=>hx (by simp [z])) (fun z=>hx (by simp [z])) q⟩,fun b ys q=>?_,fun b o v q=>?_,fun b ps q=>?_⟩ (fun b o q=>?_) I.bare fun b hb=>?_
   ·rw [aJ (Nat.ne_of_lt (Heap.lt_size q))];exact n
   ·rw [aJ (bo q fr)];exact q
   ·rw [aJ (bo q fr)];exact q
   ·exact ⟨#[],by rw [aJ (bo q fr),q];simp⟩
   ·by_cases hb:b=s.heap.objs.size
    ·subst hb
     rw [bi] at q;cases q
     exact ⟨by show 2<=sizeLine;decide,[.int i s.toks,u],.cons ⟨_,rfl⟩ (.cons ru .nil),⟨_,ht2,rfl,_,rfl⟩⟩
    ·rw [aJ hb] at q
     refine (I.hok b o q).stay (fun c v hc qv=>?_) (fun c qc=>by rw [aJ (bo qc fr)];exact qc) fun c ys qc=>by rw [aJ (bo qc fr)];exact qc
     have hcn:H c ≠ none:=by
      rcases hc with z | z
      ·rw [z,q];simp
      ·rw [z];simp
     obtain ⟨n1,n2⟩:=ne' c hcn
     exact hk2 c v n1 n2 qv
   ·obtain ⟨g0,g1,g2,g3,g4,g5⟩:=hf b hb
    exact ⟨g3,g1,g4,g5⟩
  refine ⟨.ref s.heap.objs.size,_,I1,rfl,⟨_,x,fr,rfl,rfl,fun ys hy=>by rw [I.list_inj hy hq];exact hx⟩,⟨⟨u,?_⟩,?_⟩,fun b hb=>?_⟩
  ·have:((i:Int) + 1)=((i + 1:Nat):Int):=by push_cast;rfl
   rw [this] at he'';exact he''
  ·exact hit'.at fun o q=>(sb.2 it (Ne.symm hne)).trans q
  ·have hb':=(hf b hb).1
   have hlt:b < s.heap.objs.size:=by
    have hb:b=e\/b=it:=by simpa using hb
    rcases hb with rfl | rfl
    ·exact Heap.lt_size he
    ·obtain ⟨o,eo,_⟩:=hit;exact Heap.lt_size eo
   rw [aJ (Nat.ne_of_lt hlt)];exact hb'
 done:=by
  intro X hP hw hK hc i pins s σ H E I hf st hg
  subst hP hw hK
  obtain ⟨⟨old,he⟩,hit⟩:=st
  obtain ⟨xs,hq,hx⟩:=hg
  obtain ⟨its,rv,p,hz⟩:=I.list hq
  obtain ⟨f0,f1,f2,f3,f4,f5⟩:=hf it (by simp)
  have hl:=rv.length
  exact wpAny_pyNext_enum_end (I.ok.hd hc) he hit p.isList (by simp;omega) fun h' eb=>⟨rfl,I.turned (t':=s.toks) (fun b o hb q=>eb b o hb q) f0 f1 f3 f4 f5⟩
 self:=fun _ _ _ _ _ st h=>by
  obtain ⟨⟨old,he⟩,_⟩:=st
  exact wpAny_pyIter_enum he h
noncomputable def enu:Nat->List D->List D
 | _,[]=>[]
 | k,x :: r=>.tup [.int (k:Int),x] :: enu (k + 1) r
theorem uE:∀ (k:Nat) (xs:List D),(enu k xs).length=xs.length
 | _,[]=>rfl
 | k,x :: r=>by simp [enu,uE]
theorem tx:∀ {k:Nat} {xs:List D} {i:Nat} {y:D},(enu k xs)[i]?=some y->∃ x,xs[i]?=some x/\y=.tup [.int ((k + i:Nat):Int),x]
 | _,[],_,_,e=>by simp [enu] at e
 | k,x :: r,0,y,e=>by
  simp [enu] at e
  exact ⟨x,rfl,by rw [<- e];rfl⟩
 | k,x :: r,i + 1,y,e=>by
  have e:(enu (k + 1) r)[i]?=some y:=by simpa [enu] using e
  obtain ⟨z,h1,h2⟩:=tx e
  refine ⟨z,by simpa using h1,?_⟩
  rw [h2,show k + 1 + i=k + (i + 1) by omega]
theorem uY {K:PySem.W.Frag} {a:Addr} {vs:List V} {xs:List D} {M:Hp} (e:M a=some (.lst vs)) (h:HasL K C M vs xs):qP K C (Ite K a) (enu 0 xs) M where
 go:=fun i y H2 s hy=>by
  obtain ⟨x,hx,rfl⟩:=tx hy
  obtain ⟨v,e1,h1⟩:=h.get hx
  refine ⟨⟨vs,v,SqL.of (s _ _ e),e1⟩,fun v' H3 y=>?_⟩
  obtain ⟨p,x',hp,rfl,rfl,y⟩:=y
  have e2:=y vs (SqL.of (s _ _ e))
  rw [e1] at e2;cases e2
  refine ⟨a_ hp,fun ρ σ hown m=>?_⟩
  have em:msk ρ σ (upd H2 p (.tup [.int (i:Int),v])) p=some (.tup [.int (i:Int),v]):=msk_some.mpr ⟨fun z=>hown p z hp,bi⟩
  refine .tup em (.cons ?_ (.cons (h1.mono (m.trans (br (a_ hp)))) .nil))
  rw [Nat.zero_add];exact .int _
 stop:=fun H2 s=>⟨vs,SqL.of (s _ _ e),by rw [uE,h.len];exact Nat.le_refl _⟩
theorem xV {es:List Expr} {k:Nat} {tp p pos:Pos} {l:Expr} {ta:TA} (hg:Gl X "enumerate") (hm:X.mg "enumerate"=none) (ha:PA X [l] ta) (hs:starEach [l] X.env=[(false,eval l X.env)]:=by rfl) :
  PI X (.Tuple es k tp) (.Call (.Name "enumerate" p) [l] [] pos) (fun σ H R=>ta σ H fun vs H1=>∃ a xs,vs=[.ref a]/\SqL X.K H1 a xs/\R (Ite X.K a) H1):=by
 intro pins s σ H R I h
 refine Call_ (iU I hg hm boot_enumerate (PyProof.Rows.callWith_type1 (thn (ha pos pins s σ H _ I h) fun us s1 zz0=>?_) hs rfl))
 obtain ⟨vs,H1,I1,r1,q1⟩:=zz0
 obtain ⟨a,xs,e,hq,q⟩:=q1
 subst e
 cases r1 with
 | cons r rr =>
  cases rr
  cases r
  obtain ⟨its,rv,pl,hz⟩:=I1.list hq
  refine call_enumerate_list pl.isList fun h' he hit hsz kp=>?_
  have I2:Inv X pins σ H1 { s1 with heap:=h' }:=I1.kept (t':=s1.toks) kp
  refine wpAny_pyIter_enum he ?_
  have ne:s1.heap.objs.size + 1 ≠ s1.heap.objs.size:=Nat.succ_ne_self _
  refine ⟨s1.heap.objs.size + 1,[s1.heap.objs.size + 1,s1.heap.objs.size],_,_,H1,rfl,I2,u0 a s1.heap.objs.size (s1.heap.objs.size + 1) ne,⟨⟨_,he⟩,hit⟩,fun b hb=>?_,q⟩
  have hb:b=s1.heap.objs.size + 1\/b=s1.heap.objs.size:=by simpa using hb
  have hle:s1.heap.objs.size<=b:=by
   rcases hb with z | z
   ·rw [z];exact Nat.le_succ _
   ·rw [z];exact Nat.le_refl _
  exact I1.fpOk hle (I1.hok.fresh hle)
noncomputable def tz:List D->R (List D)
 | [.lst xs]=>.val (enu 0 xs)
 | _=>.bad
noncomputable def fZ (F:Rho->R (List D)):Rho->R (List D):=fun ρ=>(F ρ).bind tz
theorem dW {es : List Expr} {k : Nat} {tp p pos : Pos} {l : Expr} {F : Rho -> R (List D)} (hg : Gl X "enumerate") (hm : X.mg "enumerate" = none) (ha : AD C X [l] F) (hs : starEach [l] X.env = [(false, eval l X.env)] := by rfl) :
    ID C X (.Tuple es k tp) (.Call (.Name "enumerate" p) [l] [] pos) (fZ F) := lW (xV hg hm ha hs) fun σ H R yy0 => by
     obtain ⟨ρ, ⟨H0, r⟩, q⟩ := yy0
     exact ⟨ρ, ⟨H0, r⟩, by
  unfold fZ at q
  cases e : F ρ with
  | val ds =>
    rw [e] at q
    intro vs H1 s1 h1
    dsimp only [DL.R.bind] at q
    unfold tz at q
    split at q
    · rename_i e0
      split at e0
      · rename_i xs
        cases e0
        cases h1 with
        | cons a b =>
          cases b
          cases a with
          | lst e1 g1 => exact ⟨_, _, rfl, SqL.of (msk_sub _ _ e1), q _ H1 s1 (uY e1 g1)⟩
      · cases e0
    · rename_i e0
      split at e0 <;> cases e0
    · exact q.elim
  | exc c => rw [e] at q; exact q
  | bad => rw [e] at q; exact q⟩
noncomputable def Bu:V->List V->Hp->VK->Prop:=fun x vs H Q=>∃ l xs i y,x=.ref l/\vs=[.int i,y]/\H l=some (.lst xs)/\0<=i/\i<=xs.length/\xs.length < LIM/\Q .non (upd H l (.lst (xs.take i.toNat ++ y :: xs.drop i.toNat)))
theorem vk:MtM X "list.insert" Bu:=by
 intro pins s σ H x vs v us Q I rx rv h
 obtain ⟨l,xs,i,y,rfl,rfl,hH,h0,h1,hz,q⟩:=h
 cases rx
 obtain ⟨ui,uy,rfl,⟨tk,rfl⟩,ry⟩:=rv.two
 obtain ⟨z,its,n,r,hl,e⟩:=I.lstM hH
 have hfit:¬(!Builtin.List.listFitsIndex i)=true:=by
  have h63:(xs.length:Int) < 2 ^ 63:=by
   have:xs.length < 100000:=hz
   omega
  have:Builtin.List.listFitsIndex i=true:=by
   unfold Builtin.List.listFitsIndex
   rw [Bool.and_eq_true]
   exact ⟨decide_eq_true (by omega),decide_eq_true (by omega)⟩
  rw [this];simp
 refine call_meets F.slot_list_insert ⟨_,e,rfl⟩ F.entry_list_insert (F.args_list_insert_3 _ _ _) (PySem.AutoListH.list_insert_list_int_val_1 l its.toArray n i tk uy hfit (by rw [List.size_toArray,<- hl];exact z)) ⟨e,?_⟩
 have hm:min i.toNat its.length=i.toNat:=by omega
 refine ⟨.non,_,I.lset (its':=its.take i.toNat ++ uy :: its.drop i.toNat) hH e ?_ ((r.take i.toNat).append (.cons ry (r.drop i.toNat))) ?_,rfl,q⟩
 ·have hlt:¬ i < 0:=by omega
  simp only [hlt,if_false,List.size_toArray,hm]
  apply Array.ext'
  simp [hm]
  exact List.take_of_length_le (by rw [List.length_drop];exact Nat.le_refl _)
 ·rw [List.length_append,List.length_cons,List.length_take,List.length_drop]
  have:xs.length < 100000:=hz
  have h2:(100000:Nat)<=sizeLine:=by decide
  omega
noncomputable def ins (i:Nat) (k e:Rho->R D):Rho->R Out:=fun ρ=>match ρ[i]? with
 | some (some (.own xs))=>(k ρ).bind fun n=>(e ρ).bind fun d=>match n with
  | .int n=>if 0<=n/\n<=xs.length/\xs.length < LIM then .val (.nx (ρ.set i (some (.own (xs.take n.toNat ++ d :: xs.drop n.toNat))))) else .bad
  | _=>.bad
 | _=>.bad
theorem vZ {i:Nat} {x:Str} {k e:Expr} {p ap cp pos:Pos} {Fk F:Rho->R D} (hv:PE X (.Name x p) (fN i)) (hk:ED C X k Fk) (he:ED C X e F)
  (hs:∀ {to:TE} {t:TA},PE X (.Name x p) to->PA X [k,e] t->PS X (.Expr (.Call (.Attribute (.Name x p) "insert" ap) [k,e] [] cp) pos) (mr (tBM X.K "list" Bu to t)):=by
   exact fun ho ha=>j0 (ub PySem.F.plainAttrs_list PySem.F.slot_list_insert PySem.F.type_list_insert vk ho ha))
  (hst:starEach [k,e] X.env=(false,eval k X.env) :: starEach [e] X.env:=by rfl) (hst2:starEach [e] X.env=(false,eval e X.env) :: starEach [] X.env:=by rfl) :
  SD C X (.Expr (.Call (.Attribute (.Name x p) "insert" ap) [k,e] [] cp) pos) (ins i Fk F) :=
 ck (hs hv (dN hk (dN he fh hst2) hst)) fun D σ H zz1=>by
  obtain ⟨_,H0,⟨ρ,rfl,r⟩,q⟩:=zz1
  unfold ins at q
  split at q
  ·rename_i xs e0
   obtain ⟨a,vs,e1,_,h1,h2⟩:=r.at_ i _ e0
   refine ⟨_,e1,.inl ⟨rfl,_,SqL.of h1⟩,ρ,⟨H0,r⟩,bj (P:=fun z _=>pS C X z H0 D) (fun c h=>eM r h) (fun h=>h) q fun n v H1 s1 h3 q1=>?_⟩
   refine ⟨ρ,⟨H0,r.mono s1⟩,bj (P:=fun z _=>pS C X z H0 D) (fun c h=>eM (r.mono s1) h) (fun h=>h) q1 fun d w H2 s2 h4 q2=>?_⟩
   cases n with
   | int n =>
    dsimp only at q2
    split at q2
    ·rename_i hl
     cases h3
     have h2':=h2.mono (br (ρ:=ρ) (σ:=σ) (s1.trans s2))
     refine ⟨a,vs,n,w,rfl,rfl,s2 _ _ (s1 _ _ h1),hl.1,by rw [h2.len];exact hl.2.1,by rw [h2.len];exact hl.2.2,?_⟩
     exact q2 _ _ ⟨_,rfl,((r.mono s1).mono s2).write e0 e1 ((h2'.take _).app (.cons h4 (h2'.drop _)))⟩
    ·exact q2.elim
   | _=>exact q2.elim
  ·exact q.elim
noncomputable def Bv (K:PySem.W.Frag) (C:Addr) (neg:Bool):R2:=fun v w H Q=>∃ x a vs ys,eqb 8 x=true/\ys.all (eqb 8)=true/\Has K C H v x/\w=.ref a/\H a=some (.lst vs)/\HasL K C H vs ys/\Q (.bl (if neg then !(ys.any fun y=>pyq 8 y x) else ys.any fun y=>pyq 8 y x)) H
open Classical in
theorem yr {pins:List (Addr × Obj)} {σ:St} {H:Hp} {s:Shared} (I:Inv X pins σ H s) {A:Around} (hu:A.units + 9 < cLine) {x:D} {v:V} {u:Value} {its:List Value} {vs:List V} {ys:List D} (e1:eqb 8 x=true) (e2:ys.all (eqb 8)=true) (h1:Has X.K C H v x) (rx:RelV v u)
  (h2:HasL X.K C H vs ys) (r:Vals vs its):∃ e:Value->Bool,(∀ y,y ∈ its.toArray->SeqAt.EqAt A.in1 s y u (e y))/\its.toArray.any e=ys.any fun y=>pyq 8 y x:=by
 have key:∀ (j:Nat) (t:Value) (d:D),its[j]?=some t->ys[j]?=some d->∃ w,RelV w t/\Has X.K C H w d:=fun j t d q1 q2=>by
  obtain ⟨w,g1,g2⟩:=h2.get q2
  obtain ⟨t',g3,g4⟩:=r.get g1
  rw [q1] at g3;cases g3
  exact ⟨w,g4,g2⟩
 have mem8:∀ (j:Nat) d,ys[j]?=some d->eqb 8 d=true:=fun j d q=>List.all_eq_true.mp e2 d (List.mem_of_getElem? q)
 refine ⟨fun t=>decide (∃ (j:Nat) (d:D),its[j]?=some t/\ys[j]?=some d/\pyq 8 d x=true),fun t ht=>?_,?_⟩
 ·have ht:t ∈ its:=by simpa using ht
  obtain ⟨j,hj,rfl⟩:=List.mem_iff_getElem.mp ht
  have hl:its.length=ys.length:=by rw [<- r.length,h2.len]
  have q1:its[j]?=some its[j]:=by simp [hj]
  have q2:ys[j]?=some (ys[j]'(by omega)):=by simp [show j < ys.length by omega]
  obtain ⟨w,g1,g2⟩:=key j _ _ q1 q2
  have ok:=(zn I 8 (A:=A.in1) (by show A.units + 1 + 8 < cLine;omega) (mem8 j _ q2) e1 g2 h1 g1 rx).2
  have:decide (∃ (j':Nat) (d:D),its[j']?=some its[j]/\ys[j']?=some d/\pyq 8 d x=true)=pyq 8 (ys[j]'(by omega)) x:=by
   cases hp:pyq 8 (ys[j]'(by omega)) x with
   | true=>exact decide_eq_true ⟨j,_,q1,q2,hp⟩
   | false =>
    refine decide_eq_false fun zz2=>?_
    obtain ⟨j',d,z1,z2,z3⟩:=zz2
    obtain ⟨w',g1',g2'⟩:=key j' _ _ z1 z2
    have ew:w'=w:=RelV.inj g1' g1
    subst ew
    have:=Has.inj (mem8 j' d z2) (mem8 j _ q2) g2' g2
    rw [<- this,z3] at hp;cases hp
  show SeqAt.EqAt A.in1 s its[j] u (decide (∃ (j':Nat) (d:D),its[j']?=some its[j]/\ys[j']?=some d/\pyq 8 d x=true))
  rw [this];exact ok
 ·have hl:its.length=ys.length:=by rw [<- r.length,h2.len]
  rw [Bool.eq_iff_iff]
  simp only [Array.any_eq_true,List.any_eq_true,decide_eq_true_eq]
  constructor
  ·rintro ⟨i,hi,j,d,q1,q2,q3⟩
   exact ⟨d,List.mem_of_getElem? q2,q3⟩
  ·rintro ⟨d,hd,q3⟩
   obtain ⟨j,hj,rfl⟩:=List.mem_iff_getElem.mp hd
   have hj':j < its.length:=by omega
   exact ⟨j,by simpa using hj',j,ys[j],by simp [hj'],by simp [hj],q3⟩
theorem vh (hu:X.A.units + 9 < cLine):OpR X (compareOp .NotIn) (Bv X.K C true):=by
 intro pins s σ H x y v u Q I rx ry h
 obtain ⟨d,a,vs,ys,e1,e2,h1,rfl,hH,h2,q⟩:=h
 cases ry
 obtain ⟨its,r,pl,hz⟩:=I.list (SqL.of hH)
 obtain ⟨e,he,hany⟩:=yr I hu e1 e2 h1 rx h2 r
 exact SeqAt.notIn_listAt e pl.isList he ⟨.bl _,H,I,by rw [hany];rfl,q⟩
noncomputable def lD (neg:Bool) (x y:D):R D:=match y with
 | .lst ys=>if eqb 8 x=true/\ys.all (eqb 8)=true then .val (.bl (if neg then !(ys.any fun y=>pyq 8 y x) else ys.any fun y=>pyq 8 y x)) else .bad
 | _=>.bad
theorem Ag (neg:Bool):OpD C X (Bv X.K C neg) (lD neg):=by
 intro ρ σ H v w x y z Q r hx hy e k
 unfold lD at e
 split at e
 ·rename_i ys
  split at e
  ·rename_i hh
   cases e
   obtain ⟨a,vs,rfl,e1,h2⟩:=hy.lst msk_sub
   exact ⟨x,a,vs,ys,hh.1,hh.2,hx.has msk_sub,rfl,e1,h2.mono msk_sub,k _ H (Same.refl _) (.bl _)⟩
  ·cases e
 ·cases e
theorem BB (neg:Bool):fM (lD neg):=fun x y c e=>by
 unfold lD at e
 split at e
 ·split at e <;> cases e
 ·cases e
theorem zx {a b:Expr} {pos:Pos} {Fa Fb:Rho->R D} (hu:X.A.units + 9 < cLine) (ha:EB C X a Fa) (hb:EB C X b Fb) (hm:behindInMarks .NotIn b=false:=by rfl):TD C X (.Compare a [.NotIn] [b] pos) (tst (bin (lD true) Fa Fb)):=kC (vh (C:=C) hu) (BB _) (Ag _) ha hb hm
end DL
namespace DL
open PySem PySem.Spec PyProof.Rows L2
open AutoSeq1 (wpAny_loadPart')
section
variable {prog:Program} {w:World} {A:Around} {E:Value->Shared->Prop} {s:Shared}
theorem kz {Q:List Value->Shared->Prop} {r:Addr} {a b c:Int} {t u v:Tok} {n:Nat} (hh:A.handled=none) (hr:IsRange s.heap r a b c t u v) (hsmall:Builtin.Range.small a b c=true)
  (hn:Builtin.Range.rangeSize a b c=n) (hlen:n<=2 ^ 24)
  (hQ:∀ h' tk acc,(∀ b o',s.heap.get? b=some o'->h'.get? b=some o')->ItemsOf (fun i v=>∃ t,v=.int (a + i * c) t) acc n->Q acc.toList { s with heap:=h',toks:=tk }) :
  wpAny (model prog w) A (collect (.ref r)) Q E s:=by
 unfold collect
 refine wpAny_bind (wpAny_runValue (codeAny_builtin F.entry_proto_collect ?_))
 rw [Around.under_plainId F.plain_proto_collect _]
 show wpAny _ A.in1 (newList [] >>= fun l=>again (.builtin "list.__iadd__" ⟨[l,.ref r],[]⟩)) _ _ s
 refine wpAny_bind (wpAny_newObj_type ?_)
 refine wpAny_pure ⟨plainId_quiet F.plain_list_iadd _,codeAny_builtin F.entry_list_iadd ?_⟩
 rw [Around.under_plainId F.plain_list_iadd _]
 show wpAny _ A.in1 (Builtin.List.listExtendWith (.ref s.heap.objs.size) (.ref r) (.ref s.heap.objs.size)) _ _ _
 have hS:(s.heap.push { cls:=.type "list",data:=.seq ([]:List Value).toArray }).get? s.heap.objs.size=some { cls:=.type "list",data:=.seq #[] 0 }:=Heap.get?_push_size _ rfl
 have fin':∀ h' tk acc c',(∀ b o',s.heap.get? b=some o'->h'.get? b=some o')->h'.get? s.heap.objs.size=some { cls:=.type "list",dict:=none,data:=.seq acc c',slots:=#[] }->ItemsOf (fun i v=>∃ t,v=.int (a + i * c) t) acc n ->
   wpAny (model prog w) A (match Value.ref s.heap.objs.size with
   | Value.ref a=>do
    match (<- load a).data with
     | Data.seq xs _=>pure xs.toList
     | _=>unsupported "internal:collect"
   | _=>unsupported "internal:collect") Q E { s with heap:=h',toks:=tk }:=fun h' tk acc c' hk hS' hacc=>by
  show wpAny _ A (load s.heap.objs.size >>= _) _ _ _
  refine wpAny_bind (wpAny_load hS' ?_)
  exact wpAny_pure (hQ h' tk acc hk hacc)
 refine wpAny_mono (wpAny_extend_range (A:=A) (R:=fun res s'=>∃ h' tk acc c',res=.ok (.ret (.ref s.heap.objs.size))/\s'={ s with heap:=h',toks:=tk }/\(∀ b o',s.heap.get? b=some o'->h'.get? b=some o') /\
   h'.get? s.heap.objs.size=some { cls:=.type "list",dict:=none,data:=.seq acc c',slots:=#[] }/\ItemsOf (fun i v=>∃ t,v=.int (a + i * c) t) acc n)
  (s:={ s with heap:=s.heap.push { cls:=.type "list",data:=.seq ([]:List Value).toArray } }) hh (Heap.get?_push_of_some _ hr) hsmall hn hlen s.heap.objs.size _ 0 hS fun h' tk acc' c' hk hS' hacc=>⟨h',tk,acc',c',rfl,rfl,fun b o' hb=>hk b o' (Nat.ne_of_lt (Heap.lt_size hb)) (Heap.get?_push_of_some _ hb),hS',hacc⟩) (fun fin s' h=>?_) (fun e s' h=>?_)
 ·cases fin with
  | done f =>
   obtain ⟨h',tk,acc,c',e,rfl,hk,hS',hacc⟩:=h
   cases e
   exact fin' h' tk acc c' hk hS' hacc
  | again c'=>exact ⟨h.1,codeAny_mono h.2 fun r s'' hr=>by obtain ⟨h',tk,acc,c',rfl,rfl,hk,hS',hacc⟩:=hr;exact fin' h' tk acc c' hk hS' hacc⟩
 ·obtain ⟨_,_,_,_,e,_⟩:=h
  exact absurd e (by simp)
theorem i6 {Q₁:Value->Shared->Prop} {r:Addr} {a b c:Int} {t u v:Tok} {n:Nat} (hh:A.handled=none) (hr:IsRange s.heap r a b c t u v) (hsmall:Builtin.Range.small a b c=true)
  (hn:Builtin.Range.rangeSize a b c=n) (hlen:n<=2 ^ 24)
  (h:∀ (h':Heap) (tk:Nat) (acc:Array Value),(∀ b o',s.heap.get? b=some o'->h'.get? b=some o')->ItemsOf (fun i v=>∃ t,v=.int (a + i * c) t) acc n->Q₁ (.ref h'.objs.size) { s with heap:=h'.push { cls:=.type "tuple",data:=.seq acc },toks:=tk }) (hsz:n<=sizeLine) :
  codeAny (model prog w) A (.call (.builtin "tuple.__new__") ⟨[.type "tuple",.ref r],[]⟩) (wants Q₁ E) s:=by
 refine codeAny_of_tree ?_
 show wpAny _ A.in1 (do checkBuiltinCall "tuple.__new__" ⟨[.type "tuple",.ref r],[]⟩;again (.builtin "tuple.__new__" ⟨[.type "tuple",.ref r],[]⟩)) _ _ s
 refine wpAny_bind (wpAny_of_eq (F.newCall_tuple_1 _) (wpAny_pure ⟨plainId_quiet F.plain_tuple_new _,codeAny_builtin F.entry_tuple_new ?_⟩))
 rw [Around.under_plainId F.plain_tuple_new _]
 have hsub:=sub_tuple_self
 have hinit:=init_tuple_lookup
 have hmh:=madeHere_tuple
 have hTI:s.TypeIs (.ref r) "range":=⟨_,hr,rfl⟩
 have hhi:A.in1.handled=none:=hh
 wp_walk using wpAny_typeOf hTI,kz (A:=A.in1) hhi hr hsmall hn hlen
 intro h' tk acc hk hacc
 show wpAny _ _ (Builtin.Tuple.tupleExact acc.toList.toArray >>= fun v=>PySem.ret v) _ _ _
 unfold Builtin.Tuple.tupleExact
 refine wpAny_bind (wpAny_newObj_type ?_ (by show acc.toList.toArray.size<=sizeLine;simp only [Array.toArray_toList];rw [hacc.1];exact hsz))
 refine wpAny_pure ?_
 have e:acc.toList.toArray=acc:=by simp
 rw [e]
 exact h h' tk acc hk hacc
theorem kR {Q:Value->Shared->Prop} {r:Addr} {a b c:Int} {t u v:Tok} {n:Nat} (hh:A.handled=none) (hr:IsRange s.heap r a b c t u v) (hsmall:Builtin.Range.small a b c=true)
  (hn:Builtin.Range.rangeSize a b c=n) (hlen:n<=2 ^ 24)
  (h:∀ (h':Heap) (tk:Nat) (acc:Array Value),(∀ b o',s.heap.get? b=some o'->h'.get? b=some o')->ItemsOf (fun i v=>∃ t,v=.int (a + i * c) t) acc n->Q (.ref h'.objs.size) { s with heap:=h'.push { cls:=.type "tuple",data:=.seq acc },toks:=tk }) (hsz:n<=sizeLine) :
  wpAny (model prog w) A (call (.type "tuple") [.ref r]) Q E s:=by
 refine callType_codes (Q₁:=fun obj s₁=>s₁.TypeIs obj "tuple"/\Q obj s₁) F.called_tuple (F.typeCall_tuple_1 _) F.entry_object_init
  (i6 hh hr hsmall hn hlen (fun h' tk acc hm hacc=>⟨⟨_,Heap.get?_push_size _ rfl,rfl⟩,h h' tk acc hm hacc⟩) hsz) fun obj s₁ h₁=>?_
 exact ⟨h₁.1,F.args_object_init_2 obj _,object_init_meets F.called_tuple.init.lookup F.called_tuple.made (by decide) prog w A.in1 _ s₁ ⟨h₁.1,rfl,h₁.2⟩⟩
end
section
variable {C:Addr} {X:Cx}
noncomputable def Cm (ta:TA):TE:=fun σ H Q=>ta σ H fun vs H1=>∃ j:Int,vs=[.int j]/\-(2 ^ 62)<=j/\j < 2 ^ 62/\∀ r,H1 r=none->Q (.ref r) (upd H1 r (.rng 0 j))
theorem wp {a:Expr} {ta:TA} {p pos:Pos} (hg:Gl X "range") (hm:X.mg "range"=none) (ha:PA X [a] ta) (hs:starEach [a] X.env=[(false,eval a X.env)]:=by rfl):PE X (.Call (.Name "range" p) [a] [] pos) (Cm ta):=by
 intro pins s σ H Q I h
 refine Call_ (iU I hg hm boot_range (PyProof.Rows.callWith_type1 (thn (ha pos pins s σ H _ I h) fun us s1 zz0=>?_) hs rfl))
 obtain ⟨vs,H1,I1,r1,q1⟩:=zz0
 obtain ⟨j,e,q1,q2,q⟩:=q1
 subst e
 cases r1 with
 | cons r rr =>
  cases rr
  obtain ⟨t,rfl⟩:=r
  refine call_range_1 ?_
  exact ⟨.ref s1.heap.objs.size,_,I1.laid (a:=s1.heap.objs.size) (o:=.rng 0 j) (fun b u e=>Heap.get?_push_of_some _ e) (Nat.le_refl _) ⟨_,_,_,Heap.get?_push_size _ rfl⟩,rfl,q _ I1.fresh⟩
theorem mn {acc:List Value} {n:Nat} (h:acc.length=n) (hv:∀ (j:Nat) v,acc[j]?=some v->∃ t,v=.int (0 + (j:Int) * 1) t):Vals ((List.range n).map fun (k:Nat)=>V.int (0 + (k:Int))) acc:=by
 induction n generalizing acc with
 | zero=>cases acc with
  | nil=>exact .nil
  | cons x r=>simp at h
 | succ n ih =>
  have hne:acc ≠ []:=by intro z;rw [z] at h;cases h
  have e:acc=acc.dropLast ++ [acc.getLast hne]:=(List.dropLast_concat_getLast hne).symm
  have hl:acc.dropLast.length=n:=by rw [List.length_dropLast,h];rfl
  rw [List.range_succ,List.map_append,e]
  refine Vals.append (ih hl fun j v q=>?_) (.cons ?_ .nil)
  ·refine hv j v ?_
   rw [e,List.getElem?_append_left (List.getElem?_eq_some_iff.mp q).1];exact q
  ·obtain ⟨t,et⟩:=hv n (acc.getLast hne) (by rw [List.getLast_eq_getElem,List.getElem?_eq_getElem (by omega)];congr 1;simp [h])
   exact ⟨t,by rw [et];simp⟩
noncomputable def v9:List V->Hp->VK->Prop:=fun xs H Q=>∃ r j,xs=[.ref r]/\H r=some (.rng 0 j)/\-(2 ^ 62)<=j/\j<=100000/\∀ p,H p=none->Q (.ref p) (upd H p (.tup ((List.range j.toNat).map fun (k:Nat)=>V.int (0 + (k:Int)))))
theorem i9 (hc:X.calm=true):jB X (.type "tuple") v9:=by
 intro pins s σ H xs us Q I r h
 obtain ⟨ra,j,rfl,hq,hj0,hj,q⟩:=h
 obtain ⟨u,rfl,rx⟩:=mq r
 cases rx
 obtain ⟨t,u',v',e⟩:=I.hok ra _ hq
 have hn:Builtin.Range.rangeSize 0 j 1=(j.toNat:Nat):=by rw [rangeSize_one];split <;> omega
 have hsm:Builtin.Range.small 0 j 1=true:=small_one (by decide) (by decide) hj0 (by omega)
 refine kR (n:=j.toNat) (I.ok.hd hc) e hsm hn (by omega) (fun h' tk acc hk hacc=>?_) (Nat.le_trans (show j.toNat<=100000 by omega) (by decide))
 have I1:Inv X pins σ H { s with heap:=h',toks:=tk }:=I.kept hk
 have hv:Vals ((List.range j.toNat).map fun (k:Nat)=>V.int (0 + (k:Int))) acc.toList:=mn (by simpa using hacc.1) fun i v q=>hacc.2 i v (by simpa using q)
 have I2:Inv X pins σ (upd H h'.objs.size (.tup ((List.range j.toNat).map fun (k:Nat)=>V.int (0 + (k:Int))))) { s with heap:=h'.push { cls:=.type "tuple",data:=.seq acc },toks:=tk } :=
  I1.laid (t':=tk) (fun b o e=>Heap.get?_push_of_some _ e) (Nat.le_refl _) (show ObjOk X.prog X.w _ _ _ (.tup _) from ⟨by rw [List.length_map,List.length_range];exact Nat.le_trans (show j.toNat<=100000 by omega) (by decide),acc.toList,hv,by simpa using IsTup.new _ _⟩)
 exact ⟨.ref h'.objs.size,_,I2,rfl,q _ I1.fresh⟩
noncomputable def rgT:List D->R D
 | [.int j]=>if -(2 ^ 62)<=j/\j<=100000 then .val (.tup (rng 0 j.toNat)) else .bad
 | _=>.bad
noncomputable def i3 (F:Rho->R (List D)):Rho->R D:=fun ρ=>(F ρ).bind rgT
theorem r_ {K:PySem.W.Frag} {H:Hp} (n:Nat):HasL K C H ((List.range n).map fun (k:Nat)=>V.int (0 + (k:Int))) (rng 0 n):=by
 unfold rng
 induction List.range n with
 | nil=>exact .nil
 | cons x r ih=>exact .cons (.int _) ih
theorem ss {a : Expr} {p p2 pos pos2 : Pos} {F : Rho -> R (List D)} (hc : X.calm = true) (ha : AD C X [a] F) (hgr : Gl X "range") (hmr : X.mg "range" = none) (hgt : Gl X "tuple") (hmt : X.mg "tuple" = none)
    (hs : starEach [a] X.env = [(false, eval a X.env)] := by rfl) (hs2 : starEach [.Call (.Name "range" p2) [a] [] pos2] X.env = (false, eval (.Call (.Name "range" p2) [a] [] pos2) X.env) :: starEach [] X.env := by rfl)
    (hs3 : ∀ t : TA, PA X [.Call (.Name "range" p2) [a] [] pos2] t -> PE X (.Call (.Name "tuple" p) [.Call (.Name "range" p2) [a] [] pos2] [] pos) (tCB v9 t) := by
      exact fun t ha => bw (i9 (by assumption)) (by assumption) (by assumption) PySem.boot_tuple ha) :
    ED C X (.Call (.Name "tuple" p) [.Call (.Name "range" p2) [a] [] pos2] [] pos) (i3 F) :=
  aW (hs3 _ (dN (wp hgr hmr ha hs) fh hs2)) fun σ H Q yy0 => by
   obtain ⟨ρ, ⟨H0, r⟩, q⟩ := yy0
   exact ⟨ρ, ⟨H0, r⟩, eG (P := fun z H => pV X (eV C X ρ σ) z σ H Q) (fun _ h => h) (fun h => h) q fun ds vs H1 s1 h1 q1 => by
    unfold rgT at q1
    split at q1
    · rename_i j
      split at q1
      · rename_i hj
        cases h1 with
        | cons a b =>
          cases a; cases b
          refine ⟨j, rfl, hj.1, by omega, fun ra hra => ⟨ra, j, rfl, bi, hj.1, hj.2, fun pa hpa => q1 _ _ ((s1.trans (a_ hra)).trans (a_ hpa)) ?_⟩⟩
          exact .tup (((r.mono s1).mono (a_ hra)).new hpa) (r_ _)
      · exact q1.elim
    · exact q1.elim⟩
end
end DL
namespace DL
open PySem PySem.Spec PyProof.Rows L2
noncomputable def IsArr (h:Heap) (k:KA) (a:Addr):Prop:=∃ ta t1 t2 its,IsTup h a #[.int k.1 t1,.int k.2.1 t2,.ref ta]/\IsTup h ta its.toArray/\IntsAre its k.2.2
theorem rZ {prog:Program} {w:World}:∀ {its:List Value} {ks:List Int},IntsAre its ks->ItemsAre (intKind prog w) ks its
 | _,_,.nil=>.nil
 | _,_,.cons n t h=>.cons (by show Value.isInt n (.int n t)=true;simp [Value.isInt]) (rZ h)
theorem pj {prog:Program} {w:World} {h:Heap} {ta:Addr} {its:List Value} {ks:List Int} (h1:IsTup h ta its.toArray) (h2:IntsAre its ks):IsTupleKey (intKind prog w) h ks ta:=by
 obtain ⟨o,ho,hc,n,hd⟩:=h1
 exact ⟨o,its.toArray,n,ho,hc,hd,by simpa using rZ h2⟩
theorem lj:∀ {its:List Value} {ks ls:List Int},IntsAre its ks->IntsAre its ls->ks=ls
 | _,_,_,.nil,.nil=>rfl
 | _,_,_,.cons n t h,.cons _ _ h'=>by rw [lj h h']
theorem oW {h:Heap} {a:Addr} {x y:Array Value} (h1:IsTup h a x) (h2:IsTup h a y):x=y:=by
 obtain ⟨o,ho,hc,n,hd⟩:=h1
 obtain ⟨o',ho',hc',n',hd'⟩:=h2
 rw [ho] at ho';cases ho'
 rw [hd] at hd';injection hd'
theorem IsArr.inj {h:Heap} {k l:KA} {a:Addr} (h1:IsArr h k a) (h2:IsArr h l a):k=l:=by
 obtain ⟨ta,t1,t2,its,q1,q2,q3⟩:=h1
 obtain ⟨tb,u1,u2,jts,p1,p2,p3⟩:=h2
 have e:=oW q1 p1
 have e':=congrArg Array.toList e
 simp only [List.cons.injEq,Value.int.injEq,Value.ref.injEq] at e'
 obtain ⟨⟨e1,_⟩,⟨e2,_⟩,e3,_⟩:=e'
 subst e3
 have e4:=oW q2 p2
 have e5:its=jts:=by simpa using congrArg Array.toList e4
 subst e5
 have e6:=lj q3 p3
 obtain ⟨a1,a2,a3⟩:=k
 obtain ⟨b1,b2,b3⟩:=l
 simp only at e1 e2 e6
 rw [e1,e2,e6]
theorem li {h h':Heap} {a d:Addr} {o:Obj} {es ep} {x:Array Value} (hx:IsTup h a x) (ho:h.get? d=some o) (hd:o.data=.dict es ep) (hs:Heap.SameBut d h h'):IsTup h' a x:=by
 obtain ⟨o',ho',hc,n,hd'⟩:=hx
 have hne:a ≠ d:=by
  rintro rfl
  rw [ho] at ho';cases ho'
  rw [hd] at hd';cases hd'
 exact ⟨o',(hs.2 a hne).trans ho',hc,n,hd'⟩
section
variable {prog:Program} {w:World} {A:Around} {E:Value->Shared->Prop} {s:Shared}
theorem sU {k:KA} {a:Addr} {Q:Int->Shared->Prop} (hu:A.units + 2 < cLine) (hk:IsArr s.heap k a) (h:Q (lZ k) { s with toks:=s.toks + (k.2.2.length + 4) }):wpAny (model prog w) A (pyHash (.ref a)) Q E s:=by
 obtain ⟨ta,t1,t2,its,q1,q2,q3⟩:=hk
 have hT:s.TypeIs (.ref a) "tuple":=let ⟨o,ho,hc,_⟩:=q1;⟨o,ho,hc⟩
 obtain ⟨o,ho,_,n,hd⟩:=id q1
 unfold pyHash
 first | unfold pyHashByItsType | skip
 first | refine wpAny_bind (wpAny_cRoomFor_or (.inr (by omega)) ?_) | skip
 refine wpAny_bind (wpAny_specialOf hT F.slot_tuple_hash.lookup ?_)
 show wpAny _ _ (if (some (Value.builtin "tuple.__hash__") == some Value.none)=true then _ else _) Q E s
 rw [if_neg (by rw [beq_builtin_none];exact Bool.false_ne_true)]
 refine wpAny_bind (wpAny_specialOf hT F.slot_tuple_hash.lookup ?_)
 show wpAny _ _ (callSpecialIfBoundUnlessNone? (.ref a) "__hash__" _ >>= _) Q E s
 refine wpAny_bind (wpAny_callSpecialIfBoundUnlessNone?_slot hT F.slot_tuple_hash (wpAny_call_entry F.slot_tuple_hash hT F.entry_tuple_hash ?_ (F.args_tuple_hash_1 _)))
 show wpAny _ _ (Builtin.Tuple.tupleItemsOf (.ref a) >>= _) _ _ s
 refine wpAny_bind (wpAny_tupleItemsOf ho hd ?_)
 refine wpAny_bind ?_
 rw [<- Array.forIn_toList]
 simp only [List.forIn_cons,List.forIn_nil]
 refine wpAny_bind (wpAny_bind (wpAny_pyHash_int ?_))
 refine wpAny_pure ?_
 refine wpAny_bind (wpAny_bind (wpAny_pyHash_int ?_))
 refine wpAny_pure ?_
 refine wpAny_bind (wpAny_bind (wpAny_pyHash_tuple (knd:=intKind prog w) (ks:=k.2.2) (by show A.units + 1 < cLine;omega) (pj q2 q3) ?_))
 refine wpAny_pure (wpAny_pure ?_)
 show wpAny _ _ (retInt (Builtin.Tuple.tupleHashOf _)) _ _ _
 refine wpAny_ret_mkInt ?_
 have e:((((#[]:Array Int).push (hashInt k.1)).push (hashInt k.2.1)).push (tupleKeyHash (intKind prog w) k.2.2)).toList=[hashInt k.1,hashInt k.2.1,reduceHash (Builtin.Tuple.tupleHashOf (k.2.2.map hashInt))]:=rfl
 rw [e]
 unfold lZ at h
 generalize hg:Builtin.Tuple.tupleHashOf [hashInt k.1,hashInt k.2.1,reduceHash (Builtin.Tuple.tupleHashOf (k.2.2.map hashInt))]=G at h ⊢
 show wpAny _ _ (if (decide (-(2:Int) ^ 63<=G) && decide (G < 2 ^ 63))=true then _ else _) Q E _
 unfold reduceHash at h
 by_cases hr:(decide (-(2:Int) ^ 63<=G) && decide (G < 2 ^ 63))=true
 ·rw [if_pos hr]
  rw [if_pos hr] at h
  refine wpAny_pure ?_
  simpa [Nat.add_assoc,Nat.add_comm,Nat.add_left_comm] using h
 ·rw [if_neg hr]
  rw [if_neg hr] at h
  refine wpAny_bind (wpAny_rule (wpAny_pure ?_))
  simpa [Nat.add_assoc,Nat.add_comm,Nat.add_left_comm] using h
theorem xg {k l:KA} {a b:Addr} (hu:A.units + 2 < cLine) (hk:IsArr s.heap k a) (hl:IsArr s.heap l b):SeqAt.EqAt A s (.ref a) (.ref b) (decide (k=l)):=by
 by_cases hab:a=b
 ·subst hab
  rw [hk.inj hl,decide_eq_true rfl]
  exact SeqAt.EqAt.same _
 ·refine SeqAt.EqAt.of_refs hab ?_
  obtain ⟨ta,t1,t2,its,q1,q2,q3⟩:=hk
  obtain ⟨tb,u1,u2,jts,p1,p2,p3⟩:=hl
  have z:=SeqAt.RcAt.tuples (A:=A) (s:=s) (e:=fun j=>if j=0 then k.1 == l.1 else if j=1 then k.2.1 == l.2.1 else decide (k.2.2=l.2.2)) q1 p1 (by omega) fun j h1 h2=>by
   have hj:j=0\/j=1\/j=2:=by
    have:j < 3:=h1
    omega
   rcases hj with rfl | rfl | rfl
   ·exact SeqAt.EqAt.int_int _ _ _ _
   ·exact SeqAt.EqAt.int_int _ _ _ _
   ·exact fun prog w E Q hq=>wpAny_eqBool_tuple (knd:=intKind prog w) (by show A.units + 1 < cLine;omega) (pj q2 q3) (pj p2 p3) hq
  have e:((List.range (min (#[Value.int k.1 t1,.int k.2.1 t2,.ref ta]:Array Value).size (#[Value.int l.1 u1,.int l.2.1 u2,.ref tb]:Array Value).size)).all (fun j=>if j=0 then k.1 == l.1 else if j=1 then k.2.1 == l.2.1 else decide (k.2.2=l.2.2)) &&
    (#[Value.int k.1 t1,.int k.2.1 t2,.ref ta]:Array Value).size == (#[Value.int l.1 u1,.int l.2.1 u2,.ref tb]:Array Value).size)=decide (k=l):=by
   obtain ⟨a1,a2,a3⟩:=k
   obtain ⟨b1,b2,b3⟩:=l
   show ((List.range 3).all _ && true)=_
   rw [Bool.eq_iff_iff]
   simp [List.range_succ]
  rw [e] at z
  exact z
theorem u9 (n:Nat) {ks:List Int} {a:Addr} {Q:Bool->Shared->Prop} (hk:IsTupleKey (intKind prog w) s.heap ks a) (h:Q true s):wpAny (model prog w) A (eqIsQuiet (n + 1) (.ref a)) Q E s:=by
 have hT:=hk.typeIs
 obtain ⟨o,items,m,ho,_,hd,hi⟩:=hk
 unfold eqIsQuiet
 refine wpAny_bind (wpAny_specialOf hT F.slot_tuple_eq.lookup ?_)
 show wpAny _ _ (isInstance (.ref a) (.type "tuple") >>= _) _ _ s
 refine wpAny_bind (wpAny_isInstance hT isSubtype_tuple_tuple ?_)
 simp only [Bool.not_true,Bool.false_eq_true,if_false]
 refine wpAny_bind (wpAny_seqItems ho hd ?_)
 refine wpAny_bind ?_
 show wpAny _ _ (forIn items _ _) _ _ s
 rw [<- Array.forIn_toList]
 refine wpAny_forIn_list _ (fun rest r s'=>r.1=none/\s'=s/\∀ v ∈ rest,carriedByValue v=true) _ ?_ ?_ _ _ ⟨rfl,rfl,hi.byValue⟩
 ·rintro v rest r s' ⟨hr,rfl,hall⟩
  rw [eqIsQuiet_byValue _ (hall v List.mem_cons_self)]
  refine wpAny_bind (wpAny_pure ?_)
  simp only [Bool.not_true,Bool.false_eq_true,if_false]
  exact wpAny_pure ⟨rfl,rfl,fun u hu'=>hall u (List.mem_cons_of_mem _ hu')⟩
 ·rintro ⟨r1,r2⟩ s' ⟨hr,rfl,_⟩
  simp only at hr
  subst hr
  exact wpAny_pure h
theorem u_ {k:KA} {a:Addr} {Q:Bool->Shared->Prop} (hk:IsArr s.heap k a) (h:Q true s):wpAny (model prog w) A (eqIsQuiet 8 (.ref a)) Q E s:=by
 obtain ⟨ta,t1,t2,its,q1,q2,q3⟩:=hk
 have hT:s.TypeIs (.ref a) "tuple":=let ⟨o,ho,hc,_⟩:=q1;⟨o,ho,hc⟩
 obtain ⟨o,ho,_,n,hd⟩:=id q1
 unfold eqIsQuiet
 refine wpAny_bind (wpAny_specialOf hT F.slot_tuple_eq.lookup ?_)
 show wpAny _ _ (isInstance (.ref a) (.type "tuple") >>= _) _ _ s
 refine wpAny_bind (wpAny_isInstance hT isSubtype_tuple_tuple ?_)
 simp only [Bool.not_true,Bool.false_eq_true,if_false]
 refine wpAny_bind (wpAny_seqItems ho hd ?_)
 refine wpAny_bind ?_
 show wpAny _ _ (forIn (#[Value.int k.1 t1,.int k.2.1 t2,.ref ta]:Array Value) _ _) _ _ s
 rw [<- Array.forIn_toList]
 refine wpAny_forIn_list _ (fun rest r s'=>r.1=none/\s'=s/\∀ v ∈ rest,carriedByValue v=true\/v=.ref ta) _ ?_ ?_ _ _ ⟨rfl,rfl,fun v hv=>?_⟩
 ·rintro v rest r s' ⟨hr,rfl,hall⟩
  rcases hall v List.mem_cons_self with hv | rfl
  ·rw [eqIsQuiet_byValue _ hv]
   refine wpAny_bind (wpAny_pure ?_)
   simp only [Bool.not_true,Bool.false_eq_true,if_false]
   exact wpAny_pure ⟨rfl,rfl,fun u hu'=>hall u (List.mem_cons_of_mem _ hu')⟩
  ·refine wpAny_bind (u9 (prog:=prog) (w:=w) 6 (pj q2 q3) ?_)
   simp only [Bool.not_true,Bool.false_eq_true,if_false]
   exact wpAny_pure ⟨rfl,rfl,fun u hu'=>hall u (List.mem_cons_of_mem _ hu')⟩
 ·rintro ⟨r1,r2⟩ s' ⟨hr,rfl,_⟩
  simp only at hr
  subst hr
  exact wpAny_pure h
 ·have hv:v ∈ [Value.int k.1 t1,.int k.2.1 t2,.ref ta]:=hv
  simp only [List.mem_cons,List.not_mem_nil,or_false] at hv
  rcases hv with rfl | rfl | rfl
  ·exact .inl rfl
  ·exact .inl rfl
  ·exact .inr rfl
end
noncomputable def mj (prog:Program) (w:World):HeapKind prog w KA where
 is:=IsArr
 hash:=lZ
 draws:=fun k=>k.2.2.length + 4
 room:=fun A=>A.units + 2 < cLine
 inj:=fun hx hy=>hx.inj hy
 keeps:=fun hx ho hd hs=>by
  obtain ⟨ta,t1,t2,its,q1,q2,q3⟩:=hx
  exact ⟨ta,t1,t2,its,li q1 ho hd hs,li q2 ho hd hs,q3⟩
 pyHash:=fun hu hk h=>sU hu hk h
 eqBool:=fun hu hx hy h=>xg hu hx hy _ _ _ _ h
 quiet:=fun hk h=>u_ hk h
end DL
namespace DL
open PySem PySem.Spec PyProof.Rows L2
variable {C:Addr} {X:Cx}
theorem kf {pins:List (Addr × Obj)} {σ:St} {H:Hp} {s:Shared} (I:Inv X pins σ H s) {k:KA} {kb:Addr} (h:KeyIn H k kb):IsArr s.heap k kb:=by
 obtain ⟨ta,h1,h2⟩:=h
 obtain ⟨its,r,p,_⟩:=I.tuple (SqT.of h1)
 obtain ⟨jts,r2,p2,_⟩:=I.tuple (SqT.of h2)
 cases r with
 | cons a b =>
  cases b with
  | cons c d =>
   cases d with
   | cons e f =>
    cases f
    obtain ⟨t1,rfl⟩:=a
    obtain ⟨t2,rfl⟩:=c
    cases e
    exact ⟨ta,t1,t2,jts,p,p2,m9 r2⟩
theorem qA {pins:List (Addr × Obj)} {σ:St} {H:Hp} {s:Shared} (I:Inv X pins σ H s) {a:Addr} {xs:List (KA × Addr × Value)} (e:H a=some (km a xs)) (hk:∀ x ∈ xs,KeyIn H x.1 x.2.1) (nd:(xs.map (·.1)).Nodup) :
  s.heap.DictOfH (mj X.prog X.w) a xs/\(a == sysModules)=false/\xs.length<=100001:=by
 obtain ⟨⟨h1,hl,o,es,ep,h2,h3,h4,h5⟩,_⟩:=I.hok a _ e
 exact ⟨⟨o,es,ep,h2,h3,h4,h5,fun x hx=>kf I (hk x hx),nd⟩,h1,hl⟩
noncomputable def Cu:R2:=fun x y H Q=>∃ a xs kb k p v,x=.ref a/\y=.ref kb/\H a=some (km a xs)/\(∀ x ∈ xs,KeyIn H x.1 x.2.1)/\(xs.map (·.1)).Nodup/\KeyIn H k kb/\atKey xs k=some p/\RelV v p.2/\Q v H
theorem Ay (hu:X.A.units + 3 < cLine):IxR X Cu:=by
 intro value slice pins s σ H x y v u Q I rx ry h hs
 obtain ⟨a,xs,kb,k,p,v',rfl,rfl,e,hk,nd,hkey,hp,rp,q⟩:=h
 cases rx
 cases ry
 obtain ⟨hD,_,_⟩:=qA I e hk nd
 exact subscriptTail_builtinR (x:=p.2) hD.typeIs slot_dict_getitem.lookup
  (wpAny_getItem_heap (knd:=mj X.prog X.w) (Q:=fun r s'=>r=p.2/\EP X pins σ Q r s') (by show X.A.units + 1 + 2 < cLine;omega) (kf I hkey) hD hp ⟨rfl,v',H,I.tok _,rp,q⟩) hs
noncomputable def Cv (neg:Bool):R2:=fun x y H Q=>∃ a xs kb k,x=.ref kb/\y=.ref a/\H a=some (km a xs)/\(∀ x ∈ xs,KeyIn H x.1 x.2.1)/\(xs.map (·.1)).Nodup/\KeyIn H k kb/\Q (.bl (if neg then !(atKey xs k).isSome else (atKey xs k).isSome)) H
theorem yd (hu:X.A.units + 3 < cLine):OpR X (compareOp .NotIn) (Cv true):=by
 intro pins s σ H x y v u Q I rx ry h
 obtain ⟨a,xs,kb,k,rfl,rfl,e,hk,nd,hkey,q⟩:=h
 cases rx
 cases ry
 obtain ⟨hD,hs,_⟩:=qA I e hk nd
 exact wpAny_notIn_heap (knd:=mj X.prog X.w) (by show X.A.units + 1 + 2 < cLine;omega) (kf I hkey) hs hD ⟨.bl _,H,I.tok _,rfl,q⟩
noncomputable def Bo:y_:=fun o i v H Q=>∃ a xs kb k,o=.ref a/\i=.ref kb/\H a=some (km a xs)/\(∀ x ∈ xs,KeyIn H x.1 x.2.1)/\(xs.map (·.1)).Nodup/\KeyIn H k kb/\xs.length<=100000/\∀ u,RelV v u->((storedH xs k kb u).map (·.1)).Nodup->Q (upd H a (km a (storedH xs k kb u)))
theorem nI {a:Addr} {xs:List (KA × Addr × Value)}:∀ h1 h2:Heap,dOk a xs h1->(∀ o,h1.get? a=some o->h2.get? a=some o)->dOk a xs h2:=fun h1 h2 ⟨p1,p2,o,es,ep,e1,e2,e3,e4⟩ k=>⟨p1,p2,o,es,ep,k o e1,e2,e3,e4⟩
theorem tS (hu:X.A.units + 3 < cLine):B9 X Bo:=by
 intro pins s σ H o i v ov iv u Q I ro ri rv h
 obtain ⟨a,xs,kb,k,rfl,rfl,e,hk,nd,hkey,hl,q⟩:=h
 cases ro
 cases ri
 obtain ⟨hD,hs,_⟩:=qA I e hk nd
 refine wpAny_setItem_heap (knd:=mj X.prog X.w) (by show X.A.units + 1 + 2 < cLine;omega) (kf I hkey) hD (fun h' hD' sb=>?_) (Nat.le_trans hl (by decide))
 obtain ⟨o',es,ep,e1,e2,e3,e4,_,nd'⟩:=hD'
 have len:(storedH xs k kb u).length<=100001:=by
  cases z:atKey xs k with
  | none=>rw [storedH_new z];simp;omega
  | some p=>rw [storedH_old z];simp;omega
 refine ⟨_,I.write (x:=a) (e:=a) (by rw [e];exact True.intro) (.inl rfl) (fun b w hb z=>(sb.2 b hb).trans z) ⟨o',e1⟩ ?_,q u rv nd'⟩
 exact ⟨⟨hs,len,o',es,ep,e1,e2,e3,e4⟩,⟨o',e1⟩,nI⟩
noncomputable def m7 (kvs:List (KA × D)) (k:KA) (d:D):List (KA × D):=if (kvs.any fun p=>decide (p.1=k))=true then kvs.map (fun p=>if p.1=k then (p.1,d) else p) else kvs ++ [(k,d)]
noncomputable def tq (kvs:List (KA × D)) (k:KA):Option D:=(kvs.find? fun p=>decide (p.1=k)).map (·.2)
noncomputable def gY:List D->Option (List Int)
 | []=>some []
 | .int i :: r=>(gY r).map (i :: ·)
 | _=>none
noncomputable def oq:D->Option KA
 | .tup [.int a,.int b,.tup xs]=>(gY xs).map fun l=>(a,b,l)
 | _=>none
theorem jq {K:PySem.W.Frag} {M:Hp}:∀ {xs:List D} {l:List Int} {vs:List V},gY xs=some l->HasL K C M vs xs->vs=l.map V.int
 | [],l,vs,e,h=>by cases e;cases h;rfl
 | x :: r,l,vs,e,h=>by
  cases x with
  | int i =>
   rw [gY] at e
   cases z:gY r with
   | none=>rw [z] at e;cases e
   | some l' =>
    rw [z] at e;cases e
    cases h with
    | cons a b=>cases a;rw [jq z b];rfl
  | _=>cases e
theorem qf {K:PySem.W.Frag} {M:Hp} {d:D} {k:KA} {v:V} (e:oq d=some k) (h:Has K C M v d):∃ kb,v=.ref kb/\KeyIn M k kb:=by
 unfold oq at e
 split at e
 ·rename_i a b xs
  cases z:gY xs with
  | none=>rw [z] at e;cases e
  | some l =>
   rw [z] at e;cases e
   cases h with
   | tup q hl =>
    cases hl with
    | cons h1 hl =>
     cases h1
     cases hl with
     | cons h2 hl =>
      cases h2
      cases hl with
      | cons h3 hl =>
       cases hl
       cases h3 with
       | tup q2 g=>rw [jq z g] at q2;exact ⟨_,rfl,_,q,q2⟩
 ·cases e
section
variable {K:PySem.W.Frag} {M:Hp}
theorem qx:∀ {kvs:List (KA × D)} {xs:List (KA × Addr × Value)} {k:KA},Paired (EntOk K C M) kvs xs->(atKey xs k).isSome=kvs.any fun p=>decide (p.1=k)
 | _,_,k,.nil=>rfl
 | _,_,k,.cons (a:=p) (b:=q) h t=>by
  have ih:=qx (k:=k) t
  have e:=h.1
  unfold atKey at ih ⊢
  rw [List.find?_cons,List.any_cons,<- e]
  by_cases z:p.1=k
  ·rw [decide_eq_true z];rfl
  ·rw [decide_eq_false z];exact ih
theorem uH:∀ {kvs:List (KA × D)} {xs:List (KA × Addr × Value)} {k:KA} {d:D},Paired (EntOk K C M) kvs xs->tq kvs k=some d->∃ p v,atKey xs k=some p/\RelV v p.2/\Has K C M v d
 | _,_,k,d,.nil,e=>by cases e
 | _,_,k,d,.cons (a:=p) (b:=q) h t,e=>by
  obtain ⟨e1,_,v,h1,h2⟩:=h
  unfold tq at e
  unfold atKey
  rw [List.find?_cons] at e ⊢
  rw [<- e1]
  by_cases z:p.1=k
  ·rw [decide_eq_true z] at e ⊢
   cases e
   exact ⟨_,v,rfl,h1,h2⟩
  ·rw [decide_eq_false z] at e ⊢
   exact uH t e
theorem i0:∀ {kvs:List (KA × D)} {xs:List (KA × Addr × Value)},Paired (EntOk K C M) kvs xs->∀ x ∈ xs,KeyIn M x.1 x.2.1
 | _,_,.nil,x,hx=>by cases hx
 | _,_,.cons h t,x,hx=>by
  rcases List.mem_cons.mp hx with rfl | hx
  ·rw [<- h.1];exact h.2.1
  ·exact i0 t x hx
theorem uG {k:KA} {d:D} {u:Value} {v:V} (rv:RelV v u) (hv:Has K C M v d):∀ {kvs:List (KA × D)} {xs:List (KA × Addr × Value)},Paired (EntOk K C M) kvs xs->Paired (EntOk K C M) (kvs.map fun p=>if p.1=k then (p.1,d) else p) (xs.map (putAt k u))
 | _,_,.nil=>.nil
 | _,_,.cons (a:=p) (b:=q) h t=>by
  refine .cons ?_ (uG rv hv t)
  obtain ⟨e1,h2,v',h3,h4⟩:=h
  show EntOk K C M (if p.1=k then (p.1,d) else p) (if q.1=k then (q.1,q.2.1,u) else q)
  rw [<- e1]
  by_cases z:p.1=k
  ·rw [if_pos z,if_pos z];exact ⟨rfl,h2,v,rv,hv⟩
  ·rw [if_neg z,if_neg z];exact ⟨e1,h2,v',h3,h4⟩
theorem uF {k:KA} {d:D} {u:Value} {v:V} {kb:Addr} (rv:RelV v u) (hv:Has K C M v d) (hk:KeyIn M k kb) {kvs:List (KA × D)} {xs:List (KA × Addr × Value)} (h:Paired (EntOk K C M) kvs xs):Paired (EntOk K C M) (m7 kvs k d) (storedH xs k kb u):=by
 unfold m7
 have e:=qx (k:=k) h
 by_cases z:(kvs.any fun p=>decide (p.1=k))=true
 ·rw [if_pos z]
  rw [z] at e
  obtain ⟨p,hp⟩:=Option.isSome_iff_exists.mp e
  rw [storedH_old hp]
  exact uG rv hv h
 ·rw [if_neg z]
  have:atKey xs k=none:=by
   cases q:atKey xs k with
   | none=>rfl
   | some p=>rw [q] at e;exact absurd e.symm z
  rw [storedH_new this]
  exact Paired.snoc h ⟨rfl,hk,v,rv,hv⟩
end
theorem Rel.setDic {K:PySem.W.Frag} {H0 H:Hp} {ρ:RB} {σ:St} (r:Rel K C H0 ρ σ H) {i:Nat} {a:Addr} (hn:H a=none):Rel K C H0 (ρ.put i (.dic []) [a]) (σ.set i (some (.ref a))) (upd H a (km a [])) :=
 r.put lR (fun j hj=>List.getElem?_set_ne fun z=>hj z.symm) (fun b hb=>.inr (by cases List.mem_singleton.mp hb;exact hn)) (fun j _=>.of (a_ hn)) (fun b o e=>a_ hn b o (msk_some.mp e).2)
  (fun b hb=>.inr (by cases List.mem_singleton.mp hb;exact ⟨[],bi⟩)) fun hi s=>⟨a,pw (by rw [<- r.len];exact hi),List.mem_singleton.mpr rfl,[],bi,List.nodup_nil,.nil⟩
theorem Rel.putDic {K:PySem.W.Frag} {H0 H:Hp} {ρ:RB} {σ:St} (r:Rel K C H0 ρ σ H) {i:Nat} {a:Addr} {kvs kvs':List (KA × D)} {xs':List (KA × Addr × Value)} (e:ρ.rho[i]?=some (some (.dic kvs))) (q:σ[i]?=some (some (.ref a)))
  (nd:(xs'.map (·.1)).Nodup) (h:Paired (EntOk K C (msk ρ σ H)) kvs' xs'):Rel K C H0 (ρ.put i (.dic kvs') [a]) σ (upd H a (km a xs')):=by
 obtain ⟨b,e1,ha,_⟩:=r.at_ i _ e
 rw [q] at e1;cases e1
 exact r.put rfl (fun j _=>rfl) (fun b hb=>.inl (by cases List.mem_singleton.mp hb;exact ha)) (fun j hj=>r.apart ha hj) (r.shown ha) (fun b hb=>.inr (by cases List.mem_singleton.mp hb;exact ⟨xs',bi⟩))
  fun hi s=>⟨a,q,List.mem_singleton.mpr rfl,xs',bi,nd,Paired.mapP h fun p q z=>z.mono s⟩
noncomputable def xn (i:Nat):Rho->R Out:=fun ρ=>.val (.nx (ρ.set i (some (.dic []))))
theorem wt {pos:Pos}:PE X (.Dict [] [] pos) (fun _ H Q=>∀ p,H p=none->Q (.ref p) (upd H p (km p []))):=fun pins s σ H Q I h=>by
 have big:sysModules < s.heap.objs.size:=Nat.lt_trans (by decide) (show mainGlobals < s.heap.objs.size from (I.mod.glob.keeps I.bk).lt)
 have e1:(s.heap.push { cls:=.type "dict",data:=.dict #[] }).get? s.heap.objs.size=some { cls:=.type "dict",data:=.dict #[] }:=Heap.get?_push_size _ rfl
 have ok:dOk s.heap.objs.size [] (s.heap.push { cls:=.type "dict",data:=.dict #[] }):=⟨by simpa using (Nat.ne_of_gt big),Nat.zero_le _,_,#[],_,e1,⟨rfl,rfl,rfl⟩,rfl,rfl⟩
 exact wpAny_Dict_empty ⟨.ref s.heap.objs.size,_,I.laid (a:=s.heap.objs.size) (o:=km s.heap.objs.size []) (t':=s.toks) (fun _ _ q=>Heap.get?_push_of_some _ q) (Nat.le_refl _) ⟨ok,⟨_,e1⟩,nI⟩,rfl,h _ I.fresh⟩
theorem tV {i : Nat} {x : Str} {pos pos' dp : Pos} (hN : X.N.Nodup) (hi : X.N[i]? = some x) (hx : Loc X.env.scope x) (hs : swapsWith (.Dict [] [] dp) (some (.Name x pos')) pos.line X.env = pure false := by rfl)
    (hf : X.fn x = true \/ X.env.scope.names.lookup x = some .local := by first | exact .inl rfl | exact .inr rfl | assumption) : SD C X (.Assign [.Name x pos'] (.Dict [] [] dp) pos) (xn i) :=
  ck (mH hN hi hx wt hs hf) fun D σ H yy0 => by
   obtain ⟨_, H0, ⟨ρ, rfl, r⟩, q⟩ := yy0
   exact fun p hp => q _ _ ⟨_, rfl, r.setDic hp⟩
noncomputable def qz (i:Nat) (k e:Rho->R D):Rho->R Out:=fun ρ=>(e ρ).bind fun d=>(noE (k ρ)).bind fun kd=>match oq kd with
 | some k=>match ρ[i]? with
  | some (some (.dic kvs))=>if kvs.length<=100000 then .val (.nx (ρ.set i (some (.dic (m7 kvs k d))))) else .bad
  | _=>.bad
 | none=>.bad
theorem mK {K:PySem.W.Frag} {M:Hp} {kvs:List (KA × D)} {xs:List (KA × Addr × Value)} (h:Paired (EntOk K C M) kvs xs):kvs.length=xs.length:=Paired.length h
theorem tD {K:PySem.W.Frag} {M M':Hp} {kvs:List (KA × D)} {xs:List (KA × Addr × Value)} (m:Same M M') (h:Paired (EntOk K C M) kvs xs):Paired (EntOk K C M') kvs xs:=Paired.mapP h fun p q z=>z.mono m
theorem tU {i : Nat} {x : Str} {k e : Expr} {p sp pos : Pos} {Fk F : Rho -> R D} (hu : X.A.units + 3 < cLine) (hv : PE X (.Name x p) (fN i)) (hk : ED C X k Fk) (he : ED C X e F)
    (ha : ∀ v, assign (.Subscript (.Name x p) k sp) X.env v = (do
      let ov <- holding [v] (eval (.Name x p) X.env)
      let iv <- holding [v, ov] (eval k X.env)
      standAt sp
      holding [v, ov, iv] (setItem ov iv v)
      release [v, ov, iv] []) := by intro _; rfl)
    (hs : swapsWithSole [.Subscript (.Name x p) k sp] e pos.line X.env = pure false := by rfl) (hw : swappedStores [.Subscript (.Name x p) k sp] e X.env = pure none := by rfl)
    (h1 : (assignEach [.Subscript (.Name x p) k sp] X.env).map (·.2) = [assign (.Subscript (.Name x p) k sp) X.env] := by rfl) :
    SD C X (.Assign [.Subscript (.Name x p) k sp] e pos) (qz i Fk F) :=
  ck (sV he (wn hv hk (tS hu) ha) hs hw h1) fun D σ H yy1 => by
   obtain ⟨_, H0, ⟨ρ, rfl, r⟩, q⟩ := yy1
   exact ⟨ρ, ⟨H0, r⟩, bj (P := fun z _ => pS C X z H0 D) (fun c h => eM r h) (fun h => h) q fun d v H1 s1 h1 q1 => by
    cases ek : Fk ρ with
    | exc c => rw [ek] at q1; exact q1.elim
    | bad => rw [ek] at q1; exact q1.elim
    | val kd =>
      rw [ek] at q1
      dsimp only [DL.R.bind, noE] at q1
      split at q1
      · rename_i kk ekk
        split at q1
        · rename_i kvs ei
          split at q1
          · rename_i hl
            obtain ⟨a, ea, _, xs, eH, nd, hp⟩ := r.at_ i _ ei
            refine ⟨_, ea, ρ, ⟨H0, r.mono s1⟩, ?_⟩
            rw [ek]
            intro kv H2 s2 h2
            obtain ⟨kb, rfl, hkey⟩ := qf ekk h2
            have hp2 := tD (br (s1.trans s2)) hp
            refine ⟨a, xs, kb, kk, rfl, rfl, s2 _ _ (s1 _ _ eH), fun x hx => (i0 hp2 x hx).mono msk_sub, nd, hkey.mono msk_sub, by rw [<- mK hp]; exact hl, fun u ru nd' => ?_⟩
            exact q1 _ _ ⟨_, rfl, ((r.mono s1).mono s2).putDic ei ea nd' (uF ru (h1.mono (br s2)) hkey hp2)⟩
          · exact q1.elim
        · exact q1.elim
      · exact q1.elim⟩
noncomputable def qB (i:Nat) (k:Rho->R D):Rho->R D:=fun ρ=>match ρ[i]? with
 | some (some (.dic kvs))=>(k ρ).bind fun kd=>match oq kd with
  | some k=>match tq kvs k with
   | some d=>.val d
   | none=>.bad
  | none=>.bad
 | _=>.bad
theorem uJ {i:Nat} {x:Str} {k:Expr} {p pos:Pos} {Fk:Rho->R D} (hu:X.A.units + 3 < cLine) (hv:PE X (.Name x p) (fN i)) (hk:ED C X k Fk) (hs:kx k:=by exact fun _ _=>rfl) :
  ED C X (.Subscript (.Name x p) k pos) (qB i Fk) :=
 aW (wr (Ay hu) hv hk hs) fun σ H Q zz1=>by
  obtain ⟨ρ,⟨H0,r⟩,q⟩:=zz1
  unfold qB at q
  split at q
  ·rename_i kvs ei
   obtain ⟨a,ea,_,xs,eH,nd,hp⟩:=r.at_ i _ ei
   refine ⟨_,ea,ρ,⟨H0,r⟩,bj (P:=fun z H=>pV X (eV C X ρ σ) z σ H Q) (fun _ h=>h) (fun h=>h) q fun kd kv H1 s1 h1 q1=>?_⟩
   split at q1
   ·rename_i kk ekk
    split at q1
    ·rename_i d eg
     obtain ⟨kb,rfl,hkey⟩:=qf ekk h1
     have hp2:=tD (br s1) hp
     obtain ⟨pr,v,e1,e2,e3⟩:=uH hp2 eg
     exact ⟨a,xs,kb,kk,pr,v,rfl,rfl,s1 _ _ eH,fun x hx=>(i0 hp2 x hx).mono msk_sub,nd,hkey.mono msk_sub,e1,e2,q1 v H1 s1 e3⟩
    ·exact q1.elim
   ·exact q1.elim
  ·exact q.elim
noncomputable def xm (i:Nat) (k:Rho->R D):Rho->R Bool:=fun ρ=>(k ρ).bind fun kd=>match ρ[i]? with
 | some (some (.dic kvs))=>match oq kd with
  | some k=>.val (!(kvs.any fun p=>decide (p.1=k)))
  | none=>.bad
 | _=>.bad
theorem xE {i : Nat} {x : Str} {k : Expr} {p pos : Pos} {Fk : Rho -> R D} (hu : X.A.units + 3 < cLine) (hv : PE X (.Name x p) (fN i)) (hk : ED C X k Fk) (hm : behindInMarks .NotIn (.Name x p) = false := by rfl) :
    TD C X (.Compare k [.NotIn] [.Name x p] pos) (xm i Fk) :=
  jZ (t6 (yd hu) hk hv hm) fun σ H Q yy2 => by
   obtain ⟨ρ, ⟨H0, r⟩, q⟩ := yy2
   exact ⟨ρ, ⟨H0, r⟩, bj (P := fun z H => pB X z σ H Q) (fun _ h => h) (fun h => h) q fun kd kv H1 s1 h1 q1 => by
    split at q1
    · rename_i kvs ei
      obtain ⟨a, ea, _, xs, eH, nd, hp⟩ := r.at_ i _ ei
      split at q1
      · rename_i kk ekk
        obtain ⟨kb, rfl, hkey⟩ := qf ekk h1
        have hp2 := tD (br s1) hp
        refine ⟨_, ea, a, xs, kb, kk, rfl, rfl, s1 _ _ eH, fun x hx => (i0 hp2 x hx).mono msk_sub, nd, hkey.mono msk_sub, _, rfl, ?_⟩
        have := qx (k := kk) hp2
        rw [this]
        exact q1 H1 s1
      · exact q1.elim
    · exact q1.elim⟩
end DL
namespace DL
open PySem PySem.Spec PyProof.Rows L2
variable {C:Addr} {X:Cx}
noncomputable def fz (i:Nat) (F:Rho->R Out):Rho->R Out:=fun ρ=>F (frz i ρ)
theorem hE {sts:List Stmt} {F:Rho->R Out} (i:Nat) (h:SDs C X sts F):SDs C X sts (fz i F):=xI i h
noncomputable def Fn (P:Program) (w:World) (K:PySem.W.Frag) (mg:Str->Option Value) (base:Heap) (C:Addr) (k:Nat) (x:Str) (n:Nat) (den:List D->R D):Prop :=
 ∃ f fd ps,FnOk P w K mg base CX0 k f fd ps (spD K C n den)/\mg x=some (.ref f)/\PySem.W.keepIn K (.ref f)=true/\Binds K fd ps []
theorem aV {k n:Nat} {den:List D->R D} {x:Str} {p pos:Pos} {e:Expr} {es:List Expr} {Fa:Rho->R (List D)} (F:Fn X.prog X.w X.K X.mg X.base C k x n den) (hr:Room k X.A) (hg:Gl X x) (ha:AD C X (e :: es) Fa) (hx:X.xe=fun _ _=>False)
  (hdb:(x == ("__debug__":Str))=false:=by decide) (he:starEach (e :: es) X.env=(false,eval e X.env) :: starEach es X.env:=by rfl) (hpl:(backTo pos (starEach es X.env)).any (·.1)=false:=by rfl) :
  ED C X (.Call (.Name x p) (e :: es) [] pos) (cal n den Fa):=by
 obtain ⟨f,fd,ps,h1,h2,h3,h4⟩:=F
 exact yP h1 hr hg h2 h3 h4 rj ha hdb he hpl
theorem bM {k:Nat} {A:Around} (r:Room k A):A.units + 9 < cLine:=by have:=r.un;omega
theorem oR {k:Nat} {A:Around} (r:Room k A):A.units + 3 < cLine:=by have:=r.un;omega
theorem e8 (m:Nat):∀ j ∈ [m],m<=j:=fun j hj=>by rw [List.mem_singleton.mp hj];exact Nat.le_refl _
theorem yu (m:Nat):∀ j ∈ [m,m + 1],m<=j:=fun j hj=>by
 rcases List.mem_cons.mp hj with h | h
 ·rw [h];exact Nat.le_refl _
 ·rw [List.mem_singleton.mp h];exact Nat.le_succ _
noncomputable def whD (c:Rho->R Bool) (F:Rho->R Out):Nat->Rho->R Out
 | 0,_=>.bad
 | n + 1,ρ=>(c ρ).bind fun b=>if b=true then (F ρ).bind fun o=>match o with
   | .nx ρ'=>whD c F n ρ'
   | .ct ρ'=>whD c F n ρ'
   | .bk ρ'=>.val (.nx ρ')
   | .rt d=>.val (.rt d)
  else .val (.nx ρ)
theorem vY {c : Expr} {body : List Stmt} {pos : Pos} {Fc : Rho -> R Bool} {F : Rho -> R Out} (n : Nat) (hp : PassesOwn (model X.prog X.w) X.A X.env X.xe) (hc : TD C X c Fc) (hb : SDs C X body F) : SD C X (.While c body [] pos) (whD Fc F n) :=
  ck (wa hp hc hb) fun D σ H yy0 => by
   obtain ⟨_, H0, ⟨ρ, rfl, r⟩, q⟩ := yy0
   exact ⟨fun m σ' H' => ∃ ρ' : RB, eU C X H0 ρ' σ' H' /\ pS C X (whD Fc F m ρ') H0 D, ⟨n, ρ, r, q⟩, fun m σ' H' zz0 => by
    obtain ⟨ρ', r', q'⟩ := zz0
    cases m with
    | zero => exact q'.elim
    | succ m =>
      unfold whD at q'
      refine ⟨ρ', ⟨H0, r'⟩, j4 (P := fun z _ => pS C X z H0 D) (fun c h => eM r' h) (fun h => h) q' fun b H1 s1 q1 => ?_⟩
      cases b with
      | false => exact AA (q1 σ' H1 (r'.mono s1).e)
      | true =>
        refine Az ⟨fun σ2 H2 => ∃ ρ2 : RB, eU C X H0 ρ2 σ2 H2 /\ pS C X (whD Fc F m ρ2) H0 D, fun σ2 H2 z => ⟨m, Nat.lt_succ_self _, z⟩, ρ', H0, (r'.mono s1).e, ?_⟩
        rw [if_pos rfl] at q1
        cases eF : F ρ' with
        | val o =>
          rw [eF] at q1
          cases o with
          | nx ρ2 => exact fun σ4 H4 ⟨β4, e4, r4⟩ => ⟨β4, r4, by rw [e4]; exact q1⟩
          | ct ρ2 => exact fun σ4 H4 ⟨β4, e4, r4⟩ => ⟨β4, r4, by rw [e4]; exact q1⟩
          | bk ρ2 => exact fun σ4 H4 r4 => q1 σ4 H4 r4
          | rt d => exact fun v4 H4 s4 h4 => q1 v4 H4 s4 h4
        | exc c => rw [eF] at q1; exact q1
        | bad => rw [eF] at q1; exact q1⟩
end DL
namespace DL
open PySem PySem.Spec PyProof.Rows L2
section
variable {env:Env} {r:List Expr} {p:Pos}
theorem aa {x:Str}:starEach (.Name x p :: r) env=(false,eval (.Name x p) env) :: starEach r env:=rfl
theorem aD {a k}:starEach (.Constant a k p :: r) env=(false,eval (.Constant a k p) env) :: starEach r env:=rfl
theorem eE {a}:starEach (.List a p :: r) env=(false,eval (.List a p) env) :: starEach r env:=rfl
theorem mw {a k}:starEach (.Tuple a k p :: r) env=(false,eval (.Tuple a k p) env) :: starEach r env:=rfl
theorem bH {a b c}:starEach (.BinOp a b c p :: r) env=(false,eval (.BinOp a b c p) env) :: starEach r env:=rfl
theorem ah {a b}:starEach (.Subscript a b p :: r) env=(false,eval (.Subscript a b p) env) :: starEach r env:=rfl
theorem aO {a b}:starEach (.Attribute a b p :: r) env=(false,eval (.Attribute a b p) env) :: starEach r env:=rfl
theorem aF {a b c}:starEach (.Call a b c p :: r) env=(false,eval (.Call a b c p) env) :: starEach r env:=rfl
theorem aZ {a b c}:starEach (.ListComp a b c p :: r) env=(false,eval (.ListComp a b c p) env) :: starEach r env:=rfl
theorem au:(backTo p (starEach [] env)).any (·.1)=false:=rfl
theorem av {e:Expr} (h:starEach (e :: r) env=(false,eval e env) :: starEach r env) (h2:(backTo p (starEach r env)).any (·.1)=false):(backTo p (starEach (e :: r) env)).any (·.1)=false:=by
 rw [h];exact h2
theorem bK {e:Expr} (h:starEach [e] env=(false,eval e env) :: starEach [] env):starEach [e] env=[(false,eval e env)]:=h.trans rfl
end
end DL
namespace DL
open PySem PySem.Spec PyProof.Rows L2
section
variable {K:PySem.W.Frag} {C:Addr} {H0 H:Hp} {ρ:RB} {σ:St}
noncomputable def RB.del (ρ:RB) (i:Nat):RB:=⟨ρ.rho.set i none,fun j=>if j=i then [] else ρ.ad j⟩
theorem oZ {l:Rho} {i j:Nat} {sl:Slt} (h:(l.set i none)[j]?=some (some sl)):i ≠ j/\l[j]?=some (some sl):=by
 rw [List.getElem?_set] at h
 split at h
 ·split at h <;> cases h
 ·exact ⟨by assumption,h⟩
theorem jJ {i j:Nat} {a:Addr} (h:a ∈ (ρ.del i).ad j):j ≠ i/\a ∈ ρ.ad j:=by
 unfold RB.del at h
 dsimp only at h
 split at h
 ·cases h
 ·exact ⟨‹_›,h⟩
theorem mf {i j:Nat} (h:j ≠ i):(ρ.del i).ad j=ρ.ad j:=by
 unfold RB.del
 dsimp only
 rw [if_neg h]
theorem Own.forget {i:Nat} {b:Addr} (h:Own (ρ.del i) σ b):Own ρ σ b:=by
 obtain ⟨j,h⟩:=h
 exact ⟨j,(jJ h).2⟩
theorem Rel.forget (r:Rel K C H0 ρ σ H) (i:Nat):Rel K C H0 (ρ.del i) σ H:=by
 have sub:Same (msk ρ σ H) (msk (ρ.del i) σ H):=fun b o e=>msk_some.mpr ⟨fun z=>(msk_some.mp e).1 z.forget,(msk_some.mp e).2⟩
 refine ⟨?_,r.keep.trans sub,fun j sl e=>?_,fun j k a x y=>r.inj j k a (jJ x).2 (jJ y).2,fun j a x=>r.kin j a (jJ x).2,fun j a x=>?_⟩
 ·show (ρ.rho.set i none).length=_
  rw [List.length_set];exact r.len
 ·obtain ⟨hj,e⟩:=oZ e
  rw [mf fun z=>hj z.symm]
  exact (r.at_ j sl e).mono (Same.refl _) sub
 ·show j < (ρ.rho.set i none).length
  rw [List.length_set];exact r.bnd j a (jJ x).2
end
noncomputable def spM (K:PySem.W.Frag) (C:Addr) (den:List D->R D):Sp:=fun vs H Q _=>∃ a us xs,vs=[.ref a]/\H a=some (.lst us)/\HasL K C (cut [a] H) us xs/\match den xs with
 | .val d=>∀ v H',Same (cut [a] H) H'->Has K C H' v d->Q v H'
 | _=>False
noncomputable def Mv (P:Program) (w:World) (K:PySem.W.Frag) (mg:Str->Option Value) (base:Heap) (C:Addr) (k:Nat) (x:Str) (den:List D->R D):Prop :=
 ∃ f fd p,FnOk P w K mg base CX0 k f fd [p] (spM K C den)/\mg x=some (.ref f)/\PySem.W.keepIn K (.ref f)=true/\Binds K fd [p] []
noncomputable def st1 (N:List Str) (xs:List D):Rho:=some (.own xs) :: List.replicate (N.length - 1) none
theorem zA {N:List Str} {xs:List D} {i:Nat} {sl:Slt} (h:(st1 N xs)[i]?=some (some sl)):i=0/\sl=.own xs:=by
 cases i with
 | zero=>unfold st1 at h;simp at h;exact ⟨rfl,h.symm⟩
 | succ n =>
  unfold st1 at h
  rw [List.getElem?_cons_succ,List.getElem?_replicate] at h
  split at h <;> cases h
section
variable {P:Program} {w:World} {K:PySem.W.Frag} {mg:Str->Option Value} {base:Heap} {C:Addr}
theorem sT {H:Hp} {N:List Str} {a:Addr} {us:List V} {xs:List D} (e:H a=some (.lst us)) (h:HasL K C (cut [a] H) us xs):vJ K C (cut [a] H) (st1 N xs) (L2.start N [.ref a]) H:=by
 have s0:(L2.start N [V.ref a])[0]?=some (some (.ref a)):=by unfold L2.start;simp
 have own:∀ {i:Nat} {b:Addr},b ∈ (⟨st1 N xs,fun j=>if j=0 then [a] else []⟩:RB).ad i->i=0/\b=a:=fun {i b} z=>by
  dsimp only at z
  split at z
  ·exact ⟨‹_›,List.mem_singleton.mp z⟩
  ·cases z
 have sub:Same (cut [a] H) (msk ⟨st1 N xs,fun j=>if j=0 then [a] else []⟩ (L2.start N [.ref a]) H):=fun b o e1=>by
  obtain ⟨h1,h2⟩:=cut_some.mp e1
  exact msk_some.mpr ⟨fun ⟨i,z⟩=>h1 (List.mem_singleton.mpr (own z).2),h2⟩
 refine ⟨⟨st1 N xs,fun j=>if j=0 then [a] else []⟩,rfl,?_,sub,fun i sl e1=>?_,fun i j b x y=>(own x).1.trans (own y).1.symm,fun i b x=>.inl ?_,fun i b x=>?_⟩
 ·show (st1 N xs).length=_
  unfold st1 L2.start;simp
 ·obtain ⟨rfl,rfl⟩:=zA e1
  exact ⟨a,us,s0,List.mem_singleton.mpr rfl,e,h.mono sub⟩
 ·rw [(own x).2];exact ⟨us,e⟩
 ·rw [(own x).1];exact Nat.succ_pos _
theorem BN {x qual p:Str} {st:Stmt} {f:Addr} {fd:FuncData} {N:List Str} {k:Nat} {den:Rho->R Out} (F:Fun K x qual st f fd) (sc:aH N [p] (ac st))
  (hb:∀ (cdv:Value) (A:Around) (outer:List Env) (s:Shared) (H:Hp) (E:XK),Room k (A.deeper (envOfC qual (ac st) s.heap.objs.size f cdv)) ->
   SDs C (bX CX0 P w K mg base N qual (ac st) f cdv A outer s H E).nox (aw st) den) :
  FnOk P w K mg base CX0 (k + 1) f fd [p] (spM K C fun xs=>fin (den (st1 N xs))):=by
 refine F.ok sc (fun vs H Q E h=>?_) (fun cdv A outer s H vs Q E hr h=>⟨_,hb cdv A outer s H E hr,?_⟩)
 ·obtain ⟨a,us,xs,rfl,_⟩:=h
  rfl
 obtain ⟨a,us,xs,rfl,e0,h,q⟩:=h
 refine ⟨st1 N xs,cut [a] H,sT e0 h,?_⟩
 dsimp only at q
 cases e:den (st1 N xs) with
 | val o =>
  rw [e] at q
  cases o with
  | nx ρ'=>exact fun σ' H' ⟨_,_,r⟩=>q _ H' (r.keep.trans msk_sub) .non
  | rt d=>exact fun v H' s' h'=>q v H' s' h'
  | bk ρ'=>exact q.elim
  | ct ρ'=>exact q.elim
 | exc c=>rw [e] at q;exact q.elim
 | bad=>rw [e] at q;exact q.elim
end
section
variable {C:Addr} {X:Cx}
noncomputable def yi (i:Nat) (den:List D->R D):Rho->R Out:=fun ρ=>match ρ[i]? with
 | some (some (.own xs))=>(noex (den xs)).bind fun d=>.val (.nx (ρ.set i (some (.shr d))))
 | _=>.bad
theorem xX {k i:Nat} {x y:Str} {p p' pos:Pos} {den:List D->R D} (F:Mv X.prog X.w X.K X.mg X.base C k x den) (hr:Room k X.A) (hg:Gl X x) (hv:PE X (.Name y p') (fN i)) (hdb:(x == ("__debug__":Str))=false:=by decide) :
  PE X (.Call (.Name x p) [.Name y p'] [] pos) (fun σ H Q=>∃ (ρ:RB) (H0:Hp) (xs:List D) (d:D),eU C X H0 ρ σ H/\ρ.rho[i]?=some (some (.own xs))/\den xs=.val d/\∀ v H',eU C X H0 (ρ.del i) σ H'->eV C X (ρ.del i) σ H' v d->Q v H'):=by
 obtain ⟨f,fd,pn,hF,hm,hk,hb⟩:=F
 rintro pins s σ H Q I ⟨ρ,H0,xs,d,r0,e0,ed,q⟩
 obtain ⟨a,vs,e1,ha,h1,h2⟩:=r0.at_ i _ e0
 refine wpAny_Call_Name_kw (jp I hg hm ?_ hdb)
 refine PySem.W.callWith_K (h₀:=X.base) I.ok.mod.kin hk (thn ((dN hv fh aa) pos pins s σ H (fun us H1=>us=[.ref a]/\H1=H) I ⟨_,e1,rfl,rfl⟩) fun us s1 ⟨ws,H1,I1,rv,ew,eh⟩=>⟨I1.kIn,?_⟩) aa au
 subst ew;subst eh
 have rf:=r0.forget i
 have Z:=Rel.hid rf I1
 have J:=I1.hide Z
 have nz:a ∉ d_ (ρ.del i) σ:=fun z=>by
  obtain ⟨j,z⟩:=(gj rf.bnd).mp z
  exact (jJ z).1 (r0.inj j i a (jJ z).2 ha)
 have sub:Same (msk ρ σ H1) (cut [a] (cut (d_ (ρ.del i) σ) H1)):=fun b o eb=>by
  obtain ⟨g1,g2⟩:=msk_some.mp eb
  refine cut_some.mpr ⟨fun z=>g1 ?_,cut_some.mpr ⟨fun z=>g1 ((gj rf.bnd).mp z).forget,g2⟩⟩
  rw [List.mem_singleton.mp z]
  exact ⟨i,ha⟩
 refine thn (pJ (E:=E0) (Q:=fun v M'=>Same (cut [a] (cut (d_ (ρ.del i) σ) H1)) M'/\Has X.K C M' v d) hF hr hb .nil rj J rv ?_) fun u s2 ⟨v,M',J2,ru,sm,hv'⟩=>?_
 ·rw [List.append_nil]
  refine ⟨a,vs,xs,rfl,cut_some.mpr ⟨nz,h1⟩,h2.mono sub,?_⟩
  rw [ed]
  exact fun v H' s2 h2=>⟨s2,h2⟩
 ·obtain ⟨I2,mz⟩:=I1.show' Z J2
  have em:msk (ρ.del i) σ (jn (d_ (ρ.del i) σ) H1 M')=M':=by
   rw [h8 rf.bnd]
   funext b
   by_cases hb:b ∈ d_ (ρ.del i) σ
   ·rw [gu hb,mz b hb]
   ·unfold cut;rw [if_neg hb,cW hb]
  have sM:Same (msk ρ σ H1) M':=sub.trans sm
  have keep:∀ j b,b ∈ (ρ.del i).ad j->jn (d_ (ρ.del i) σ) H1 M' b=H1 b:=fun j b hb=>jy ((gj rf.bnd).mpr ⟨j,hb⟩)
  have tup:∀ b us,H1 b=some (.tup us)->jn (d_ (ρ.del i) σ) H1 M' b=some (.tup us):=fun b us eb=>by
   have nb:b ∉ d_ (ρ.del i) σ:=fun z=>rf.tups eb ((gj rf.bnd).mp z)
   rw [cW nb]
   exact sM b _ (msk_some.mpr ⟨r0.tups eb,eb⟩)
  refine ⟨v,_,I2,ru,q v _ ⟨rf.len,by rw [em];exact r0.keep.trans sM,fun j sl ej=>?_,rf.inj,fun j b hb=>by rw [keep j b hb];exact rf.kin j b hb,rf.bnd⟩ (by show Has _ _ (msk _ σ _) v d;rw [em];exact hv')⟩
  rw [em]
  obtain ⟨hj,ej'⟩:=oZ ej
  have qq:=r0.at_ j sl ej'
  rw [<- mf (ρ:=ρ) (i:=i) fun z=>hj z.symm] at qq
  exact qq.stay ⟨fun b hb o eo=>by rw [keep j b hb];exact eo,tup⟩ sM
theorem xK {k i:Nat} {x y:Str} {p p' cp pos pos':Pos} {den:List D->R D} (F:Mv X.prog X.w X.K X.mg X.base C k x den) (hr:Room k X.A) (hg:Gl X x) (hv:PE X (.Name y p') (fN i)) (hN:X.N.Nodup) (hi:X.N[i]?=some y) (hx:Loc X.env.scope y)
  (hs:swapsWith (.Call (.Name x p) [.Name y p'] [] cp) (some (.Name y pos')) pos.line X.env=pure false) (hdb:(x == ("__debug__":Str))=false:=by decide)
  (hf:X.fn y=true\/X.env.scope.names.lookup y=some .local:=by first | exact .inl rfl | exact .inr rfl | assumption):SD C X (.Assign [.Name y pos'] (.Call (.Name x p) [.Name y p'] [] cp) pos) (yi i den) :=
 ck (mH hN hi hx (xX F hr hg hv hdb) hs hf) fun D σ H zz1=>by
  obtain ⟨_,H0,⟨ρ,rfl,r⟩,q⟩:=zz1
  unfold yi at q
  split at q
  ·rename_i xs e0
   cases ed:den xs with
   | val d =>
    rw [ed] at q
    refine ⟨ρ,H0,xs,d,r,e0,ed,fun v H' r' h'=>?_⟩
    refine q _ _ ⟨_,?_,r'.setShr (i:=i) h'⟩
    show (ρ.rho.set i none).set i _=_
    rw [List.set_set]
   | exc c=>rw [ed] at q;exact q.elim
   | bad=>rw [ed] at q;exact q.elim
  ·exact q.elim
noncomputable def rQ:List D->List (KA × D)->Option (List (KA × D))
 | [],kvs=>some kvs
 | x :: r,kvs=>match oq x with
  | some k=>if kvs.length<=100000 then rQ r (m7 kvs k (.bl true)) else none
  | none=>none
noncomputable def ng (il ix idd:Nat):Rho->R Out:=fun ρ=>match ρ[il]?,ρ[idd]? with
 | some (some (.own xs)),some (some (.dic kvs))=>match rQ xs kvs with
  | some kvs'=>if ix < ρ.length then .val (.nx ((ρ.set ix none).set idd (some (.dic kvs')))) else .bad
  | none=>.bad
 | _,_=>.bad
theorem u6 {il ix idd:Nat} {x l d:Str} {px pl pd px2 sp pos2 pos cp:Pos} {j:Nat} (hu:X.A.units + 3 < cLine) (hp:PassesOwn (model X.prog X.w) X.A X.env X.xe) (hc:X.calm=true) (hl:PE X (.Name l pl) (fN il)) (hg:PG X (.Name x px) (iW ix)) (hd:PE X (.Name d pd) (fN idd)) (hx:PE X (.Name x px2) (fN ix))
  (n1:ix ≠ il:=by decide) (n2:ix ≠ idd:=by decide) (n3:il ≠ idd:=by decide)
  (ha:∀ v,assign (.Subscript (.Name d pd) (.Name x px2) sp) X.env v=(do
   let ov <- holding [v] (eval (.Name d pd) X.env)
   let iv <- holding [v,ov] (eval (.Name x px2) X.env)
   standAt sp
   holding [v,ov,iv] (setItem ov iv v)
   release [v,ov,iv] []):=by intro _;rfl)
  (hs:swapsWithSole [.Subscript (.Name d pd) (.Name x px2) sp] (.Constant (.bool true) j cp) pos2.line X.env=pure false:=by rfl) (hw:swappedStores [.Subscript (.Name d pd) (.Name x px2) sp] (.Constant (.bool true) j cp) X.env=pure none:=by rfl)
  (h1:(assignEach [.Subscript (.Name d pd) (.Name x px2) sp] X.env).map (·.2)=[assign (.Subscript (.Name d pd) (.Name x px2) sp) X.env]:=by rfl)
  (hfs:∀ x,foldedSetIterable (.Name l pl) X.env x=pure x:=by intro _;rfl) :
  SD C X (.For (.Name x px) (.Name l pl) [.Assign [.Subscript (.Name d pd) (.Name x px2) sp] (.Constant (.bool true) j cp) pos2] [] pos) (ng il ix idd) :=
 ck (we hp hc (xU hl) hg (lU (sV zh (wn hd hx (tS hu) ha) hs hw h1)) hfs) fun Dn σ H zz2=>by
  obtain ⟨_,H0,⟨ρ,rfl,r⟩,q⟩:=zz2
  unfold ng at q
  split at q
  ·rename_i xs kvs el ed
   split at q
   ·rename_i kvsf em
    have hix:ix < ρ.rho.length:=by
     by_cases hix:ix < ρ.rho.length
     ·exact hix
     ·rw [if_neg hix] at q;exact q.elim
    rw [if_pos hix] at q
    obtain ⟨a,vs,ea,haA,eH,hL⟩:=r.at_ il _ el
    have hdl:idd < ρ.rho.length:=(List.getElem?_eq_some_iff.mp ed).1
    refine ⟨_,ea,a,rfl,⟨_,SqL.of eH⟩,wR (K:=X.K) (a:=a) (xs:=vs) (fun i σ' H'=>∃ kvs' β,β.rho=(ρ.rho.set ix none).set idd (some (.dic kvs'))/\eU C X H0 β σ' H'/\a ∈ β.ad il/\σ'[il]?=some (some (.ref a))/\H' a=some (.lst vs)/\rQ (xs.drop i) kvs'=some kvsf) ⟨kvs,ρ.del ix,?_,r.forget ix,by rw [mf (Ne.symm n1)];exact haA,ea,eH,em⟩ (fun i σ' H' _ ⟨kvs',β,eb,r',hb,e1,e2,e3⟩=>SqL.of e2) ?_ ?_⟩
    ·have e1:(ρ.rho.set ix none)[idd]?=some (some (.dic kvs)):=by rw [List.getElem?_set_ne n2];exact ed
     show ρ.rho.set ix none=_
     apply List.ext_getElem?
     intro m
     by_cases hm:idd=m
     ·subst hm
      rw [List.getElem?_set_self (List.getElem?_eq_some_iff.mp e1).1,e1]
     ·rw [List.getElem?_set_ne hm]
    ·rintro i v σ' H' hi ⟨kvs',β,eβ,r',hbA,e1,e2,e3⟩
     have l1:β.rho[il]?=some (some (.own xs)):=by
      rw [eβ,List.getElem?_set_ne (Ne.symm n3),List.getElem?_set_ne n1];exact el
     obtain ⟨a',vs',g1,ga,g2,g3⟩:=r'.at_ il _ l1
     rw [e1] at g1;cases g1
     rw [e2] at g2;cases g2
     obtain ⟨x0,hx0,hv0⟩:=g3.get' hi
     have hlt:i < xs.length:=(List.getElem?_eq_some_iff.mp hx0).1
     have edr:xs.drop i=x0 :: xs.drop (i + 1):=by
      rw [List.drop_eq_getElem_cons hlt]
      have:=(List.getElem?_eq_some_iff.mp hx0).2
      rw [this]
     rw [edr] at e3
     unfold rQ at e3
     split at e3
     ·rename_i kk ekk
      split at e3
      ·rename_i hlen
       have rs:=r'.setShr (i:=ix) hv0
       have ed':(β.put ix (.shr x0) []).rho[idd]?=some (some (.dic kvs')):=by
        show (β.rho.set ix _)[idd]?=_
        rw [List.getElem?_set_ne n2,eβ,List.getElem?_set_self (by simpa using hdl)]
       obtain ⟨b,eb,hbb,ys,eY,nd,hpd⟩:=rs.at_ idd _ ed'
       rw [lT (Ne.symm n2)] at hbb
       obtain ⟨kb,rfl,hkey⟩:=qf ekk hv0
       have hxl:ix < σ'.length:=by have:=r'.len;rw [eβ] at this;simp at this;omega
       have ex2:(σ'.set ix (some (V.ref kb)))[ix]?=some (some (.ref kb)):=List.getElem?_set_self hxl
       have hkey2:KeyIn (msk (β.put ix (.shr x0) []) (σ'.set ix (some (V.ref kb))) H') kk kb:=hkey.mono uf
       refine ⟨_,eb,_,ex2,b,ys,kb,kk,rfl,rfl,eY,fun z hz=>(i0 hpd z hz).mono msk_sub,nd,hkey.mono msk_sub,by rw [<- mK hpd];exact hlen,fun u ru nd'=>?_⟩
       have r2:=(rs.putDic ed' eb nd' (uF ru (.bl true) hkey2 hpd)).forget ix
       refine ⟨m7 kvs' kk (.bl true),_,?_,r2,?_,?_,?_,e3⟩
       ·show (((β.rho.set ix (some (.shr x0))).set idd (some (.dic (m7 kvs' kk (.bl true))))).set ix none)=_
        rw [eβ]
        apply List.ext_getElem?
        intro m
        simp only [List.getElem?_set,List.length_set]
        by_cases h1:ix=m
        ·subst h1
         simp [Ne.symm n2]
        ·by_cases h2:idd=m
         ·subst h2;simp [h1]
         ·simp [h1,h2]
       ·rw [mf (Ne.symm n1),lT n3,lT (Ne.symm n1)];exact hbA
       ·rw [List.getElem?_set_ne n1];exact e1
       ·have:a ≠ b:=fun z=>n3 (r'.inj il idd a hbA (z ▸ hbb))
        rw [aJ this];exact e2
      ·cases e3
     ·cases e3
    ·rintro σ' H' ⟨kvs',β,eβ,r',_,e1,e2,e3⟩
     have:vs.length=xs.length:=hL.len
     rw [this,List.drop_length] at e3
     cases e3
     exact q _ _ ⟨β,eβ,r'⟩
   ·exact q.elim
  ·exact q.elim
end
end DL
namespace DL
open PySem PySem.Spec PyProof.Rows L2
section
variable {K:PySem.W.Frag} {C:Addr} {H:Hp} {x C' dx:Addr} {fs:List (Str × V)} {o':HO}
theorem kH {a:Addr} {o:HO} (hx:H x=some (.ins C' dx fs)) (h:H a=some o) (ho:∀ c d f,o=.ins c d f->f.length=3) (hl:fs.length < 3):a ≠ x:=fun z=>by
 subst z;rw [hx] at h;cases h
 have:=ho _ _ _ rfl
 omega
mutual
theorem Has.upd_ins (hx:H x=some (.ins C' dx fs)) (hl:fs.length < 3):∀ {v:V} {d:D},Has K C H v d->Has K C (upd H x o') v d
 | _,_,.non=>.non
 | _,_,.bl b=>.bl b
 | _,_,.int i=>.int i
 | _,_,.lst q h=>.lst (by rw [aJ (kH hx q (fun _ _ _ z=>by cases z) hl)];exact q) (HasL.upd_ins hx hl h)
 | _,_,.tup q h=>.tup (by rw [aJ (kH hx q (fun _ _ _ z=>by cases z) hl)];exact q) (HasL.upd_ins hx hl h)
 | _,_,.scr q=>.scr (by
   rcases q with (h | ⟨o,h⟩) | h
   ·exact .inl (.inl (by rw [aJ (kH hx h (fun _ _ _ z=>by cases z) hl)];exact h))
   ·exact .inl (.inr ⟨o,by rw [aJ (kH hx h (fun _ _ _ z=>by cases z) hl)];exact h⟩)
   ·exact .inr h)
 | _,_,.exn q=>.exn (by rw [aJ (kH hx q (fun _ _ _ z=>by cases z) hl)];exact q)
 | _,_,.ob q a b c=>.ob (by rw [aJ (kH hx q (fun _ _ _ z=>by cases z;rfl) hl)];exact q) (Has.upd_ins hx hl a) (Has.upd_ins hx hl b) (Has.upd_ins hx hl c)
theorem HasL.upd_ins (hx:H x=some (.ins C' dx fs)) (hl:fs.length < 3):∀ {vs:List V} {ds:List D},HasL K C H vs ds->HasL K C (upd H x o') vs ds
 | _,_,.nil=>.nil
 | _,_,.cons a b=>.cons (Has.upd_ins hx hl a) (HasL.upd_ins hx hl b)
end
end
theorem rX (f:Str) (v:V):∀ fs:List (Str × V),(hJ f v fs).length<=fs.length + 1
 | []=>Nat.le_refl _
 | (g,x) :: r=>by
  unfold hJ
  split
  ·simp
  ·simpa using rX f v r
noncomputable def vI:List (Rho->R D)->Rho->R Unit
 | [],_=>.val ()
 | c :: cs,ρ=>(c ρ).bind fun _=>vI cs ρ
noncomputable def yT (cs:List (Rho->R D)) (f1 f2 f3:Rho->R (List D)):Rho->R D:=fun ρ=>(vI cs ρ).bind fun _=>(f1 ρ).bind fun es=>(f2 ρ).bind fun rs=>(f3 ρ).bind fun ts=>.val (.ob (.lst es) (.lst rs) (.lst ts))
noncomputable def js (e r t:D):Rho:=[none,some (.shr e),some (.shr r),some (.shr t)]
noncomputable def spI (K:PySem.W.Frag) (C:Addr) (den:Rho->R D):Sp:=fun vs H Q _=>∃ x dx ve vr vt e r t,vs=[.ref x,ve,vr,vt]/\H x=some (.ins C dx [])/\Has K C H ve e/\Has K C H vr r/\Has K C H vt t/\match den (js e r t) with
 | .val d=>∀ H',(∀ b o,H b=some o->b ≠ x->H' b=some o)->Has K C H' (.ref x) d->Q .non H'
 | _=>False
section
variable {C:Addr} {X:Cx}
variable (C X) in
noncomputable def tCk:List (Rho->R D)->TS->TS
 | [],t=>t
 | c :: cs,t=>xF (mr (teB C X c)) (tCk cs t)
theorem jE {st:Stmt} {rest:List Stmt} {c:Rho->R D} {cs:List (Rho->R D)} {t:TS} (h1:PS X st (mr (teB C X c))) (h2:PSs X rest (tCk C X cs t)):PSs X (st :: rest) (tCk C X (c :: cs) t):=iP h1 h2
theorem mI {e:Expr} {pos:Pos} {F:Rho->R D} (he:EB C X e F) (hs:swapsWith e none pos.line X.env=pure false:=by rfl):PS X (.Expr e pos) (mr (teB C X F)):=j0 he hs
theorem uQ {ρ:RB} {t:TS} {Dn:ky} {σ:St}:∀ {cs:List (Rho->R D)} {H H0:Hp},eU C X H0 ρ σ H->vI cs ρ=.val ()->(∀ H1,Same H H1->t Dn σ H1)->tCk C X cs t Dn σ H
 | [],H,H0,r,_,k=>k H (Same.refl _)
 | c :: cs,H,H0,r,e,k=>by
  unfold vI at e
  cases ec:c ρ with
  | val d =>
   rw [ec] at e
   show teB C X c σ H _
   refine ⟨ρ,⟨H0,r⟩,?_⟩
   rw [ec]
   exact fun v H1 s1 _=>uQ (r.mono s1) e fun H2 s2=>k H2 (s1.trans s2)
  | exc c=>rw [ec] at e;cases e
  | bad=>rw [ec] at e;cases e
variable (C X) in
noncomputable def tI (f1 f2 f3:Rho->R (List D)):TS:=xF (pH X.K (fN 0) (teF C X f1) "ends") (xF (pH X.K (fN 0) (teF C X f2) "rests") (pH X.K (fN 0) (teF C X f3) "table"))
theorem BD {s1 s2 s3:Stmt} {f1 f2 f3:Rho->R (List D)} (h1:PS X s1 (pH X.K (fN 0) (teF C X f1) "ends")) (h2:PS X s2 (pH X.K (fN 0) (teF C X f2) "rests")) (h3:PS X s3 (pH X.K (fN 0) (teF C X f3) "table")):PSs X [s1,s2,s3] (tCk C X [] (tI C X f1 f2 f3)):=by
 have h:=iP h1 (iP h2 (lU h3))
 exact h
theorem wb {o value:Expr} {f:Str} {pos pos':Pos} {i:Nat} {F:Rho->R (List D)} (ho:PE X o (fN i)) (hv:FD C X value F) (hs:swapsWith value (some (.Attribute o f pos')) pos.line X.env=pure false:=by rfl):PS X (.Assign [.Attribute o f pos'] value pos) (pH X.K (fN i) (teF C X F) f):=zU ho hv hs
noncomputable def rb3 (e r t:D):RB:=⟨js e r t,fun _=>[]⟩
theorem Bn {K:PySem.W.Frag} {H:Hp} {x:Addr} {ve vr vt:V} {e r t:D} (h1:Has K C H ve e) (h2:Has K C H vr r) (h3:Has K C H vt t):Rel K C H (rb3 e r t) [some (.ref x),some ve,some vr,some vt] H:=by
 have sub:Same H (msk (rb3 e r t) [some (.ref x),some ve,some vr,some vt] H):=fun b o eb=>msk_some.mpr ⟨fun ⟨_,z⟩=>(List.not_mem_nil z).elim,eb⟩
 refine ⟨rfl,sub,fun i sl h=>?_,fun i j a z=>(List.not_mem_nil z).elim,fun i a z=>(List.not_mem_nil z).elim,fun i a z=>(List.not_mem_nil z).elim⟩
 match i,h with
 | 0,h=>cases h
 | 1,h=>cases h;exact ⟨ve,rfl,h1.mono sub⟩
 | 2,h=>cases h;exact ⟨vr,rfl,h2.mono sub⟩
 | 3,h=>cases h;exact ⟨vt,rfl,h3.mono sub⟩
 | n + 4,h=>unfold rb3 js at h;simp at h
theorem nh {F:Rho->R (List D)} {f:Str} {Dn:ky} {H:Hp} {x dx:Addr} {fs:List (Str × V)} {ve vr vt:V} {e r t:D} {xs:List D} (hx:H x=some (.ins C dx fs)) (hl:fs.length < 3) (c:Cls X.K C) (n:NoAttr X.K C f) (h1:Has X.K C H ve e) (h2:Has X.K C H vr r) (h3:Has X.K C H vt t)
  (eF:F (js e r t)=.val xs)
  (k:∀ l H',H' x=some (.ins C dx (hJ f (.ref l) fs))->(∀ b o,H b=some o->b ≠ x->H' b=some o)->(∀ v d,Has X.K C H v d->Has X.K C H' v d)->Has X.K C H' (.ref l) (.lst xs)->Dn.nx [some (.ref x),some ve,some vr,some vt] H') :
  pH X.K (fN 0) (teF C X F) f Dn [some (.ref x),some ve,some vr,some vt] H:=by
 refine ⟨rb3 e r t,⟨H,Bn h1 h2 h3⟩,?_⟩
 show pF _ (F (js e r t)) _ _ _
 rw [eF]
 intro l vs H1 s1 hn hv
 have hv':HasL X.K C H1 vs xs:=hv.mono msk_sub
 have nx:l ≠ x:=fun z=>by subst z;rw [s1 _ _ hx] at hn;cases hn
 have hx2:(upd H1 l (.lst vs)) x=some (.ins C dx fs):=by rw [aJ (Ne.symm nx)];exact s1 _ _ hx
 refine ⟨_,rfl,x,C,dx,fs,rfl,hx2,c,n,by omega,k l _ bi (fun b o eb nb=>?_) (fun v d hd=>?_) ?_⟩
 ·rw [aJ nb];exact a_ hn _ _ (s1 _ _ eb)
 ·exact ((hd.mono s1).mono (a_ hn)).upd_ins hx2 hl
 ·exact Has.upd_ins hx2 hl (.lst bi (hv'.mono (a_ hn)))
end
section
variable {P:Program} {w:World} {K:PySem.W.Frag} {mg:Str->Option Value} {base:Heap} {C:Addr}
theorem yq {st:Stmt} {f:Addr} {fd:FuncData} {k:Nat} {cs:List (Rho->R D)} {f1 f2 f3:Rho->R (List D)} (F:Fun K "__init__" "Hall.__init__" st f fd) (sc:aH ["self","ends","rests","table"] ["self","ends","rests","table"] (ac st))
  (cl:Cls K C) (nE:NoAttr K C "ends") (nR:NoAttr K C "rests") (nT:NoAttr K C "table")
  (hb:∀ (cdv:Value) (A:Around) (outer:List Env) (s:Shared) (H:Hp) (E:XK),Room k (A.deeper (envOfC "Hall.__init__" (ac st) s.heap.objs.size f cdv)) ->
   PSs (bX CX0 P w K mg base ["self","ends","rests","table"] "Hall.__init__" (ac st) f cdv A outer s H E).nox (aw st) (tCk C (bX CX0 P w K mg base ["self","ends","rests","table"] "Hall.__init__" (ac st) f cdv A outer s H E).nox cs (tI C (bX CX0 P w K mg base ["self","ends","rests","table"] "Hall.__init__" (ac st) f cdv A outer s H E).nox f1 f2 f3))) :
  FnOk P w K mg base CX0 (k + 1) f fd ["self","ends","rests","table"] (spI K C (yT cs f1 f2 f3)):=by
 refine F.ok sc (fun vs H Q E h=>?_) (fun cdv A outer s H vs Q E hr h=>⟨_,hb cdv A outer s H E hr,?_⟩)
 ·obtain ⟨x,dx,ve,vr,vt,e,r,t,rfl,_⟩:=h
  rfl
 obtain ⟨x,dx,ve,vr,vt,e,r,t,rfl,hx,h1,h2,h3,q⟩:=h
 unfold yT at q
 cases ec:vI cs (js e r t) with
 | exc c=>rw [ec] at q;exact q.elim
 | bad=>rw [ec] at q;exact q.elim
 | val u =>
  rw [ec] at q
  cases e1:f1 (js e r t) with
  | exc c=>dsimp only [DL.R.bind] at q;rw [e1] at q;exact q.elim
  | bad=>dsimp only [DL.R.bind] at q;rw [e1] at q;exact q.elim
  | val es =>
   cases e2:f2 (js e r t) with
   | exc c=>dsimp only [DL.R.bind] at q;rw [e1,e2] at q;exact q.elim
   | bad=>dsimp only [DL.R.bind] at q;rw [e1,e2] at q;exact q.elim
   | val rs =>
    cases e3:f3 (js e r t) with
    | exc c=>dsimp only [DL.R.bind] at q;rw [e1,e2,e3] at q;exact q.elim
    | bad=>dsimp only [DL.R.bind] at q;rw [e1,e2,e3] at q;exact q.elim
    | val ts =>
     dsimp only [DL.R.bind] at q
     rw [e1,e2,e3] at q
     dsimp only [DL.R.bind] at q
     refine uQ (H0:=H) (ρ:=rb3 e r t) (Bn h1 h2 h3) ec fun H1 s1=>?_
     refine nh (s1 _ _ hx) (by decide) cl nE (h1.mono s1) (h2.mono s1) (h3.mono s1) e1 fun l1 Ha xa fa ka ha=>?_
     refine nh xa (by show 1 < 3;decide) cl nR (ka _ _ (h1.mono s1)) (ka _ _ (h2.mono s1)) (ka _ _ (h3.mono s1)) e2 fun l2 Hb xb fb kb hb2=>?_
     refine nh xb (Nat.lt_of_le_of_lt (rX _ _ _) (by show 2 < 3;decide)) cl nT (kb _ _ (ka _ _ (h1.mono s1))) (kb _ _ (ka _ _ (h2.mono s1))) (kb _ _ (ka _ _ (h3.mono s1))) e3 fun l3 Hc xc fc kc hc=>?_
     refine q Hc (fun b o eb nb=>fc _ _ (fb _ _ (fa _ _ (s1 _ _ eb) nb) nb) nb) ?_
     exact .ob (dx:=dx) (ve:=.ref l1) (vr:=.ref l2) (vt:=.ref l3) xc (kc _ _ (kb _ _ ha)) (kc _ _ hb2) hc
end
noncomputable def FnH (P:Program) (w:World) (K:PySem.W.Frag) (mg:Str->Option Value) (base:Heap) (C:Addr) (k:Nat) (den:Rho->R D):Prop :=
 ∃ f fd,Mk K C f/\FnOk P w K mg base CX0 k f fd ["self","ends","rests","table"] (spI K C den)/\mg "Hall"=some (.ref C)/\Binds K fd ["self","ends","rests","table"] []
section
variable {C:Addr} {X:Cx}
noncomputable def mkH (den:Rho->R D) (Fa:Rho->R (List D)):Rho->R D:=fun ρ=>(Fa ρ).bind fun ds=>match ds with
 | [e,r,t]=>noex (den (js e r t))
 | _=>.bad
theorem yN {k:Nat} {den:Rho->R D} {p pos:Pos} {e:Expr} {es:List Expr} {Fa:Rho->R (List D)} (F:FnH X.prog X.w X.K X.mg X.base C k den) (hr:Room (k + 1) X.A) (hg:Gl X "Hall") (ha:AD C X (e :: es) Fa) (hx:X.xe=fun _ _=>False)
  (he:starEach (e :: es) X.env=(false,eval e X.env) :: starEach es X.env:=by rfl) (hpl:(backTo pos (starEach es X.env)).any (·.1)=false:=by rfl):ED C X (.Call (.Name "Hall" p) (e :: es) [] pos) (mkH den Fa):=by
 obtain ⟨f,fd,hM,hF,hm,hb⟩:=F
 rintro pins s σ H Q I ⟨ρ,⟨H0,r0⟩,q⟩
 refine wpAny_Call_Name_kw (jp I hg hm ?_ (by decide))
 refine PySem.W.callWith_K (h₀:=X.base) I.ok.mod.kin hM.kp (thn (ha pos pins s σ H (fun vs H1=>∃ a b c d,Same H H1/\jA C X ρ σ H1 vs [a,b,c]/\den (js a b c)=.val d/\∀ v H',Same H H'->eV C X ρ σ H' v d->Q v H') I
  ⟨ρ,⟨H0,r0⟩,eG (P:=fun z H=>pV X (eV C X ρ σ) z σ H Q) (fun _ h=>h) (fun h=>h) q fun ds vs H1 s1 h1 q1=>?_⟩) fun us s1 ⟨vs,H1,I1,rv,a,b,c,d,s1',h1,e1,q1⟩=>⟨I1.kIn,?_⟩) he hpl
 ·split at q1
  ·rename_i a b c
   cases e1:den (js a b c) with
   | val d=>rw [e1] at q1;exact ⟨a,b,c,d,s1,h1,e1,q1⟩
   | exc c=>rw [e1] at q1;exact q1.elim
   | bad=>rw [e1] at q1;exact q1.elim
  ·exact q1.elim
 ·have r1:=r0.mono s1'
  have Z:=Rel.hid r1 I1
  have J:=I1.hide Z
  refine thn (v5 (E:=E0) (Q:=fun v M'=>Same (cut (d_ ρ σ) H1) M'/\Has X.K C M' v d) hM hF hr hb .nil rj J rv fun x dx nx ndx nex=>?_) fun u s2 ⟨v,M',J2,ru,sm,hv⟩=>?_
  ·rw [List.append_nil]
   have h1:HasL X.K C (msk ρ σ H1) vs [a,b,c]:=h1
   rw [h8 r0.bnd] at h1
   have s0:Same (cut (d_ ρ σ) H1) (upd (upd (cut (d_ ρ σ) H1) dx (.own x)) x (.ins C dx [])):=fun b o eb=>by
    rw [aJ (bo eb nx),aJ (bo eb ndx)];exact eb
   cases h1 with
   | @cons va _ _ _ ga h1=>cases h1 with
    | @cons vb _ _ _ gb h1=>cases h1 with
     | @cons vc _ _ _ gc h1 =>
      cases h1
      refine ⟨x,dx,va,vb,vc,a,b,c,rfl,bi,ga.mono s0,gb.mono s0,gc.mono s0,?_⟩
      rw [e1]
      exact fun H' fr hH=>⟨rfl,fun b o eb=>fr b o (s0 _ _ eb) (bo eb nx),hH⟩
  ·obtain ⟨I2,mz⟩:=I1.show' Z J2
   have sj:Same H1 (jn (d_ ρ σ) H1 M'):=fun b o eb=>by
    by_cases hb:b ∈ d_ ρ σ
    ·rw [jy hb];exact eb
    ·rw [cW hb];exact sm b o (cut_some.mpr ⟨hb,eb⟩)
   have em:msk ρ σ (jn (d_ ρ σ) H1 M')=M':=by
    rw [h8 r0.bnd]
    funext b
    by_cases hb:b ∈ d_ ρ σ
    ·rw [gu hb,mz b hb]
    ·unfold cut;rw [if_neg hb,cW hb]
   exact ⟨v,_,I2,ru,q1 v _ (s1'.trans sj) (by show Has _ _ (msk ρ σ _) v d;rw [em];exact hv)⟩
structure IsH (K:PySem.W.Frag) (C:Addr):Prop where
 cl:Cls K C
 ha:PySem.W.findIn K (.ref C) "__class__"=some (some (.builtin "object.__class__"))
 hn:PySem.W.specialIn K (.builtin "object.__class__") "__get__"=some (some (.builtin "getset_descriptor.__get__"))
 htk:PySem.W.takesIn K (.builtin "object.__class__")=some true
 hm:PySem.W.mroIn K C (.type "object")=some true
end
end DL
namespace DL
open PySem PySem.Spec PyProof.Rows L2
section
variable {P:Program} {w:World} {K:PySem.W.Frag} {mg:Str->Option Value} {base:Heap} {C:Addr}
end
section
variable {C:Addr} {X:Cx}
end
end DL
namespace DL
open PySem PySem.Spec PyProof.Rows L2
section
variable {C:Addr} {X:Cx}
end
end DL
namespace DL
open PySem PySem.Spec PyProof.Rows L2
section
variable {prog:Program} {w:World} {A:Around} {E:Value->Shared->Prop} {K:PySem.W.Frag} {h:Heap} {g:Array GenState} {d:Drawn} {t:Nat} {os:OsState} {x Cc:Addr} {ox:Obj}
end
end DL
namespace DL
open PySem PySem.Spec PyProof.Rows L2
section
variable {C:Addr} {X:Cx}
theorem z7 {e:Expr} {T:Str} {T':String} {p p2 pos:Pos} {te:TE} (hg:Gl X "isinstance") (hm:X.mg "isinstance"=none) (hgT:Gl X T) (hmT:X.mg T=none) (hbT:bootBuiltins T=some (.type T')) (he:PE X e te) (hst:starEach [e,.Name T p2] X.env=(false,eval e X.env) :: starEach [.Name T p2] X.env)
  (hn:T ≠ "__name__":=by decide) (hdb:(T == ("__debug__":Str))=false:=by decide) :
  PE X (.Call (.Name "isinstance" p) [e,.Name T p2] [] pos) (fun σ H Q=>te σ H fun v H1=>∃ b,(∀ (pins:List (Addr × Obj)) (s:Shared) (u:Value) (Q':Value->Shared->Prop) (E':Value->Shared->Prop),Inv X pins σ H1 s->RelV v u->(∀ tk,Q' (.bool b) { s with toks:=tk })->wpAny (model X.prog X.w) X.A (call (.builtin "isinstance") [u,.type T']) Q' E' s)/\Q (.bl b) H1):=by
 intro pins s σ H Q I h
 refine wpAny_Call_Name_kw (iU I hg hm boot_isinstance ?_)
 refine PyProof.Rows.callWith_builtin1 ?_ hst (av aa au)
 rw [hst]
 refine Calls.spliced_cons (thn (he pins s σ H _ I h) fun u s1 zz0=>?_)
 obtain ⟨v,H1,I1,rv,b,hb,q⟩:=zz0
 rw [aa]
 refine Calls.spliced_cons (iU I1 hgT hmT hbT ?_ hn hdb)
 refine Calls.spliced_nil ?_
 exact hb pins s1 u _ _ I1 rv fun tk=>⟨.bl b,H1,I1.tok _,rfl,q⟩
noncomputable def ja:List D->Option (List Bool)
 | []=>some []
 | .bl b :: r=>(ja r).map (b :: ·)
 | _=>none
theorem nc {K:PySem.W.Frag} {M:Hp}:∀ {xs:List D} {l:List Bool} {vs:List V},ja xs=some l->HasL K C M vs xs->vs=l.map V.bl
 | [],l,vs,e,h=>by cases e;cases h;rfl
 | x :: r,l,vs,e,h=>by
  cases x with
  | bl i =>
   rw [ja] at e
   cases z:ja r with
   | none=>rw [z] at e;cases e
   | some l' =>
    rw [z] at e;cases e
    cases h with
    | cons a b=>cases a;rw [nc z b];rfl
  | _=>cases e
theorem mo:∀ {bs:List Bool} {us:List Value},Vals (bs.map V.bl) us->us=bs.map Value.bool
 | [],_,.nil=>rfl
 | b :: bs,_,.cons r t=>by rw [mo t];cases (show _=Value.bool b from r);rfl
end
end DL
namespace DL
open PySem PySem.Spec PyProof.Rows L2
section
variable {X:Cx} {pins pins':List (Addr × Obj)} {σ:St} {H:Hp} {s:Shared} {A:Around} {cm:Bool} {xe:Value->Shared->Prop}
end
end DL
namespace DL
open PySem PySem.Spec PyProof.Rows L2
section
variable {P:Program} {w:World} {K:PySem.W.Frag} {mg:Str->Option Value} {base:Heap} {C:Addr}
end
section
variable {C:Addr} {X:Cx}
end
end DL
namespace DL
open PySem PySem.Spec PyProof.Rows L2
structure KTy (K:PySem.W.Frag) (T:String):Prop where
 i:PySem.W.kitOne K (.type "int") (.type T)=some (decide (T="int"))
 b:PySem.W.kitOne K (.type "bool") (.type T)=some (decide (T="int") || decide (T="bool"))
 n:PySem.W.kitOne K (.type "NoneType") (.type T)=some false
 l:PySem.W.kitOne K (.type "list") (.type T)=some (decide (T="list"))
 t:PySem.W.kitOne K (.type "tuple") (.type T)=some (decide (T="tuple"))
noncomputable def jF (T:String):D->R D
 | .int _=>.val (.bl (decide (T="int")))
 | .bl _=>.val (.bl (decide (T="int") || decide (T="bool")))
 | .non=>.val (.bl false)
 | .lst _=>.val (.bl (decide (T="list")))
 | .tup _=>.val (.bl (decide (T="tuple")))
 | _=>.bad
section
variable {C:Addr} {X:Cx}
theorem kO {e : Expr} {T : Str} {T' : String} {p p2 pos : Pos} {F : Rho -> R D} (KT : KTy X.K T') (hg : Gl X "isinstance") (hm : X.mg "isinstance" = none) (hgT : Gl X T) (hmT : X.mg T = none) (hbT : bootBuiltins T = some (.type T')) (he : EB C X e F) (hst : starEach [e, .Name T p2] X.env = (false, eval e X.env) :: starEach [.Name T p2] X.env)
    (hn : T ≠ "__name__" := by decide) (hdb : (T == ("__debug__" : Str)) = false := by decide) : ED C X (.Call (.Name "isinstance" p) [e, .Name T p2] [] pos) (una (jF T') F) :=
  aW (z7 hg hm hgT hmT hbT he hst hn hdb) fun σ H Q yy1 => by
   obtain ⟨ρ, r0, q⟩ := yy1
   exact ⟨ρ, r0, bj (P := fun z H => pV X (eV C X ρ σ) z σ H Q) (fun _ h => h) (fun h => h) q fun y v H1 s1 h1 q1 => by
    have go : ∀ {t : Value} {b : Bool}, k_ X.K H1 v t -> PySem.W.kitOne X.K t (.type T') = some b -> (∀ v H', Same H H' -> eV C X ρ σ H' v (.bl b) -> Q v H') -> ∃ b, (∀ (pins : List (Addr × Obj)) (s : Shared) (u : Value) (Q' : Value -> Shared -> Prop) (E' : Value -> Shared -> Prop), Inv X pins σ H1 s -> RelV v u -> (∀ tk, Q' (.bool b) { s with toks := tk }) -> wpAny (model X.prog X.w) X.A (call (.builtin "isinstance") [u, .type T']) Q' E' s) /\ Q (.bl b) H1 :=
      fun {t b} ty ek kq => ⟨b, fun pins s u Q' E' I rv hQ => vq I rv ty ek hQ, kq _ H1 s1 (.bl b)⟩
    cases y with
    | int i => obtain rfl := h1.int; exact go (.int i) KT.i q1
    | bl i => obtain rfl := h1.bl; exact go (.bl i) KT.b q1
    | non =>
      have hv : v = .non := by cases h1 with | cl h => cases h; rfl
      subst hv
      exact go .non KT.n q1
    | lst xs =>
      obtain ⟨a, vs, rfl, e1, _⟩ := h1.lst msk_sub
      exact go (.lst e1) KT.l q1
    | tup xs =>
      obtain ⟨a, vs, rfl, e1, _⟩ := h1.tup msk_sub
      exact go (.tup e1) KT.t q1
    | _ => exact q1.elim⟩
theorem sA:bootBuiltins "list"=some (.type "list"):=by decide +kernel
end
end DL
namespace DL
open PySem PySem.Spec PyProof.Rows L2
noncomputable def sh:D->R D
 | .lst xs=>match ja xs with
  | some bs=>.val (.bl (bs.all id))
  | none=>.bad
 | _=>.bad
noncomputable def zp:List D->List D->List D
 | x :: xs,y :: ys=>.tup [x,y] :: zp xs ys
 | _,_=>[]
noncomputable def zt:List D->R (List D)
 | [.lst xs,.lst ys]=>.val (zp xs ys)
 | _=>.bad
noncomputable def lF (F:Rho->R (List D)):Rho->R (List D):=fun ρ=>(F ρ).bind zt
noncomputable def wF:List D->R (List D)
 | [.int j]=>if -(2 ^ 62)<=j/\j<=100000 then .val (rng 0 j.toNat) else .bad
 | _=>.bad
noncomputable def w4 (F:Rho->R (List D)):Rho->R (List D):=fun ρ=>(F ρ).bind wF
section
variable {C:Addr} {X:Cx}
noncomputable def Cw:List V->Hp->VK->Prop:=fun vs H Q=>∃ (l:Addr) (bs:List Bool),vs=[.ref l]/\H l=some (.lst (bs.map V.bl))/\Q (.bl (bs.all id)) H
theorem vH (bs:List Bool):(List.range bs.length).all (fun i=>bs.getD i false)=bs.all id:=by
 rw [Bool.eq_iff_iff,List.all_eq_true,List.all_eq_true]
 constructor
 ·intro h b hb
  obtain ⟨i,hi,rfl⟩:=List.mem_iff_getElem.mp hb
  have:=h i (List.mem_range.mpr hi)
  rw [List.getD_eq_getElem?_getD,List.getElem?_eq_getElem hi] at this
  exact this
 ·intro h i hi
  have hi:=List.mem_range.mp hi
  rw [List.getD_eq_getElem?_getD,List.getElem?_eq_getElem hi]
  exact h _ (List.getElem_mem hi)
theorem xt (hc:X.calm=true):jB X (.builtin "all") Cw:=by
 intro pins s σ H xs us Q I rv h
 obtain ⟨l,bs,rfl,e,q⟩:=h
 obtain ⟨u,rfl,ru⟩:=mq rv
 obtain rfl:=(show u=Value.ref l from ru)
 obtain ⟨z,its,m,r,hl,eo⟩:=I.lstM e
 obtain rfl:=mo r
 have hL:s.heap.IsList l (bs.map Value.bool).toArray:=⟨_,eo,rfl,m,rfl⟩
 have hne:l ≠ s.heap.objs.size:=Nat.ne_of_lt (Heap.lt_size eo)
 have W:=Walks.list (prog:=X.prog) (w:=X.w) (A:=X.A.in1) (I.ok.hd hc) s.heap.objs.size l hne (bs.map Value.bool).toArray
 refine call_all_walk (wpAny_pyIter_list hL ⟨_,_,_,_,_,_,fun i=>bs.getD i false,rfl,W,⟨⟨_,Heap.get?_push_size _ rfl,rfl,rfl⟩,hL.push _⟩,fun i v s2 Q2 E2 hP hQ=>?_,fun h' tk hk=>?_⟩)
 ·have hP':(bs.map Value.bool)[i]?=some v:=by simpa using hP
  rw [List.getElem?_map] at hP'
  cases z2:bs[i]? with
  | none=>rw [z2] at hP';cases hP'
  | some b =>
   rw [z2] at hP'
   cases hP'
   have hb:bs.getD i false=b:=by rw [List.getD_eq_getElem?_getD,z2];rfl
   dsimp only at hQ
   rw [hb] at hQ
   exact wpAny_truthy_bool hQ
 ·have hz:(bs.map Value.bool).toArray.size=bs.length:=by simp
  rw [hz,vH]
  refine ⟨.bl (bs.all id),H,I.kept fun b o eo2=>hk b o (fun hm=>?_) (Heap.get?_push_of_some _ eo2),rfl,q⟩
  have:=Heap.lt_size eo2
  rw [List.mem_singleton.mp hm] at this
  exact Nat.lt_irrefl _ this
theorem tF {e : Expr} {p pos : Pos} {F : Rho -> R D} (hc : X.calm = true) (hg : Gl X "all") (hm : X.mg "all" = none) (hst : starEach [e] X.env = (false, eval e X.env) :: starEach [] X.env) (he : EB C X e F) :
    ED C X (.Call (.Name "all" p) [e] [] pos) (una sh F) :=
  aW (aE (xt hc) hg hm boot_all (dN he fh hst) (he := hst) (hpl := au)) fun σ H Q yy0 => by
   obtain ⟨ρ, r0, q⟩ := yy0
   exact ⟨ρ, r0, bj (P := fun z H => pV X (eV C X ρ σ) z σ H Q) (fun _ h => h) (fun h => h) q fun y v H1 s1 h1 q1 => by
    cases y with
    | lst xs =>
      unfold sh at q1
      dsimp only at q1
      cases eb : ja xs with
      | none => rw [eb] at q1; exact q1.elim
      | some bs =>
        rw [eb] at q1
        obtain ⟨a, vs, rfl, e1, h2⟩ := h1.lst msk_sub
        obtain rfl := nc eb h2
        exact ⟨a, bs, rfl, e1, q1 _ H1 s1 (.bl _)⟩
    | _ => exact q1.elim⟩
noncomputable def Itz (K:PySem.W.Frag) (a b:Addr):It :=
 ⟨fun i H=>∃ xs ys x y,SqL K H a xs/\SqL K H b ys/\xs[i]?=some x/\ys[i]?=some y,fun i H v H'=>∃ p x y,H p=none/\v=.ref p/\H'=upd H p (.tup [x,y])/\(∀ xs,SqL K H a xs->xs[i]?=some x)/\∀ ys,SqL K H b ys->ys[i]?=some y,fun i H=>∃ xs ys,SqL K H a xs/\SqL K H b ys/\(xs.length<=i\/ys.length<=i)⟩
theorem vT {P:Program} {w:World} {K:PySem.W.Frag} {es:List Expr} {k:Nat} {pos:Pos} (a b z TI TO i1 i2:Addr) (D:ZipApart z TI TO i1 i2 a b) :
  tM P w K (.Tuple es k pos) (Itz K a b) [z,TI,TO,i1,i2] z (fun i h=>IsZip h z TI TO .none/\IsPair h TI (.ref i1) (.ref i2)/\(∃ x y,IsPair h TO x y)/\h.IsListIter i1 a i/\h.IsListIter i2 b i) where
 mem:=by simp
 obj:=fun i h st c hc=>by
  obtain ⟨hz,hTI,⟨x,y,hTO⟩,⟨o1,e1,c1,d1⟩,o2,e2,c2,d2⟩:=st
  have hc:c=z\/c=TI\/c=TO\/c=i1\/c=i2:=by simpa using hc
  rcases hc with rfl | rfl | rfl | rfl | rfl
  ·exact ⟨_,hz,fun v q=>by have q':Data.fields _=Data.cell v:=q;cases q'⟩
  ·exact ⟨_,hTI,fun v q=>by have q':Data.seq _ _=Data.cell v:=q;cases q'⟩
  ·exact ⟨_,hTO,fun v q=>by have q':Data.seq _ _=Data.cell v:=q;cases q'⟩
  ·exact ⟨o1,e1,fun v q=>by rw [d1] at q;cases q⟩
  ·exact ⟨o2,e2,fun v q=>by rw [d2] at q;cases q⟩
 keep:=fun i h h' st kk=>by
  obtain ⟨hz,hTI,⟨x,y,hTO⟩,h1,h2⟩:=st
  exact ⟨kk z (by simp) _ hz,kk TI (by simp) _ hTI,⟨x,y,kk TO (by simp) _ hTO⟩,h1.at fun o q=>kk i1 (by simp) o q,h2.at fun o q=>kk i2 (by simp) o q⟩
 item:=by
  intro X hP hw hK hc i pins s σ H E I hf st hg
  subst hP hw hK
  obtain ⟨hz,hTI,⟨x0,y0,hTO⟩,h1,h2⟩:=st
  obtain ⟨xs,ys,x,y,hq1,hq2,hx,hy⟩:=hg
  obtain ⟨its1,rv1,p1,hz1⟩:=I.list hq1
  obtain ⟨its2,rv2,p2,hz2⟩:=I.list hq2
  obtain ⟨u1,hu1,ru1⟩:=rv1.get hx
  obtain ⟨u2,hu2,ru2⟩:=rv2.get hy
  refine wpAny_pyNext_zip_item D hz hTI hTO h1 h2 p1.isList p2.isList (x:=u1) (y:=u2) (by simpa using hu1) (by simpa using hu2) fun h' a1 a2 a3 a4 a5 a6 hk=>?_
  refine ⟨_,rfl,wpAny_letOwnedTupleGo_zip a1 fun h'' hz'' sb=>?_⟩
  have fr:=I.fresh
  have hk2:∀ c o,c ≠ z->c ≠ TO->c ≠ i1->c ≠ i2->s.heap.get? c=some o->h''.get? c=some o:=fun c o n1 n2 n3 n4 eo=>(sb.2 c n1).trans (hk c o n1 n2 n3 n4 eo)
  have hse:s.heap.objs.size ≠ z:=Nat.ne_of_gt (Heap.lt_size hz)
  have ht2:h''.get? s.heap.objs.size=some { cls:=.type "tuple",data:=.seq #[u1,u2] }:=(sb.2 _ hse).trans a5
  have ne':∀ c,H c ≠ none->c ≠ z/\c ≠ TO/\c ≠ i1/\c ≠ i2:=fun c hb=>⟨fun q=>hb (by rw [q];exact (hf z (by simp)).1),fun q=>hb (by rw [q];exact (hf TO (by simp)).1),fun q=>hb (by rw [q];exact (hf i1 (by simp)).1),fun q=>hb (by rw [q];exact (hf i2 (by simp)).1)⟩
  have out:∀ c,c ∉ [z,TO,i1,i2]->c ≠ z/\c ≠ TO/\c ≠ i1/\c ≠ i2:=fun c h=>⟨fun q=>h (by simp [q]),fun q=>h (by simp [q]),fun q=>h (by simp [q]),fun q=>h (by simp [q])⟩
  have hk3:∀ c o,c ∉ [z,TO,i1,i2]->s.heap.get? c=some o->h''.get? c=some o:=fun c o h eo=>by
   obtain ⟨n1,n2,n3,n4⟩:=out c h
   exact hk2 c o n1 n2 n3 n4 eo
  have I1:Inv X pins σ (upd H s.heap.objs.size (.tup [x,y])) { s with heap:=h'' }:=by
   refine I.call' (s':={ s with heap:=h'' }) (ch:=[z,TO,i1,i2]) rfl ⟨fun b o q n hfs hx=>hk3 b o hx q,fun b o q n hfs hx=>⟨o.slots,hk3 b o hx q⟩,
    fun b o q n hx=>?_,fun b o q hx=>⟨o,hk3 b o hx q⟩,fun b ys q=>?_,fun b o v q=>?_,fun b ps q=>?_⟩ (fun b o q=>?_) I.bare fun b hb=>?_
   ·rw [aJ (Nat.ne_of_lt (Heap.lt_size q))];exact n
   ·rw [aJ (bo q fr)];exact q
   ·rw [aJ (bo q fr)];exact q
   ·exact ⟨#[],by rw [aJ (bo q fr),q];simp⟩
   ·by_cases hb:b=s.heap.objs.size
    ·subst hb
     rw [bi] at q;cases q
     exact ⟨by show 2<=sizeLine;decide,[u1,u2],.cons ru1 (.cons ru2 .nil),⟨_,ht2,rfl,_,rfl⟩⟩
    ·rw [aJ hb] at q
     refine (I.hok b o q).stay (fun c v hc qv=>?_) (fun c qc=>by rw [aJ (bo qc fr)];exact qc) fun c ys qc=>by rw [aJ (bo qc fr)];exact qc
     have hcn:H c ≠ none:=by
      rcases hc with q | q
      ·rw [q,‹H b=some o›];simp
      ·rw [q];simp
     obtain ⟨n1,n2,n3,n4⟩:=ne' c hcn
     exact hk2 c v n1 n2 n3 n4 qv
   ·have hb':b ∈ [z,TI,TO,i1,i2]:=by
     have hb:b=z\/b=TO\/b=i1\/b=i2:=by simpa using hb
     rcases hb with q | q | q | q <;> simp [q]
    obtain ⟨g0,g1,g2,g3,g4,g5⟩:=hf b hb'
    exact ⟨g3,g1,g4,g5⟩
  have lt1:i1 < s.heap.objs.size:=by obtain ⟨o,eo,_⟩:=h1;exact Heap.lt_size eo
  have lt2:i2 < s.heap.objs.size:=by obtain ⟨o,eo,_⟩:=h2;exact Heap.lt_size eo
  refine ⟨.ref s.heap.objs.size,_,I1,rfl,⟨_,x,y,fr,rfl,rfl,fun zs hz=>by rw [I.list_inj hz hq1];exact hx,fun zs hz=>by rw [I.list_inj hz hq2];exact hy⟩,⟨hz'',(sb.2 _ D.TIz).trans (hk _ _ D.TIz D.TITO D.TIi1 D.TIi2 hTI),⟨_,_,(sb.2 _ D.TOz).trans a2⟩,a3.at fun o q=>(sb.2 _ D.i1z).trans q,a4.at fun o q=>(sb.2 _ D.i2z).trans q⟩,fun c hc=>?_⟩
  have hb':=(hf c hc).1
  have hlt:c < s.heap.objs.size:=by
   have hc:c=z\/c=TI\/c=TO\/c=i1\/c=i2:=by simpa using hc
   rcases hc with rfl | rfl | rfl | rfl | rfl
   ·exact Heap.lt_size hz
   ·exact Heap.lt_size hTI
   ·exact Heap.lt_size hTO
   ·exact lt1
   ·exact lt2
  rw [aJ (Nat.ne_of_lt hlt)];exact hb'
 done:=by
  intro X hP hw hK hc i pins s σ H E I hf st hg
  subst hP hw hK
  obtain ⟨hz,hTI,⟨x0,y0,hTO⟩,h1,h2⟩:=st
  obtain ⟨xs,ys,hq1,hq2,hx⟩:=hg
  obtain ⟨its1,rv1,p1,hz1⟩:=I.list hq1
  obtain ⟨its2,rv2,p2,hz2⟩:=I.list hq2
  have l1:=rv1.length
  have l2:=rv2.length
  refine wpAny_pyNext_zip_end (I.ok.hd hc) D hz hTI hTO h1 h2 p1.isList p2.isList ?_ fun h' hk=>⟨rfl,?_⟩
  ·rcases hx with h | h
   ·exact .inl (by simp;omega)
   ·exact .inr (by simp;omega)
  ·have out:∀ c,c ∉ [z,TO,i1,i2]->c ≠ z/\c ≠ TO/\c ≠ i1/\c ≠ i2:=fun c h=>⟨fun q=>h (by simp [q]),fun q=>h (by simp [q]),fun q=>h (by simp [q]),fun q=>h (by simp [q])⟩
   have hk3:∀ c o,c ∉ [z,TO,i1,i2]->s.heap.get? c=some o->h'.get? c=some o:=fun c o h eo=>by
    obtain ⟨n1,n2,n3,n4⟩:=out c h
    exact hk c o n1 n2 n3 n4 eo
   have ne':∀ c,H c ≠ none->c ≠ z/\c ≠ TO/\c ≠ i1/\c ≠ i2:=fun c hb=>⟨fun q=>hb (by rw [q];exact (hf z (by simp)).1),fun q=>hb (by rw [q];exact (hf TO (by simp)).1),fun q=>hb (by rw [q];exact (hf i1 (by simp)).1),fun q=>hb (by rw [q];exact (hf i2 (by simp)).1)⟩
   refine I.call' (s':={ s with heap:=h' }) (ch:=[z,TO,i1,i2]) rfl ⟨fun b o q n hfs hx=>hk3 b o hx q,fun b o q n hfs hx=>⟨o.slots,hk3 b o hx q⟩,
    fun b o q n hx=>n,fun b o q hx=>⟨o,hk3 b o hx q⟩,fun b ys q=>q,fun b o v q=>q,fun b ps q=>⟨#[],by rw [q];simp⟩⟩ (fun b o q=>?_) I.bare fun b hb=>?_
   ·refine (I.hok b o q).stay (fun c v hc qv=>?_) (fun c qc=>qc) fun c ys qc=>qc
    have hcn:H c ≠ none:=by
     rcases hc with q | q
     ·rw [q,‹H b=some o›];simp
     ·rw [q];simp
    obtain ⟨n1,n2,n3,n4⟩:=ne' c hcn
    exact hk c v n1 n2 n3 n4 qv
   ·have hb':b ∈ [z,TI,TO,i1,i2]:=by
     have hb:b=z\/b=TO\/b=i1\/b=i2:=by simpa using hb
     rcases hb with q | q | q | q <;> simp [q]
    obtain ⟨g0,g1,g2,g3,g4,g5⟩:=hf b hb'
    exact ⟨g3,g1,g4,g5⟩
 self:=fun _ _ _ _ _ st h=>wpAny_pyIter_zip st.1 h
theorem vL:∀ {xs ys:List D} {i:Nat} {d:D},(zp xs ys)[i]?=some d->∃ x y,xs[i]?=some x/\ys[i]?=some y/\d=.tup [x,y]
 | [],_,_,_,e=>by unfold zp at e;simp at e
 | _ :: _,[],_,_,e=>by unfold zp at e;simp at e
 | x :: xs,y :: ys,0,d,e=>by
  unfold zp at e
  rw [List.getElem?_cons_zero] at e
  cases e
  exact ⟨x,y,rfl,rfl,rfl⟩
 | x :: xs,y :: ys,i + 1,d,e=>by
  unfold zp at e
  rw [List.getElem?_cons_succ] at e
  obtain ⟨x',y',h1,h2,h3⟩:=vL e
  exact ⟨x',y',by rw [List.getElem?_cons_succ];exact h1,by rw [List.getElem?_cons_succ];exact h2,h3⟩
theorem vM:∀ (xs ys:List D),xs.length<=(zp xs ys).length\/ys.length<=(zp xs ys).length
 | [],_=>.inl (Nat.zero_le _)
 | _ :: _,[]=>.inr (Nat.zero_le _)
 | x :: xs,y :: ys=>by
  unfold zp
  rw [List.length_cons,List.length_cons,List.length_cons]
  rcases vM xs ys with h | h
  ·exact .inl (Nat.succ_le_succ h)
  ·exact .inr (Nat.succ_le_succ h)
theorem vO {K:PySem.W.Frag} {a b:Addr} {vs ws:List V} {xs ys:List D} {M:Hp} (e:M a=some (.lst vs)) (h:HasL K C M vs xs) (e':M b=some (.lst ws)) (h':HasL K C M ws ys):qP K C (Itz K a b) (zp xs ys) M where
 go:=fun i d H2 s hy=>by
  obtain ⟨x,y,hx,hy',rfl⟩:=vL hy
  obtain ⟨v,e1,h1⟩:=h.get hx
  obtain ⟨v',e1',h1'⟩:=h'.get hy'
  refine ⟨⟨vs,ws,v,v',SqL.of (s _ _ e),SqL.of (s _ _ e'),e1,e1'⟩,fun u H3 q=>?_⟩
  obtain ⟨p,x',y',hp,rfl,rfl,q1,q2⟩:=q
  have e2:=q1 vs (SqL.of (s _ _ e))
  rw [e1] at e2;cases e2
  have e3:=q2 ws (SqL.of (s _ _ e'))
  rw [e1'] at e3;cases e3
  refine ⟨a_ hp,fun ρ σ hown m=>?_⟩
  have em:msk ρ σ (upd H2 p (.tup [v,v'])) p=some (.tup [v,v']):=msk_some.mpr ⟨fun z=>hown p z hp,bi⟩
  exact .tup em (.cons (h1.mono (m.trans (br (a_ hp)))) (.cons (h1'.mono (m.trans (br (a_ hp)))) .nil))
 stop:=fun H2 s=>⟨vs,ws,SqL.of (s _ _ e),SqL.of (s _ _ e'),by rw [h.len,h'.len];exact vM xs ys⟩
theorem zW {es:List Expr} {k:Nat} {tp p pos:Pos} {l m:Expr} {ta:TA} (hg:Gl X "zip") (hm:X.mg "zip"=none) (ha:PA X [l,m] ta) (he:starEach [l,m] X.env=(false,eval l X.env) :: starEach [m] X.env) (hpl:(backTo pos (starEach [m] X.env)).any (·.1)=false) :
  PI X (.Tuple es k tp) (.Call (.Name "zip" p) [l,m] [] pos) (fun σ H R=>ta σ H fun vs H1=>∃ a b xs ys,vs=[.ref a,.ref b]/\SqL X.K H1 a xs/\SqL X.K H1 b ys/\R (Itz X.K a b) H1):=by
 intro pins s σ H R I h
 refine Call_ (iU I hg hm boot_zip (PyProof.Rows.callWith_type1 (thn (ha pos pins s σ H _ I h) fun us s1 zz0=>?_) he hpl))
 obtain ⟨vs,H1,I1,r1,q1⟩:=zz0
 obtain ⟨a,b,xs,ys,e,hq,hq',q⟩:=q1
 subst e
 cases r1 with
 | cons r rr =>
  cases rr with
  | cons r' rr =>
   cases rr
   cases r
   cases r'
   obtain ⟨its,rv,pl,hz⟩:=I1.list hq
   obtain ⟨its',rv',pl',hz'⟩:=I1.list hq'
   have la:a < s1.heap.objs.size:=by obtain ⟨_,e,_⟩:=pl.isList;exact Heap.lt_size e
   have lb:b < s1.heap.objs.size:=by obtain ⟨_,e,_⟩:=pl'.isList;exact Heap.lt_size e
   refine call_zip_2 pl.isList pl'.isList fun h' iz iTI iTO i1 i2 hsz kp=>?_
   have I2:Inv X pins σ H1 { s1 with heap:=h' }:=I1.kept (t':=s1.toks) kp
   refine wpAny_pyIter_zip iz ?_
   refine ⟨s1.heap.objs.size + 4,[s1.heap.objs.size + 4,s1.heap.objs.size + 2,s1.heap.objs.size + 3,s1.heap.objs.size,s1.heap.objs.size + 1],_,_,H1,rfl,I2,vT a b _ _ _ _ _ (zipApart_new la lb),⟨iz,iTI,⟨_,_,iTO⟩,i1,i2⟩,fun c hc=>?_,q⟩
   have hle:s1.heap.objs.size<=c:=by
    have hc:c=s1.heap.objs.size + 4\/c=s1.heap.objs.size + 2\/c=s1.heap.objs.size + 3\/c=s1.heap.objs.size\/c=s1.heap.objs.size + 1:=by simpa using hc
    rcases hc with z | z | z | z | z <;> rw [z]
    ·exact Nat.le_add_right _ _
    ·exact Nat.le_add_right _ _
    ·exact Nat.le_add_right _ _
    ·exact Nat.le_refl _
    ·exact Nat.le_add_right _ _
   exact I1.fpOk hle (I1.hok.fresh hle)
theorem qk {es : List Expr} {k : Nat} {tp p pos : Pos} {l m : Expr} {F : Rho -> R (List D)} (hg : Gl X "zip") (hm : X.mg "zip" = none) (ha : AD C X [l, m] F) (he : starEach [l, m] X.env = (false, eval l X.env) :: starEach [m] X.env) (hpl : (backTo pos (starEach [m] X.env)).any (·.1) = false) :
    ID C X (.Tuple es k tp) (.Call (.Name "zip" p) [l, m] [] pos) (lF F) := lW (zW hg hm ha he hpl) fun σ H R yy0 => by
     obtain ⟨ρ, ⟨H0, r⟩, q⟩ := yy0
     refine ⟨ρ, ⟨H0, r⟩, ?_⟩
     unfold lF at q
     cases e : F ρ with
     | val ds =>
       rw [e] at q
       intro vs H1 s1 h1
       dsimp only [DL.R.bind] at q
       cases h1 with
       | nil => exact q.elim
       | @cons v1 d1 vs1 ds1 a1 h1 =>
         cases h1 with
         | nil => cases d1 <;> exact q.elim
         | @cons v2 d2 vs2 ds2 a2 h1 =>
           cases h1 with
           | cons _ _ => cases d1 <;> cases d2 <;> exact q.elim
           | nil =>
             cases a1 with
             | lst e1 g1 =>
               cases a2 with
               | lst e2 g2 => exact ⟨_, _, _, _, rfl, SqL.of (msk_sub _ _ e1), SqL.of (msk_sub _ _ e2), q _ H1 s1 (vO e1 g1 e2 g2)⟩
               | _ => exact q.elim
             | _ => cases d2 <;> exact q.elim
     | exc c => rw [e] at q; exact q
     | bad => rw [e] at q; exact q
noncomputable def zI:List V->Hp->VK->Prop:=fun xs H Q=>∃ r j,xs=[.ref r]/\H r=some (.rng 0 j)/\-(2 ^ 62)<=j/\j<=100000/\∀ p,H p=none->Q (.ref p) (upd H p (.lst ((List.range j.toNat).map fun (k:Nat)=>V.int (0 + (k:Int)))))
theorem sy (hc:X.calm=true):jB X (.type "list") zI:=by
 intro pins s σ H xs us Q I r h
 obtain ⟨ra,j,rfl,hq,hj0,hj,q⟩:=h
 obtain ⟨u,rfl,rx⟩:=mq r
 cases rx
 obtain ⟨t,u',v',e⟩:=I.hok ra _ hq
 have hn:Builtin.Range.rangeSize 0 j 1=(j.toNat:Nat):=by rw [rangeSize_one];split <;> omega
 have hsm:Builtin.Range.small 0 j 1=true:=small_one (by decide) (by decide) hj0 (by omega)
 refine call_list_range (n:=j.toNat) (I.ok.hd hc) e hsm hn (by omega) fun h' tk acc c hk hacc hit=>?_
 have hv:Vals ((List.range j.toNat).map fun (k:Nat)=>V.int (0 + (k:Int))) acc.toList:=mn (by simpa using hit.1) fun i v q=>hit.2 i v (by simpa using q)
 have I2:Inv X pins σ (upd H s.heap.objs.size (.lst ((List.range j.toNat).map fun (k:Nat)=>V.int (0 + (k:Int))))) { s with heap:=h',toks:=tk } :=
  I.laid (t':=tk) (fun b o e=>hk b o e) (Nat.le_refl _) (show ObjOk X.prog X.w _ _ _ (.lst _) from ⟨by rw [List.length_map,List.length_range];exact Nat.le_trans (show j.toNat<=100000 by omega) (by decide),acc.toList,c,hv,by simpa using hacc⟩)
 exact ⟨.ref s.heap.objs.size,_,I2,rfl,q _ I.fresh⟩
theorem AL {a : Expr} {p p2 pos pos2 : Pos} {F : Rho -> R (List D)} (hc : X.calm = true) (ha : AD C X [a] F) (hgr : Gl X "range") (hmr : X.mg "range" = none) (hgt : Gl X "list") (hmt : X.mg "list" = none)
    (hs : starEach [a] X.env = [(false, eval a X.env)]) : FD C X (.Call (.Name "list" p) [.Call (.Name "range" p2) [a] [] pos2] [] pos) (w4 F) :=
  aW (bw (sy hc) hgt hmt boot_list (dN (wp hgr hmr ha hs) fh aF) (he := aF) (hpl := au)) fun σ H Q yy0 => by
   obtain ⟨ρ, ⟨H0, r⟩, q⟩ := yy0
   exact ⟨ρ, ⟨H0, r⟩, eG (P := fun z H => pF (X := X) (jA C X ρ σ) z σ H Q) (fun _ h => h) (fun h => h) q fun ds vs H1 s1 h1 q1 => by
    cases h1 with
    | nil => exact q1.elim
    | @cons v1 d1 vs1 ds1 a1 h1 =>
      cases h1 with
      | cons _ _ => cases d1 <;> exact q1.elim
      | nil =>
        cases a1 with
        | int j =>
          unfold wF at q1
          dsimp only at q1
          by_cases hj : -(2 ^ 62) <= j /\ j <= 100000
          · rw [if_pos hj] at q1
            exact ⟨j, rfl, hj.1, by omega, fun ra hra => ⟨ra, j, rfl, bi, hj.1, hj.2, fun pa hpa => q1 pa _ _ (s1.trans (a_ hra)) hpa (r_ _)⟩⟩
          · rw [if_neg hj] at q1; exact q1.elim
        | _ => exact q1.elim⟩
end
end DL
namespace DL
open PySem PySem.Spec PyProof.Rows L2
section
variable (C:Addr) (X:Cx)
noncomputable abbrev A8 (H:Hp) (v:V) (d:D):Prop:=Has X.K C H v d
noncomputable abbrev uW (H:Hp) (v:List V) (d:List D):Prop:=HasL X.K C H v d
noncomputable def teR (F:Rho->R D):TE:=fun σ H Q=>∃ ρ:RB,(∃ H0,eU C X H0 ρ σ H)/\pV X (A8 C X) (F ρ) σ H Q
noncomputable def taR (F:Rho->R (List D)):TA:=fun σ H Q=>∃ ρ:RB,(∃ H0,eU C X H0 ρ σ H)/\pL X (uW C X) (F ρ) σ H Q
noncomputable def ER (e:Expr) (F:Rho->R D):Prop:=PE X e (teR C X F)
noncomputable def AR (es:List Expr) (F:Rho->R (List D)):Prop:=PA X es (taR C X F)
end
section
variable {C:Addr} {X:Cx} {ρ:RB} {σ:St} {H H':Hp}
theorem B1 {e:Expr} {F:Rho->R D} (h:EB C X e F):ER C X e F:=aW h fun σ H Q ⟨ρ,r,q⟩=>⟨ρ,r,by
 cases z:F ρ with
 | val d=>rw [z] at q;exact fun v H' s h=>q v H' s (h.has msk_sub)
 | exc c=>rw [z] at q;exact q
 | bad=>rw [z] at q;exact q⟩
noncomputable def va (i:Nat):Rho->R D:=fun ρ=>match ρ[i]? with
 | some (some (.shr d))=>.val d
 | some (some (.own xs))=>.val (.lst xs)
 | some (some (.tre _ d))=>.val d
 | _=>.bad
theorem AN {i:Nat} {x:Str} {pos:Pos} (h:PE X (.Name x pos) (fN i)):ER C X (.Name x pos) (va i):=by
 refine aW h fun σ H Q zz1=>?_
 obtain ⟨ρ,⟨H0,r⟩,q⟩:=zz1
 unfold va at q
 split at q
 ·rename_i d e
  obtain ⟨v,e1,h1⟩:=r.at_ i _ e
  exact ⟨v,e1,q v H (Same.refl _) (h1.mono msk_sub)⟩
 ·rename_i xs e
  obtain ⟨a,vs,e1,_,h1,h2⟩:=r.at_ i _ e
  exact ⟨_,e1,q _ H (Same.refl _) (.lst h1 (h2.mono msk_sub))⟩
 ·rename_i k d e
  obtain ⟨v,B,e1,_,h1⟩:=r.at_ i _ e
  exact ⟨_,e1,q _ H (Same.refl _) (h1.has msk_sub)⟩
 ·exact q.elim
noncomputable def flF (F:Rho->R D):Rho->R D:=fun ρ=>(F ρ).bind fun d=>match d with
 | .int i=>.val (.int i)
 | .bl b=>.val (.bl b)
 | .non=>.val .non
 | _=>.bad
theorem yO {e:Expr} {F:Rho->R D} (h:ER C X e F):ED C X e (flF F):=aW h fun σ H Q ⟨ρ,r,q⟩=>⟨ρ,r,by
 unfold flF at q
 cases z:F ρ with
 | val d =>
  rw [z] at q
  intro v H' s h
  cases d with
  | int i=>cases h;exact q _ H' s (.int i)
  | bl i=>cases h;exact q _ H' s (.bl i)
  | non=>cases h;exact q _ H' s .non
  | _=>exact q.elim
 | exc c=>rw [z] at q;exact q
 | bad=>rw [z] at q;exact q⟩
theorem AZ:AR C X [] aN:=lX fh fun σ H Q ⟨ρ,r0,q⟩=>q [] H (Same.refl _) .nil
theorem uU {e:Expr} {es:List Expr} {Fa:Rho->R D} {Fr:Rho->R (List D)} (ha:ER C X e Fa) (hr:AR C X es Fr) (hs:starEach (e :: es) X.env=(false,eval e X.env) :: starEach es X.env:=by rfl):AR C X (e :: es) (aC Fa Fr) :=
 lX (dN ha hr hs) fun σ H Q ⟨ρ,⟨H0,r0⟩,q⟩=>⟨ρ,⟨H0,r0⟩,bj (P:=fun z H=>pL X (uW C X) z σ H Q) (fun _ h=>h) (fun h=>h) q fun x v H1 s1 h1 q1 =>
  ⟨ρ,⟨H0,r0.mono s1⟩,eG (P:=fun z H=>pL X (uW C X) z σ H Q) (fun _ h=>h) (fun h=>h) (q1.mono s1) fun xs vs H2 s2 h2 q2=>q2 _ H2 s2 (.cons (h1.mono s2) h2)⟩⟩
theorem B2 {k n:Nat} {den:List D->R D} {x:Str} {p pos:Pos} {e:Expr} {es:List Expr} {Fa:Rho->R (List D)} (F:Fn X.prog X.w X.K X.mg X.base C k x n den) (hr:Room k X.A) (hg:Gl X x) (ha:AR C X (e :: es) Fa)
  (hdb:(x == ("__debug__":Str))=false:=by decide) (he:starEach (e :: es) X.env=(false,eval e X.env) :: starEach es X.env:=by rfl) (hpl:(backTo pos (starEach es X.env)).any (·.1)=false:=by rfl) :
  ER C X (.Call (.Name x p) (e :: es) [] pos) (cal n den Fa):=by
 obtain ⟨f,fd,ps,F,hm,hk,hb⟩:=F
 rintro pins s σ H Q I ⟨ρ,⟨H0,r0⟩,q⟩
 refine wpAny_Call_Name_kw (jp I hg hm ?_ hdb)
 refine PySem.W.callWith_K (h₀:=X.base) I.ok.mod.kin hk (thn (ha pos pins s σ H (fun vs H1=>∃ ds d,ds.length=n/\Same H H1/\uW C X H1 vs ds/\den ds=.val d/\∀ v H',Same H H'->A8 C X H' v d->Q v H') I
  ⟨ρ,⟨H0,r0⟩,eG (P:=fun z H=>pV X (A8 C X) z σ H Q) (fun _ h=>h) (fun h=>h) q fun ds vs H1 s1 h1 q1=>?_⟩) fun us s1 ⟨vs,H1,I1,rv,ds,d,hl,s1',h1,e1,q1⟩=>⟨I1.kIn,?_⟩) he hpl
 ·split at q1
  ·rename_i hl
   cases e1:den ds with
   | val d=>rw [e1] at q1;exact ⟨ds,d,hl,s1,h1,e1,q1⟩
   | exc c=>rw [e1] at q1;exact q1.elim
   | bad=>rw [e1] at q1;exact q1.elim
  ·exact q1.elim
 ·refine thn (pJ (E:=E0) (Q:=fun v M'=>Same H1 M'/\Has X.K C M' v d) F hr hb .nil rj I1 rv ?_) fun u s2 ⟨v,M',J2,ru,sm,hv⟩=>⟨v,M',J2,ru,q1 v M' (s1'.trans sm) hv⟩
  rw [List.append_nil]
  refine ⟨h1.len.trans hl,ds,h1,?_⟩
  rw [e1]
  exact fun v H' s2 h2=>⟨s2,h2⟩
end
end DL
namespace DL
open PySem PySem.Spec PyProof.Rows L2
noncomputable def spK (K:PySem.W.Frag) (C:Addr) (n:Nat) (kr:OK) (den:List D->R D):Sp:=fun vs H Q _=>vs.length=n/\∃ ds,HasL K C H vs ds/\match den ds with
 | .val d=>∀ v H' A,Same H H'->(∀ a ∈ A,H a=none)->Tre K C (cut A H') H' kr v d A->Q v H'
 | _=>False
noncomputable def FnK (P:Program) (w:World) (K:PySem.W.Frag) (mg:Str->Option Value) (base:Heap) (C:Addr) (k:Nat) (x:Str) (n:Nat) (kr:OK) (den:List D->R D):Prop :=
 ∃ f fd ps,FnOk P w K mg base CX0 k f fd ps (spK K C n kr den)/\mg x=some (.ref f)/\PySem.W.keepIn K (.ref f)=true/\Binds K fd ps []
section
variable (C:Addr) (X:Cx)
noncomputable def pR (kr:OK) (r:R D) (H0:Hp) (Q:VK):Prop:=match r with
 | .val d=>∀ v H' A,Same H0 H'->(∀ a ∈ A,H0 a=none)->Tre X.K C (cut A H') H' kr v d A->Q v H'
 | _=>False
noncomputable def tsK (kr:OK) (F:Rho->R D):TS:=fun Dn σ H=>∃ ρ H0,tN C X H0 ρ σ H/\pR C X kr (F ρ) H0 Dn.rt
noncomputable def sI (kr:OK) (st:List Stmt) (F:Rho->R D):Prop:=PSs X st (tsK C X kr F)
end
noncomputable def sqK (F:Rho->R Out) (G:Rho->R D):Rho->R D:=fun ρ=>match F ρ with
 | .val (.nx ρ')=>G ρ'
 | _=>.bad
section
variable {C:Addr} {X:Cx}
theorem my {kr:OK} {st:Stmt} {rest:List Stmt} {F:Rho->R Out} {G:Rho->R D} (h1:SD C X st F) (h2:sI C X kr rest G):sI C X kr (st :: rest) (sqK F G) :=
 iO (iP h1 h2) fun D σ H ⟨ρ,H0,r,q⟩=>by
  refine ⟨ρ,H0,r,?_⟩
  unfold sqK at q
  cases e:F ρ with
  | val o =>
   rw [e] at q
   cases o with
   | nx ρ'=>exact fun σ' H' r'=>⟨ρ',H0,r',q⟩
   | rt d=>exact q.elim
   | bk ρ'=>exact q.elim
   | ct ρ'=>exact q.elim
  | exc c=>rw [e] at q;exact q.elim
  | bad=>rw [e] at q;exact q.elim
theorem pz {kr:OK} {e:Expr} {pos:Pos} {F:Rho->R D} (he:KD C X kr e F):sI C X kr [.Return (some e) pos] F :=
 iO (lU (wc he)) fun D σ H ⟨_,H0,⟨ρ,er,r⟩,q⟩=>by
  subst er
  refine ⟨ρ,⟨H0,r⟩,?_⟩
  cases z:F ρ with
  | val d =>
   rw [z] at q
   exact fun v H' A s hA h=>q v H' A ((r.keep.trans msk_sub).trans s) (fun a ha=>gf (r.keep.trans msk_sub) (hA a ha)) (h.stay (fun b o e=>cut_some.mpr ⟨(cut_some.mp e).1,(msk_some.mp (cut_some.mp e).2).2⟩) (.of (Same.refl _)))
  | exc c=>rw [z] at q;exact q.elim
  | bad=>rw [z] at q;exact q.elim
theorem rY {k n:Nat} {kr:OK} {den:List D->R D} {x:Str} {p pos:Pos} {e:Expr} {es:List Expr} {Fa:Rho->R (List D)} (F:FnK X.prog X.w X.K X.mg X.base C k x n kr den) (hr:Room k X.A) (hg:Gl X x) (ha:AD C X (e :: es) Fa)
  (hdb:(x == ("__debug__":Str))=false:=by decide) (he:starEach (e :: es) X.env=(false,eval e X.env) :: starEach es X.env:=by rfl) (hpl:(backTo pos (starEach es X.env)).any (·.1)=false:=by rfl) :
  KD C X kr (.Call (.Name x p) (e :: es) [] pos) (cal n den Fa):=by
 obtain ⟨f,fd,ps,F,hm,hk,hb⟩:=F
 rintro pins s σ H Q I ⟨ρ,⟨H0,r0⟩,q⟩
 refine wpAny_Call_Name_kw (jp I hg hm ?_ hdb)
 refine PySem.W.callWith_K (h₀:=X.base) I.ok.mod.kin hk (thn (ha pos pins s σ H (fun vs H1=>∃ ds d,ds.length=n/\Same H H1/\jA C X ρ σ H1 vs ds/\den ds=.val d/\∀ v H' A,Same H H'->(∀ a ∈ A,H a=none)->Tre X.K C (cut A (msk ρ σ H')) H' kr v d A->Q v H') I
  ⟨ρ,⟨H0,r0⟩,eG (P:=fun z H=>pK C X kr ρ z σ H Q) (fun _ h=>h) (fun h=>h) q fun ds vs H1 s1 h1 q1=>?_⟩) fun us s1 ⟨vs,H1,I1,rv,ds,d,hl,s1',h1,e1,q1⟩=>⟨I1.kIn,?_⟩) he hpl
 ·split at q1
  ·rename_i hl
   cases e1:den ds with
   | val d=>rw [e1] at q1;exact ⟨ds,d,hl,s1,h1,e1,q1⟩
   | exc c=>rw [e1] at q1;exact q1.elim
   | bad=>rw [e1] at q1;exact q1.elim
  ·exact q1.elim
 ·have r1:=r0.mono s1'
  have Z:=Rel.hid r1 I1
  have J:=I1.hide Z
  refine thn (pJ (E:=E0) (Q:=fun v M'=>∃ A,Same (cut (d_ ρ σ) H1) M'/\(∀ a ∈ A,cut (d_ ρ σ) H1 a=none)/\Tre X.K C (cut A M') M' kr v d A) F hr hb .nil rj J rv ?_) fun u s2 ⟨v,M',J2,ru,A,sm,hA,hv⟩=>?_
  ·rw [List.append_nil]
   refine ⟨h1.len.trans hl,ds,by rw [<- h8 r0.bnd];exact h1,?_⟩
   rw [e1]
   exact fun v H' A s2 hA h2=>⟨A,s2,hA,h2⟩
  ·obtain ⟨I2,mz⟩:=I1.show' Z J2
   have sj:Same H1 (jn (d_ ρ σ) H1 M'):=fun b o eb=>by
    by_cases hb:b ∈ d_ ρ σ
    ·rw [jy hb];exact eb
    ·rw [cW hb];exact sm b o (cut_some.mpr ⟨hb,eb⟩)
   have em:msk ρ σ (jn (d_ ρ σ) H1 M')=M':=by
    rw [h8 r0.bnd]
    funext b
    by_cases hb:b ∈ d_ ρ σ
    ·rw [gu hb,mz b hb]
    ·unfold cut;rw [if_neg hb,cW hb]
   have nz:∀ b o,M' b=some o->jn (d_ ρ σ) H1 M' b=some o:=fun b o eb=>by
    rw [cW fun hb=>by rw [mz b hb] at eb;cases eb];exact eb
   refine ⟨v,_,I2,ru,q1 v _ A (s1'.trans sj) (fun a ha=>?_) (by rw [em];exact hv.stay (Same.refl _) (.of nz))⟩
   obtain ⟨us,ea⟩:=hv.lists a ha
   have na:a ∉ d_ ρ σ:=fun hb=>by rw [mz a hb] at ea;cases ea
   have:=hA a ha
   unfold cut at this
   rw [if_neg na] at this
   exact gf s1' this
end
section
variable {P:Program} {w:World} {K:PySem.W.Frag} {mg:Str->Option Value} {base:Heap} {C:Addr}
theorem qD {x qual:Str} {st:Stmt} {f:Addr} {fd:FuncData} {N ps:List Str} {k:Nat} {kr:OK} {den:Rho->R D} (F:Fun K x qual st f fd) (sc:aH N ps (ac st))
  (hb:∀ (cdv:Value) (A:Around) (outer:List Env) (s:Shared) (H:Hp) (E:XK),Room k (A.deeper (envOfC qual (ac st) s.heap.objs.size f cdv)) ->
   sI C (bX CX0 P w K mg base N qual (ac st) f cdv A outer s H E).nox kr (aw st) den) :
  FnOk P w K mg base CX0 (k + 1) f fd ps (spK K C ps.length kr fun ds=>den (st0 N ds)):=by
 refine F.ok sc (fun vs H Q E h=>h.1) (fun cdv A outer s H vs Q E hr h=>⟨_,hb cdv A outer s H E hr,?_⟩)
 obtain ⟨_,ds,h,q⟩:=h
 exact ⟨st0 N ds,H,oS h,q⟩
end
end DL
namespace DL
open PySem PySem.Spec PyProof.Rows L2
noncomputable def ln:D->List Nat->Option D
 | d,[]=>some d
 | .lst xs,j :: p=>match xs[j]? with
  | some d=>ln d p
  | none=>none
 | .tup xs,j :: p=>match xs[j]? with
  | some d=>ln d p
  | none=>none
 | _,_ :: _=>none
noncomputable def mG:D->List Nat->D->D
 | _,[],e=>e
 | .lst xs,j :: p,e=>match xs[j]? with
  | some d=>.lst (xs.set j (mG d p e))
  | none=>.lst xs
 | .tup xs,j :: p,e=>match xs[j]? with
  | some d=>.tup (xs.set j (mG d p e))
  | none=>.tup xs
 | d,_ :: _,_=>d
noncomputable def iJ:OK->List Nat->Option OK
 | k,[]=>some k
 | .l k,_ :: p=>iJ k p
 | .p j _,0 :: p=>iJ j p
 | .p _ k,1 :: p=>iJ k p
 | _,_ :: _=>none
inductive Reach (H:Hp):V->List Nat->V->Prop where
 | nil {v:V}:Reach H v [] v
 | lst {a:Addr} {vs:List V} {j:Nat} {p:List Nat} {v w:V}:H a=some (.lst vs)->vs[j]?=some v->Reach H v p w->Reach H (.ref a) (j :: p) w
 | tup {a:Addr} {vs:List V} {j:Nat} {p:List Nat} {v w:V}:H a=some (.tup vs)->vs[j]?=some v->Reach H v p w->Reach H (.ref a) (j :: p) w
section
variable {K:PySem.W.Frag} {C:Addr} {M M' H H':Hp}
theorem Reach.mono (s:Same H H') {v w:V} {p:List Nat} (h:Reach H v p w):Reach H' v p w:=by
 induction h with
 | nil=>exact .nil
 | lst e q _ ih=>exact .lst (s _ _ e) q ih
 | tup e q _ ih=>exact .tup (s _ _ e) q ih
structure Ca (A B:List Addr) (H H':Hp):Prop where
 at_:∀ a ∈ A,a ∉ B->∀ o,H a=some o->H' a=some o
 tup:∀ a vs,H a=some (.tup vs)->H' a=some (.tup vs)
theorem TreP.pick:∀ {ks:List OK} {vs:List V} {ds:List D} {A:List Addr} {j:Nat} {d:D},TreP K C M H ks vs ds A->ds[j]?=some d->∃ k v A1,ks[j]?=some k/\vs[j]?=some v/\Tre K C M H k v d A1/\(∀ a ∈ A1,a ∈ A) /\
  ∀ {M' H':Hp} {d':D} {A2:List Addr},Same M M'->Ca A A1 H H'->Tre K C M' H' k v d' A2->(∀ a ∈ A2,a ∈ A1\/a ∉ A)->∃ A',TreP K C M' H' ks vs (ds.set j d') A'/\∀ a ∈ A',a ∈ A\/a ∈ A2
 | _,_,_,_,_,_,.nil,e=>by simp at e
 | _,_,_,_,0,d,.cons (k:=k) (v:=v) (A:=A1) (B:=A3) h t n,e=>by
  rw [List.getElem?_cons_zero] at e
  cases e
  refine ⟨k,v,A1,rfl,rfl,h,fun a ha=>List.mem_append_left _ ha,fun {M' H' d' A2} s w h2 f=>⟨A2 ++ A3,.cons h2 (t.stay s ⟨fun a ha o q=>w.at_ a (List.mem_append_right _ ha) (fun z=>n a z ha) o q,w.tup⟩) fun a ha hb=>?_,fun a ha=>?_⟩⟩
  ·rcases f a ha with z | z
   ·exact n a z hb
   ·exact z (List.mem_append_right _ hb)
  ·rcases List.mem_append.mp ha with z | z
   ·exact .inr z
   ·exact .inl (List.mem_append_right _ z)
 | _,_,_,_,j + 1,d,.cons (k:=k0) (v:=v0) (d:=d0) (A:=A0) (B:=A3) h t n,e=>by
  rw [List.getElem?_cons_succ] at e
  obtain ⟨k,v,A1,e1,e2,h1,s1,up⟩:=TreP.pick t e
  refine ⟨k,v,A1,e1,e2,h1,fun a ha=>List.mem_append_right _ (s1 a ha),fun {M' H' d' A2} s w h2 f=>?_⟩
  obtain ⟨A',h3,s3⟩:=up (M':=M') (H':=H') s ⟨fun a ha na o q=>w.at_ a (List.mem_append_right _ ha) na o q,w.tup⟩ h2 fun a ha=>(f a ha).imp id fun z y=>z (List.mem_append_right _ y)
  refine ⟨A0 ++ A',.cons (h.stay s ⟨fun a ha o q=>w.at_ a (List.mem_append_left _ ha) (fun z=>n a ha (s1 a z)) o q,w.tup⟩) h3 fun a ha hb=>?_,fun a ha=>?_⟩
  ·rcases s3 a hb with z | z
   ·exact n a ha z
   ·rcases f a z with y | y
    ·exact n a ha (s1 a y)
    ·exact y (List.mem_append_left _ ha)
  ·rcases List.mem_append.mp ha with z | z
   ·exact .inl (List.mem_append_left _ z)
   ·exact (s3 a z).imp (fun y=>List.mem_append_right _ y) id
theorem yn {α:Type} {k k':OK} {vs:List α} {j:Nat} (h:(vs.map fun _=>k)[j]?=some k'):k'=k:=by
 rw [List.getElem?_map] at h
 cases e:vs[j]? with
 | none=>rw [e] at h;cases h
 | some v=>rw [e] at h;exact (Option.some.inj h).symm
theorem Tre.path:∀ {pp:List Nat} {k k':OK} {v:V} {d d':D} {A:List Addr},Tre K C M H k v d A->ln d pp=some d'->iJ k pp=some k'->∃ v' A1,Tre K C M H k' v' d' A1/\(∀ a ∈ A1,a ∈ A)/\Reach H v pp v' /\
  ∀ {M' H':Hp} {e:D} {A2:List Addr},Same M M'->Ca A A1 H H'->Tre K C M' H' k' v' e A2->(∀ a ∈ A2,a ∈ A1\/a ∉ A)->∃ A',Tre K C M' H' k v (mG d pp e) A'/\∀ a ∈ A',a ∈ A\/a ∈ A2
 | [],k,k',v,d,d',A,h,ed,ek=>by
  unfold ln at ed
  unfold iJ at ek
  cases ed;cases ek
  exact ⟨v,A,h,fun a ha=>ha,.nil,fun {M' H' e A2} _ _ h2 _=>⟨A2,by unfold mG;exact h2,fun a ha=>.inr ha⟩⟩
 | j :: pp,_,k',_,_,d',_,.s h,ed,ek=>by unfold iJ at ek;cases ek
 | j :: pp,_,k',_,_,d',_,.l (k:=k) (a:=a) (vs:=vs) (xs:=xs) (A:=A) ha hp hn,ed,ek=>by
  unfold ln at ed
  unfold iJ at ek
  split at ed
  ·rename_i d0 e0
   obtain ⟨k0,v0,A0,q1,q2,h0,s0,up0⟩:=hp.pick e0
   have:=yn q1
   subst this
   obtain ⟨v',A1,h1,s1,rc,up1⟩:=Tre.path h0 ed ek
   refine ⟨v',A1,h1,fun b hb=>List.mem_cons_of_mem _ (s0 b (s1 b hb)),.lst ha q2 rc,fun {M' H' e A2} s w h2 f=>?_⟩
   obtain ⟨A3,h3,s3⟩:=up1 (M':=M') (H':=H') s ⟨fun b hb nb o q=>w.at_ b (List.mem_cons_of_mem _ (s0 b hb)) nb o q,w.tup⟩ h2 fun b hb=>(f b hb).imp id fun z y=>z (List.mem_cons_of_mem _ (s0 b y))
   have f3:∀ b ∈ A3,b ∈ A0\/b ∉ A:=fun b hb=>by
    rcases s3 b hb with z | z
    ·exact .inl z
    ·rcases f b z with y | y
     ·exact .inl (s1 b y)
     ·exact .inr fun x=>y (List.mem_cons_of_mem _ x)
   obtain ⟨A4,h4,s4⟩:=up0 (M':=M') (H':=H') s ⟨fun b hb nb o q=>w.at_ b (List.mem_cons_of_mem _ hb) (fun z=>nb (s1 b z)) o q,w.tup⟩ h3 f3
   have na:a ∉ A2:=fun z=>by
    rcases f a z with y | y
    ·exact hn (s0 a (s1 a y))
    ·exact y List.mem_cons_self
   refine ⟨a :: A4,?_,fun b hb=>?_⟩
   ·unfold mG
    rw [e0]
    refine .l (w.at_ a List.mem_cons_self (fun z=>hn (s0 a (s1 a z))) _ ha) h4 fun z=>?_
    rcases s4 a z with y | y
    ·exact hn y
    ·rcases s3 a y with x | x
     ·exact hn (s0 a x)
     ·exact na x
   ·rcases List.mem_cons.mp hb with rfl | hb
    ·exact .inl List.mem_cons_self
    ·rcases s4 b hb with y | y
     ·exact .inl (List.mem_cons_of_mem _ y)
     ·exact (s3 b y).imp (fun x=>List.mem_cons_of_mem _ (s0 b x)) id
  ·cases ed
 | j :: pp,_,k',_,_,d',_,.p (j:=k1) (k:=k2) (a:=a) (vs:=vs) (xs:=xs) (A:=A) ha hp,ed,ek=>by
  unfold ln at ed
  split at ed
  ·rename_i d0 e0
   obtain ⟨k0,v0,A0,q1,q2,h0,s0,up0⟩:=hp.pick e0
   have ek0:iJ k0 pp=some k':=by
    match j,q1,ek with
    | 0,q1,ek=>cases q1;unfold iJ at ek;exact ek
    | 1,q1,ek=>cases q1;unfold iJ at ek;exact ek
    | n + 2,q1,ek=>cases q1
   obtain ⟨v',A1,h1,s1,rc,up1⟩:=Tre.path h0 ed ek0
   refine ⟨v',A1,h1,fun b hb=>s0 b (s1 b hb),.tup ha q2 rc,fun {M' H' e A2} s w h2 f=>?_⟩
   obtain ⟨A3,h3,s3⟩:=up1 (M':=M') (H':=H') s ⟨fun b hb nb o q=>w.at_ b (s0 b hb) nb o q,w.tup⟩ h2 fun b hb=>(f b hb).imp id fun z y=>z (s0 b y)
   have f3:∀ b ∈ A3,b ∈ A0\/b ∉ A:=fun b hb=>by
    rcases s3 b hb with z | z
    ·exact .inl z
    ·rcases f b z with y | y
     ·exact .inl (s1 b y)
     ·exact .inr y
   obtain ⟨A4,h4,s4⟩:=up0 (M':=M') (H':=H') s ⟨fun b hb nb o q=>w.at_ b hb (fun z=>nb (s1 b z)) o q,w.tup⟩ h3 f3
   refine ⟨A4,?_,fun b hb=>?_⟩
   ·unfold mG
    rw [e0]
    exact .p (w.tup _ _ ha) h4
   ·rcases s4 b hb with y | y
    ·exact .inl y
    ·exact (s3 b y).imp (fun x=>s0 b x) id
  ·cases ed
end
end DL
namespace DL
open PySem PySem.Spec PyProof.Rows L2
section
variable {K:PySem.W.Frag} {C:Addr} {H0 H:Hp} {ρ:RB} {σ:St}
theorem Rel.node (r:Rel K C H0 ρ σ H) {i:Nat} {k k':OK} {d:D} {pp:List Nat} {xs:List D} (e:ρ.rho[i]?=some (some (.tre k d))) (ek:iJ k pp=some (.l k')) (ed:ln d pp=some (.lst xs)) :
  ∃ v a vs A0,σ[i]?=some (some v)/\Reach H v pp (.ref a)/\H a=some (.lst vs)/\TreP K C (msk ρ σ H) H (vs.map fun _=>k') vs xs A0/\a ∉ A0 /\
   ∀ {H2:Hp} {ws:List V} {ys:List D} {N B:List Addr},Same H H2->(∀ b ∈ N,H b=none)->TreP K C (cut N (msk ρ σ H2)) (upd H2 a (.lst ws)) (ws.map fun _=>k') ws ys B->(∀ b ∈ B,b ∈ A0\/b ∈ N) ->
    Rel K C H0 (ρ.put i (.tre k (mG d pp (.lst ys))) (ρ.ad i ++ B)) σ (upd H2 a (.lst ws)):=by
 obtain ⟨v,Bt,e1,hB,h⟩:=r.at_ i _ e
 obtain ⟨v',A1,h1,s1,rc,up⟩:=h.path ed ek
 cases h1 with
 | @l _ a vs _ A0 ha hp hn =>
  have aI:a ∈ ρ.ad i:=hB a (s1 a List.mem_cons_self)
  have A0I:∀ b ∈ A0,b ∈ ρ.ad i:=fun b hb=>hB b (s1 b (List.mem_cons_of_mem _ hb))
  refine ⟨v,a,vs,A0,e1,rc,ha,hp,hn,fun {H2 ws ys N B} s hN ht hs=>?_⟩
  have nN:∀ b,b ∈ ρ.ad i->b ∉ N:=fun b hb z=>by
   have:=r.ownAt (σ:=σ) ⟨i,hb⟩
   exact this (hN b z)
  have ne:∀ b vs',H b=some (.tup vs')->b ≠ a:=fun b vs' q z=>by rw [z,ha] at q;cases q
  refine r.put rfl (fun j _=>rfl) (fun b hb=>?_) (fun j hj=>⟨fun b hb o q=>?_,fun b vs' q=>?_⟩) (fun b o q=>?_) (fun b hb=>?_) fun hi sub=>?_
  ·rcases List.mem_append.mp hb with hb | hb
   ·exact .inl hb
   ·rcases hs b hb with z | z
    ·exact .inl (A0I b z)
    ·exact .inr (hN b z)
  ·rw [aJ fun (z:b=a)=>hj (r.inj j i b hb (z ▸ aI))];exact s b o q
  ·rw [aJ (ne b vs' q)];exact s b _ q
  ·obtain ⟨g1,g2⟩:=msk_some.mp q
   rw [aJ fun (z:b=a)=>g1 ⟨i,z ▸ aI⟩];exact s b o g2
  ·by_cases z:b=a
   ·exact .inl ⟨ws,by rw [z];exact bi⟩
   ·rcases List.mem_append.mp hb with hb | hb
    ·rw [aJ z]
     exact (r.kin i b hb).imp (fun ⟨us,q⟩=>⟨us,s _ _ q⟩) fun ⟨us,q⟩=>⟨us,s _ _ q⟩
    ·exact .inl (ht.lists b hb)
  ·have aB:a ∉ B:=fun z=>by
    rcases hs a z with y | y
    ·exact hn y
    ·exact nN a aI y
   obtain ⟨A',h3,s3⟩:=up (M':=msk (ρ.put i (.tre k (mG d pp (.lst ys))) (ρ.ad i ++ B)) σ (upd H2 a (.lst ws))) (H':=upd H2 a (.lst ws)) sub ⟨fun b hb nb o q=>by rw [aJ fun (z:b=a)=>nb (z ▸ List.mem_cons_self)];exact s b o q,fun b vs' q=>by rw [aJ (ne b vs' q)];exact s b _ q⟩
    (.l (k:=k') bi (ht.stay (fun b o q=>by
     obtain ⟨g1,g2⟩:=cut_some.mp q
     obtain ⟨g3,g4⟩:=msk_some.mp g2
     refine msk_some.mpr ⟨fun ⟨j,z⟩=>?_,by rw [aJ fun (z:b=a)=>g3 ⟨i,z ▸ aI⟩];exact g4⟩
     rcases gh z with ⟨_,_,z⟩ | ⟨_,z⟩
     ·rcases List.mem_append.mp z with z | z
      ·exact g3 ⟨i,z⟩
      ·rcases hs b z with y | y
       ·exact g3 ⟨i,A0I b y⟩
       ·exact g1 y
     ·exact g3 ⟨j,z⟩) (.of (Same.refl _))) aB) (fun b hb=>by
     rcases List.mem_cons.mp hb with z | z
     ·exact .inl (z ▸ List.mem_cons_self)
     ·rcases hs b z with y | y
      ·exact .inl (List.mem_cons_of_mem _ y)
      ·exact .inr fun x=>nN b (hB b x) y)
   refine ⟨v,A',e1,fun b hb=>?_,h3⟩
   rcases s3 b hb with z | z
   ·exact List.mem_append_left _ (hB b z)
   ·rcases List.mem_cons.mp z with z | z
    ·exact List.mem_append_left _ (z ▸ aI)
    ·exact List.mem_append_right _ z
theorem Reach.det {v:V} {pp:List Nat} {w w':V} (h:Reach H v pp w) (h':Reach H v pp w'):w=w':=by
 induction h with
 | nil=>cases h';rfl
 | lst e q _ ih =>
  cases h' with
  | lst e' q' h'=>rw [e] at e';cases e';rw [q] at q';cases q';exact ih h'
  | tup e' q' h'=>rw [e] at e';cases e'
 | tup e q _ ih =>
  cases h' with
  | lst e' q' h'=>rw [e] at e';cases e'
  | tup e' q' h'=>rw [e] at e';cases e';rw [q] at q';cases q';exact ih h'
theorem Reach.snocL {v u:V} {pp:List Nat} {w:V} {a:Addr} {vs:List V} {j:Nat} (h:Reach H v pp w) (ew:w=.ref a) (e:H a=some (.lst vs)) (q:vs[j]?=some u):Reach H v (pp ++ [j]) u:=by
 induction h with
 | nil=>subst ew;exact .lst e q .nil
 | lst e' q' _ ih=>exact .lst e' q' (ih ew)
 | tup e' q' _ ih=>exact .tup e' q' (ih ew)
theorem Reach.snocT {v u:V} {pp:List Nat} {w:V} {a:Addr} {vs:List V} {j:Nat} (h:Reach H v pp w) (ew:w=.ref a) (e:H a=some (.tup vs)) (q:vs[j]?=some u):Reach H v (pp ++ [j]) u:=by
 induction h with
 | nil=>subst ew;exact .tup e q .nil
 | lst e' q' _ ih=>exact .lst e' q' (ih ew)
 | tup e' q' _ ih=>exact .tup e' q' (ih ew)
end
section
variable {C:Addr} {X:Cx}
noncomputable def pN0 (i:Nat):Rho->R (List Nat):=fun ρ=>match ρ[i]? with
 | some (some (.tre _ _))=>.val []
 | _=>.bad
noncomputable def pIx (k:OK) (d:D) (pp:List Nat) (n:Int):R (List Nat):=match iJ k pp,ln d pp with
 | some (.l _),some (.lst xs)=>match ixN xs.length n with
  | some j=>.val (pp ++ [j])
  | none=>.bad
 | some (.p _ _),some (.tup xs)=>match ixN xs.length n with
  | some j=>.val (pp ++ [j])
  | none=>.bad
 | _,_=>.bad
noncomputable def pN (i:Nat) (P:Rho->R (List Nat)) (b:Rho->R D):Rho->R (List Nat):=fun ρ=>(P ρ).bind fun pp=>(b ρ).bind fun n=>match ρ[i]?,n with
 | some (some (.tre k d)),.int n=>pIx k d pp n
 | _,_=>.bad
variable (C X) in
noncomputable def teN (i:Nat) (P:Rho->R (List Nat)):TE:=fun σ H Q=>∃ ρ:RB,(∃ H0,eU C X H0 ρ σ H)/\match P ρ with
 | .val pp=>∀ v w H',σ[i]?=some (some v)->Same H H'->Reach H' v pp w->Q w H'
 | .exc c=>XE X c σ H
 | .bad=>False
variable (C X) in
noncomputable def ND (i:Nat) (o:Expr) (P:Rho->R (List Nat)):Prop:=PE X o (teN C X i P)
theorem ue {i:Nat} {x:Str} {pos:Pos} (h:PE X (.Name x pos) (fN i)):ND C X i (.Name x pos) (pN0 i):=by
 refine aW h fun σ H Q ⟨ρ,⟨H0,r⟩,q⟩=>?_
 unfold pN0 at q
 split at q
 ·rename_i e
  split at e
  ·rename_i k d e0
   cases e
   obtain ⟨v,B,e1,_,_⟩:=r.at_ i _ e0
   exact ⟨v,e1,q v v H e1 (Same.refl _) .nil⟩
  ·cases e
 ·rename_i e
  split at e <;> cases e
 ·exact q.elim
theorem xy {α:Type} {vs:List α} {n:Int} {j:Nat} (e:ixN vs.length n=some j):atI vs n=vs[j]?:=by
 unfold atI
 rw [e]
 rfl
theorem wL {m j:Nat} {n:Int} (e:ixN m n=some j):j < m:=by
 unfold ixN at e
 split at e
 ·split at e
  ·cases e;omega
  ·cases e
 ·split at e
  ·cases e;omega
  ·cases e
theorem BM {i:Nat} {o b:Expr} {pos:Pos} {P:Rho->R (List Nat)} {Fb:Rho->R D} (ho:ND C X i o P) (hb:ED C X b Fb) (hs:kx b:=by exact fun _ _=>rfl):ND C X i (.Subscript o b pos) (pN i P Fb) :=
 aW (wr wK ho hb hs) fun σ H Q ⟨ρ,⟨H0,r⟩,q⟩=>by
  refine ⟨ρ,⟨H0,r⟩,?_⟩
  unfold pN at q
  cases eP:P ρ with
  | exc c=>rw [eP] at q;exact q
  | bad=>rw [eP] at q;exact q
  | val pp =>
   rw [eP] at q
   dsimp only [DL.R.bind] at q
   intro v w H1 e1 s1 rc
   refine ⟨ρ,⟨H0,r.mono s1⟩,?_⟩
   cases eb:Fb ρ with
   | exc c=>rw [eb] at q;exact XE.mono s1 q
   | bad=>rw [eb] at q;exact q
   | val n =>
    rw [eb] at q
    dsimp only at q
    intro y H2 s2 hy
    split at q
    ·rename_i pq e0
     split at e0
     ·rename_i k d n' er
      cases hy
      unfold pIx at e0
      obtain ⟨v0,B,e2,_,h⟩:=r.at_ i _ er
      rw [e1] at e2;cases e2
      split at e0
      ·rename_i k1 xs ek ed
       split at e0
       ·rename_i j ej
        cases e0
        obtain ⟨v',A1,h1,_,rc',_⟩:=h.path ed ek
        have:=Reach.det (rc'.mono s1) rc
        subst this
        cases h1 with
        | @l _ a vs _ A0 ha hp hn =>
         have ha2:=s2 _ _ (s1 _ _ ha)
         have hl:vs.length=xs.length:=hp.len.1
         have hj:j < vs.length:=by rw [hl];exact wL ej
         exact .inl ⟨a,vs,n',vs[j],rfl,rfl,SqL.of ha2,by rw [xy (j:=j) (by rw [hl];exact ej)];exact List.getElem?_eq_getElem hj,q v _ H2 e1 (s1.trans s2) ((rc.mono s2).snocL rfl ha2 (List.getElem?_eq_getElem hj))⟩
       ·cases e0
      ·rename_i k1 k2 xs ek ed
       split at e0
       ·rename_i j ej
        cases e0
        obtain ⟨v',A1,h1,_,rc',_⟩:=h.path ed ek
        have:=Reach.det (rc'.mono s1) rc
        subst this
        cases h1 with
        | @p _ _ a vs _ A0 ha hp =>
         have ha2:=s2 _ _ (s1 _ _ ha)
         have hl:vs.length=xs.length:=hp.len.1
         have hj:j < vs.length:=by rw [hl];exact wL ej
         exact .inr (.inl ⟨a,vs,n',vs[j],rfl,rfl,SqT.of ha2,by rw [xy (j:=j) (by rw [hl];exact ej)];exact List.getElem?_eq_getElem hj,q v _ H2 e1 (s1.trans s2) ((rc.mono s2).snocT rfl ha2 (List.getElem?_eq_getElem hj))⟩)
       ·cases e0
      ·cases e0
     ·cases e0
    ·rename_i c e0
     exfalso
     split at e0
     ·unfold pIx at e0
      split at e0
      ·split at e0 <;> cases e0
      ·split at e0 <;> cases e0
      ·cases e0
     ·cases e0
    ·exact q.elim
end
end DL
namespace DL
open PySem PySem.Spec PyProof.Rows L2
section
variable (C:Addr) (X:Cx)
noncomputable def pI (σ:St) (z:R Rho) (H0:Hp) (Dn:ky):Prop:=match z with
 | .val ρ'=>∀ H',tN C X H0 ρ' σ H'->Dn.nx σ H'
 | .exc c=>XS X c H0
 | .bad=>False
noncomputable def tsI (F:Rho->R Rho):TS:=fun Dn σ H=>∃ ρ H0,tN C X H0 ρ σ H/\pI C X σ (F ρ) H0 Dn
noncomputable def SDi (st:Stmt) (F:Rho->R Rho):Prop:=PS X st (tsI C X F)
end
section
variable {K:PySem.W.Frag} {C:Addr} {M H:Hp}
end
noncomputable def uZ (i:Nat) (k':OK) (pp:List Nat) (f:List D->R (List D)):Rho->R Rho:=fun ρ=>match ρ[i]? with
 | some (some (.tre k d))=>if iJ k pp=some (.l k') then (match ln d pp with
  | some (.lst xs)=>(f xs).bind fun ys=>.val (ρ.set i (some (.tre k (mG d pp (.lst ys)))))
  | _=>.bad) else .bad
 | _=>.bad
noncomputable def apF (x:D) (xs:List D):R (List D):=if xs.length < LIM then .val (xs ++ [x]) else .bad
theorem A6 {x:D}:∀ xs c,apF x xs ≠ .exc c:=fun xs c e=>by unfold apF at e;split at e <;> cases e
noncomputable def apP (i:Nat) (k':OK) (P:Rho->R (List Nat)) (e:Rho->R D):Rho->R Rho:=fun ρ=>(P ρ).bind fun pp=>(noE (e ρ)).bind fun x=>uZ i k' pp (apF x) ρ
section
variable {C:Addr} {X:Cx}
noncomputable def asO (F:Rho->R Rho):Rho->R Out:=fun ρ=>(F ρ).bind fun ρ'=>.val (.nx ρ')
theorem Bm {st:Stmt} {F:Rho->R Rho} (h:SDi C X st F):SD C X st (asO F):=ck h fun D σ H ⟨ρ,H0,r,q⟩=>⟨ρ,H0,r,by
 unfold asO at q
 cases e:F ρ with
 | val ρ'=>rw [e] at q;exact fun H' r'=>q σ H' r'
 | exc c=>rw [e] at q;exact q
 | bad=>rw [e] at q;exact q⟩
theorem Aa {H0:Hp} {Dn:ky} {c:Nat} {ρ:RB} {σ:St} {H:Hp} (r:eU C X H0 ρ σ H) (h:pI C X σ (.exc c) H0 Dn):XE X c σ H:=XS.xe (r.keep.trans msk_sub) h
theorem vS {i:Nat} {k':OK} {pp:List Nat} {f:List D->R (List D)} {ρ:RB} {σ:St} {H H0:Hp} {D:ky} (hf:∀ xs c,f xs ≠ .exc c) (r:eU C X H0 ρ σ H) (q:pI C X σ (uZ i k' pp f ρ) H0 D) :
  ∃ xs ys v a vs A0,f xs=.val ys/\σ[i]?=some (some v)/\Reach H v pp (.ref a)/\H a=some (.lst vs)/\TreP X.K C (msk ρ σ H) H (vs.map fun _=>k') vs xs A0/\a ∉ A0 /\
   ∀ {H2:Hp} {ws:List V} {N B:List Addr},Same H H2->(∀ b ∈ N,H b=none)->TreP X.K C (cut N (msk ρ σ H2)) (upd H2 a (.lst ws)) (ws.map fun _=>k') ws ys B->(∀ b ∈ B,b ∈ A0\/b ∈ N)->D.nx σ (upd H2 a (.lst ws)):=by
 unfold uZ at q
 split at q
 ·rename_i k d er
  by_cases ek:iJ k pp=some (.l k')
  ·rw [if_pos ek] at q
   split at q
   ·rename_i xs ed
    cases ef:f xs with
    | val ys =>
     rw [ef] at q
     obtain ⟨v,a,vs,A0,e1,rc,ha,hp,hn,up⟩:=r.node er ek ed
     exact ⟨xs,ys,v,a,vs,A0,ef,e1,rc,ha,hp,hn,fun {H2 ws N B} s hN ht hs=>q _ ⟨_,rfl,up s hN ht hs⟩⟩
    | exc c=>exact (hf xs c ef).elim
    | bad=>rw [ef] at q;exact q.elim
   ·exact q.elim
  ·rw [if_neg ek] at q;exact q.elim
 ·exact q.elim
theorem vi {k':OK} {ρ:RB} {σ:St} {H H0 H2:Hp} {a:Addr} {vs ws:List V} {xs:List D} {A0 N:List Addr} (r:eU C X H0 ρ σ H) (s:Same H H2) (ha:H a=some (.lst vs)) (hn:a ∉ A0) (hN:∀ b ∈ N,H b=none) (hp:TreP X.K C (msk ρ σ H) H (vs.map fun _=>k') vs xs A0) :
  TreP X.K C (cut N (msk ρ σ H2)) (upd H2 a (.lst ws)) (vs.map fun _=>k') vs xs A0 :=
 hp.stay (fun b o e=>cut_some.mpr ⟨fun z=>Option.some_ne_none _ ((msk_some.mp e).2.symm.trans (hN b z)),br s b o e⟩)
  ⟨fun b hb o e=>by rw [aJ fun (z:b=a)=>hn (z ▸ hb)];exact s b o e,fun b us e=>by rw [aJ fun (z:b=a)=>by rw [z,ha] at e;cases e];exact s b _ e⟩
theorem wA {k':OK} {ρ:RB} {σ:St} {H H1 H2:Hp} {a:Addr} {vs ws:List V} {y:V} {x:D} {N:List Addr} (ha:H a=some (.lst vs)) (s1:Same H H1) (s2:Same H1 H2) (hN:∀ b ∈ N,H b=none) (h:Tre X.K C (cut N (msk ρ σ H1)) H1 k' y x N) :
  Tre X.K C (cut N (msk ρ σ H2)) (upd H2 a (.lst ws)) k' y x N :=
 h.stay (fun b o e=>cut_some.mpr ⟨(cut_some.mp e).1,br s2 b o (cut_some.mp e).2⟩)
  ⟨fun b hb o e=>by rw [aJ fun (z:b=a)=>Option.some_ne_none _ (ha.symm.trans (z ▸ hN b hb))];exact s2 b o e,fun b us e=>by rw [aJ fun (z:b=a)=>by rw [z,s1 _ _ ha] at e;cases e];exact s2 b _ e⟩
theorem vF {k':OK} {ρ:RB} {σ:St} {H:Hp} {vs:List V} {xs:List D} {A0 N:List Addr} (hN:∀ b ∈ N,H b=none) (hp:TreP X.K C (msk ρ σ H) H (vs.map fun _=>k') vs xs A0):∀ b ∈ A0,b ∉ N:=fun b hb z=>by
 obtain ⟨us,e⟩:=hp.lists b hb
 rw [hN b z] at e;cases e
theorem qV {i:Nat} {k':OK} {o e:Expr} {ap cp pos:Pos} {P:Rho->R (List Nat)} {F:Rho->R D} (ho:ND C X i o P) (he:KD C X k' e F)
  (hs:∀ {to:TE} {t:TA},PE X o to->PA X [e] t->PS X (.Expr (.Call (.Attribute o "append" ap) [e] [] cp) pos) (mr (tBM X.K "list" pO to t)):=by
   exact fun ho ha=>j0 (ub PySem.F.plainAttrs_list PySem.F.slot_list_append PySem.F.type_list_append kK ho ha))
  (hst:starEach [e] X.env=(false,eval e X.env) :: starEach [] X.env:=by rfl) :
  SDi C X (.Expr (.Call (.Attribute o "append" ap) [e] [] cp) pos) (apP i k' P F) :=
 ck (hs ho (dN he fh hst)) fun D σ H ⟨_,H0,⟨ρ,er,r⟩,q⟩=>by
  subst er
  refine ⟨ρ,⟨H0,r⟩,?_⟩
  unfold apP at q
  cases eP:P ρ with
  | exc c=>rw [eP] at q;exact Aa r q
  | bad=>rw [eP] at q;exact q.elim
  | val pp =>
   rw [eP] at q
   dsimp only [DL.R.bind] at q
   intro v w H1 e1 s1 rc
   cases eF:F ρ with
   | exc c=>rw [eF] at q;exact q.elim
   | bad=>rw [eF] at q;exact q.elim
   | val x =>
    rw [eF] at q
    obtain ⟨xs,ys,v0,a,vs,A0,ef,e2,rc0,ha,hp,hn,up⟩:=vS A6 r q
    rw [e1] at e2;cases e2
    have:=Reach.det (rc0.mono s1) rc
    subst this
    unfold apF at ef
    by_cases hl:xs.length < LIM
    ·rw [if_pos hl] at ef
     cases ef
     refine ⟨.inl ⟨rfl,_,SqL.of (s1 _ _ ha)⟩,ρ,⟨H0,r.mono s1⟩,?_⟩
     rw [eF]
     intro y H2 N s2 hN hy
     have hN':∀ b ∈ N,H b=none:=fun b hb=>gf s1 (hN b hb)
     refine ⟨a,vs,y,rfl,rfl,s2 _ _ (s1 _ _ ha),by rw [hp.len.1];exact Nat.lt_of_lt_of_le hl (by decide),?_⟩
     obtain ⟨B,hB,h3⟩:=TreP.app (wA (ws:=vs ++ [y]) ha (s1.trans s2) (Same.refl _) hN' hy) (vi (ws:=vs ++ [y]) r (s1.trans s2) ha hn hN' hp) (vF hN' hp)
     exact up (s1.trans s2) hN' (by rw [List.map_append];exact h3) fun b hb=>(hB b).mp hb
    ·rw [if_neg hl] at ef;cases ef
end
end DL
namespace DL
open PySem PySem.Spec PyProof.Rows L2
section
variable {K:PySem.W.Frag} {C:Addr} {M M' H:Hp}
end
section
variable (C:Addr) (X:Cx)
end
section
variable {C:Addr} {X:Cx} {m:Nat}
end
section
variable {P:Program} {w:World} {K:PySem.W.Frag} {mg:Str->Option Value} {base:Heap} {C:Addr}
end
end DL
namespace DL
open PySem PySem.Spec PyProof.Rows L2
section
variable {C:Addr} {X:Cx}
end
end DL
namespace DL
open PySem PySem.Spec PyProof.Rows L2
noncomputable def ke:List Int->Int
 | []=>0
 | [i]=>i
 | i :: j :: r=>max i (ke (j :: r))
theorem rT:∀ {l:List Int},l ≠ []->ke l ∈ l
 | [i],_=>List.mem_singleton.mpr rfl
 | i :: j :: r,_=>by
  unfold ke
  rcases Int.le_total i (ke (j :: r)) with h | h
  ·rw [Int.max_eq_right h];exact List.mem_cons_of_mem _ (rT (by simp))
  ·rw [Int.max_eq_left h];exact List.mem_cons_self
theorem uo:∀ {l:List Int} {a:Int},a ∈ l->a<=ke l
 | [i],a,h=>by rw [List.mem_singleton.mp h];exact Int.le_refl _
 | i :: j :: r,a,h=>by
  unfold ke
  rcases List.mem_cons.mp h with rfl | h
  ·exact Int.le_max_left _ _
  ·exact Int.le_trans (uo h) (Int.le_max_right _ _)
theorem vo {l:List Int} {m:Int} (h1:m ∈ l) (h2:∀ a ∈ l,a<=m):m=ke l :=
 Int.le_antisymm (uo h1) (h2 _ (rT (List.ne_nil_of_mem h1)))
noncomputable def o0:D->R D
 | .lst xs=>match gY xs with
  | some is=>if 0 < is.length then .val (.int (ke is)) else .bad
  | none=>.bad
 | _=>.bad
section
variable {C:Addr} {X:Cx}
noncomputable def Bp:List V->Hp->VK->Prop:=fun vs H Q=>∃ (l:Addr) (is:List Int),vs=[.ref l]/\H l=some (.lst (is.map V.int))/\0 < is.length/\Q (.int (ke is)) H
theorem vD (hc:X.calm=true):jB X (.builtin "max") Bp:=by
 intro pins s σ H xs us Q I rv h
 obtain ⟨l,is,rfl,e,hl0,q⟩:=h
 obtain ⟨u,rfl,ru⟩:=mq rv
 obtain rfl:=(show u=Value.ref l from ru)
 obtain ⟨z,its,m,r,hl,eo⟩:=I.lstM e
 have hi:=m9 r
 obtain ⟨ys,ey⟩:=hi.allInts.items
 have hns:is=ys.toList.map (·.1):=by rw [<- hi.numsOf,<- nums_intItems,<- ey]
 have hsz:0 < ys.size:=by have h3:=hl0;rw [hns,List.length_map,Array.length_toList] at h3;exact h3
 have hL:s.heap.IsList l (intItems ys):=by rw [<- ey];exact ⟨_,eo,rfl,m,rfl⟩
 refine max_intList (I.ok.hd hc) hL hsz fun v h' tk hv hk=>?_
 obtain ⟨t,rfl⟩:=intItems_at hv
 obtain ⟨h1,h2⟩:=argBest_gt (numAt ys) (ys.size - 1)
 refine ⟨.int (ke is),H,I.kept (t':=tk) hk,⟨t,?_⟩,q⟩
 have:numAt ys (argBest (fun i j=>decide (numAt ys i > numAt ys j)) (ys.size - 1))=ke is:=by
  refine vo ?_ fun a ha=>?_
  ·rw [hns,numAt_eq];exact getD_mem (by rw [List.length_map,Array.length_toList];omega)
  ·rw [hns] at ha
   obtain ⟨j,hj,rfl⟩:=mem_getD ha
   rw [List.length_map,Array.length_toList] at hj
   rw [<- numAt_eq];exact h2 j (by omega)
 rw [this]
theorem yM {e:Expr} {p pos:Pos} {F:Rho->R D} (hc:X.calm=true) (hg:Gl X "max") (hm:X.mg "max"=none) (hst:starEach [e] X.env=(false,eval e X.env) :: starEach [] X.env) (he:EB C X e F) :
  ED C X (.Call (.Name "max" p) [e] [] pos) (una o0 F) :=
 aW (aE (vD hc) hg hm boot_max (dN he fh hst) (he:=hst) (hpl:=au)) fun σ H Q ⟨ρ,r0,q⟩=>⟨ρ,r0,bj (P:=fun z H=>pV X (eV C X ρ σ) z σ H Q) (fun _ h=>h) (fun h=>h) q fun y v H1 s1 h1 q1=>by
  cases y with
  | lst xs =>
   unfold o0 at q1
   dsimp only at q1
   split at q1
   ·rename_i is eb
    obtain ⟨a,vs,rfl,e1,h2⟩:=h1.lst msk_sub
    obtain rfl:=jq eb h2
    by_cases hl:0 < is.length
    ·rw [if_pos hl] at q1;exact ⟨a,is,rfl,e1,hl,q1 _ H1 s1 (.int _)⟩
    ·rw [if_neg hl] at q1;exact q1.elim
   ·exact q1.elim
  | _=>exact q1.elim⟩
noncomputable def isN (t:Int):Value->Bool
 | .int a _=>a == t
 | _=>false
noncomputable def zf:V->List V->Hp->VK->Prop:=fun x vs H Q=>∃ (l:Addr) (is:List Int) (t:Int) (j:Nat),x=.ref l/\vs=[.int t]/\H l=some (.lst (is.map V.int))/\is.length<=100000/\is.findIdx? (· == t)=some j/\Q (.int (j:Int)) H
theorem iH:∀ {is:List Int} {us:List Value} {m:Nat} {y:Value},Vals (is.map V.int) us->us[m]?=some y->∃ i t,is[m]?=some i/\y=.int i t
 | [],_,_,_,.nil,e=>by simp at e
 | i :: is,_,0,y,.cons r t,e=>by
  rw [List.getElem?_cons_zero] at e;cases e
  obtain ⟨tk,rfl⟩:=(show ∃ t,_=Value.int i t from r)
  exact ⟨i,tk,rfl,rfl⟩
 | i :: is,_,m + 1,y,.cons r t,e=>by
  rw [List.getElem?_cons_succ] at e
  obtain ⟨i',t',e1,e2⟩:=iH t e
  exact ⟨i',t',by rw [List.getElem?_cons_succ];exact e1,e2⟩
theorem vl:MtM X "list.index" zf:=by
 intro pins s σ H x vs v us Q I rx rv h
 obtain ⟨l,is,t,j,rfl,rfl,hH,hlen,hj,q⟩:=h
 cases rx
 obtain ⟨u1,rfl,r1⟩:=rv.one
 obtain ⟨tk,rfl⟩:=(show ∃ tk,u1=Value.int t tk from r1)
 obtain ⟨z,its,n,r,hl,e⟩:=I.lstM hH
 obtain ⟨hjl,hjt,hjn⟩:=List.findIdx?_eq_some_iff_getElem.mp hj
 have hil:its.length=is.length:=by have:=r.length;rw [List.length_map] at this;exact this.symm
 have at_:∀ (m:Nat) (hm:m < its.length),isN t its[m]=(is[m]'(by omega) == t):=fun m hm=>by
  obtain ⟨i,tk',e1,e2⟩:=iH r (List.getElem?_eq_getElem hm)
  have hm2:m < is.length:=by omega
  rw [List.getElem?_eq_getElem hm2] at e1
  rw [e2,<- Option.some.inj e1]
  rfl
 refine call_meets PySem.F.slot_list_index ⟨_,e,rfl⟩ PySem.F.entry_list_index (PySem.F.args_list_index_2 _ _) (SeqAt.list_indexAt l _ n none #[] (.int t tk) (isN t) j (by simp;omega) (by omega) (by
  have:=at_ j (by omega)
  simp only [List.getElem_toArray]
  rw [this];simpa using hjt) (fun m hm hlt=>by
  have hm':m < its.length:=by simpa using hm
  have:=at_ m hm'
  simp only [List.getElem_toArray]
  rw [this]
  have:=hjn m hlt
  simpa using this)) ⟨e,fun y hy=>?_,?_⟩
 ·have hy:y ∈ its:=by simpa using hy
  obtain ⟨m,hm⟩:=List.getElem?_of_mem hy
  obtain ⟨i,tk',_,rfl⟩:=iH r hm
  exact SeqAt.EqAt.int_int i tk' t tk
 ·exact ⟨.int _,H,I.tok _,⟨_,rfl⟩,q⟩
noncomputable def wZ:D->D->R D
 | .lst xs,.int t=>match gY xs with
  | some is=>if is.length<=100000 then match is.findIdx? (· == t) with
   | some j=>.val (.int (j:Int))
   | none=>.bad
   else .bad
  | none=>.bad
 | _,_=>.bad
noncomputable def qj (Fo F:Rho->R D):Rho->R D:=fun ρ=>(Fo ρ).bind fun x=>match x with
 | .lst xs=>(F ρ).bind (wZ (.lst xs))
 | _=>.bad
theorem nF {o e:Expr} {ap cp:Pos} {Fo F:Rho->R D} (ho:EB C X o Fo) (he:ED C X e F) (hst:starEach [e] X.env=(false,eval e X.env) :: starEach [] X.env)
  (hs:∀ {to:TE} {t:TA},PE X o to->PA X [e] t->PE X (.Call (.Attribute o "index" ap) [e] [] cp) (tBM X.K "list" zf to t):=by
   exact fun ho ha=>ub PySem.F.plainAttrs_list PySem.F.slot_list_index PySem.F.type_list_index vl ho ha) :
  ED C X (.Call (.Attribute o "index" ap) [e] [] cp) (qj Fo F) :=
 aW (hs ho (dN he fh hst)) fun σ H Q ⟨ρ,⟨H0,r0⟩,q⟩=>⟨ρ,⟨H0,r0⟩,bj (P:=fun z H=>pV X (eV C X ρ σ) z σ H Q) (fun _ h=>h) (fun h=>h) q fun y v H1 s1 h1 q1=>by
  cases y with
  | lst xs =>
   obtain ⟨a,vs,rfl,e1,h2⟩:=h1.lst msk_sub
   refine ⟨.inl ⟨rfl,_,SqL.of e1⟩,ρ,⟨H0,r0.mono s1⟩,bj (P:=fun z H=>pV X (eV C X ρ σ) z σ H Q) (fun _ h=>h) (fun h=>h) (q1.mono s1) fun y w H2 s2 h3 q2=>?_⟩
   cases y with
   | int t =>
    cases h3
    unfold wZ at q2
    dsimp only at q2
    split at q2
    ·rename_i is eb
     obtain rfl:=jq eb h2
     by_cases hl:is.length<=100000
     ·rw [if_pos hl] at q2
      split at q2
      ·rename_i j ej
       exact ⟨a,is,t,j,rfl,rfl,s2 _ _ e1,hl,ej,q2 _ H2 s2 (.int _)⟩
      ·exact q2.elim
     ·rw [if_neg hl] at q2;exact q2.elim
    ·exact q2.elim
   | _=>exact q2.elim
  | _=>exact q1.elim⟩
end
end DL
namespace DL
open PySem PySem.Spec PyProof.Rows L2
section
variable {C:Addr} {X:Cx}
end
theorem uS:bootBuiltins "int"=some (.type "int"):=by decide +kernel
theorem sC:bootBuiltins "bool"=some (.type "bool"):=by decide +kernel
end DL
namespace Ar
noncomputable abbrev Arr:=Nat × Nat × List Nat
noncomputable def Ok (sz:List Nat) (x:Arr):Prop:=∃ n m,sz[x.1]?=some n/\sz[x.2.1]?=some m/\x.2.2.length=n/\∀ y ∈ x.2.2,y < m
noncomputable def comp (x y:Arr):Arr:=(x.1,y.2.1,x.2.2.map fun i=>y.2.2.getD i 0)
noncomputable def idm (sz:List Nat) (b:Nat):Arr:=(b,b,List.range (sz.getD b 0))
noncomputable def funs:Nat->Nat->List (List Nat)
 | 0,_=>[[]]
 | n + 1,m=>(List.range m).flatMap fun y=>(funs n m).map fun l=>y :: l
theorem rS:∀ {l:List Nat} {m:Nat},(∀ y ∈ l,y < m)->l ∈ funs l.length m
 | [],m,_=>by simp [funs]
 | y :: l,m,h=>by
  have h1:y < m:=h y (by simp)
  have h2:l ∈ funs l.length m:=rS fun z hz=>h z (by simp [hz])
  show y :: l ∈ funs (l.length + 1) m
  simp only [funs,List.mem_flatMap,List.mem_map,List.mem_range]
  exact ⟨y,h1,l,h2,rfl⟩
noncomputable def zu (sz:List Nat):List Arr:=(List.range sz.length).flatMap fun a=>(List.range sz.length).flatMap fun b=>(funs (sz.getD a 0) (sz.getD b 0)).map fun f=>(a,b,f)
theorem rR {sz:List Nat} {x:Arr} (h:Ok sz x):x ∈ zu sz:=by
 obtain ⟨a,b,f⟩:=x
 obtain ⟨n,m,h1,h2,h3,h4⟩:=h
 have ha:a < sz.length:=(List.getElem?_eq_some_iff.mp h1).1
 have hb:b < sz.length:=(List.getElem?_eq_some_iff.mp h2).1
 simp only [zu,List.mem_flatMap,List.mem_map,List.mem_range]
 refine ⟨a,ha,b,hb,f,?_,rfl⟩
 have e1:sz.getD a 0=n:=by simp only [List.getD,h1];rfl
 have e2:sz.getD b 0=m:=by simp only [List.getD,h2];rfl
 rw [e1,e2,<- h3]
 exact rS h4
theorem gD {α:Type} [DecidableEq α]:∀ {l u:List α},l.Nodup->(∀ x ∈ l,x ∈ u)->l.length<=u.length
 | [],_,_,_=>by simp
 | x :: l,u,nd,h=>by
  obtain ⟨h1,h2⟩:=List.nodup_cons.mp nd
  have hx:x ∈ u:=h x (by simp)
  have hl:l.length<=(u.erase x).length:=gD h2 fun y hy=>by
   have:y ≠ x:=fun e=>h1 (e ▸ hy)
   exact (List.mem_erase_of_ne this).mpr (h y (by simp [hy]))
  rw [List.length_erase_of_mem hx] at hl
  have:0 < u.length:=List.length_pos_of_mem hx
  simp only [List.length_cons];omega
noncomputable def szs:List (List Nat):=[[1],[1,1],[1,1,1],[1,1,1,1],[1,2],[2,1],[2,2],[0,2],[2],[3],[1,1,2],[0,1,2],[1,2,2],[2,1,0]]
theorem qT:∀ sz ∈ szs,(zu sz).length<=27:=by decide +kernel
theorem gy:∀ sz ∈ szs,1<=sz.length/\sz.length<=4/\∀ n ∈ sz,n<=3:=by decide +kernel
noncomputable def oK (kn:List Arr) (x:Arr):List Arr:=if x ∈ kn then kn else kn ++ [x]
noncomputable def iK (kn:List Arr) (f s:Arr):List Arr:=if f.2.1=s.1 then oK kn (comp f s) else kn
noncomputable def kB (k:Arr) (kn:List Arr) (o:Arr):List Arr:=iK (iK kn k o) o k
noncomputable def pU (k:Arr) (kn snap:List Arr):List Arr:=snap.foldl (kB k) kn
theorem sH (kn:List Arr) (x:Arr):kn <+: oK kn x:=by
 unfold oK;split
 ·exact List.prefix_refl _
 ·exact List.prefix_append _ _
theorem xA (kn:List Arr) (x:Arr):x ∈ oK kn x:=by
 unfold oK;split
 ·assumption
 ·simp
theorem kD (kn:List Arr) (f s:Arr):kn <+: iK kn f s:=by
 unfold iK;split
 ·exact sH _ _
 ·exact List.prefix_refl _
theorem qR (k:Arr) (kn:List Arr) (o:Arr):kn <+: kB k kn o:=(kD kn k o).trans (kD _ o k)
theorem iQ (k:Arr):∀ (snap kn:List Arr),kn <+: pU k kn snap
 | [],kn=>List.prefix_refl _
 | o :: r,kn=>(qR k kn o).trans (iQ k r _)
structure Kn (sz:List Nat) (kn:List Arr):Prop where
 nd:kn.Nodup
 ok:∀ x ∈ kn,Ok sz x
theorem yW {sz:List Nat} {x y:Arr} (hx:Ok sz x) (hy:Ok sz y) (e:x.2.1=y.1):Ok sz (comp x y):=by
 obtain ⟨n,m,h1,h2,h3,h4⟩:=hx
 obtain ⟨n',m',g1,g2,g3,g4⟩:=hy
 refine ⟨n,m',h1,g2,by simp [comp,h3],fun z hz=>?_⟩
 simp only [comp,List.mem_map] at hz
 obtain ⟨i,hi,rfl⟩:=hz
 have hm:m=n':=by rw [e] at h2;rw [h2] at g1;exact Option.some.inj g1
 have:i < y.2.2.length:=by rw [g3,<- hm];exact h4 i hi
 have e3:y.2.2.getD i 0=y.2.2[i]:=by simp [List.getD,List.getElem?_eq_getElem this]
 rw [e3]
 exact g4 _ (List.getElem_mem this)
theorem uV {sz kn x} (h:Kn sz kn) (hx:Ok sz x):Kn sz (oK kn x):=by
 unfold oK;split
 ·exact h
 ·rename_i hn
  refine ⟨?_,fun y hy=>?_⟩
  ·rw [List.nodup_append]
   refine ⟨h.nd,by simp,fun a ha b hb=>?_⟩
   simp at hb;subst hb
   exact fun e=>hn (e ▸ ha)
  ·rcases List.mem_append.mp hy with q | q
   ·exact h.ok y q
   ·simp at q;subst q;exact hx
theorem mv {sz kn f s} (h:Kn sz kn) (hf:Ok sz f) (hs:Ok sz s):Kn sz (iK kn f s):=by
 unfold iK;split
 ·exact uV h (yW hf hs ‹_›)
 ·exact h
theorem tP {sz k kn o} (h:Kn sz kn) (hk:Ok sz k) (ho:Ok sz o):Kn sz (kB k kn o):=mv (mv h hk ho) ho hk
theorem uc {sz k} (hk:Ok sz k):∀ {snap kn:List Arr},Kn sz kn->(∀ o ∈ snap,Ok sz o)->Kn sz (pU k kn snap)
 | [],kn,h,_=>h
 | o :: r,kn,h,hs=>uc hk (snap:=r) (tP h hk (hs o (by simp))) fun q hq=>hs q (by simp [hq])
theorem oQ {kn f s} (e:f.2.1=s.1):comp f s ∈ iK kn f s:=by
 unfold iK;rw [if_pos e];exact xA _ _
theorem vU {k kn o}:(k.2.1=o.1->comp k o ∈ kB k kn o)/\(o.2.1=k.1->comp o k ∈ kB k kn o) :=
 ⟨fun e=>(kD _ o k).subset (oQ e),fun e=>oQ e⟩
theorem mJ {k}:∀ {snap kn:List Arr} {o:Arr},o ∈ snap->(k.2.1=o.1->comp k o ∈ pU k kn snap)/\(o.2.1=k.1->comp o k ∈ pU k kn snap)
 | q :: r,kn,o,h=>by
  rcases List.mem_cons.mp h with e | h
  ·subst e
   have t:=vU (k:=k) (kn:=kn) (o:=o)
   exact ⟨fun e=>(iQ k r _).subset (t.1 e),fun e=>(iQ k r _).subset (t.2 e)⟩
  ·exact mJ (snap:=r) (kn:=kB k kn q) h
noncomputable def Cl (kn:List Arr) (n:Nat):Prop:=∀ i j x y,i < n->j < n->kn[i]?=some x->kn[j]?=some y->x.2.1=y.1->comp x y ∈ kn
theorem t7 {α:Type} {l l':List α} (h:l <+: l') {i:Nat} {x:α} (e:l[i]?=some x):l'[i]?=some x:=by
 obtain ⟨t,rfl⟩:=h
 rw [List.getElem?_append_left (List.getElem?_eq_some_iff.mp e).1];exact e
theorem x8 {kn:List Arr} {n:Nat} {k:Arr} (h:Cl kn n) (hk:kn[n]?=some k):Cl (pU k kn kn) (n + 1):=by
 have pre:=iQ k kn kn
 have hn:n < kn.length:=(List.getElem?_eq_some_iff.mp hk).1
 have back:∀ {i x},i < n + 1->(pU k kn kn)[i]?=some x->kn[i]?=some x:=fun {i x} hi e=>by
  have hl:i < kn.length:=by omega
  have:kn[i]?=some kn[i]:=by simp [hl]
  rw [t7 pre this] at e;rw [this];exact e
 intro i j x y hi hj hx hy e
 have hx':=back hi hx
 have hy':=back hj hy
 by_cases ei:i=n
 ·subst ei
  rw [hk] at hx';cases hx'
  exact (mJ (List.mem_of_getElem? hy')).1 e
 ·by_cases ej:j=n
  ·subst ej
   rw [hk] at hy';cases hy'
   exact (mJ (List.mem_of_getElem? hx')).2 e
  ·exact pre.subset (h i j x y (by omega) (by omega) hx' hy' e)
theorem AV {kn:List Arr} (h:Cl kn kn.length):∀ x ∈ kn,∀ y ∈ kn,x.2.1=y.1->comp x y ∈ kn:=by
 intro x hx y hy e
 obtain ⟨i,hi,rfl⟩:=List.mem_iff_getElem.mp hx
 obtain ⟨j,hj,rfl⟩:=List.mem_iff_getElem.mp hy
 exact h i j _ _ hi hj (by simp [hi]) (by simp [hj]) e
structure Good (sz:List Nat) (kn:List Arr):Prop where
 szm:sz ∈ szs
 nd:kn.Nodup
 ok:∀ x ∈ kn,Ok sz x
 rest:∀ b,b < sz.length->idm sz b ∈ kn
 cl:∀ x ∈ kn,∀ y ∈ kn,x.2.1=y.1->comp x y ∈ kn
theorem Good.few {sz kn} (g:Good sz kn):kn.length<=27 :=
 Nat.le_trans (gD g.nd fun x hx=>rR (g.ok x hx)) (qT sz g.szm)
theorem Good.perm {sz kn kn'} (g:Good sz kn) (p:kn'.Perm kn):Good sz kn' :=
 ⟨g.szm,p.nodup_iff.mpr g.nd,fun x hx=>g.ok x (p.mem_iff.mp hx),fun b hb=>p.mem_iff.mpr (g.rest b hb),fun x hx y hy e=>p.mem_iff.mpr (g.cl x (p.mem_iff.mp hx) y (p.mem_iff.mp hy) e)⟩
end Ar
namespace Ar
theorem aG {α:Type} {l:List α} {i:Nat} {d:α} (h:i < l.length):l.getD i d=l[i]:=by
 rw [List.getD_eq_getElem?_getD,List.getElem?_eq_getElem h];rfl
structure bW (en:List (Nat × Nat)) (re:List Nat) (tb:List (List Int)):Prop where
 nb1:1<=re.length
 nb6:re.length<=6
 na1:1<=en.length
 na40:en.length<=40
 eb:∀ i,i < en.length->(en.getD i (0,0)).1 < re.length/\(en.getD i (0,0)).2 < re.length
 rs:∀ b,b < re.length->re.getD b 0 < en.length/\en.getD (re.getD b 0) (0,0)=(b,b)
 tl:tb.length=en.length
 rl:∀ i,i < en.length->(tb.getD i []).length=en.length
 tp:∀ i j,i < en.length->j < en.length->(en.getD i (0,0)).2=(en.getD j (0,0)).1 ->
  ∃ k,k < en.length/\(tb.getD i []).getD j (-1)=(k:Int)/\en.getD k (0,0)=((en.getD i (0,0)).1,(en.getD j (0,0)).2)
 tn:∀ i j,i < en.length->j < en.length->(en.getD i (0,0)).2 ≠ (en.getD j (0,0)).1->(tb.getD i []).getD j (-1)=-1
 ul:∀ i,i < en.length->(tb.getD (re.getD (en.getD i (0,0)).1 0) []).getD i (-1)=(i:Int)
 ur:∀ i,i < en.length->(tb.getD i []).getD (re.getD (en.getD i (0,0)).2 0) (-1)=(i:Int)
 as:∀ i j k x y:Nat,i < en.length->j < en.length->k < en.length->(tb.getD i []).getD j (-1)=(x:Int)->(tb.getD j []).getD k (-1)=(y:Int) ->
  (tb.getD x []).getD k (-1)=(tb.getD i []).getD y (-1)
noncomputable def bI (kn:List Arr):List (Nat × Nat):=kn.map fun x=>(x.1,x.2.1)
noncomputable def bz (sz:List Nat) (kn:List Arr):List Nat:=(List.range sz.length).map fun b=>kn.idxOf (idm sz b)
noncomputable def mk (kn:List Arr) (x y:Arr):Int:=if x.2.1=y.1 then (kn.idxOf (comp x y):Int) else -1
noncomputable def cV (kn:List Arr):List (List Int):=kn.map fun x=>kn.map fun y=>mk kn x y
theorem tH {sz:List Nat} {x y z:Arr} (hx:Ok sz x) (hy:Ok sz y) (hz:Ok sz z) (e:x.2.1=y.1) (e':y.2.1=z.1):comp (comp x y) z=comp x (comp y z):=by
 obtain ⟨n,m,h1,h2,h3,h4⟩:=hx
 obtain ⟨n',m',g1,g2,g3,g4⟩:=hy
 have hm:m=n':=by rw [e] at h2;rw [h2] at g1;exact Option.some.inj g1
 simp only [comp,List.map_map,Prod.mk.injEq,true_and]
 refine List.map_congr_left fun i hi=>?_
 have hl:i < y.2.2.length:=by rw [g3,<- hm];exact h4 i hi
 simp only [Function.comp,List.getD_eq_getElem?_getD,List.getElem?_map]
 rw [List.getElem?_eq_getElem hl]
 simp
theorem mZ (l:List Nat):(List.range l.length).map (fun i=>l.getD i 0)=l:=by
 apply List.ext_getElem
 ·simp
 ·intro i h1 h2
  simp only [List.getElem_map,List.getElem_range]
  exact aG h2
theorem xq {sz:List Nat} {x:Arr} (hx:Ok sz x):comp (idm sz x.1) x=x:=by
 obtain ⟨n,m,h1,h2,h3,h4⟩:=hx
 have e:sz.getD x.1 0=x.2.2.length:=by rw [List.getD_eq_getElem?_getD,h1,h3];rfl
 simp only [comp,idm,e,mZ]
theorem xp {sz:List Nat} {x:Arr} (hx:Ok sz x):comp x (idm sz x.2.1)=x:=by
 obtain ⟨n,m,h1,h2,h3,h4⟩:=hx
 have e:sz.getD x.2.1 0=m:=by rw [List.getD_eq_getElem?_getD,h2];rfl
 have:(x.2.2.map fun i=>(List.range m).getD i 0)=x.2.2:=by
  conv=>rhs;rw [<- List.map_id x.2.2]
  refine List.map_congr_left fun i hi=>?_
  have:=h4 i hi
  rw [aG (by simpa using this)];simp
 simp only [comp,idm,e,this]
section
variable {sz:List Nat} {kn:List Arr}
theorem dR:(bI kn).length=kn.length:=by simp [bI]
theorem iN:(bz sz kn).length=sz.length:=by simp [bz]
theorem g9 {i:Nat} (h:i < kn.length):(bI kn).getD i (0,0)=(kn[i].1,kn[i].2.1):=by
 rw [aG (by rw [dR];exact h)];simp [bI]
theorem vV {i:Nat} (h:i < kn.length):(cV kn).getD i []=kn.map fun y=>mk kn kn[i] y:=by
 rw [aG (by simp [cV];exact h)];simp [cV]
theorem jU {i j:Nat} (h:i < kn.length) (h':j < kn.length):((cV kn).getD i []).getD j (-1)=mk kn kn[i] kn[j]:=by
 rw [vV h,aG (by simpa using h')];simp
theorem tY {b:Nat} (h:b < sz.length):(bz sz kn).getD b 0=kn.idxOf (idm sz b):=by
 rw [aG (by rw [iN];exact h)];simp [bz]
theorem rk {x:Arr} (h:Ok sz x):x.1 < sz.length/\x.2.1 < sz.length:=by
 obtain ⟨n,m,h1,h2,_⟩:=h
 exact ⟨(List.getElem?_eq_some_iff.mp h1).1,(List.getElem?_eq_some_iff.mp h2).1⟩
theorem iV {x:Arr} (h:x ∈ kn):∃ hl:kn.idxOf x < kn.length,kn[kn.idxOf x]=x :=
 ⟨List.idxOf_lt_length_of_mem h,List.getElem_idxOf _⟩
theorem sY {x y:Arr} {k:Nat} (h:mk kn x y=(k:Int)):x.2.1=y.1/\k=kn.idxOf (comp x y):=by
 unfold mk at h
 split at h
 ·exact ⟨‹_›,by omega⟩
 ·omega
theorem qm (g:Good sz kn):bW (bI kn) (bz sz kn) (cV kn):=by
 have few:=g.few
 obtain ⟨s1,s4,_⟩:=gy sz g.szm
 have okat:∀ {i} (h:i < kn.length),Ok sz kn[i]:=fun h=>g.ok _ (List.getElem_mem h)
 have n1:1<=kn.length:=List.length_pos_of_mem (g.rest 0 (by omega))
 have idn:∀ {i} (h:i < kn.length),kn.idxOf kn[i]=i:=fun {i} h=>g.nd.idxOf_getElem i h
 refine ⟨by rw [iN];exact s1,by rw [iN];omega,by rw [dR];exact n1,by rw [dR];omega,?_,?_,?_,?_,?_,?_,?_,?_,?_⟩
 ·intro i h
  rw [dR] at h
  rw [g9 h,iN]
  exact rk (okat h)
 ·intro b h
  rw [iN] at h
  obtain ⟨hl,e⟩:=iV (g.rest b h)
  rw [tY h,dR,g9 hl,e]
  exact ⟨hl,rfl⟩
 ·simp [cV,dR]
 ·intro i h
  rw [dR] at h
  rw [vV h,dR];simp
 ·intro i j hi hj e
  rw [dR] at hi hj
  rw [g9 hi,g9 hj] at e
  obtain ⟨hl,ek⟩:=iV (g.cl _ (List.getElem_mem hi) _ (List.getElem_mem hj) e)
  refine ⟨kn.idxOf (comp kn[i] kn[j]),by rw [dR];exact hl,?_,?_⟩
  ·rw [jU hi hj,mk,if_pos e]
  ·rw [g9 hl,ek,g9 hi,g9 hj];rfl
 ·intro i j hi hj e
  rw [dR] at hi hj
  rw [g9 hi,g9 hj] at e
  rw [jU hi hj,mk,if_neg e]
 ·intro i h
  rw [dR] at h
  have o:=okat h
  obtain ⟨hl,e⟩:=iV (g.rest _ (rk o).1)
  rw [g9 h,tY (rk o).1,jU hl h,e,mk,if_pos (show (idm sz kn[i].1).2.1=kn[i].1 from rfl),xq o,idn h]
 ·intro i h
  rw [dR] at h
  have o:=okat h
  obtain ⟨hl,e⟩:=iV (g.rest _ (rk o).2)
  rw [g9 h,tY (rk o).2,jU h hl,e,mk,if_pos (show kn[i].2.1=(idm sz kn[i].2.1).1 from rfl),xp o,idn h]
 ·intro i j k x y hi hj hk hx hy
  rw [dR] at hi hj hk
  rw [jU hi hj] at hx
  rw [jU hj hk] at hy
  obtain ⟨e1,rfl⟩:=sY hx
  obtain ⟨e2,rfl⟩:=sY hy
  obtain ⟨l1,q1⟩:=iV (g.cl _ (List.getElem_mem hi) _ (List.getElem_mem hj) e1)
  obtain ⟨l2,q2⟩:=iV (g.cl _ (List.getElem_mem hj) _ (List.getElem_mem hk) e2)
  rw [jU l1 hk,jU hi l2,q1,q2]
  have a1:(comp kn[i] kn[j]).2.1=kn[k].1:=e2
  have a2:kn[i].2.1=(comp kn[j] kn[k]).1:=e1
  rw [mk,mk,if_pos a1,if_pos a2,tH (okat hi) (okat hj) (okat hk) e1 e2]
end
end Ar
namespace Ar
section
variable {en:List (Nat × Nat)} {re:List Nat} {tb:List (List Int)}
end
end Ar
namespace Ar
section
variable {en:List (Nat × Nat)} {re:List Nat} {tb:List (List Int)}
end
end Ar
namespace DL
open L2
section
variable {α β:Type}
@[simp] theorem ae (a:α) (f:α->R β):(R.val a).bind f=f a:=Eq.trans rfl rfl
@[simp] theorem j6 (a:α):noE (R.val a)=.val a:=Eq.trans rfl rfl
@[simp] theorem BK (a:D):noex (R.val a)=.val a:=Eq.trans rfl rfl
end
section
variable (ρ:Rho)
@[simp] theorem aX (a b:Rho->R Out):sq a b ρ=(a ρ).bind fun o=>match o with
 | .nx ρ'=>b ρ'
 | o=>.val o:=Eq.trans rfl rfl
@[simp] theorem iR:nxt ρ=.val (.nx ρ):=Eq.trans rfl rfl
@[simp] theorem fo (i:Nat) (e:Rho->R D):asg i e ρ=(e ρ).bind fun d=>.val (.nx (ρ.set i (some (.shr d)))):=Eq.trans rfl rfl
@[simp] theorem Ab (i:Nat) (e:Rho->R (List D)):own i e ρ=(e ρ).bind fun d=>.val (.nx (ρ.set i (some (.own d)))):=Eq.trans rfl rfl
@[simp] theorem dM (e:Rho->R D):ret e ρ=(e ρ).bind fun d=>.val (.rt d):=Eq.trans rfl rfl
@[simp] theorem AU (e:Rho->R D):drp e ρ=(e ρ).bind fun _=>.val (.nx ρ):=Eq.trans rfl rfl
@[simp] theorem cD (t:Rho->R Bool) (a b:Rho->R Out):DL.iff t a b ρ=(t ρ).bind fun c=>if c=true then a ρ else b ρ:=Eq.trans rfl rfl
@[simp] theorem dq (F:Rho->R D):tst F ρ=(F ρ).bind asB:=Eq.trans rfl rfl
@[simp] theorem CW (b:Bool):asB (.bl b)=.val b:=Eq.trans rfl rfl
@[simp] theorem Cj (a b:Rho->R Bool):vG a b ρ=(a ρ).bind fun x=>if x=true then b ρ else .val false:=Eq.trans rfl rfl
@[simp] theorem hV (a b:Rho->R Bool):orB a b ρ=(a ρ).bind fun x=>if x=true then .val true else b ρ:=Eq.trans rfl rfl
@[simp] theorem fD (a:Rho->R Bool):ez a ρ=(a ρ).bind fun x=>.val (!x):=Eq.trans rfl rfl
@[simp] theorem Bb (i:Nat):vr i ρ=match ρ[i]? with
 | some (some (.shr d))=>.val d
 | _=>.bad:=Eq.trans rfl rfl
@[simp] theorem Bc (i:Nat):vb i ρ=match ρ[i]? with
 | some (some (.shr d))=>.val d
 | some (some (.own xs))=>.val (.lst xs)
 | some (some (.tre (.l .s) (.lst xs)))=>.val (.lst xs)
 | _=>.bad:=Eq.trans rfl rfl
@[simp] theorem lh (d:D):kd d ρ=.val d:=Eq.trans rfl rfl
@[simp] theorem bO (f:D->D->R D) (a b:Rho->R D):bin f a b ρ=(a ρ).bind fun x=>(b ρ).bind fun y=>f x y:=Eq.trans rfl rfl
@[simp] theorem gg (f:D->R D) (a:Rho->R D):una f a ρ=(a ρ).bind f:=Eq.trans rfl rfl
@[simp] theorem ph:aN ρ=.val []:=Eq.trans rfl rfl
@[simp] theorem e7 (a:Rho->R D) (r:Rho->R (List D)):aC a r ρ=(a ρ).bind fun x=>(r ρ).bind fun xs=>.val (x :: xs):=Eq.trans rfl rfl
@[simp] theorem kl (a:Rho->R (List D)):eT a ρ=(a ρ).bind mkT:=Eq.trans rfl rfl
@[simp] theorem C4 (a:Rho->R (List D)):eL a ρ=(a ρ).bind mkL:=Eq.trans rfl rfl
@[simp] theorem C7 (a b:D):mkT [a,b]=.val (.tup [a,b]):=Eq.trans rfl rfl
@[simp] theorem C6 (a b c:D):mkT [a,b,c]=.val (.tup [a,b,c]):=Eq.trans rfl rfl
@[simp] theorem C5 (a b c d e:D):mkT [a,b,c,d,e]=.val (.tup [a,b,c,d,e]):=Eq.trans rfl rfl
@[simp] theorem C8 (a b:D):mkL [a,b]=.val (.lst [a,b]):=Eq.trans rfl rfl
@[simp] theorem cE (F:Rho->R (List D)):eLs F ρ=(F ρ).bind fun xs=>.val (.lst xs):=Eq.trans rfl rfl
@[simp] theorem B0:ib aN ρ=.val []:=Eq.trans rfl rfl
@[simp] theorem tw (F:Rho->R D):fIt F ρ=(F ρ).bind itD:=Eq.trans rfl rfl
@[simp] theorem Ce (xs:List D):itD (.lst xs)=.val xs:=Eq.trans rfl rfl
@[simp] theorem Cd (xs:List D):itD (.tup xs)=.val xs:=Eq.trans rfl rfl
@[simp] theorem xu (n:Nat) (den:List D->R D) (a:Rho->R (List D)):cal n den a ρ=(a ρ).bind fun ds=>if ds.length=n then noex (den ds) else .bad:=Eq.trans rfl rfl
@[simp] theorem oY (i:Nat) (F:Rho->R Out):fz i F ρ=F (frz i ρ):=Eq.trans rfl rfl
@[simp] theorem eI (src:Rho->R (List D)) (T:D->Rho->Option Rho) (F:Rho->R Out):cA src T F ρ=(src ρ).bind fun xs=>cR T F xs ρ:=Eq.trans rfl rfl
@[simp] theorem uB (F:Rho->R (List D)):dh F ρ=(F ρ).bind n0:=Eq.trans rfl rfl
@[simp] theorem qs (F:Rho->R (List D)):fZ F ρ=(F ρ).bind tz:=Eq.trans rfl rfl
@[simp] theorem qw (xs:List D):tz [.lst xs]=.val (enu 0 xs):=Eq.trans rfl rfl
@[simp] theorem Ba (F:Rho->R (List D)):i3 F ρ=(F ρ).bind rgT:=Eq.trans rfl rfl
@[simp] theorem yQ (F:Rho->R (List D)):yR F ρ=(F ρ).bind yz:=Eq.trans rfl rfl
@[simp] theorem yx (i j:Int):yz [.int i,.int j]=.val (.int (if j > i then j else i)):=Eq.trans rfl rfl
@[simp] theorem CO (d:D):fin (.val (.rt d))=.val d:=Eq.trans rfl rfl
@[simp] theorem CP (ρ:Rho):fin (.val (.nx ρ))=.val .non:=Eq.trans rfl rfl
@[simp] theorem Ap (den:Rho->R D) (Fa:Rho->R (List D)):mkH den Fa ρ=(Fa ρ).bind fun ds=>match ds with
 | [e,r,t]=>noex (den (js e r t))
 | _=>.bad:=Eq.trans rfl rfl
@[simp] theorem CH (xs:List D):aU (.lst xs)=.val (.int xs.length):=Eq.trans rfl rfl
@[simp] theorem CF (xs:List D):jv (.lst xs)=.val (.tup xs):=Eq.trans rfl rfl
@[simp] theorem Cf (i:Int):lE (.int i)=.val (.int (-i)):=Eq.trans rfl rfl
@[simp] theorem m_ (f:Int->Int->R D) (i j:Int):iI f (.int i) (.int j)=f i j:=Eq.trans rfl rfl
@[simp] theorem CG (i j:Int):flt i j=.val (.bl (decide (i < j))):=Eq.trans rfl rfl
@[simp] theorem CI (i j:Int):fle i j=.val (.bl (decide (i<=j))):=Eq.trans rfl rfl
@[simp] theorem CQ (i j:Int):fgt i j=.val (.bl (decide (j < i))):=Eq.trans rfl rfl
@[simp] theorem uA (i j:Int):cX (.int i) (.int j)=.val (.int (i + j)):=Eq.trans rfl rfl
theorem dX {i j:Int} (h:0 < j):bu i j=.val (.int (i % j)):=if_pos h
theorem uz {i j:Int} (h:0 < j/\j < 1073741824):e9 i j=.val (.int (i / j)):=if_pos h
theorem l_ {i j:Int} (h:-(2 ^ 64) < j/\j < 2 ^ 64):h_ i j=.val (.int (i * j)):=if_pos (.inr h)
@[simp] theorem CT (f g:Int->Int->Bool) (a b c:Rho->R D):chn f g a b c ρ=(a ρ).bind fun x=>(b ρ).bind fun y=>match x,y with
 | .int i,.int j=>if f i j=true then (c ρ).bind fun z=>match z with
   | .int k=>.val (.bl (g j k))
   | _=>.bad
  else .val (.bl false)
 | _,_=>.bad:=Eq.trans rfl rfl
end
theorem qN {α:Type} (xs:List α) (i:Nat):atI xs (i:Int)=xs[i]?:=by
 unfold atI ixN
 rw [if_pos (Int.natCast_nonneg i)]
 by_cases h:i < xs.length
 ·rw [if_pos (by exact_mod_cast h)];simp
 ·rw [if_neg (by intro z;exact h (by exact_mod_cast z))]
  simp at h
  simp [List.getElem?_eq_none h]
theorem jz {xs:List D} {i:Nat} {d:D} (h:xs[i]?=some d):fix (.lst xs) (.int (i:Int))=.val d:=by
 show (match atI xs (i:Int) with | some d=>R.val d | none=>.bad)=_
 rw [qN,h]
theorem uv {xs:List D} {i:Nat} {d:D} (h:xs[i]?=some d):fix (.tup xs) (.int (i:Int))=.val d:=by
 show (match atI xs (i:Int) with | some d=>R.val d | none=>.bad)=_
 rw [qN,h]
theorem zm {xs:List Int} {i:Nat} {d:Int} (h:xs[i]?=some d):fix (.scr xs) (.int (i:Int))=.val (.int d):=by
 show (match atI xs (i:Int) with | some d=>R.val (D.int d) | none=>R.bad)=_
 rw [qN,h]
@[simp] theorem wX (a:D) (r:List D):fix (.tup (a :: r)) (.int 0)=.val a:=uv (i:=0) rfl
@[simp] theorem wW (a b:D) (r:List D):fix (.tup (a :: b :: r)) (.int 1)=.val b:=uv (i:=1) rfl
@[simp] theorem AJ (a b c:D) (r:List D):fix (.tup (a :: b :: c :: r)) (.int 2)=.val c:=uv (i:=2) rfl
theorem sv {T:D->Rho->Option Rho} {e:Rho->R D} {g:D->D} {ρ:Rho}:∀ {xs:List D},(∀ x ∈ xs,∃ ρ1,T x ρ=some ρ1/\e ρ1=.val (g x))->i7 T tT e xs ρ=.val (xs.map g)
 | [],_=>rfl
 | x :: r,h=>by
  obtain ⟨ρ1,h1,h2⟩:=h x (by simp)
  have ih:=sv (T:=T) (e:=e) (g:=g) (ρ:=ρ) (xs:=r) fun y hy=>h y (by simp [hy])
  unfold i7
  rw [h1]
  show (noE (tT ρ1)).bind _=_
  simp [tT,h2,ih]
theorem gU {T:D->Rho->Option Rho} {F:Rho->R Out} (I:Nat->Rho->Prop) {xs:List D} (step:∀ (i:Nat) x ρ,xs[i]?=some x->I i ρ->∃ ρ1 ρ2,T x ρ=some ρ1/\F ρ1=.val (.nx ρ2)/\I (i + 1) ρ2) {ρ:Rho} (h:I 0 ρ):∃ ρ',cR T F xs ρ=.val (.nx ρ')/\I xs.length ρ':=by
 suffices ∀ (n k:Nat) (ρ:Rho),k + n=xs.length->I k ρ->∃ ρ',cR T F (xs.drop k) ρ=.val (.nx ρ')/\I xs.length ρ' by
  have:=this xs.length 0 ρ (by omega) h
  rwa [List.drop_zero] at this
 intro n
 induction n with
 | zero =>
  intro k ρ hk hI
  have hk:k=xs.length:=by omega
  subst hk
  rw [List.drop_length]
  exact ⟨ρ,rfl,hI⟩
 | succ n ih =>
  intro k ρ hk hI
  have hlt:k < xs.length:=by omega
  obtain ⟨ρ1,ρ2,h1,h2,h3⟩:=step k xs[k] ρ (by simp [hlt]) hI
  rw [List.drop_eq_getElem_cons hlt]
  unfold cR
  rw [h1]
  show ∃ ρ',(F ρ1).bind _=_/\_
  rw [h2]
  exact ih (k + 1) ρ2 (by omega) h3
end DL
namespace DL
open L2 Ar
noncomputable def pln:Nat->D->Bool
 | _,.non=>true
 | _,.int _=>true
 | n + 1,.lst xs=>xs.all (pln n)
 | n + 1,.tup xs=>xs.all (pln n)
 | _,_=>false
theorem fC:∀ {n:Nat} {x:D},pln n x=true->eqb n x=true:=by
 intro n
 induction n with
 | zero =>
  intro x h
  cases x with
  | non=>rfl
  | int _=>rfl
  | _=>cases h
 | succ n ih =>
  intro x h
  cases x with
  | non=>rfl
  | int _=>rfl
  | lst xs=>exact List.all_eq_true.mpr fun y hy=>ih (List.all_eq_true.mp h y hy)
  | tup xs=>exact List.all_eq_true.mpr fun y hy=>ih (List.all_eq_true.mp h y hy)
  | _=>cases h
theorem rb {n:Nat} (ih:∀ {x y:D},pln n x=true->pln n y=true->(pyq n x y=true ↔ x=y)) {xs ys:List D} (hx:xs.all (pln n)=true) (hy:ys.all (pln n)=true) :
  (decide (xs.length=ys.length) && (List.range xs.length).all fun j=>pyq n (xs.getD j .non) (ys.getD j .non))=true ↔ xs=ys:=by
 rw [Bool.and_eq_true,decide_eq_true_iff,List.all_eq_true]
 rw [List.all_eq_true] at hx hy
 constructor
 ·rintro ⟨hl,h⟩
  apply List.ext_getElem hl
  intro j h1 h2
  have:=h j (List.mem_range.mpr h1)
  rw [aG h1,aG h2] at this
  exact (ih (hx _ (List.getElem_mem h1)) (hy _ (List.getElem_mem h2))).mp this
 ·rintro rfl
  refine ⟨rfl,fun j hj=>?_⟩
  have h1:=List.mem_range.mp hj
  rw [aG h1]
  exact (ih (hx _ (List.getElem_mem h1)) (hx _ (List.getElem_mem h1))).mpr rfl
theorem fi {p q:Prop} (h:¬ p) (g:¬ q):p ↔ q:=⟨fun x=>absurd x h,fun x=>absurd x g⟩
theorem ut {a b:Int}:(a == b)=true ↔ D.int a=D.int b:=beq_iff_eq.trans ⟨congrArg D.int,fun h=>by cases h;rfl⟩
theorem jj:∀ (n:Nat) {x y:D},pln n x=true->pln n y=true->(pyq n x y=true ↔ x=y):=by
 intro n
 induction n with
 | zero =>
  intro x y hx hy
  cases x with
  | non =>
   cases y with
   | non=>exact ⟨fun _=>rfl,fun _=>rfl⟩
   | int b=>exact fi Bool.false_ne_true (fun h=>by cases h)
   | _=>cases hy
  | int a =>
   cases y with
   | int b=>exact ut
   | non=>exact fi Bool.false_ne_true (fun h=>by cases h)
   | _=>cases hy
  | _=>cases hx
 | succ n ih =>
  intro x y hx hy
  cases x with
  | lst xs =>
   cases y with
   | lst ys=>rw [pQ,rb ih hx hy];exact ⟨congrArg D.lst,fun h=>by cases h;rfl⟩
   | non=>exact fi Bool.false_ne_true (fun h=>by cases h)
   | int _=>exact fi Bool.false_ne_true (fun h=>by cases h)
   | tup _=>exact fi Bool.false_ne_true (fun h=>by cases h)
   | _=>cases hy
  | tup xs =>
   cases y with
   | tup ys=>rw [pP,rb ih hx hy];exact ⟨congrArg D.tup,fun h=>by cases h;rfl⟩
   | non=>exact fi Bool.false_ne_true (fun h=>by cases h)
   | int _=>exact fi Bool.false_ne_true (fun h=>by cases h)
   | lst _=>exact fi Bool.false_ne_true (fun h=>by cases h)
   | _=>cases hy
  | non =>
   cases y with
   | non=>exact ⟨fun _=>rfl,fun _=>rfl⟩
   | int b=>exact fi Bool.false_ne_true (fun h=>by cases h)
   | lst _=>exact fi Bool.false_ne_true (fun h=>by cases h)
   | tup _=>exact fi Bool.false_ne_true (fun h=>by cases h)
   | _=>cases hy
  | int a =>
   cases y with
   | int b=>exact ut
   | non=>exact fi Bool.false_ne_true (fun h=>by cases h)
   | lst _=>exact fi Bool.false_ne_true (fun h=>by cases h)
   | tup _=>exact fi Bool.false_ne_true (fun h=>by cases h)
   | _=>cases hy
  | _=>cases hx
theorem ni {x:D} (h:pln 9 x=true):feq x x=.val (.bl true):=by
 unfold feq;rw [if_pos ⟨fC h,fC h⟩,(jj 9 h h).mpr rfl]
theorem nj {x y:D} (h:pln 9 x=true) (h':pln 9 y=true) (e:x ≠ y):feq x y=.val (.bl false):=by
 unfold feq;rw [if_pos ⟨fC h,fC h'⟩]
 cases q:pyq 9 x y with
 | false=>rfl
 | true=>exact absurd ((jj 9 h h').mp q) e
theorem fJ {x:D} (h:pln 9 x=true):fne x x=.val (.bl false):=by
 unfold fne;rw [if_pos ⟨fC h,fC h⟩,(jj 9 h h).mpr rfl];rfl
theorem se {x y:D} (h:pln 9 x=true) (h':pln 9 y=true) (e:x ≠ y):fne x y=.val (.bl true):=by
 unfold fne;rw [if_pos ⟨fC h,fC h'⟩]
 cases q:pyq 9 x y with
 | false=>rfl
 | true=>exact absurd ((jj 9 h h').mp q) e
@[simp] theorem tu (a b:Int):feq (.int a) (.int b)=.val (.bl (decide (a=b))):=by
 by_cases h:a=b
 ·subst h;rw [ni rfl];simp
 ·rw [nj rfl rfl (by simpa using h)];simp [h]
@[simp] theorem AI (a b:Int):fne (.int a) (.int b)=.val (.bl (decide (a ≠ b))):=by
 by_cases h:a=b
 ·subst h;rw [fJ rfl];simp
 ·rw [se rfl rfl (by simpa using h)];simp [h]
noncomputable abbrev nD (n:Nat):D:=.int (n:Int)
noncomputable def az (x:Arr):D:=.tup [nD x.1,nD x.2.1,.tup (x.2.2.map nD)]
noncomputable def dw (p:Nat × Nat):D:=.tup [nD p.1,nD p.2]
noncomputable def bC (en:List (Nat × Nat)):D:=.lst (en.map dw)
noncomputable def aP (re:List Nat):D:=.lst (re.map nD)
noncomputable def ak (r:List Int):D:=.lst (r.map D.int)
noncomputable def aj (tb:List (List Int)):D:=.lst (tb.map ak)
theorem nD_inj {a b:Nat}:nD a=nD b ↔ a=b:=by
 simp only [nD,D.int.injEq];omega
theorem endD_inj {p q:Nat × Nat}:dw p=dw q ↔ p=q:=by
 obtain ⟨a,b⟩:=p
 obtain ⟨c,d⟩:=q
 simp only [dw,nD,D.tup.injEq,List.cons.injEq,D.int.injEq,and_true,Prod.mk.injEq];omega
theorem qa {α:Type} {f:α->D} (hf:∀ a b,f a=f b->a=b):∀ {l m:List α},l.map f=m.map f->l=m
 | [],[],_=>rfl
 | [],_ :: _,h=>by simp at h
 | _ :: _,[],h=>by simp at h
 | a :: l,b :: m,h=>by
  simp only [List.map_cons,List.cons.injEq] at h
  rw [hf _ _ h.1,qa hf h.2]
theorem arrD_inj {x y:Arr}:az x=az y ↔ x=y:=by
 obtain ⟨a,b,l⟩:=x
 obtain ⟨c,d,m⟩:=y
 constructor
 ·intro h
  simp only [az,nD,D.tup.injEq,List.cons.injEq,D.int.injEq,Int.natCast_inj,and_true] at h
  obtain ⟨h1,h2,h3⟩:=h
  rw [h1,h2,qa (fun a b e=>nD_inj.mp e) h3]
 ·rintro h;rw [h]
theorem all_map {α:Type} {f:α->D} {n:Nat} (h:∀ a,pln n (f a)=true) (l:List α):(l.map f).all (pln n)=true:=by
 rw [List.all_eq_true]
 intro y hy
 obtain ⟨a,_,rfl⟩:=List.mem_map.mp hy
 exact h a
theorem t9 {k:Nat} (n:Nat):pln k (nD n)=true:=by unfold nD pln;rfl
theorem BF {k:Nat} (n:Int):pln k (.int n)=true:=by cases k <;> rfl
theorem lV {k:Nat} {xs:List D} (h:xs.all (pln k)=true):pln (k + 1) (.tup xs)=true:=h
theorem t_ {k:Nat} {xs:List D} (h:xs.all (pln k)=true):pln (k + 1) (.lst xs)=true:=h
theorem j3 {k:Nat} (p:Nat × Nat):pln (k + 1) (dw p)=true:=lV (by simp [t9])
theorem jl {k:Nat} (x:Arr):pln (k + 2) (az x)=true:=lV (by simp [t9];exact lV (all_map (fun a=>t9 a) _))
theorem gB {k:Nat} (r:List Int):pln (k + 1) (ak r)=true:=t_ (all_map (fun p=>BF p) _)
theorem t8 {k:Nat} (tb:List (List Int)):pln (k + 2) (aj tb)=true:=t_ (all_map (fun p=>gB p) _)
theorem fu {α:Type} {f:α->D} {l:List α} {i:Nat} {d:α} (h:i < l.length):(l.map f)[i]?=some (f (l.getD i d)):=by
 rw [aG h];simp [h]
theorem fE {en:List (Nat × Nat)} {i:Nat} (h:i < en.length):fix (bC en) (.int (i:Int))=.val (dw (en.getD i (0,0))):=jz (fu h)
theorem me {re:List Nat} {i:Nat} (h:i < re.length):fix (aP re) (.int (i:Int))=.val (nD (re.getD i 0)):=jz (fu h)
theorem cB {tb:List (List Int)} {i:Nat} (h:i < tb.length):fix (aj tb) (.int (i:Int))=.val (ak (tb.getD i [])):=jz (fu h)
theorem dg {r:List Int} {i:Nat} (h:i < r.length):fix (ak r) (.int (i:Int))=.val (.int (r.getD i (-1))):=jz (fu h)
@[simp] theorem CK (p:Nat × Nat):fix (dw p) (.int 0)=.val (nD p.1):=wX _ _
@[simp] theorem CJ (p:Nat × Nat):fix (dw p) (.int 1)=.val (nD p.2):=wW _ _ _
@[simp] theorem CN (x:Arr):fix (az x) (.int 0)=.val (nD x.1):=wX _ _
@[simp] theorem CM (x:Arr):fix (az x) (.int 1)=.val (nD x.2.1):=wW _ _ _
@[simp] theorem CL (x:Arr):fix (az x) (.int 2)=.val (.tup (x.2.2.map nD)):=AJ _ _ _ _
@[simp] theorem BX (en:List (Nat × Nat)):aU (bC en)=.val (.int en.length):=by unfold bC;simp
@[simp] theorem sg (re:List Nat):aU (aP re)=.val (.int re.length):=by unfold aP;simp
@[simp] theorem BW (r:List Int):aU (ak r)=.val (.int r.length):=by unfold ak;simp
@[simp] theorem BV (r:List (List Int)):aU (aj r)=.val (.int r.length):=by unfold aj;simp
@[simp] theorem BY (p:Nat × Nat):aU (dw p)=.val (.int 2):=Eq.trans rfl rfl
theorem m4 {F:Rho->R Out} {i j:Nat} (I:Rho->Prop) {xs:List D} (step:∀ (k:Nat) x ρ,xs[k]?=some x->I ρ->∃ ρ2,F ((ρ.set i (some (.shr (.int (k:Int))))).set j (some (.shr x)))=.val (.nx ρ2)/\I ρ2) {ρ:Rho} (h:I ρ) :
  ∃ ρ',cR (tg2 i j) F (enu 0 xs) ρ=.val (.nx ρ')/\I ρ':=by
 refine gU (fun _=>I) (fun k y ρ e hI=>?_) h
 obtain ⟨x,e1,rfl⟩:=tx e
 rw [Nat.zero_add]
 obtain ⟨ρ2,h1,h2⟩:=step k x ρ e1 hI
 exact ⟨_,ρ2,rfl,h1,h2⟩
theorem gT {F:Rho->R Out} {i n:Nat} (I:Nat->Rho->Prop) (step:∀ (k:Nat) ρ,k < n->I k ρ->∃ ρ2,F (ρ.set i (some (.shr (.int (k:Int)))))=.val (.nx ρ2)/\I (k + 1) ρ2) {ρ:Rho} (h:I 0 ρ) :
  ∃ ρ',cR (tgN i) F (rng 0 n) ρ=.val (.nx ρ')/\I n ρ':=by
 have hl:(rng 0 n).length=n:=by unfold rng;simp
 obtain ⟨ρ',h1,h2⟩:=gU (T:=tgN i) (F:=F) I (xs:=rng 0 n) (fun k y ρ e hI=>by
  have hk:k < n:=by rw [<- hl];exact (List.getElem?_eq_some_iff.mp e).1
  have:y=.int (k:Int):=by
   unfold rng at e
   rw [List.getElem?_map,List.getElem?_range hk] at e
   simp at e;exact e.symm
  subst this
  obtain ⟨ρ2,h1,h2⟩:=step k ρ hk hI
  exact ⟨_,ρ2,rfl,h1,h2⟩) h
 exact ⟨ρ',h1,by rw [hl] at h2;exact h2⟩
theorem gR {n:Nat} (h:n<=100000):n0 [.int (n:Int)]=.val (rng 0 n):=by
 have:-(2 ^ 62)<=(n:Int)/\(n:Int) < 2 ^ 62:=by constructor <;> omega
 unfold n0
 dsimp only
 rw [if_pos this,Int.toNat_natCast]
theorem v7 {z:Int} (h:0<=z) (h':z<=100000):n0 [.int z]=.val (rng 0 z.toNat):=by
 have:-(2 ^ 62)<=z/\z < 2 ^ 62:=by constructor <;> omega
 unfold n0
 dsimp only
 rw [if_pos this]
theorem xN (n:Nat):(rng 0 n).length=n:=by unfold rng;simp
theorem yk {n:Nat} {x:D} (h:x ∈ rng 0 n):∃ k:Nat,k < n/\x=.int (k:Int):=by
 unfold rng at h
 obtain ⟨k,hk,rfl⟩:=List.mem_map.mp h
 exact ⟨k,List.mem_range.mp hk,by simp⟩
theorem nn {src:Rho->R (List D)} {m n:Nat} {e:Rho->R D} {g:Nat->D} {ρ:Rho} {i:Nat} (hs:src ρ=.val (rng 0 m)) (hl:m<=100000) (h:∀ k:Nat,k < m->e ((ρ ++ List.replicate n none).set i (some (.shr (.int (k:Int)))))=.val (g k)) :
  bq src n (tgN i) tT e ρ=.val ((List.range m).map g):=by
 unfold bq
 rw [hs,ae,if_pos (show (rng 0 m).length<=LIM by rw [xN];exact hl)]
 have:i7 (tgN i) tT e (rng 0 m) (ρ ++ List.replicate n none)=.val ((rng 0 m).map fun x=>match x with | .int z=>g z.toNat | _=>.non):=sv fun x hx=>by
  obtain ⟨k,hk,rfl⟩:=yk hx
  exact ⟨_,rfl,by rw [h k hk];simp⟩
 rw [this,j6]
 unfold rng
 rw [List.map_map]
 congr 1
 apply List.map_congr_left
 intro k hk
 simp
theorem bZ {α:Type} {src:Rho->R (List D)} {n:Nat} {e:Rho->R D} {f g:α->D} {l:List α} {ρ:Rho} {i:Nat} (hs:src ρ=.val (l.map f)) (hl:l.length<=100000) (h:∀ a ∈ l,e ((ρ ++ List.replicate n none).set i (some (.shr (f a))))=.val (g a)) :
  bq src n (tgN i) tT e ρ=.val (l.map g):=by
 unfold bq
 rw [hs,ae,if_pos (show (l.map f).length<=LIM by rw [List.length_map];exact hl)]
 suffices ∀ l:List α,(∀ a ∈ l,e ((ρ ++ List.replicate n none).set i (some (.shr (f a))))=.val (g a))->i7 (tgN i) tT e (l.map f) (ρ ++ List.replicate n none)=.val (l.map g) by
  rw [this l h];rfl
 intro l
 induction l with
 | nil=>intro _;rfl
 | cons a r ih =>
  intro h
  have h1:=h a (by simp)
  have h2:=ih fun b hb=>h b (by simp [hb])
  rw [List.map_cons]
  unfold i7
  show (noE (tT _)).bind _=_
  rw [h2]
  simp only [tT,j6,ae,if_true]
  rw [h1];rfl
end DL
namespace DL
open PySem PySem.Spec PyProof.Rows L2
structure Txt (K:PySem.W.Frag) (mg:Str->Option Value) (C:Addr):Prop where
 cl:Cls K C
 nE:NoAttr K C "ends"
 nR:NoAttr K C "rests"
 nT:NoAttr K C "table"
 len:mg "len"=none
 list:mg "list"=none
 tuple:mg "tuple"=none
 range:mg "range"=none
 enumerate:mg "enumerate"=none
 max:mg "max"=none
 isinstance:mg "isinstance"=none
 all:mg "all"=none
 zip:mg "zip"=none
 int:mg "int"=none
 bool:mg "bool"=none
 ih:IsH K C
 hall:mg "Hall"=some (.ref C)
 most_boxes:∃ t,mg "MOST_BOXES"=some (.int 6 t)
 most_arrows:∃ t,mg "MOST_ARROWS"=some (.int 40 t)
 most_things:∃ t,mg "MOST_THINGS"=some (.int 40 t)
 kt_int:KTy K "int"
 kt_bool:KTy K "bool"
 kt_list:KTy K "list"
seal ED EB TD AD FD ID GD WD sJ SD SDs ER AR KD ND SDi sI
variable {P:Program} {w:World} {K:PySem.W.Frag} {mg:Str->Option Value} {base:Heap} {C:Addr}
noncomputable abbrev dI:Stmt:=PySem.Challenge.pw_arrowhall_k13_rests_and_things.main.body.getD 9 (.Pass ⟨0,0,0,0⟩)
noncomputable abbrev jR:List Str:=["number","count"]
theorem q8:aH jR ["number","count"] (ac dI):=⟨rfl,rfl,rfl,by decide +kernel,rfl,by decide +kernel,by decide +kernel⟩
noncomputable def ip:Rho->R Out:=(ret (chn (fun i j=>decide (i<=j)) (fun i j=>decide (i < j)) (kd (.int 0)) (vb 0) (vb 1)))
noncomputable def aK (ds:List D):R D:=fin (ip (st0 jR ds))
theorem oG {f:Addr}  (T:Txt K mg C) (cdv:Value) (A:Around) (outer:List Env) (s:Shared) (H:Hp) (E:XK) (hr:Room 0 (A.deeper (envOfC "is_below" (ac dI) s.heap.objs.size f cdv))) :
  SDs C (bX CX0 P w K mg base jR "is_below" (ac dI) f cdv A outer s H E).nox (aw dI) ip :=
 (ar (aT (xl (f:=fun i j=>decide (i<=j)) (g:=fun i j=>decide (i < j)) oU zi (EB.of am) (ag (pv 0)) (ag (pv 1)))))
theorem rM {a:Addr} {fd:FuncData}  (T:Txt K mg C) (F:Fun K "is_below" "is_below" dI a fd) (hm:mg "is_below"=some (.ref a)) (hb:Binds K fd ["number","count"] []):Fn P w K mg base C 1 "is_below" 2 aK :=
 ⟨a,fd,_,bt F q8 (fun cdv A outer s H E hr=>oG  T cdv A outer s H E hr),hm,F.kp,hb⟩
noncomputable abbrev bR:Stmt:=PySem.Challenge.pw_arrowhall_k13_rests_and_things.main.body.getD 10 (.Pass ⟨0,0,0,0⟩)
noncomputable abbrev gw:List Str:=["ends","rests"]
theorem lq:aH gw ["ends","rests"] (ac bR):=⟨rfl,rfl,rfl,by decide +kernel,rfl,by decide +kernel,by decide +kernel⟩
noncomputable def fy:Rho->R Out:=(sq (iff (ez (tst (chn (fun i j=>decide (i<=j)) (fun i j=>decide (i<=j)) (kd (.int 1)) (una aU (vb 1)) (kd (.int 6)))))
 bad
 nxt)
 (iff (ez (tst (chn (fun i j=>decide (i<=j)) (fun i j=>decide (i<=j)) (kd (.int 1)) (una aU (vb 0)) (kd (.int 40)))))
 bad
 nxt))
noncomputable def bV (ds:List D):R D:=fin (fy (st0 gw ds))
theorem ku {f:Addr}  (T:Txt K mg C) (cdv:Value) (A:Around) (outer:List Env) (s:Shared) (H:Hp) (E:XK) (hr:Room 0 (A.deeper (envOfC "check_counts" (ac bR) s.heap.objs.size f cdv))) :
  SDs C (bX CX0 P w K mg base gw "check_counts" (ac bR) f cdv A outer s H E).nox (aw bR) fy :=
 (aq (bD (dB (qS (f:=fun i j=>decide (i<=j)) (g:=fun i j=>decide (i<=j)) oU oU (EB.of am) (EB.of (bf (ag (pv 1)) rfl T.len aa (fun t ha=>aE ax rfl T.len PySem.boot_len ha (he:=aa) (hpl:=au)))) (EB.of (nG rfl T.most_boxes.choose_spec))))
 (ar e_)
 aQ)
 (ar (bD (dB (qS (f:=fun i j=>decide (i<=j)) (g:=fun i j=>decide (i<=j)) oU oU (EB.of am) (EB.of (bf (ag (pv 0)) rfl T.len aa (fun t ha=>aE ax rfl T.len PySem.boot_len ha (he:=aa) (hpl:=au)))) (EB.of (nG rfl T.most_arrows.choose_spec))))
 (ar e_)
 aQ)))
theorem lA {a:Addr} {fd:FuncData}  (T:Txt K mg C) (F:Fun K "check_counts" "check_counts" bR a fd) (hm:mg "check_counts"=some (.ref a)) (hb:Binds K fd ["ends","rests"] []):Fn P w K mg base C 1 "check_counts" 2 bV :=
 ⟨a,fd,_,bt F lq (fun cdv A outer s H E hr=>ku  T cdv A outer s H E hr),hm,F.kp,hb⟩
noncomputable abbrev cL:Stmt:=PySem.Challenge.pw_arrowhall_k13_rests_and_things.main.body.getD 11 (.Pass ⟨0,0,0,0⟩)
noncomputable abbrev iD:List Str:=["ends","boxes","arrow","pair"]
theorem sc_check_ends:aH iD ["ends","boxes"] (ac cL):=⟨rfl,rfl,rfl,by decide +kernel,rfl,by decide +kernel,by decide +kernel⟩
noncomputable def gs:Rho->R Out:=(cA (fZ (aC (vr 0) aN)) (tg2 2 3)
 (iff (orB (tst (bin fne (una aU (vb 3)) (kd (.int 2)))) (orB (ez (tst (cal 2 aK (aC (bin fix (vb 3) (kd (.int 0))) (aC (vr 1) aN))))) (ez (tst (cal 2 aK (aC (bin fix (vb 3) (kd (.int 1))) (aC (vr 1) aN)))))))
 bad
 nxt))
noncomputable def cQ (ds:List D):R D:=fin (gs (st0 iD ds))
theorem lQ {f:Addr} (fn_is_below:Fn P w K mg base C 1 "is_below" 2 aK) (T:Txt K mg C) (cdv:Value) (A:Around) (outer:List Env) (s:Shared) (H:Hp) (E:XK) (hr:Room 1 (A.deeper (envOfC "check_ends" (ac cL) s.heap.objs.size f cdv))) :
  SDs C (bX CX0 P w K mg base iD "check_ends" (ac cL) f cdv A outer s H E).nox (aw cL) gs :=
 (ar (cw PassesOwn.never rfl (dW rfl T.enumerate (ab (ai (pv 0)) ao aa) (bK aa)) (dv rfl (aM (i:=2) sc_check_ends.nd rfl (Or.inl rfl)) (aM (i:=3) sc_check_ends.nd rfl (Or.inl rfl)))
 (ar (bD (jC (fH (du (bM hr) (EB.of (bf (ag (pv 3)) rfl T.len aa (fun t ha=>aE ax rfl T.len PySem.boot_len ha (he:=aa) (hpl:=au)))) (EB.of am)) (fH (dB (dQ (aV fn_is_below (hr.mono (by decide)) rfl (ab (ay (ag (pv 3)) (EB.of am)) (ab (ai (pv 1)) ao aa) ah) rfl (he:=ah) (hpl:=(av aa au))))) (ft (dB (dQ (aV fn_is_below (hr.mono (by decide)) rfl (ab (ay (ag (pv 3)) (EB.of am)) (ab (ai (pv 1)) ao aa) ah) rfl (he:=ah) (hpl:=(av aa au)))))))))
 (ar e_)
 aQ))))
theorem oo {a:Addr} {fd:FuncData} (fn_is_below:Fn P w K mg base C 1 "is_below" 2 aK) (T:Txt K mg C) (F:Fun K "check_ends" "check_ends" cL a fd) (hm:mg "check_ends"=some (.ref a)) (hb:Binds K fd ["ends","boxes"] []):Fn P w K mg base C 2 "check_ends" 2 cQ :=
 ⟨a,fd,_,bt F sc_check_ends (fun cdv A outer s H E hr=>lQ fn_is_below T cdv A outer s H E hr),hm,F.kp,hb⟩
noncomputable abbrev ci:Stmt:=PySem.Challenge.pw_arrowhall_k13_rests_and_things.main.body.getD 12 (.Pass ⟨0,0,0,0⟩)
noncomputable abbrev gP:List Str:=["ends","rests","box","rest"]
theorem sc_check_rests:aH gP ["ends","rests"] (ac ci):=⟨rfl,rfl,rfl,by decide +kernel,rfl,by decide +kernel,by decide +kernel⟩
noncomputable def fS:Rho->R Out:=(cA (fZ (aC (vr 1) aN)) (tg2 2 3)
 (iff (orB (ez (tst (cal 2 aK (aC (vr 3) (aC (una aU (vb 0)) aN))))) (tst (bin fne (bin fix (vb 0) (vb 3)) (eT (aC (vr 2) (aC (vr 2) aN))))))
 bad
 nxt))
noncomputable def cy (ds:List D):R D:=fin (fS (st0 gP ds))
theorem kX {f:Addr} (fn_is_below:Fn P w K mg base C 1 "is_below" 2 aK) (T:Txt K mg C) (cdv:Value) (A:Around) (outer:List Env) (s:Shared) (H:Hp) (E:XK) (hr:Room 1 (A.deeper (envOfC "check_rests" (ac ci) s.heap.objs.size f cdv))) :
  SDs C (bX CX0 P w K mg base gP "check_rests" (ac ci) f cdv A outer s H E).nox (aw ci) fS :=
 (ar (cw PassesOwn.never rfl (dW rfl T.enumerate (ab (ai (pv 1)) ao aa) (bK aa)) (dv rfl (aM (i:=2) sc_check_rests.nd rfl (Or.inl rfl)) (aM (i:=3) sc_check_rests.nd rfl (Or.inl rfl)))
 (ar (bD (jC (fH (dB (dQ (aV fn_is_below (hr.mono (by decide)) rfl (ab (ai (pv 3)) (ab (bf (ag (pv 0)) rfl T.len aa (fun t ha=>aE ax rfl T.len PySem.boot_len ha (he:=aa) (hpl:=au))) ao aF) aa) rfl (he:=aa) (hpl:=(av aF au))))) (ft (du (bM hr) (EB.of (ay (ag (pv 0)) (ag (pv 3)))) (EB.of (dm (ab (ai (pv 2)) (ab (ai (pv 2)) ao aa) aa)))))))
 (ar e_)
 aQ))))
theorem mW {a:Addr} {fd:FuncData} (fn_is_below:Fn P w K mg base C 1 "is_below" 2 aK) (T:Txt K mg C) (F:Fun K "check_rests" "check_rests" ci a fd) (hm:mg "check_rests"=some (.ref a)) (hb:Binds K fd ["ends","rests"] []):Fn P w K mg base C 2 "check_rests" 2 cy :=
 ⟨a,fd,_,bt F sc_check_rests (fun cdv A outer s H E hr=>kX fn_is_below T cdv A outer s H E hr),hm,F.kp,hb⟩
noncomputable abbrev cK:Stmt:=PySem.Challenge.pw_arrowhall_k13_rests_and_things.main.body.getD 13 (.Pass ⟨0,0,0,0⟩)
noncomputable abbrev ge:List Str:=["table","arrows","one","row"]
theorem sc_check_form:aH ge ["table","arrows"] (ac cK):=⟨rfl,rfl,rfl,by decide +kernel,rfl,by decide +kernel,by decide +kernel⟩
noncomputable def gr:Rho->R Out:=(sq (iff (tst (bin fne (una aU (vb 0)) (vb 1)))
 bad
 nxt)
 (cA (fZ (aC (vr 0) aN)) (tg2 2 3)
 (iff (tst (bin fne (una aU (vb 3)) (vb 1)))
 bad
 nxt)))
noncomputable def cP (ds:List D):R D:=fin (gr (st0 ge ds))
theorem lP {f:Addr}  (T:Txt K mg C) (cdv:Value) (A:Around) (outer:List Env) (s:Shared) (H:Hp) (E:XK) (hr:Room 0 (A.deeper (envOfC "check_form" (ac cK) s.heap.objs.size f cdv))) :
  SDs C (bX CX0 P w K mg base ge "check_form" (ac cK) f cdv A outer s H E).nox (aw cK) gr :=
 (aq (bD (du (bM hr) (EB.of (bf (ag (pv 0)) rfl T.len aa (fun t ha=>aE ax rfl T.len PySem.boot_len ha (he:=aa) (hpl:=au)))) (ag (pv 1)))
 (ar e_)
 aQ)
 (ar (cw PassesOwn.never rfl (dW rfl T.enumerate (ab (ai (pv 0)) ao aa) (bK aa)) (dv rfl (aM (i:=2) sc_check_form.nd rfl (Or.inl rfl)) (aM (i:=3) sc_check_form.nd rfl (Or.inl rfl)))
 (ar (bD (du (bM hr) (EB.of (bf (ag (pv 3)) rfl T.len aa (fun t ha=>aE ax rfl T.len PySem.boot_len ha (he:=aa) (hpl:=au)))) (ag (pv 1)))
 (ar e_)
 aQ)))))
theorem om {a:Addr} {fd:FuncData}  (T:Txt K mg C) (F:Fun K "check_form" "check_form" cK a fd) (hm:mg "check_form"=some (.ref a)) (hb:Binds K fd ["table","arrows"] []):Fn P w K mg base C 1 "check_form" 2 cP :=
 ⟨a,fd,_,bt F sc_check_form (fun cdv A outer s H E hr=>lP  T cdv A outer s H E hr),hm,F.kp,hb⟩
noncomputable abbrev cj:Stmt:=PySem.Challenge.pw_arrowhall_k13_rests_and_things.main.body.getD 15 (.Pass ⟨0,0,0,0⟩)
noncomputable abbrev gQ:List Str:=["ends","one","other","made"]
theorem mD:aH gQ ["ends","one","other","made"] (ac cj):=⟨rfl,rfl,rfl,by decide +kernel,rfl,by decide +kernel,by decide +kernel⟩
noncomputable def fT:Rho->R Out:=(iff (tst (bin fne (bin fix (bin fix (vb 0) (vb 1)) (kd (.int 1))) (bin fix (bin fix (vb 0) (vb 2)) (kd (.int 0)))))
 (iff (tst (bin fne (vb 3) (una lE (kd (.int 1)))))
 bad
 nxt)
 (iff (orB (ez (tst (cal 2 aK (aC (vr 3) (aC (una aU (vb 0)) aN))))) (tst (bin fne (bin fix (vb 0) (vb 3)) (eT (aC (bin fix (bin fix (vb 0) (vb 1)) (kd (.int 0))) (aC (bin fix (bin fix (vb 0) (vb 2)) (kd (.int 1))) aN))))))
 bad
 nxt))
noncomputable def cz (ds:List D):R D:=fin (fT (st0 gQ ds))
theorem kY {f:Addr} (fn_is_below:Fn P w K mg base C 1 "is_below" 2 aK) (T:Txt K mg C) (cdv:Value) (A:Around) (outer:List Env) (s:Shared) (H:Hp) (E:XK) (hr:Room 1 (A.deeper (envOfC "check_entry" (ac cj) s.heap.objs.size f cdv))) :
  SDs C (bX CX0 P w K mg base gQ "check_entry" (ac cj) f cdv A outer s H E).nox (aw cj) fT :=
 (ar (bD (du (bM hr) (EB.of (ay (EB.of (ay (ag (pv 0)) (ag (pv 1)))) (EB.of am))) (EB.of (ay (EB.of (ay (ag (pv 0)) (ag (pv 2)))) (EB.of am))))
 (ar (bD (du (bM hr) (ag (pv 3)) (EB.of (nC (EB.of am))))
 (ar e_)
 aQ))
 (ar (bD (jC (fH (dB (dQ (aV fn_is_below (hr.mono (by decide)) rfl (ab (ai (pv 3)) (ab (bf (ag (pv 0)) rfl T.len aa (fun t ha=>aE ax rfl T.len PySem.boot_len ha (he:=aa) (hpl:=au))) ao aF) aa) rfl (he:=aa) (hpl:=(av aF au))))) (ft (du (bM hr) (EB.of (ay (ag (pv 0)) (ag (pv 3)))) (EB.of (dm (ab (ay (EB.of (ay (ag (pv 0)) (ag (pv 1)))) (EB.of am)) (ab (ay (EB.of (ay (ag (pv 0)) (ag (pv 2)))) (EB.of am)) ao ah) ah)))))))
 (ar e_)
 aQ))))
theorem mX {a:Addr} {fd:FuncData} (fn_is_below:Fn P w K mg base C 1 "is_below" 2 aK) (T:Txt K mg C) (F:Fun K "check_entry" "check_entry" cj a fd) (hm:mg "check_entry"=some (.ref a)) (hb:Binds K fd ["ends","one","other","made"] []):Fn P w K mg base C 2 "check_entry" 4 cz :=
 ⟨a,fd,_,bt F mD (fun cdv A outer s H E hr=>kY fn_is_below T cdv A outer s H E hr),hm,F.kp,hb⟩
noncomputable abbrev cg:Stmt:=PySem.Challenge.pw_arrowhall_k13_rests_and_things.main.body.getD 14 (.Pass ⟨0,0,0,0⟩)
noncomputable abbrev gO:List Str:=["ends","table","one","row","other","made"]
theorem sc_check_table:aH gO ["ends","table"] (ac cg):=⟨rfl,rfl,rfl,by decide +kernel,rfl,by decide +kernel,by decide +kernel⟩
noncomputable def fR:Rho->R Out:=(cA (fZ (aC (vr 1) aN)) (tg2 2 3)
 (cA (fZ (aC (vr 3) aN)) (tg2 4 5)
 (drp (cal 4 cz (aC (vr 0) (aC (vr 2) (aC (vr 4) (aC (vr 5) aN))))))))
noncomputable def cx (ds:List D):R D:=fin (fR (st0 gO ds))
theorem kW {f:Addr} (fn_check_entry:Fn P w K mg base C 2 "check_entry" 4 cz) (T:Txt K mg C) (cdv:Value) (A:Around) (outer:List Env) (s:Shared) (H:Hp) (E:XK) (hr:Room 2 (A.deeper (envOfC "check_table" (ac cg) s.heap.objs.size f cdv))) :
  SDs C (bX CX0 P w K mg base gO "check_table" (ac cg) f cdv A outer s H E).nox (aw cg) fR :=
 (ar (cw PassesOwn.never rfl (dW rfl T.enumerate (ab (ai (pv 1)) ao aa) (bK aa)) (dv rfl (aM (i:=2) sc_check_table.nd rfl (Or.inl rfl)) (aM (i:=3) sc_check_table.nd rfl (Or.inl rfl)))
 (ar (cw PassesOwn.never rfl (dW rfl T.enumerate (ab (ai (pv 3)) ao aa) (bK aa)) (dv rfl (aM (i:=4) sc_check_table.nd rfl (Or.inl rfl)) (aM (i:=5) sc_check_table.nd rfl (Or.inl rfl)))
 (ar (gA (EB.of (aV fn_check_entry (hr.mono (by decide)) rfl (ab (ai (pv 0)) (ab (ai (pv 2)) (ab (ai (pv 4)) (ab (ai (pv 5)) ao aa) aa) aa) aa) rfl (he:=aa) (hpl:=(av aa (av aa (av aa au))))))))))))
theorem mV {a:Addr} {fd:FuncData} (fn_check_entry:Fn P w K mg base C 2 "check_entry" 4 cz) (T:Txt K mg C) (F:Fun K "check_table" "check_table" cg a fd) (hm:mg "check_table"=some (.ref a)) (hb:Binds K fd ["ends","table"] []):Fn P w K mg base C 3 "check_table" 2 cx :=
 ⟨a,fd,_,bt F sc_check_table (fun cdv A outer s H E hr=>kW fn_check_entry T cdv A outer s H E hr),hm,F.kp,hb⟩
noncomputable abbrev bb:Stmt:=PySem.Challenge.pw_arrowhall_k13_rests_and_things.main.body.getD 16 (.Pass ⟨0,0,0,0⟩)
noncomputable abbrev d5:List Str:=["ends","rests","table","arrow","pair"]
theorem sc_check_beside_rests:aH d5 ["ends","rests","table"] (ac bb):=⟨rfl,rfl,rfl,by decide +kernel,rfl,by decide +kernel,by decide +kernel⟩
noncomputable def dP:Rho->R Out:=(cA (fZ (aC (vr 0) aN)) (tg2 3 4)
 (iff (orB (tst (bin fne (bin fix (bin fix (vb 2) (bin fix (vb 1) (bin fix (vb 4) (kd (.int 0))))) (vb 3)) (vb 3))) (tst (bin fne (bin fix (bin fix (vb 2) (vb 3)) (bin fix (vb 1) (bin fix (vb 4) (kd (.int 1))))) (vb 3))))
 bad
 nxt))
noncomputable def bg (ds:List D):R D:=fin (dP (st0 d5 ds))
theorem g_ {f:Addr}  (T:Txt K mg C) (cdv:Value) (A:Around) (outer:List Env) (s:Shared) (H:Hp) (E:XK) (hr:Room 0 (A.deeper (envOfC "check_beside_rests" (ac bb) s.heap.objs.size f cdv))) :
  SDs C (bX CX0 P w K mg base d5 "check_beside_rests" (ac bb) f cdv A outer s H E).nox (aw bb) dP :=
 (ar (cw PassesOwn.never rfl (dW rfl T.enumerate (ab (ai (pv 0)) ao aa) (bK aa)) (dv rfl (aM (i:=3) sc_check_beside_rests.nd rfl (Or.inl rfl)) (aM (i:=4) sc_check_beside_rests.nd rfl (Or.inl rfl)))
 (ar (bD (jC (fH (du (bM hr) (EB.of (ay (EB.of (ay (ag (pv 2)) (EB.of (ay (ag (pv 1)) (EB.of (ay (ag (pv 4)) (EB.of am))))))) (ag (pv 3)))) (ag (pv 3))) (ft (du (bM hr) (EB.of (ay (EB.of (ay (ag (pv 2)) (ag (pv 3)))) (EB.of (ay (ag (pv 1)) (EB.of (ay (ag (pv 4)) (EB.of am))))))) (ag (pv 3))))))
 (ar e_)
 aQ))))
theorem iF {a:Addr} {fd:FuncData}  (T:Txt K mg C) (F:Fun K "check_beside_rests" "check_beside_rests" bb a fd) (hm:mg "check_beside_rests"=some (.ref a)) (hb:Binds K fd ["ends","rests","table"] []):Fn P w K mg base C 1 "check_beside_rests" 3 bg :=
 ⟨a,fd,_,bt F sc_check_beside_rests (fun cdv A outer s H E hr=>g_  T cdv A outer s H E hr),hm,F.kp,hb⟩
noncomputable abbrev bQ:Stmt:=PySem.Challenge.pw_arrowhall_k13_rests_and_things.main.body.getD 18 (.Pass ⟨0,0,0,0⟩)
noncomputable abbrev fq:List Str:=["table","one","other","made","third","later"]
theorem sc_check_thirds:aH fq ["table","one","other","made"] (ac bQ):=⟨rfl,rfl,rfl,by decide +kernel,rfl,by decide +kernel,by decide +kernel⟩
noncomputable def fx:Rho->R Out:=(cA (fZ (aC (bin fix (vb 0) (vb 2)) aN)) (tg2 4 5)
 (iff (vG (tst (bin fne (vb 5) (una lE (kd (.int 1))))) (tst (bin fne (bin fix (bin fix (vb 0) (vb 3)) (vb 4)) (bin fix (bin fix (vb 0) (vb 1)) (vb 5)))))
 bad
 nxt))
noncomputable def bU (ds:List D):R D:=fin (fx (st0 fq ds))
theorem kt {f:Addr}  (T:Txt K mg C) (cdv:Value) (A:Around) (outer:List Env) (s:Shared) (H:Hp) (E:XK) (hr:Room 0 (A.deeper (envOfC "check_thirds" (ac bQ) s.heap.objs.size f cdv))) :
  SDs C (bX CX0 P w K mg base fq "check_thirds" (ac bQ) f cdv A outer s H E).nox (aw bQ) fx :=
 (ar (cw PassesOwn.never rfl (dW rfl T.enumerate (ab (ay (ag (pv 0)) (ag (pv 2))) ao ah) (bK ah)) (dv rfl (aM (i:=4) sc_check_thirds.nd rfl (Or.inl rfl)) (aM (i:=5) sc_check_thirds.nd rfl (Or.inl rfl)))
 (ar (bD (jC (vN (du (bM hr) (ag (pv 5)) (EB.of (nC (EB.of am)))) (tO (du (bM hr) (EB.of (ay (EB.of (ay (ag (pv 0)) (ag (pv 3)))) (ag (pv 4)))) (EB.of (ay (EB.of (ay (ag (pv 0)) (ag (pv 1)))) (ag (pv 5))))))))
 (ar e_)
 aQ))))
theorem lz {a:Addr} {fd:FuncData}  (T:Txt K mg C) (F:Fun K "check_thirds" "check_thirds" bQ a fd) (hm:mg "check_thirds"=some (.ref a)) (hb:Binds K fd ["table","one","other","made"] []):Fn P w K mg base C 1 "check_thirds" 4 bU :=
 ⟨a,fd,_,bt F sc_check_thirds (fun cdv A outer s H E hr=>kt  T cdv A outer s H E hr),hm,F.kp,hb⟩
noncomputable abbrev bP:Stmt:=PySem.Challenge.pw_arrowhall_k13_rests_and_things.main.body.getD 17 (.Pass ⟨0,0,0,0⟩)
noncomputable abbrev gv:List Str:=["table","one","row","other","made"]
theorem sc_check_threes:aH gv ["table"] (ac bP):=⟨rfl,rfl,rfl,by decide +kernel,rfl,by decide +kernel,by decide +kernel⟩
noncomputable def fw:Rho->R Out:=(cA (fZ (aC (vr 0) aN)) (tg2 1 2)
 (cA (fZ (aC (vr 2) aN)) (tg2 3 4)
 (iff (tst (bin fne (vb 4) (una lE (kd (.int 1)))))
 (drp (cal 4 bU (aC (vr 0) (aC (vr 1) (aC (vr 3) (aC (vr 4) aN))))))
 nxt)))
noncomputable def bT (ds:List D):R D:=fin (fw (st0 gv ds))
theorem ko {f:Addr} (fn_check_thirds:Fn P w K mg base C 1 "check_thirds" 4 bU) (T:Txt K mg C) (cdv:Value) (A:Around) (outer:List Env) (s:Shared) (H:Hp) (E:XK) (hr:Room 1 (A.deeper (envOfC "check_threes" (ac bP) s.heap.objs.size f cdv))) :
  SDs C (bX CX0 P w K mg base gv "check_threes" (ac bP) f cdv A outer s H E).nox (aw bP) fw :=
 (ar (cw PassesOwn.never rfl (dW rfl T.enumerate (ab (ai (pv 0)) ao aa) (bK aa)) (dv rfl (aM (i:=1) sc_check_threes.nd rfl (Or.inl rfl)) (aM (i:=2) sc_check_threes.nd rfl (Or.inl rfl)))
 (ar (cw PassesOwn.never rfl (dW rfl T.enumerate (ab (ai (pv 2)) ao aa) (bK aa)) (dv rfl (aM (i:=3) sc_check_threes.nd rfl (Or.inl rfl)) (aM (i:=4) sc_check_threes.nd rfl (Or.inl rfl)))
 (ar (bD (du (bM hr) (ag (pv 4)) (EB.of (nC (EB.of am))))
 (ar (gA (EB.of (aV fn_check_thirds (hr.mono (by decide)) rfl (ab (ai (pv 0)) (ab (ai (pv 1)) (ab (ai (pv 3)) (ab (ai (pv 4)) ao aa) aa) aa) aa) rfl (he:=aa) (hpl:=(av aa (av aa (av aa au))))))))
 aQ))))))
theorem ly {a:Addr} {fd:FuncData} (fn_check_thirds:Fn P w K mg base C 1 "check_thirds" 4 bU) (T:Txt K mg C) (F:Fun K "check_threes" "check_threes" bP a fd) (hm:mg "check_threes"=some (.ref a)) (hb:Binds K fd ["table"] []):Fn P w K mg base C 2 "check_threes" 1 bT :=
 ⟨a,fd,_,bt F sc_check_threes (fun cdv A outer s H E hr=>ko fn_check_thirds T cdv A outer s H E hr),hm,F.kp,hb⟩
noncomputable abbrev bL:Stmt:=yt (PySem.Challenge.pw_arrowhall_k13_rests_and_things.main.body.getD 19 (.Pass ⟨0,0,0,0⟩)) 0
noncomputable abbrev fG:List Str:=["self","ends","rests","table"]
theorem mE:aH fG ["self","ends","rests","table"] (ac bL):=⟨rfl,rfl,rfl,by decide +kernel,rfl,by decide +kernel,by decide +kernel⟩
noncomputable abbrev Nc_Hall___init_0:List Str:=["self","ends","rests","table","row"]
theorem kJ:Nc_Hall___init_0.Nodup:=by decide +kernel
noncomputable def gt:Rho->R D:=yT [(cal 2 bV (aC (vr 1) (aC (vr 2) aN))),(cal 2 cQ (aC (vr 1) (aC (una aU (vb 2)) aN))),(cal 2 cy (aC (vr 1) (aC (vr 2) aN))),(cal 2 cP (aC (vr 3) (aC (una aU (vb 1)) aN))),(cal 2 cx (aC (vr 1) (aC (vr 3) aN))),(cal 3 bg (aC (vr 1) (aC (vr 2) (aC (vr 3) aN)))),(cal 1 bT (aC (vr 3) aN))] (fIt (vb 1)) (fIt (vb 2)) (bq (fIt (vr 3)) 1 (tgN 4) tT (eLs (fIt (vb 4))))
theorem kZ {f:Addr} (fn_check_beside_rests:Fn P w K mg base C 1 "check_beside_rests" 3 bg) (fn_check_counts:Fn P w K mg base C 1 "check_counts" 2 bV) (fn_check_ends:Fn P w K mg base C 2 "check_ends" 2 cQ) (fn_check_form:Fn P w K mg base C 1 "check_form" 2 cP) (fn_check_rests:Fn P w K mg base C 2 "check_rests" 2 cy) (fn_check_table:Fn P w K mg base C 3 "check_table" 2 cx) (fn_check_threes:Fn P w K mg base C 2 "check_threes" 1 bT) (T:Txt K mg C) (cdv:Value) (A:Around) (outer:List Env) (s:Shared) (H:Hp) (E:XK) (hr:Room 3 (A.deeper (envOfC "Hall.__init__" (ac bL) s.heap.objs.size f cdv))) :
  PSs (bX CX0 P w K mg base fG "Hall.__init__" (ac bL) f cdv A outer s H E).nox (aw bL) (tCk C (bX CX0 P w K mg base fG "Hall.__init__" (ac bL) f cdv A outer s H E).nox [(cal 2 bV (aC (vr 1) (aC (vr 2) aN))),(cal 2 cQ (aC (vr 1) (aC (una aU (vb 2)) aN))),(cal 2 cy (aC (vr 1) (aC (vr 2) aN))),(cal 2 cP (aC (vr 3) (aC (una aU (vb 1)) aN))),(cal 2 cx (aC (vr 1) (aC (vr 3) aN))),(cal 3 bg (aC (vr 1) (aC (vr 2) (aC (vr 3) aN)))),(cal 1 bT (aC (vr 3) aN))] (tI C (bX CX0 P w K mg base fG "Hall.__init__" (ac bL) f cdv A outer s H E).nox (fIt (vb 1)) (fIt (vb 2)) (bq (fIt (vr 3)) 1 (tgN 4) tT (eLs (fIt (vb 4)))))) :=
 (jE (mI (EB.of (aV fn_check_counts (hr.mono (by decide)) rfl (ab (ai (pv 1)) (ab (ai (pv 2)) ao aa) aa) rfl (he:=aa) (hpl:=(av aa au)))))
 (jE (mI (EB.of (aV fn_check_ends (hr.mono (by decide)) rfl (ab (ai (pv 1)) (ab (bf (ag (pv 2)) rfl T.len aa (fun t ha=>aE ax rfl T.len PySem.boot_len ha (he:=aa) (hpl:=au))) ao aF) aa) rfl (he:=aa) (hpl:=(av aF au)))))
 (jE (mI (EB.of (aV fn_check_rests (hr.mono (by decide)) rfl (ab (ai (pv 1)) (ab (ai (pv 2)) ao aa) aa) rfl (he:=aa) (hpl:=(av aa au)))))
 (jE (mI (EB.of (aV fn_check_form (hr.mono (by decide)) rfl (ab (ai (pv 3)) (ab (bf (ag (pv 1)) rfl T.len aa (fun t ha=>aE ax rfl T.len PySem.boot_len ha (he:=aa) (hpl:=au))) ao aF) aa) rfl (he:=aa) (hpl:=(av aF au)))))
 (jE (mI (EB.of (aV fn_check_table (hr.mono (by decide)) rfl (ab (ai (pv 1)) (ab (ai (pv 3)) ao aa) aa) rfl (he:=aa) (hpl:=(av aa au)))))
 (jE (mI (EB.of (aV fn_check_beside_rests (hr.mono (by decide)) rfl (ab (ai (pv 1)) (ab (ai (pv 2)) (ab (ai (pv 3)) ao aa) aa) aa) rfl (he:=aa) (hpl:=(av aa (av aa au))))))
 (jE (mI (EB.of (aV fn_check_threes (hr.mono (by decide)) rfl (ab (ai (pv 3)) ao aa) rfl (he:=aa) (hpl:=au))))
 (BD (wb (pv 0) (fF (ag (pv 1)) rfl T.list aa (fun t ha=>bw bS rfl T.list boot_list ha (he:=aa) (hpl:=au)))) (wb (pv 0) (fF (ag (pv 2)) rfl T.list aa (fun t ha=>bw bS rfl T.list boot_list ha (he:=aa) (hpl:=au)))) (wb (pv 0) (bG (N':=Nc_Hall___init_0) (n:=1) rfl rfl rfl (e8 4) b0 (b_ (ai (pv 3))) (fun L cs s H fp=>(aS (i:=4) kJ rfl (Or.inl rfl))) (fun L cs s H fp=>bm) (fun L cs s H fp=>(cC (fF (ag (pv 4)) rfl T.list aa (fun t ha=>bw bS rfl T.list boot_list ha (he:=aa) (hpl:=au)))))))))))))))
theorem mY {a:Addr} {fd:FuncData} (fn_check_beside_rests:Fn P w K mg base C 1 "check_beside_rests" 3 bg) (fn_check_counts:Fn P w K mg base C 1 "check_counts" 2 bV) (fn_check_ends:Fn P w K mg base C 2 "check_ends" 2 cQ) (fn_check_form:Fn P w K mg base C 1 "check_form" 2 cP) (fn_check_rests:Fn P w K mg base C 2 "check_rests" 2 cy) (fn_check_table:Fn P w K mg base C 3 "check_table" 2 cx) (fn_check_threes:Fn P w K mg base C 2 "check_threes" 1 bT) (T:Txt K mg C) (F:Fun K "__init__" "Hall.__init__" bL a fd) (M:Mk K C a) (hb:Binds K fd ["self","ends","rests","table"] []):FnH P w K mg base C 4 gt :=
 ⟨a,fd,M,yq F mE T.cl T.nE T.nR T.nT (fun cdv A outer s H E hr=>kZ fn_check_beside_rests fn_check_counts fn_check_ends fn_check_form fn_check_rests fn_check_table fn_check_threes T cdv A outer s H E hr),T.hall,hb⟩
noncomputable abbrev db:Stmt:=PySem.Challenge.pw_arrowhall_k13_rests_and_things.main.body.getD 20 (.Pass ⟨0,0,0,0⟩)
noncomputable abbrev jg:List Str:=["hall","box"]
theorem pD:aH jg ["hall","box"] (ac db):=⟨rfl,rfl,rfl,by decide +kernel,rfl,by decide +kernel,by decide +kernel⟩
noncomputable def gI:Rho->R Out:=(iff (ez (tst (cal 2 aK (aC (vr 1) (aC (una aU (una (eO 1) (vb 0))) aN)))))
 bad
 nxt)
noncomputable def aY (ds:List D):R D:=fin (gI (st0 jg ds))
theorem nS {f:Addr} (fn_is_below:Fn P w K mg base C 1 "is_below" 2 aK) (T:Txt K mg C) (cdv:Value) (A:Around) (outer:List Env) (s:Shared) (H:Hp) (E:XK) (hr:Room 1 (A.deeper (envOfC "check_box" (ac db) s.heap.objs.size f cdv))) :
  SDs C (bX CX0 P w K mg base jg "check_box" (ac db) f cdv A outer s H E).nox (aw db) gI :=
 (ar (bD (dB (dQ (aV fn_is_below (hr.mono (by decide)) rfl (ab (ai (pv 1)) (ab (bf (EB.of (fk (k:=1) (ag (pv 0)) T.cl T.nR rfl (fun _ _ _=>rfl))) rfl T.len aO (fun t ha=>aE ax rfl T.len PySem.boot_len ha (he:=aO) (hpl:=au))) ao aF) aa) rfl (he:=aa) (hpl:=(av aF au)))))
 (ar e_)
 aQ))
theorem p8 {a:Addr} {fd:FuncData} (fn_is_below:Fn P w K mg base C 1 "is_below" 2 aK) (T:Txt K mg C) (F:Fun K "check_box" "check_box" db a fd) (hm:mg "check_box"=some (.ref a)) (hb:Binds K fd ["hall","box"] []):Fn P w K mg base C 2 "check_box" 2 aY :=
 ⟨a,fd,_,bt F pD (fun cdv A outer s H E hr=>nS fn_is_below T cdv A outer s H E hr),hm,F.kp,hb⟩
noncomputable abbrev d7:Stmt:=PySem.Challenge.pw_arrowhall_k13_rests_and_things.main.body.getD 21 (.Pass ⟨0,0,0,0⟩)
noncomputable abbrev le:List Str:=["hall","box","other"]
theorem sR:aH le ["hall","box","other"] (ac d7):=⟨rfl,rfl,rfl,by decide +kernel,rfl,by decide +kernel,by decide +kernel⟩
noncomputable abbrev Nc_between_0:List Str:=["hall","box","other","arrow","pair"]
theorem j7:Nc_between_0.Nodup:=by decide +kernel
noncomputable def i5:Rho->R Out:=(sq (drp (cal 2 aY (aC (vr 0) (aC (vr 1) aN))))
 (sq (drp (cal 2 aY (aC (vr 0) (aC (vr 2) aN))))
 (ret (eLs (bq (fZ (aC (una (eO 0) (vb 0)) aN)) 2 (tg2 3 4) (tst (bin feq (vb 4) (eT (aC (vr 1) (aC (vr 2) aN))))) (vr 3))))))
noncomputable def bB (ds:List D):R D:=fin (i5 (st0 le ds))
theorem qM {f:Addr} (fn_check_box:Fn P w K mg base C 2 "check_box" 2 aY) (T:Txt K mg C) (cdv:Value) (A:Around) (outer:List Env) (s:Shared) (H:Hp) (E:XK) (hr:Room 2 (A.deeper (envOfC "between" (ac d7) s.heap.objs.size f cdv))) :
  SDs C (bX CX0 P w K mg base le "between" (ac d7) f cdv A outer s H E).nox (aw d7) i5 :=
 (aq (gA (EB.of (aV fn_check_box (hr.mono (by decide)) rfl (ab (ai (pv 0)) (ab (ai (pv 1)) ao aa) aa) rfl (he:=aa) (hpl:=(av aa au)))))
 (aq (gA (EB.of (aV fn_check_box (hr.mono (by decide)) rfl (ab (ai (pv 0)) (ab (ai (pv 2)) ao aa) aa) rfl (he:=aa) (hpl:=(av aa au)))))
 (ar (aT (cC (bG (N':=Nc_between_0) (n:=2) rfl rfl rfl (yu 3) pk (dW rfl T.enumerate (ab (fk (k:=0) (ag (pv 0)) T.cl T.nE rfl (fun _ _ _=>rfl)) ao aO) (bK aO)) (fun L cs s H fp=>(dv rfl (aM (i:=3) j7 rfl (Or.inl rfl)) (aM (i:=4) j7 rfl (Or.inl rfl)))) (fun L cs s H fp=>(uu (gx (bM hr) (ag (pv 4)) (EB.of (dm (ab (ai (pv 1)) (ab (ai (pv 2)) ao aa) aa)))))) (fun L cs s H fp=>(ai (pv 3)))))))))
theorem s_ {a:Addr} {fd:FuncData} (fn_check_box:Fn P w K mg base C 2 "check_box" 2 aY) (T:Txt K mg C) (F:Fun K "between" "between" d7 a fd) (hm:mg "between"=some (.ref a)) (hb:Binds K fd ["hall","box","other"] []):Fn P w K mg base C 3 "between" 3 bB :=
 ⟨a,fd,_,bt F sR (fun cdv A outer s H E hr=>qM fn_check_box T cdv A outer s H E hr),hm,F.kp,hb⟩
noncomputable abbrev dd:Stmt:=PySem.Challenge.pw_arrowhall_k13_rests_and_things.main.body.getD 24 (.Pass ⟨0,0,0,0⟩)
noncomputable abbrev ji:List Str:=["numbers","count"]
theorem pG:aH ji ["numbers","count"] (ac dd):=⟨rfl,rfl,rfl,by decide +kernel,rfl,by decide +kernel,by decide +kernel⟩
noncomputable abbrev Nc_are_below_0:List Str:=["numbers","count","number"]
theorem mR:Nc_are_below_0.Nodup:=by decide +kernel
noncomputable def gK:Rho->R Out:=(ret (una sh (eLs (bq (fIt (vr 0)) 1 (tgN 2) tT (cal 2 aK (aC (vr 2) (aC (vr 1) aN)))))))
noncomputable def bp (ds:List D):R D:=fin (gK (st0 ji ds))
theorem nV {f:Addr} (fn_is_below:Fn P w K mg base C 1 "is_below" 2 aK) (T:Txt K mg C) (cdv:Value) (A:Around) (outer:List Env) (s:Shared) (H:Hp) (E:XK) (hr:Room 1 (A.deeper (envOfC "are_below" (ac dd) s.heap.objs.size f cdv))) :
  SDs C (bX CX0 P w K mg base ji "are_below" (ac dd) f cdv A outer s H E).nox (aw dd) gK :=
 (ar (aT (tF rfl rfl T.all aZ (EB.of (cC (bG (N':=Nc_are_below_0) (n:=1) rfl rfl rfl (e8 2) b0 (b_ (ai (pv 0))) (fun L cs s H fp=>(aS (i:=2) mR rfl (Or.inl rfl))) (fun L cs s H fp=>bm) (fun L cs s H fp=>(aV fn_is_below (hr.mono (by decide)) rfl (ab (ai (pv 2)) (ab (ai (pv 1)) ao aa) aa) rfl (he:=aa) (hpl:=(av aa au))))))))))
theorem p_ {a:Addr} {fd:FuncData} (fn_is_below:Fn P w K mg base C 1 "is_below" 2 aK) (T:Txt K mg C) (F:Fun K "are_below" "are_below" dd a fd) (hm:mg "are_below"=some (.ref a)) (hb:Binds K fd ["numbers","count"] []):Fn P w K mg base C 2 "are_below" 2 bp :=
 ⟨a,fd,_,bt F pG (fun cdv A outer s H E hr=>nV fn_is_below T cdv A outer s H E hr),hm,F.kp,hb⟩
noncomputable abbrev dL:Stmt:=PySem.Challenge.pw_arrowhall_k13_rests_and_things.main.body.getD 25 (.Pass ⟨0,0,0,0⟩)
noncomputable abbrev jT:List Str:=["first","second"]
theorem q9:aH jT ["first","second"] (ac dL):=⟨rfl,rfl,rfl,by decide +kernel,rfl,by decide +kernel,by decide +kernel⟩
noncomputable abbrev Nc_followed_0:List Str:=["first","second","thing"]
theorem n_:Nc_followed_0.Nodup:=by decide +kernel
noncomputable def ir:Rho->R Out:=(ret (eLs (bq (fIt (vr 0)) 1 (tgN 2) tT (bin fix (vb 1) (vb 2)))))
noncomputable def bA (ds:List D):R D:=fin (ir (st0 jT ds))
theorem oI {f:Addr}  (T:Txt K mg C) (cdv:Value) (A:Around) (outer:List Env) (s:Shared) (H:Hp) (E:XK) (hr:Room 0 (A.deeper (envOfC "followed" (ac dL) s.heap.objs.size f cdv))) :
  SDs C (bX CX0 P w K mg base jT "followed" (ac dL) f cdv A outer s H E).nox (aw dL) ir :=
 (ar (aT (cC (bG (N':=Nc_followed_0) (n:=1) rfl rfl rfl (e8 2) b0 (b_ (ai (pv 0))) (fun L cs s H fp=>(aS (i:=2) n_ rfl (Or.inl rfl))) (fun L cs s H fp=>bm) (fun L cs s H fp=>(ay (ag (pv 1)) (ag (pv 2))))))))
theorem rO {a:Addr} {fd:FuncData}  (T:Txt K mg C) (F:Fun K "followed" "followed" dL a fd) (hm:mg "followed"=some (.ref a)) (hb:Binds K fd ["first","second"] []):Fn P w K mg base C 1 "followed" 2 bA :=
 ⟨a,fd,_,bt F q9 (fun cdv A outer s H E hr=>oI  T cdv A outer s H E hr),hm,F.kp,hb⟩
noncomputable abbrev dJ:Stmt:=PySem.Challenge.pw_arrowhall_k13_rests_and_things.main.body.getD 26 (.Pass ⟨0,0,0,0⟩)
noncomputable abbrev jS:List Str:=["hall","counts","maps","pair","things"]
theorem sc_has_form:aH jS ["hall","counts","maps"] (ac dJ):=⟨rfl,rfl,rfl,by decide +kernel,rfl,by decide +kernel,by decide +kernel⟩
noncomputable def iq:Rho->R Out:=(sq (iff (orB (tst (bin fne (una aU (vb 1)) (una aU (una (eO 1) (vb 0))))) (tst (bin fne (una aU (vb 2)) (una aU (una (eO 0) (vb 0))))))
 (ret (kd (.bl false)))
 nxt)
 (sq (iff (ez (tst (cal 2 bp (aC (vr 1) (aC (bin cX (kd (.int 40)) (kd (.int 1))) aN)))))
 (ret (kd (.bl false)))
 nxt)
 (sq (cA (lF (aC (una (eO 0) (vb 0)) (aC (vr 2) aN))) (tg2 3 4)
 (iff (orB (tst (bin fne (una aU (vb 4)) (bin fix (vb 1) (bin fix (vb 3) (kd (.int 0)))))) (ez (tst (cal 2 bp (aC (vr 4) (aC (bin fix (vb 1) (bin fix (vb 3) (kd (.int 1)))) aN))))))
 (ret (kd (.bl false)))
 nxt))
 (ret (kd (.bl true))))))
noncomputable def dZ (ds:List D):R D:=fin (iq (st0 jS ds))
theorem oH {f:Addr} (fn_are_below:Fn P w K mg base C 2 "are_below" 2 bp) (T:Txt K mg C) (cdv:Value) (A:Around) (outer:List Env) (s:Shared) (H:Hp) (E:XK) (hr:Room 2 (A.deeper (envOfC "has_form" (ac dJ) s.heap.objs.size f cdv))) :
  SDs C (bX CX0 P w K mg base jS "has_form" (ac dJ) f cdv A outer s H E).nox (aw dJ) iq :=
 (aq (bD (jC (fH (du (bM hr) (EB.of (bf (ag (pv 1)) rfl T.len aa (fun t ha=>aE ax rfl T.len PySem.boot_len ha (he:=aa) (hpl:=au)))) (EB.of (bf (EB.of (fk (k:=1) (ag (pv 0)) T.cl T.nR rfl (fun _ _ _=>rfl))) rfl T.len aO (fun t ha=>aE ax rfl T.len PySem.boot_len ha (he:=aO) (hpl:=au))))) (ft (du (bM hr) (EB.of (bf (ag (pv 2)) rfl T.len aa (fun t ha=>aE ax rfl T.len PySem.boot_len ha (he:=aa) (hpl:=au)))) (EB.of (bf (EB.of (fk (k:=0) (ag (pv 0)) T.cl T.nE rfl (fun _ _ _=>rfl))) rfl T.len aO (fun t ha=>aE ax rfl T.len PySem.boot_len ha (he:=aO) (hpl:=au))))))))
 (ar (aT eW))
 aQ)
 (aq (bD (dB (dQ (aV fn_are_below (hr.mono (by decide)) rfl (ab (ai (pv 1)) (ab (eQ (EB.of (nG rfl T.most_things.choose_spec)) (EB.of am)) ao bH) aa) rfl (he:=aa) (hpl:=(av bH au)))))
 (ar (aT eW))
 aQ)
 (aq (cw PassesOwn.never rfl (qk rfl T.zip (ab (fk (k:=0) (ag (pv 0)) T.cl T.nE rfl (fun _ _ _=>rfl)) (ab (ai (pv 2)) ao aa) aO) aO (av aa au)) (dv rfl (aM (i:=3) sc_has_form.nd rfl (Or.inl rfl)) (aM (i:=4) sc_has_form.nd rfl (Or.inl rfl)))
 (ar (bD (jC (fH (du (bM hr) (EB.of (bf (ag (pv 4)) rfl T.len aa (fun t ha=>aE ax rfl T.len PySem.boot_len ha (he:=aa) (hpl:=au)))) (EB.of (ay (ag (pv 1)) (EB.of (ay (ag (pv 3)) (EB.of am)))))) (ft (dB (dQ (aV fn_are_below (hr.mono (by decide)) rfl (ab (ai (pv 4)) (ab (ay (ag (pv 1)) (EB.of (ay (ag (pv 3)) (EB.of am)))) ao ah) aa) rfl (he:=aa) (hpl:=(av ah au))))))))
 (ar (aT eW))
 aQ)))
 (ar (aT eW)))))
theorem rN {a:Addr} {fd:FuncData} (fn_are_below:Fn P w K mg base C 2 "are_below" 2 bp) (T:Txt K mg C) (F:Fun K "has_form" "has_form" dJ a fd) (hm:mg "has_form"=some (.ref a)) (hb:Binds K fd ["hall","counts","maps"] []):Fn P w K mg base C 3 "has_form" 3 dZ :=
 ⟨a,fd,_,bt F sc_has_form (fun cdv A outer s H E hr=>oH fn_are_below T cdv A outer s H E hr),hm,F.kp,hb⟩
noncomputable abbrev cf:Stmt:=PySem.Challenge.pw_arrowhall_k13_rests_and_things.main.body.getD 27 (.Pass ⟨0,0,0,0⟩)
noncomputable abbrev gN:List Str:=["hall","counts","maps"]
theorem mC:aH gN ["hall","counts","maps"] (ac cf):=⟨rfl,rfl,rfl,by decide +kernel,rfl,by decide +kernel,by decide +kernel⟩
noncomputable abbrev Nc_keeps_rests_0:List Str:=["hall","counts","maps","box","rest"]
theorem gS:Nc_keeps_rests_0.Nodup:=by decide +kernel
noncomputable def fQ:Rho->R Out:=(ret (una sh (eLs (bq (fZ (aC (una (eO 1) (vb 0)) aN)) 2 (tg2 3 4) tT (bin feq (bin fix (vb 2) (vb 4)) (eLs (w4 (aC (bin fix (vb 1) (vb 3)) aN))))))))
noncomputable def cU (ds:List D):R D:=fin (fQ (st0 gN ds))
theorem kU {f:Addr}  (T:Txt K mg C) (cdv:Value) (A:Around) (outer:List Env) (s:Shared) (H:Hp) (E:XK) (hr:Room 0 (A.deeper (envOfC "keeps_rests" (ac cf) s.heap.objs.size f cdv))) :
  SDs C (bX CX0 P w K mg base gN "keeps_rests" (ac cf) f cdv A outer s H E).nox (aw cf) fQ :=
 (ar (aT (tF rfl rfl T.all aZ (EB.of (cC (bG (N':=Nc_keeps_rests_0) (n:=2) rfl rfl rfl (yu 3) pk (dW rfl T.enumerate (ab (fk (k:=1) (ag (pv 0)) T.cl T.nR rfl (fun _ _ _=>rfl)) ao aO) (bK aO)) (fun L cs s H fp=>(dv rfl (aM (i:=3) gS rfl (Or.inl rfl)) (aM (i:=4) gS rfl (Or.inl rfl)))) (fun L cs s H fp=>bm) (fun L cs s H fp=>(B5 (bM hr) (EB.of (ay (ag (pv 2)) (ag (pv 4)))) (EB.of (cC (AL rfl (ab (ay (ag (pv 1)) (ag (pv 3))) ao ah) rfl T.range rfl T.list (bK ah))))))))))))
theorem mU {a:Addr} {fd:FuncData}  (T:Txt K mg C) (F:Fun K "keeps_rests" "keeps_rests" cf a fd) (hm:mg "keeps_rests"=some (.ref a)) (hb:Binds K fd ["hall","counts","maps"] []):Fn P w K mg base C 1 "keeps_rests" 3 cU :=
 ⟨a,fd,_,bt F mC (fun cdv A outer s H E hr=>kU  T cdv A outer s H E hr),hm,F.kp,hb⟩
noncomputable abbrev ce:Stmt:=PySem.Challenge.pw_arrowhall_k13_rests_and_things.main.body.getD 28 (.Pass ⟨0,0,0,0⟩)
noncomputable abbrev gM:List Str:=["hall","maps","one","row","other","made"]
theorem sc_keeps_table:aH gM ["hall","maps"] (ac ce):=⟨rfl,rfl,rfl,by decide +kernel,rfl,by decide +kernel,by decide +kernel⟩
noncomputable def fP:Rho->R Out:=(sq (cA (fZ (aC (una (eO 2) (vb 0)) aN)) (tg2 2 3)
 (cA (fZ (aC (vr 3) aN)) (tg2 4 5)
 (iff (vG (tst (bin fne (vb 5) (una lE (kd (.int 1))))) (tst (bin fne (bin fix (vb 1) (vb 5)) (cal 2 bA (aC (bin fix (vb 1) (vb 2)) (aC (bin fix (vb 1) (vb 4)) aN))))))
 (ret (kd (.bl false)))
 nxt)))
 (ret (kd (.bl true))))
noncomputable def cT (ds:List D):R D:=fin (fP (st0 gM ds))
theorem kT {f:Addr} (fn_followed:Fn P w K mg base C 1 "followed" 2 bA) (T:Txt K mg C) (cdv:Value) (A:Around) (outer:List Env) (s:Shared) (H:Hp) (E:XK) (hr:Room 1 (A.deeper (envOfC "keeps_table" (ac ce) s.heap.objs.size f cdv))) :
  SDs C (bX CX0 P w K mg base gM "keeps_table" (ac ce) f cdv A outer s H E).nox (aw ce) fP :=
 (aq (cw PassesOwn.never rfl (dW rfl T.enumerate (ab (fk (k:=2) (ag (pv 0)) T.cl T.nT rfl (fun _ _ _=>rfl)) ao aO) (bK aO)) (dv rfl (aM (i:=2) sc_keeps_table.nd rfl (Or.inl rfl)) (aM (i:=3) sc_keeps_table.nd rfl (Or.inl rfl)))
 (ar (cw PassesOwn.never rfl (dW rfl T.enumerate (ab (ai (pv 3)) ao aa) (bK aa)) (dv rfl (aM (i:=4) sc_keeps_table.nd rfl (Or.inl rfl)) (aM (i:=5) sc_keeps_table.nd rfl (Or.inl rfl)))
 (ar (bD (jC (vN (du (bM hr) (ag (pv 5)) (EB.of (nC (EB.of am)))) (tO (du (bM hr) (EB.of (ay (ag (pv 1)) (ag (pv 5)))) (EB.of (aV fn_followed (hr.mono (by decide)) rfl (ab (ay (ag (pv 1)) (ag (pv 2))) (ab (ay (ag (pv 1)) (ag (pv 4))) ao ah) ah) rfl (he:=ah) (hpl:=(av ah au))))))))
 (ar (aT eW))
 aQ)))))
 (ar (aT eW)))
theorem mT {a:Addr} {fd:FuncData} (fn_followed:Fn P w K mg base C 1 "followed" 2 bA) (T:Txt K mg C) (F:Fun K "keeps_table" "keeps_table" ce a fd) (hm:mg "keeps_table"=some (.ref a)) (hb:Binds K fd ["hall","maps"] []):Fn P w K mg base C 2 "keeps_table" 2 cT :=
 ⟨a,fd,_,bt F sc_keeps_table (fun cdv A outer s H E hr=>kT fn_followed T cdv A outer s H E hr),hm,F.kp,hb⟩
noncomputable abbrev cJ:Stmt:=PySem.Challenge.pw_arrowhall_k13_rests_and_things.main.body.getD 29 (.Pass ⟨0,0,0,0⟩)
noncomputable abbrev iC:List Str:=["hall","counts","maps"]
theorem nZ:aH iC ["hall","counts","maps"] (ac cJ):=⟨rfl,rfl,rfl,by decide +kernel,rfl,by decide +kernel,by decide +kernel⟩
noncomputable def gq:Rho->R Out:=(ret (xz (cal 3 dZ (aC (vr 0) (aC (vr 1) (aC (vr 2) aN)))) (xz (cal 3 cU (aC (vr 0) (aC (vr 1) (aC (vr 2) aN)))) (cal 2 cT (aC (vr 0) (aC (vr 2) aN))))))
noncomputable def cu (ds:List D):R D:=fin (gq (st0 iC ds))
theorem lO {f:Addr} (fn_has_form:Fn P w K mg base C 3 "has_form" 3 dZ) (fn_keeps_rests:Fn P w K mg base C 1 "keeps_rests" 3 cU) (fn_keeps_table:Fn P w K mg base C 2 "keeps_table" 2 cT) (T:Txt K mg C) (cdv:Value) (A:Around) (outer:List Env) (s:Shared) (H:Hp) (E:XK) (hr:Room 3 (A.deeper (envOfC "is_reading" (ac cJ) s.heap.objs.size f cdv))) :
  SDs C (bX CX0 P w K mg base iC "is_reading" (ac cJ) f cdv A outer s H E).nox (aw cJ) gq :=
 (ar (aT (tE (aV fn_has_form (hr.mono (by decide)) rfl (ab (ai (pv 0)) (ab (ai (pv 1)) (ab (ai (pv 2)) ao aa) aa) aa) rfl (he:=aa) (hpl:=(av aa (av aa au)))) (tE (aV fn_keeps_rests (hr.mono (by decide)) rfl (ab (ai (pv 0)) (ab (ai (pv 1)) (ab (ai (pv 2)) ao aa) aa) aa) rfl (he:=aa) (hpl:=(av aa (av aa au)))) (xj (aV fn_keeps_table (hr.mono (by decide)) rfl (ab (ai (pv 0)) (ab (ai (pv 2)) ao aa) aa) rfl (he:=aa) (hpl:=(av aa au))))))))
theorem oj {a:Addr} {fd:FuncData} (fn_has_form:Fn P w K mg base C 3 "has_form" 3 dZ) (fn_keeps_rests:Fn P w K mg base C 1 "keeps_rests" 3 cU) (fn_keeps_table:Fn P w K mg base C 2 "keeps_table" 2 cT) (T:Txt K mg C) (F:Fun K "is_reading" "is_reading" cJ a fd) (hm:mg "is_reading"=some (.ref a)) (hb:Binds K fd ["hall","counts","maps"] []):Fn P w K mg base C 4 "is_reading" 3 cu :=
 ⟨a,fd,_,bt F nZ (fun cdv A outer s H E hr=>lO fn_has_form fn_keeps_rests fn_keeps_table T cdv A outer s H E hr),hm,F.kp,hb⟩
noncomputable abbrev bN:Stmt:=PySem.Challenge.pw_arrowhall_k13_rests_and_things.main.body.getD 30 (.Pass ⟨0,0,0,0⟩)
noncomputable abbrev fV:List Str:=["hall","reading"]
theorem kE:aH fV ["hall","reading"] (ac bN):=⟨rfl,rfl,rfl,by decide +kernel,rfl,by decide +kernel,by decide +kernel⟩
noncomputable def fm:Rho->R Out:=(iff (orB (tst (bin fne (una aU (vb 1)) (kd (.int 2)))) (ez (tst (cal 3 cu (aC (vr 0) (aC (bin fix (vb 1) (kd (.int 0))) (aC (bin fix (vb 1) (kd (.int 1))) aN)))))))
 bad
 nxt)
noncomputable def ba (ds:List D):R D:=fin (fm (st0 fV ds))
theorem jK {f:Addr} (fn_is_reading:Fn P w K mg base C 4 "is_reading" 3 cu) (T:Txt K mg C) (cdv:Value) (A:Around) (outer:List Env) (s:Shared) (H:Hp) (E:XK) (hr:Room 4 (A.deeper (envOfC "check_reading" (ac bN) s.heap.objs.size f cdv))) :
  SDs C (bX CX0 P w K mg base fV "check_reading" (ac bN) f cdv A outer s H E).nox (aw bN) fm :=
 (ar (bD (jC (fH (du (bM hr) (EB.of (bf (ag (pv 1)) rfl T.len aa (fun t ha=>aE ax rfl T.len PySem.boot_len ha (he:=aa) (hpl:=au)))) (EB.of am)) (ft (dB (dQ (aV fn_is_reading (hr.mono (by decide)) rfl (ab (ai (pv 0)) (ab (ay (ag (pv 1)) (EB.of am)) (ab (ay (ag (pv 1)) (EB.of am)) ao ah) ah) aa) rfl (he:=aa) (hpl:=(av ah (av ah au)))))))))
 (ar e_)
 aQ))
theorem kL {a:Addr} {fd:FuncData} (fn_is_reading:Fn P w K mg base C 4 "is_reading" 3 cu) (T:Txt K mg C) (F:Fun K "check_reading" "check_reading" bN a fd) (hm:mg "check_reading"=some (.ref a)) (hb:Binds K fd ["hall","reading"] []):Fn P w K mg base C 5 "check_reading" 2 ba :=
 ⟨a,fd,_,bt F kE (fun cdv A outer s H E hr=>jK fn_is_reading T cdv A outer s H E hr),hm,F.kp,hb⟩
noncomputable abbrev cF:Stmt:=PySem.Challenge.pw_arrowhall_k13_rests_and_things.main.body.getD 32 (.Pass ⟨0,0,0,0⟩)
noncomputable abbrev iw:List Str:=["hall","things","arrow","pair"]
theorem sc_led_behind:aH iw ["hall","things","arrow"] (ac cF):=⟨rfl,rfl,rfl,by decide +kernel,rfl,by decide +kernel,by decide +kernel⟩
noncomputable abbrev Nc_led_behind_0:List Str:=["hall","things","arrow","pair","first"]
theorem lu:Nc_led_behind_0.Nodup:=by decide +kernel
noncomputable def gk:Rho->R Out:=(sq (asg 3 (bin fix (una (eO 0) (vb 0)) (vb 2)))
 (ret (eLs (bq (fIt (bin fix (vb 1) (bin fix (vb 3) (kd (.int 0))))) 1 (tgN 4) tT (qj (bin fix (vb 1) (bin fix (vb 3) (kd (.int 1)))) (bin fix (bin fix (una (eO 2) (vb 0)) (vb 4)) (vb 2)))))))
noncomputable def cn (ds:List D):R D:=fin (gk (st0 iw ds))
theorem lJ {f:Addr}  (T:Txt K mg C) (cdv:Value) (A:Around) (outer:List Env) (s:Shared) (H:Hp) (E:XK) (hr:Room 0 (A.deeper (envOfC "led_behind" (ac cF) s.heap.objs.size f cdv))) :
  SDs C (bX CX0 P w K mg base iw "led_behind" (ac cF) f cdv A outer s H E).nox (aw cF) gk :=
 (aq (bx (i:=3) sc_led_behind.nd rfl (Or.inr rfl) (ay (EB.of (fk (k:=0) (ag (pv 0)) T.cl T.nE rfl (fun _ _ _=>rfl))) (ag (pv 2))))
 (ar (aT (cC (bG (N':=Nc_led_behind_0) (n:=1) rfl rfl rfl (e8 4) b0 (b_ (ay (ag (pv 1)) (EB.of (ay (ag (pv 3)) (EB.of am))))) (fun L cs s H fp=>(aS (i:=4) lu rfl (Or.inl rfl))) (fun L cs s H fp=>bm) (fun L cs s H fp=>(nF (EB.of (ay (ag (pv 1)) (EB.of (ay (ag (pv 3)) (EB.of am))))) (ay (EB.of (ay (EB.of (fk (k:=2) (ag (pv 0)) T.cl T.nT rfl (fun _ _ _=>rfl))) (ag (pv 4)))) (ag (pv 2))) ah)))))))
theorem oa {a:Addr} {fd:FuncData}  (T:Txt K mg C) (F:Fun K "led_behind" "led_behind" cF a fd) (hm:mg "led_behind"=some (.ref a)) (hb:Binds K fd ["hall","things","arrow"] []):Fn P w K mg base C 1 "led_behind" 3 cn :=
 ⟨a,fd,_,bt F sc_led_behind (fun cdv A outer s H E hr=>lJ  T cdv A outer s H E hr),hm,F.kp,hb⟩
noncomputable abbrev ff:Stmt:=PySem.Challenge.pw_arrowhall_k13_rests_and_things.main.body.getD 31 (.Pass ⟨0,0,0,0⟩)
noncomputable abbrev nX:List Str:=["hall","box","things","counts","maps"]
theorem sc_out_of:aH nX ["hall","box"] (ac ff):=⟨rfl,rfl,rfl,by decide +kernel,rfl,by decide +kernel,by decide +kernel⟩
noncomputable abbrev Nc_out_of_0:List Str:=["hall","box","things","counts","maps","other"]
theorem rB:Nc_out_of_0.Nodup:=by decide +kernel
noncomputable abbrev Nc_out_of_1:List Str:=["hall","box","things","counts","maps","arrows"]
theorem rz:Nc_out_of_1.Nodup:=by decide +kernel
noncomputable abbrev Nc_out_of_2:List Str:=["hall","box","things","counts","maps","arrow"]
theorem rq:Nc_out_of_2.Nodup:=by decide +kernel
noncomputable def jH:Rho->R Out:=(sq (asg 2 (eLs (bq (dh (aC (una aU (una (eO 1) (vb 0))) aN)) 1 (tgN 5) tT (cal 3 bB (aC (vr 0) (aC (vr 1) (aC (vr 5) aN)))))))
 (sq (asg 3 (eLs (bq (fIt (vr 2)) 1 (tgN 5) tT (una aU (vb 5)))))
 (sq (asg 4 (eLs (bq (dh (aC (una aU (una (eO 0) (vb 0))) aN)) 1 (tgN 5) tT (cal 3 cn (aC (vr 0) (aC (vr 2) (aC (vr 5) aN)))))))
 (ret (eT (aC (vr 3) (aC (vr 4) aN)))))))
noncomputable def d8 (ds:List D):R D:=fin (jH (st0 nX ds))
theorem sD {f:Addr} (fn_between:Fn P w K mg base C 3 "between" 3 bB) (fn_led_behind:Fn P w K mg base C 1 "led_behind" 3 cn) (T:Txt K mg C) (cdv:Value) (A:Around) (outer:List Env) (s:Shared) (H:Hp) (E:XK) (hr:Room 3 (A.deeper (envOfC "out_of" (ac ff) s.heap.objs.size f cdv))) :
  SDs C (bX CX0 P w K mg base nX "out_of" (ac ff) f cdv A outer s H E).nox (aw ff) jH :=
 (aq (bx (i:=2) sc_out_of.nd rfl (Or.inr rfl) (cC (bG (N':=Nc_out_of_0) (n:=1) rfl rfl rfl (e8 5) b0 (cS rfl T.range (ab (bf (EB.of (fk (k:=1) (ag (pv 0)) T.cl T.nR rfl (fun _ _ _=>rfl))) rfl T.len aO (fun t ha=>aE ax rfl T.len PySem.boot_len ha (he:=aO) (hpl:=au))) ao aF) (bK aF)) (fun L cs s H fp=>(aS (i:=5) rB rfl (Or.inl rfl))) (fun L cs s H fp=>bm) (fun L cs s H fp=>(aV fn_between (hr.mono (by decide)) rfl (ab (ai (pv 0)) (ab (ai (pv 1)) (ab (ai (pv 5)) ao aa) aa) aa) rfl (he:=aa) (hpl:=(av aa (av aa au))))))))
 (aq (pA (hU (i:=3) (aM (i:=3) sc_out_of.nd rfl (Or.inl rfl)) (N':=Nc_out_of_1) (n:=1) rfl rfl rfl (e8 5) b0 (b_ (ai (pv 2))) (fun L cs s H fp=>(aS (i:=5) rz rfl (Or.inl rfl))) (fun L cs s H fp=>bm) (fun L cs s H fp=>(bf (ag (pv 5)) rfl T.len aa (fun t ha=>aE ax rfl T.len PySem.boot_len ha (he:=aa) (hpl:=au)))) rfl))
 (aq (pA (hU (i:=4) (aM (i:=4) sc_out_of.nd rfl (Or.inl rfl)) (N':=Nc_out_of_2) (n:=1) rfl rfl rfl (e8 5) b0 (cS rfl T.range (ab (bf (EB.of (fk (k:=0) (ag (pv 0)) T.cl T.nE rfl (fun _ _ _=>rfl))) rfl T.len aO (fun t ha=>aE ax rfl T.len PySem.boot_len ha (he:=aO) (hpl:=au))) ao aF) (bK aF)) (fun L cs s H fp=>(aS (i:=5) rq rfl (Or.inl rfl))) (fun L cs s H fp=>bm) (fun L cs s H fp=>(aV fn_led_behind (hr.mono (by decide)) rfl (ab (ai (pv 0)) (ab (ai (pv 2)) (ab (ai (pv 5)) ao aa) aa) aa) rfl (he:=aa) (hpl:=(av aa (av aa au))))) rfl))
 (ar (aT (dm (ab (ai (pv 3)) (ab (ai (pv 4)) ao aa) aa)))))))
theorem vm {a:Addr} {fd:FuncData} (fn_between:Fn P w K mg base C 3 "between" 3 bB) (fn_led_behind:Fn P w K mg base C 1 "led_behind" 3 cn) (T:Txt K mg C) (F:Fun K "out_of" "out_of" ff a fd) (hm:mg "out_of"=some (.ref a)) (hb:Binds K fd ["hall","box"] []):Fn P w K mg base C 4 "out_of" 2 d8 :=
 ⟨a,fd,_,bt F sc_out_of (fun cdv A outer s H E hr=>sD fn_between fn_led_behind T cdv A outer s H E hr),hm,F.kp,hb⟩
noncomputable abbrev da:Stmt:=PySem.Challenge.pw_arrowhall_k13_rests_and_things.main.body.getD 33 (.Pass ⟨0,0,0,0⟩)
noncomputable abbrev jf:List Str:=["hall","one","other","change","arrow","pair"]
theorem sc_is_change:aH jf ["hall","one","other","change"] (ac da):=⟨rfl,rfl,rfl,by decide +kernel,rfl,by decide +kernel,by decide +kernel⟩
noncomputable abbrev Nc_is_change_0:List Str:=["hall","one","other","change","arrow","pair","things"]
theorem mP:Nc_is_change_0.Nodup:=by decide +kernel
noncomputable abbrev Nc_is_change_1:List Str:=["hall","one","other","change","arrow","pair","things","count"]
theorem iS:Nc_is_change_1.Nodup:=by decide +kernel
noncomputable def gH:Rho->R Out:=(sq (iff (tst (bin fne (eLs (bq (fIt (vr 3)) 1 (tgN 6) tT (una aU (vb 6)))) (bin fix (vb 1) (kd (.int 0)))))
 (ret (kd (.bl false)))
 nxt)
 (sq (iff (ez (tst (una sh (eLs (bq (lF (aC (vr 3) (aC (bin fix (vb 2) (kd (.int 0))) aN))) 2 (tg2 6 7) tT (cal 2 bp (aC (vr 6) (aC (vr 7) aN))))))))
 (ret (kd (.bl false)))
 nxt)
 (sq (cA (fZ (aC (una (eO 0) (vb 0)) aN)) (tg2 4 5)
 (iff (tst (bin fne (cal 2 bA (aC (bin fix (bin fix (vb 1) (kd (.int 1))) (vb 4)) (aC (bin fix (vb 3) (bin fix (vb 5) (kd (.int 1)))) aN))) (cal 2 bA (aC (bin fix (vb 3) (bin fix (vb 5) (kd (.int 0)))) (aC (bin fix (bin fix (vb 2) (kd (.int 1))) (vb 4)) aN)))))
 (ret (kd (.bl false)))
 nxt))
 (ret (kd (.bl true))))))
noncomputable def dl (ds:List D):R D:=fin (gH (st0 jf ds))
theorem nQ {f:Addr} (fn_are_below:Fn P w K mg base C 2 "are_below" 2 bp) (fn_followed:Fn P w K mg base C 1 "followed" 2 bA) (T:Txt K mg C) (cdv:Value) (A:Around) (outer:List Env) (s:Shared) (H:Hp) (E:XK) (hr:Room 2 (A.deeper (envOfC "is_change" (ac da) s.heap.objs.size f cdv))) :
  SDs C (bX CX0 P w K mg base jf "is_change" (ac da) f cdv A outer s H E).nox (aw da) gH :=
 (aq (bD (du (bM hr) (EB.of (cC (bG (N':=Nc_is_change_0) (n:=1) rfl rfl rfl (e8 6) b0 (b_ (ai (pv 3))) (fun L cs s H fp=>(aS (i:=6) mP rfl (Or.inl rfl))) (fun L cs s H fp=>bm) (fun L cs s H fp=>(bf (ag (pv 6)) rfl T.len aa (fun t ha=>aE ax rfl T.len PySem.boot_len ha (he:=aa) (hpl:=au))))))) (EB.of (ay (ag (pv 1)) (EB.of am))))
 (ar (aT eW))
 aQ)
 (aq (bD (dB (dQ (tF rfl rfl T.all aZ (EB.of (cC (bG (N':=Nc_is_change_1) (n:=2) rfl rfl rfl (yu 6) pk (qk rfl T.zip (ab (ai (pv 3)) (ab (ay (ag (pv 2)) (EB.of am)) ao ah) aa) aa (av ah au)) (fun L cs s H fp=>(dv rfl (aM (i:=6) iS rfl (Or.inl rfl)) (aM (i:=7) iS rfl (Or.inl rfl)))) (fun L cs s H fp=>bm) (fun L cs s H fp=>(aV fn_are_below (hr.mono (by decide)) rfl (ab (ai (pv 6)) (ab (ai (pv 7)) ao aa) aa) rfl (he:=aa) (hpl:=(av aa au))))))))))
 (ar (aT eW))
 aQ)
 (aq (cw PassesOwn.never rfl (dW rfl T.enumerate (ab (fk (k:=0) (ag (pv 0)) T.cl T.nE rfl (fun _ _ _=>rfl)) ao aO) (bK aO)) (dv rfl (aM (i:=4) sc_is_change.nd rfl (Or.inl rfl)) (aM (i:=5) sc_is_change.nd rfl (Or.inl rfl)))
 (ar (bD (du (bM hr) (EB.of (aV fn_followed (hr.mono (by decide)) rfl (ab (ay (EB.of (ay (ag (pv 1)) (EB.of am))) (ag (pv 4))) (ab (ay (ag (pv 3)) (EB.of (ay (ag (pv 5)) (EB.of am)))) ao ah) ah) rfl (he:=ah) (hpl:=(av ah au)))) (EB.of (aV fn_followed (hr.mono (by decide)) rfl (ab (ay (ag (pv 3)) (EB.of (ay (ag (pv 5)) (EB.of am)))) (ab (ay (EB.of (ay (ag (pv 2)) (EB.of am))) (ag (pv 4))) ao ah) ah) rfl (he:=ah) (hpl:=(av ah au)))))
 (ar (aT eW))
 aQ)))
 (ar (aT eW)))))
theorem p7 {a:Addr} {fd:FuncData} (fn_are_below:Fn P w K mg base C 2 "are_below" 2 bp) (fn_followed:Fn P w K mg base C 1 "followed" 2 bA) (T:Txt K mg C) (F:Fun K "is_change" "is_change" da a fd) (hm:mg "is_change"=some (.ref a)) (hb:Binds K fd ["hall","one","other","change"] []):Fn P w K mg base C 3 "is_change" 4 dl :=
 ⟨a,fd,_,bt F sc_is_change (fun cdv A outer s H E hr=>nQ fn_are_below fn_followed T cdv A outer s H E hr),hm,F.kp,hb⟩
noncomputable abbrev fg:Stmt:=PySem.Challenge.pw_arrowhall_k13_rests_and_things.main.body.getD 36 (.Pass ⟨0,0,0,0⟩)
noncomputable abbrev nY:List Str:=["hall","box","other","maps","thing"]
theorem u8:aH nY ["hall","box","other","maps","thing"] (ac fg):=⟨rfl,rfl,rfl,by decide +kernel,rfl,by decide +kernel,by decide +kernel⟩
noncomputable abbrev Nc_led_to_0:List Str:=["hall","box","other","maps","thing","arrow"]
theorem rD:Nc_led_to_0.Nodup:=by decide +kernel
noncomputable def jI:Rho->R D:=(eLs (bq (fIt (cal 3 bB (aC (vr 0) (aC (vr 1) (aC (vr 2) aN))))) 1 (tgN 5) tT (bin fix (bin fix (vb 3) (vb 5)) (vb 4))))
noncomputable def eX (ds:List D):R D:=jI (st0 nY ds)
theorem sE {f:Addr} (fn_between:Fn P w K mg base C 3 "between" 3 bB) (T:Txt K mg C) (cdv:Value) (A:Around) (outer:List Env) (s:Shared) (H:Hp) (E:XK) (hr:Room 3 (A.deeper (envOfC "led_to" (ac fg) s.heap.objs.size f cdv))) :
  sI C (bX CX0 P w K mg base nY "led_to" (ac fg) f cdv A outer s H E).nox (.l .s) (aw fg) jI :=
 (pz (lY (N':=Nc_led_to_0) (n:=1) rfl rfl rfl (e8 5) (b_ (aV fn_between (hr.mono (by decide)) rfl (ab (ai (pv 0)) (ab (ai (pv 1)) (ab (ai (pv 2)) ao aa) aa) aa) rfl (he:=aa) (hpl:=(av aa (av aa au))))) (fun L cs s H fp=>(aS (i:=5) rD rfl (Or.inl rfl))) (fun L cs s H fp=>bm) (fun L cs s H fp=>(uq (ay (EB.of (ay (ag (pv 3)) (ag (pv 5)))) (ag (pv 4)))))))
theorem vn {a:Addr} {fd:FuncData} (fn_between:Fn P w K mg base C 3 "between" 3 bB) (T:Txt K mg C) (F:Fun K "led_to" "led_to" fg a fd) (hm:mg "led_to"=some (.ref a)) (hb:Binds K fd ["hall","box","other","maps","thing"] []):FnK P w K mg base C 4 "led_to" 5 (.l .s) eX :=
 ⟨a,fd,_,qD F u8 (fun cdv A outer s H E hr=>sE fn_between T cdv A outer s H E hr),hm,F.kp,hb⟩
noncomputable abbrev dc:Stmt:=PySem.Challenge.pw_arrowhall_k13_rests_and_things.main.body.getD 35 (.Pass ⟨0,0,0,0⟩)
noncomputable abbrev jh:List Str:=["hall","box","reading","thing"]
theorem pE:aH jh ["hall","box","reading","thing"] (ac dc):=⟨rfl,rfl,rfl,by decide +kernel,rfl,by decide +kernel,by decide +kernel⟩
noncomputable abbrev Nc_change_of_0:List Str:=["hall","box","reading","thing","other"]
theorem mQ:Nc_change_of_0.Nodup:=by decide +kernel
noncomputable def gJ:Rho->R D:=(sqK (drp (cal 2 aY (aC (vr 0) (aC (vr 1) aN))))
 (sqK (drp (cal 2 ba (aC (vr 0) (aC (vr 2) aN))))
 (sqK (iff (ez (tst (cal 2 aK (aC (vr 3) (aC (bin fix (bin fix (vb 2) (kd (.int 0))) (vb 1)) aN)))))
 bad
 nxt)
 (eLs (bq (dh (aC (una aU (una (eO 1) (vb 0))) aN)) 1 (tgN 4) tT (cal 5 eX (aC (vr 0) (aC (vr 1) (aC (vr 4) (aC (bin fix (vb 2) (kd (.int 1))) (aC (vr 3) aN)))))))))))
noncomputable def cM (ds:List D):R D:=gJ (st0 jh ds)
theorem nU {f:Addr} (fn_check_box:Fn P w K mg base C 2 "check_box" 2 aY) (fn_check_reading:Fn P w K mg base C 5 "check_reading" 2 ba) (fn_is_below:Fn P w K mg base C 1 "is_below" 2 aK) (fn_led_to:FnK P w K mg base C 4 "led_to" 5 (.l .s) eX) (T:Txt K mg C) (cdv:Value) (A:Around) (outer:List Env) (s:Shared) (H:Hp) (E:XK) (hr:Room 5 (A.deeper (envOfC "change_of" (ac dc) s.heap.objs.size f cdv))) :
  sI C (bX CX0 P w K mg base jh "change_of" (ac dc) f cdv A outer s H E).nox (.l (.l .s)) (aw dc) gJ :=
 (my (gA (EB.of (aV fn_check_box (hr.mono (by decide)) rfl (ab (ai (pv 0)) (ab (ai (pv 1)) ao aa) aa) rfl (he:=aa) (hpl:=(av aa au)))))
 (my (gA (EB.of (aV fn_check_reading (hr.mono (by decide)) rfl (ab (ai (pv 0)) (ab (ai (pv 2)) ao aa) aa) rfl (he:=aa) (hpl:=(av aa au)))))
 (my (bD (dB (dQ (aV fn_is_below (hr.mono (by decide)) rfl (ab (ai (pv 3)) (ab (ay (EB.of (ay (ag (pv 2)) (EB.of am))) (ag (pv 1))) ao ah) aa) rfl (he:=aa) (hpl:=(av ah au)))))
 (ar e_)
 aQ)
 (pz (lY (N':=Nc_change_of_0) (n:=1) rfl rfl rfl (e8 4) (cS rfl T.range (ab (bf (EB.of (fk (k:=1) (ag (pv 0)) T.cl T.nR rfl (fun _ _ _=>rfl))) rfl T.len aO (fun t ha=>aE ax rfl T.len PySem.boot_len ha (he:=aO) (hpl:=au))) ao aF) (bK aF)) (fun L cs s H fp=>(aS (i:=4) mQ rfl (Or.inl rfl))) (fun L cs s H fp=>bm) (fun L cs s H fp=>(rY fn_led_to (hr.mono (by decide)) rfl (ab (ai (pv 0)) (ab (ai (pv 1)) (ab (ai (pv 4)) (ab (ay (ag (pv 2)) (EB.of am)) (ab (ai (pv 3)) ao aa) ah) aa) aa) aa) (he:=aa) (hpl:=(av aa (av aa (av ah (av aa au))))))))))))
theorem p9 {a:Addr} {fd:FuncData} (fn_check_box:Fn P w K mg base C 2 "check_box" 2 aY) (fn_check_reading:Fn P w K mg base C 5 "check_reading" 2 ba) (fn_is_below:Fn P w K mg base C 1 "is_below" 2 aK) (fn_led_to:FnK P w K mg base C 4 "led_to" 5 (.l .s) eX) (T:Txt K mg C) (F:Fun K "change_of" "change_of" dc a fd) (hm:mg "change_of"=some (.ref a)) (hb:Binds K fd ["hall","box","reading","thing"] []):FnK P w K mg base C 6 "change_of" 4 (.l (.l .s)) cM :=
 ⟨a,fd,_,qD F pE (fun cdv A outer s H E hr=>nU fn_check_box fn_check_reading fn_is_below fn_led_to T cdv A outer s H E hr),hm,F.kp,hb⟩
noncomputable abbrev dC:Stmt:=PySem.Challenge.pw_arrowhall_k13_rests_and_things.main.body.getD 37 (.Pass ⟨0,0,0,0⟩)
noncomputable abbrev jL:List Str:=["hall","box","reading","change"]
theorem qW:aH jL ["hall","box","reading","change"] (ac dC):=⟨rfl,rfl,rfl,by decide +kernel,rfl,by decide +kernel,by decide +kernel⟩
noncomputable def ig:Rho->R Out:=(sq (drp (cal 2 aY (aC (vr 0) (aC (vr 1) aN))))
 (sq (drp (cal 2 ba (aC (vr 0) (aC (vr 2) aN))))
 (sq (iff (ez (tst (cal 4 dl (aC (vr 0) (aC (cal 2 d8 (aC (vr 0) (aC (vr 1) aN))) (aC (vr 2) (aC (vr 3) aN)))))))
 bad
 nxt)
 (ret (bin fix (bin fix (vb 3) (vb 1)) (qj (cal 3 bB (aC (vr 0) (aC (vr 1) (aC (vr 1) aN)))) (bin fix (una (eO 1) (vb 0)) (vb 1))))))))
noncomputable def dY (ds:List D):R D:=fin (ig (st0 jL ds))
theorem oz {f:Addr} (fn_between:Fn P w K mg base C 3 "between" 3 bB) (fn_check_box:Fn P w K mg base C 2 "check_box" 2 aY) (fn_check_reading:Fn P w K mg base C 5 "check_reading" 2 ba) (fn_is_change:Fn P w K mg base C 3 "is_change" 4 dl) (fn_out_of:Fn P w K mg base C 4 "out_of" 2 d8) (T:Txt K mg C) (cdv:Value) (A:Around) (outer:List Env) (s:Shared) (H:Hp) (E:XK) (hr:Room 5 (A.deeper (envOfC "thing_of" (ac dC) s.heap.objs.size f cdv))) :
  SDs C (bX CX0 P w K mg base jL "thing_of" (ac dC) f cdv A outer s H E).nox (aw dC) ig :=
 (aq (gA (EB.of (aV fn_check_box (hr.mono (by decide)) rfl (ab (ai (pv 0)) (ab (ai (pv 1)) ao aa) aa) rfl (he:=aa) (hpl:=(av aa au)))))
 (aq (gA (EB.of (aV fn_check_reading (hr.mono (by decide)) rfl (ab (ai (pv 0)) (ab (ai (pv 2)) ao aa) aa) rfl (he:=aa) (hpl:=(av aa au)))))
 (aq (bD (dB (dQ (aV fn_is_change (hr.mono (by decide)) rfl (ab (ai (pv 0)) (ab (aV fn_out_of (hr.mono (by decide)) rfl (ab (ai (pv 0)) (ab (ai (pv 1)) ao aa) aa) rfl (he:=aa) (hpl:=(av aa au))) (ab (ai (pv 2)) (ab (ai (pv 3)) ao aa) aa) aF) aa) rfl (he:=aa) (hpl:=(av aF (av aa (av aa au)))))))
 (ar e_)
 aQ)
 (ar (aT (ay (EB.of (ay (ag (pv 3)) (ag (pv 1)))) (EB.of (nF (EB.of (aV fn_between (hr.mono (by decide)) rfl (ab (ai (pv 0)) (ab (ai (pv 1)) (ab (ai (pv 1)) ao aa) aa) aa) rfl (he:=aa) (hpl:=(av aa (av aa au))))) (ay (EB.of (fk (k:=1) (ag (pv 0)) T.cl T.nR rfl (fun _ _ _=>rfl))) (ag (pv 1))) ah))))))))
theorem rE {a:Addr} {fd:FuncData} (fn_between:Fn P w K mg base C 3 "between" 3 bB) (fn_check_box:Fn P w K mg base C 2 "check_box" 2 aY) (fn_check_reading:Fn P w K mg base C 5 "check_reading" 2 ba) (fn_is_change:Fn P w K mg base C 3 "is_change" 4 dl) (fn_out_of:Fn P w K mg base C 4 "out_of" 2 d8) (T:Txt K mg C) (F:Fun K "thing_of" "thing_of" dC a fd) (hm:mg "thing_of"=some (.ref a)) (hb:Binds K fd ["hall","box","reading","change"] []):Fn P w K mg base C 6 "thing_of" 4 dY :=
 ⟨a,fd,_,bt F qW (fun cdv A outer s H E hr=>oz fn_between fn_check_box fn_check_reading fn_is_change fn_out_of T cdv A outer s H E hr),hm,F.kp,hb⟩
noncomputable abbrev dH:Stmt:=PySem.Challenge.pw_arrowhall_k13_rests_and_things.main.body.getD 39 (.Pass ⟨0,0,0,0⟩)
noncomputable abbrev jQ:List Str:=["script","k","base"]
theorem sc_law_cell:aH jQ ["script","k"] (ac dH):=⟨rfl,rfl,rfl,by decide +kernel,rfl,by decide +kernel,by decide +kernel⟩
noncomputable def io:Rho->R Out:=(sq (iff (tst (bin (iI flt) (vb 1) (una aU (vb 0))))
 (ret (bin fix (vb 0) (vb 1)))
 nxt)
 (sq (asg 2 (kd (.int 0)))
 (sq (iff (tst (bin (iI fgt) (una aU (vb 0)) (kd (.int 0))))
 (asg 2 (bin fix (vb 0) (kd (.int 0))))
 nxt)
 (ret (bin (iI bu) (bin cX (bin (iI h_) (bin (iI bu) (vb 2) (kd (.int 65521))) (kd (.int 48271))) (bin (iI h_) (vb 1) (kd (.int 30103)))) (kd (.int 65521)))))))
noncomputable def aA (ds:List D):R D:=fin (io (st0 jQ ds))
theorem oF {f:Addr}  (T:Txt K mg C) (cdv:Value) (A:Around) (outer:List Env) (s:Shared) (H:Hp) (E:XK) (hr:Room 0 (A.deeper (envOfC "_law_cell" (ac dH) s.heap.objs.size f cdv))) :
  SDs C (bX CX0 P w K mg base jQ "_law_cell" (ac dH) f cdv A outer s H E).nox (aw dH) io :=
 (aq (bD (zb (ag (pv 1)) (EB.of (bf (ag (pv 0)) rfl T.len aa (fun t ha=>aE ax rfl T.len PySem.boot_len ha (he:=aa) (hpl:=au)))))
 (ar (aT (ay (ag (pv 0)) (ag (pv 1)))))
 aQ)
 (aq (bx (i:=2) sc_law_cell.nd rfl (Or.inl rfl) am)
 (aq (bD (zc (EB.of (bf (ag (pv 0)) rfl T.len aa (fun t ha=>aE ax rfl T.len PySem.boot_len ha (he:=aa) (hpl:=au)))) (EB.of am))
 (ar (bx (i:=2) sc_law_cell.nd rfl (Or.inl rfl) (ay (ag (pv 0)) (EB.of am))))
 aQ)
 (ar (aT (dO (EB.of (eQ (EB.of (qy (EB.of (dO (ag (pv 2)) (EB.of am))) (EB.of am))) (EB.of (qy (ag (pv 1)) (EB.of am))))) (EB.of am)))))))
theorem rK {a:Addr} {fd:FuncData}  (T:Txt K mg C) (F:Fun K "_law_cell" "_law_cell" dH a fd) (hm:mg "_law_cell"=some (.ref a)) (hb:Binds K fd ["script","k"] []):Fn P w K mg base C 1 "_law_cell" 2 aA :=
 ⟨a,fd,_,bt F sc_law_cell (fun cdv A outer s H E hr=>oF  T cdv A outer s H E hr),hm,F.kp,hb⟩
noncomputable abbrev cY:Stmt:=PySem.Challenge.pw_arrowhall_k13_rests_and_things.main.body.getD 40 (.Pass ⟨0,0,0,0⟩)
noncomputable abbrev jc:List Str:=["found"]
theorem pC:aH jc ["found"] (ac cY):=⟨rfl,rfl,rfl,by decide +kernel,rfl,by decide +kernel,by decide +kernel⟩
noncomputable def gE:Rho->R Out:=(ret (xz (una (jF "int") (vb 0)) (BJ (una (jF "bool") (vb 0)))))
noncomputable def di (ds:List D):R D:=fin (gE (st0 jc ds))
theorem nM {f:Addr}  (T:Txt K mg C) (cdv:Value) (A:Around) (outer:List Env) (s:Shared) (H:Hp) (E:XK) (hr:Room 0 (A.deeper (envOfC "_law_whole" (ac cY) s.heap.objs.size f cdv))) :
  SDs C (bX CX0 P w K mg base jc "_law_whole" (ac cY) f cdv A outer s H E).nox (aw cY) gE :=
 (ar (aT (tE (kO T.kt_int rfl T.isinstance rfl T.int uS (ag (pv 0)) aa) (xj (AQ (kO T.kt_bool rfl T.isinstance rfl T.bool sC (ag (pv 0)) aa))))))
theorem pZ {a:Addr} {fd:FuncData}  (T:Txt K mg C) (F:Fun K "_law_whole" "_law_whole" cY a fd) (hm:mg "_law_whole"=some (.ref a)) (hb:Binds K fd ["found"] []):Fn P w K mg base C 1 "_law_whole" 1 di :=
 ⟨a,fd,_,bt F pC (fun cdv A outer s H E hr=>nM  T cdv A outer s H E hr),hm,F.kp,hb⟩
noncomputable abbrev dE:Stmt:=PySem.Challenge.pw_arrowhall_k13_rests_and_things.main.body.getD 41 (.Pass ⟨0,0,0,0⟩)
noncomputable abbrev jN:List Str:=["found","due","k"]
theorem sc_law_ints:aH jN ["found","due"] (ac dE):=⟨rfl,rfl,rfl,by decide +kernel,rfl,by decide +kernel,by decide +kernel⟩
noncomputable def ij:Rho->R Out:=(sq (iff (orB (ez (tst (una (jF "list") (vb 0)))) (tst (bin fne (una aU (vb 0)) (una aU (vb 1)))))
 (ret (kd (.bl false)))
 nxt)
 (sq (cA (dh (aC (una aU (vb 1)) aN)) (tgN 2)
 (iff (orB (ez (tst (una (jF "int") (bin fix (vb 0) (vb 2))))) (orB (tst (una (jF "bool") (bin fix (vb 0) (vb 2)))) (tst (bin fne (bin fix (vb 0) (vb 2)) (bin fix (vb 1) (vb 2))))))
 (ret (kd (.bl false)))
 nxt))
 (ret (kd (.bl true)))))
noncomputable def dz (ds:List D):R D:=fin (ij (st0 jN ds))
theorem oB {f:Addr}  (T:Txt K mg C) (cdv:Value) (A:Around) (outer:List Env) (s:Shared) (H:Hp) (E:XK) (hr:Room 0 (A.deeper (envOfC "_law_ints" (ac dE) s.heap.objs.size f cdv))) :
  SDs C (bX CX0 P w K mg base jN "_law_ints" (ac dE) f cdv A outer s H E).nox (aw dE) ij :=
 (aq (bD (jC (fH (dB (dQ (kO T.kt_list rfl T.isinstance rfl T.list sA (ag (pv 0)) aa))) (ft (du (bM hr) (EB.of (bf (ag (pv 0)) rfl T.len aa (fun t ha=>aE ax rfl T.len PySem.boot_len ha (he:=aa) (hpl:=au)))) (EB.of (bf (ag (pv 1)) rfl T.len aa (fun t ha=>aE ax rfl T.len PySem.boot_len ha (he:=aa) (hpl:=au))))))))
 (ar (aT eW))
 aQ)
 (aq (cw PassesOwn.never rfl (cS rfl T.range (ab (bf (ag (pv 1)) rfl T.len aa (fun t ha=>aE ax rfl T.len PySem.boot_len ha (he:=aa) (hpl:=au))) ao aF) (bK aF)) (aS (i:=2) sc_law_ints.nd rfl (Or.inl rfl))
 (ar (bD (jC (fH (dB (dQ (kO T.kt_int rfl T.isinstance rfl T.int uS (EB.of (ay (ag (pv 0)) (ag (pv 2)))) ah))) (fH (dQ (kO T.kt_bool rfl T.isinstance rfl T.bool sC (EB.of (ay (ag (pv 0)) (ag (pv 2)))) ah)) (ft (du (bM hr) (EB.of (ay (ag (pv 0)) (ag (pv 2)))) (EB.of (ay (ag (pv 1)) (ag (pv 2)))))))))
 (ar (aT eW))
 aQ)))
 (ar (aT eW))))
theorem rG {a:Addr} {fd:FuncData}  (T:Txt K mg C) (F:Fun K "_law_ints" "_law_ints" dE a fd) (hm:mg "_law_ints"=some (.ref a)) (hb:Binds K fd ["found","due"] []):Fn P w K mg base C 1 "_law_ints" 2 dz :=
 ⟨a,fd,_,bt F sc_law_ints (fun cdv A outer s H E hr=>oB  T cdv A outer s H E hr),hm,F.kp,hb⟩
noncomputable abbrev bF:Stmt:=PySem.Challenge.pw_arrowhall_k13_rests_and_things.main.body.getD 42 (.Pass ⟨0,0,0,0⟩)
noncomputable abbrev fB:List Str:=["found","due","one","other"]
theorem sc_law_lists_like:aH fB ["found","due"] (ac bF):=⟨rfl,rfl,rfl,by decide +kernel,rfl,by decide +kernel,by decide +kernel⟩
noncomputable def eS:Rho->R Out:=(sq (iff (orB (ez (tst (una (jF "list") (vb 0)))) (tst (bin fne (una aU (vb 0)) (una aU (vb 1)))))
 (ret (kd (.bl false)))
 nxt)
 (sq (cA (lF (aC (vr 0) (aC (vr 1) aN))) (tg2 2 3)
 (iff (ez (tst (cal 2 dz (aC (vr 2) (aC (vr 3) aN)))))
 (ret (kd (.bl false)))
 nxt))
 (ret (kd (.bl true)))))
noncomputable def bv (ds:List D):R D:=fin (eS (st0 fB ds))
theorem jx {f:Addr} (fn_law_ints:Fn P w K mg base C 1 "_law_ints" 2 dz) (T:Txt K mg C) (cdv:Value) (A:Around) (outer:List Env) (s:Shared) (H:Hp) (E:XK) (hr:Room 1 (A.deeper (envOfC "_law_lists_like" (ac bF) s.heap.objs.size f cdv))) :
  SDs C (bX CX0 P w K mg base fB "_law_lists_like" (ac bF) f cdv A outer s H E).nox (aw bF) eS :=
 (aq (bD (jC (fH (dB (dQ (kO T.kt_list rfl T.isinstance rfl T.list sA (ag (pv 0)) aa))) (ft (du (bM hr) (EB.of (bf (ag (pv 0)) rfl T.len aa (fun t ha=>aE ax rfl T.len PySem.boot_len ha (he:=aa) (hpl:=au)))) (EB.of (bf (ag (pv 1)) rfl T.len aa (fun t ha=>aE ax rfl T.len PySem.boot_len ha (he:=aa) (hpl:=au))))))))
 (ar (aT eW))
 aQ)
 (aq (cw PassesOwn.never rfl (qk rfl T.zip (ab (ai (pv 0)) (ab (ai (pv 1)) ao aa) aa) aa (av aa au)) (dv rfl (aM (i:=2) sc_law_lists_like.nd rfl (Or.inl rfl)) (aM (i:=3) sc_law_lists_like.nd rfl (Or.inl rfl)))
 (ar (bD (dB (dQ (aV fn_law_ints (hr.mono (by decide)) rfl (ab (ai (pv 2)) (ab (ai (pv 3)) ao aa) aa) rfl (he:=aa) (hpl:=(av aa au)))))
 (ar (aT eW))
 aQ)))
 (ar (aT eW))))
theorem j_ {a:Addr} {fd:FuncData} (fn_law_ints:Fn P w K mg base C 1 "_law_ints" 2 dz) (T:Txt K mg C) (F:Fun K "_law_lists_like" "_law_lists_like" bF a fd) (hm:mg "_law_lists_like"=some (.ref a)) (hb:Binds K fd ["found","due"] []):Fn P w K mg base C 2 "_law_lists_like" 2 bv :=
 ⟨a,fd,_,bt F sc_law_lists_like (fun cdv A outer s H E hr=>jx fn_law_ints T cdv A outer s H E hr),hm,F.kp,hb⟩
noncomputable abbrev dD:Stmt:=PySem.Challenge.pw_arrowhall_k13_rests_and_things.main.body.getD 43 (.Pass ⟨0,0,0,0⟩)
noncomputable abbrev jM:List Str:=["step"]
theorem qX:aH jM ["step"] (ac dD):=⟨rfl,rfl,rfl,by decide +kernel,rfl,by decide +kernel,by decide +kernel⟩
noncomputable def ii:Rho->R Out:=(ret (bin (iI bu) (bin cX (bin (iI h_) (vb 0) (kd (.int 48271))) (kd (.int 11))) (kd (.int 2147483647))))
noncomputable def aR (ds:List D):R D:=fin (ii (st0 jM ds))
theorem oA {f:Addr}  (T:Txt K mg C) (cdv:Value) (A:Around) (outer:List Env) (s:Shared) (H:Hp) (E:XK) (hr:Room 0 (A.deeper (envOfC "_law_next" (ac dD) s.heap.objs.size f cdv))) :
  SDs C (bX CX0 P w K mg base jM "_law_next" (ac dD) f cdv A outer s H E).nox (aw dD) ii :=
 (ar (aT (dO (EB.of (eQ (EB.of (qy (ag (pv 0)) (EB.of am))) (EB.of am))) (EB.of am))))
theorem rF {a:Addr} {fd:FuncData}  (T:Txt K mg C) (F:Fun K "_law_next" "_law_next" dD a fd) (hm:mg "_law_next"=some (.ref a)) (hb:Binds K fd ["step"] []):Fn P w K mg base C 1 "_law_next" 1 aR :=
 ⟨a,fd,_,bt F qX (fun cdv A outer s H E hr=>oA  T cdv A outer s H E hr),hm,F.kp,hb⟩
noncomputable abbrev cZ:Stmt:=PySem.Challenge.pw_arrowhall_k13_rests_and_things.main.body.getD 44 (.Pass ⟨0,0,0,0⟩)
noncomputable abbrev jd:List Str:=["script","k","cell","way"]
theorem sc_law_sizes:aH jd ["script","k"] (ac cZ):=⟨rfl,rfl,rfl,by decide +kernel,rfl,by decide +kernel,by decide +kernel⟩
noncomputable abbrev Nc_law_sizes_0:List Str:=["script","k","cell","way","box"]
theorem mL:Nc_law_sizes_0.Nodup:=by decide +kernel
noncomputable def gF:Rho->R Out:=(sq (asg 2 (cal 2 aA (aC (vr 0) (aC (vr 1) aN))))
 (sq (asg 3 (bin (iI bu) (vb 2) (kd (.int 4))))
 (sq (iff (tst (bin feq (vb 3) (kd (.int 0))))
 (ret (eLs (bq (dh (aC (bin cX (kd (.int 1)) (bin (iI bu) (bin (iI e9) (vb 2) (kd (.int 4))) (kd (.int 4)))) aN)) 1 (tgN 4) tT (kd (.int 1)))))
 nxt)
 (sq (iff (tst (bin feq (vb 3) (kd (.int 1))))
 (ret (bin fix (eL (aC (eL (aC (kd (.int 1)) (aC (kd (.int 2)) aN))) (aC (eL (aC (kd (.int 2)) (aC (kd (.int 1)) aN))) (aC (eL (aC (kd (.int 2)) (aC (kd (.int 2)) aN))) (aC (eL (aC (kd (.int 0)) (aC (kd (.int 2)) aN))) (aC (eL (aC (kd (.int 2)) aN)) (aC (eL (aC (kd (.int 1)) aN)) aN))))))) (bin (iI bu) (bin (iI e9) (vb 2) (kd (.int 4))) (kd (.int 6)))))
 nxt)
 (sq (iff (tst (bin feq (vb 3) (kd (.int 2))))
 (ret (eL (aC (kd (.int 3)) aN)))
 nxt)
 (ret (bin fix (eL (aC (eL (aC (kd (.int 1)) (aC (kd (.int 1)) (aC (kd (.int 2)) aN)))) (aC (eL (aC (kd (.int 0)) (aC (kd (.int 1)) (aC (kd (.int 2)) aN)))) (aC (eL (aC (kd (.int 1)) (aC (kd (.int 2)) (aC (kd (.int 2)) aN)))) (aC (eL (aC (kd (.int 2)) (aC (kd (.int 1)) (aC (kd (.int 0)) aN)))) (aC (eL (aC (kd (.int 2)) (aC (kd (.int 2)) aN))) aN)))))) (bin (iI bu) (bin (iI e9) (vb 2) (kd (.int 4))) (kd (.int 5))))))))))
noncomputable def dj (ds:List D):R D:=fin (gF (st0 jd ds))
theorem nO {f:Addr} (fn_law_cell:Fn P w K mg base C 1 "_law_cell" 2 aA) (T:Txt K mg C) (cdv:Value) (A:Around) (outer:List Env) (s:Shared) (H:Hp) (E:XK) (hr:Room 1 (A.deeper (envOfC "_law_sizes" (ac cZ) s.heap.objs.size f cdv))) :
  SDs C (bX CX0 P w K mg base jd "_law_sizes" (ac cZ) f cdv A outer s H E).nox (aw cZ) gF :=
 (aq (bx (i:=2) sc_law_sizes.nd rfl (Or.inl rfl) (aV fn_law_cell (hr.mono (by decide)) rfl (ab (ai (pv 0)) (ab (ai (pv 1)) ao aa) aa) rfl (he:=aa) (hpl:=(av aa au))))
 (aq (bx (i:=3) sc_law_sizes.nd rfl (Or.inl rfl) (dO (ag (pv 2)) (EB.of am)))
 (aq (bD (gx (bM hr) (ag (pv 3)) (EB.of am))
 (ar (aT (cC (bG (N':=Nc_law_sizes_0) (n:=1) rfl rfl rfl (e8 4) b0 (cS rfl T.range (ab (eQ (EB.of am) (EB.of (dO (EB.of (gC (ag (pv 2)) (EB.of am))) (EB.of am)))) ao bH) (bK bH)) (fun L cs s H fp=>(aS (i:=4) mL rfl (Or.inl rfl))) (fun L cs s H fp=>bm) (fun L cs s H fp=>am)))))
 aQ)
 (aq (bD (gx (bM hr) (ag (pv 3)) (EB.of am))
 (ar (aT (ay (EB.of (dS (ab (dS (ab am (ab am ao aD) aD)) (ab (dS (ab am (ab am ao aD) aD)) (ab (dS (ab am (ab am ao aD) aD)) (ab (dS (ab am (ab am ao aD) aD)) (ab (dS (ab am ao aD)) (ab (dS (ab am ao aD)) ao eE) eE) eE) eE) eE) eE))) (EB.of (dO (EB.of (gC (ag (pv 2)) (EB.of am))) (EB.of am))))))
 aQ)
 (aq (bD (gx (bM hr) (ag (pv 3)) (EB.of am))
 (ar (aT (dS (ab am ao aD))))
 aQ)
 (ar (aT (ay (EB.of (dS (ab (dS (ab am (ab am (ab am ao aD) aD) aD)) (ab (dS (ab am (ab am (ab am ao aD) aD) aD)) (ab (dS (ab am (ab am (ab am ao aD) aD) aD)) (ab (dS (ab am (ab am (ab am ao aD) aD) aD)) (ab (dS (ab am (ab am ao aD) aD)) ao eE) eE) eE) eE) eE))) (EB.of (dO (EB.of (gC (ag (pv 2)) (EB.of am))) (EB.of am)))))))))))
theorem p4 {a:Addr} {fd:FuncData} (fn_law_cell:Fn P w K mg base C 1 "_law_cell" 2 aA) (T:Txt K mg C) (F:Fun K "_law_sizes" "_law_sizes" cZ a fd) (hm:mg "_law_sizes"=some (.ref a)) (hb:Binds K fd ["script","k"] []):Fn P w K mg base C 2 "_law_sizes" 2 dj :=
 ⟨a,fd,_,bt F sc_law_sizes (fun cdv A outer s H E hr=>nO fn_law_cell T cdv A outer s H E hr),hm,F.kp,hb⟩
noncomputable abbrev cG:Stmt:=PySem.Challenge.pw_arrowhall_k13_rests_and_things.main.body.getD 45 (.Pass ⟨0,0,0,0⟩)
noncomputable abbrev iy:List Str:=["known","met","arrow","at","other","first","second","made"]
theorem sc_law_closed:aH iy ["known"] (ac cG):=⟨rfl,rfl,rfl,by decide +kernel,rfl,by decide +kernel,by decide +kernel⟩
noncomputable abbrev Nc_law_closed_0:List Str:=["known","met","arrow","at","other","first","second","made","x"]
theorem lv:Nc_law_closed_0.Nodup:=by decide +kernel
noncomputable def gl:Rho->R Out:=(sq (xn 1)
 (sq (ng 0 2 1)
 (sq (asg 3 (kd (.int 0)))
 (sq (whD (tst (bin (iI flt) (vb 3) (una aU (vb 0))))
 (sq (cA (fIt (eLs (fIt (vb 0)))) (tgN 4)
 (cA (fIt (eL (aC (eT (aC (bin fix (vb 0) (vb 3)) (aC (vr 4) aN))) (aC (eT (aC (vr 4) (aC (bin fix (vb 0) (vb 3)) aN))) aN)))) (tg2 5 6)
 (iff (tst (bin feq (bin fix (vb 5) (kd (.int 1))) (bin fix (vb 6) (kd (.int 0)))))
 (sq (asg 7 (eT (aC (bin fix (vb 5) (kd (.int 0))) (aC (bin fix (vb 6) (kd (.int 1))) (aC (una jv (eLs (bq (fIt (bin fix (vb 5) (kd (.int 2)))) 1 (tgN 8) tT (bin fix (bin fix (vb 6) (kd (.int 2))) (vb 8))))) aN)))))
 (iff (xm 1 (vr 7))
 (sq (qz 1 (vr 7) (kd (.bl true)))
 (app 0 (vr 7)))
 nxt))
 nxt)))
 (asg 3 (bin cX (vb 3) (kd (.int 1))))) 30)
 (fz 0 (ret (vr 0)))))))
noncomputable def cv (xs:List D):R D:=fin (gl (st1 iy xs))
theorem lL {f:Addr}  (T:Txt K mg C) (cdv:Value) (A:Around) (outer:List Env) (s:Shared) (H:Hp) (E:XK) (hr:Room 0 (A.deeper (envOfC "_law_closed" (ac cG) s.heap.objs.size f cdv))) :
  SDs C (bX CX0 P w K mg base iy "_law_closed" (ac cG) f cdv A outer s H E).nox (aw cG) gl :=
 (aq (tV (i:=1) sc_law_closed.nd rfl (Or.inl rfl))
 (aq (u6 (oR hr) PassesOwn.never rfl (pv 0) (aM (i:=2) sc_law_closed.nd rfl (Or.inl rfl)) (pv 1) (pv 2))
 (aq (bx (i:=3) sc_law_closed.nd rfl (Or.inl rfl) am)
 (aq (vY 30 PassesOwn.never (zb (ag (pv 3)) (EB.of (bf (ag (pv 0)) rfl T.len aa (fun t ha=>aE ax rfl T.len PySem.boot_len ha (he:=aa) (hpl:=au)))))
 (aq (cw PassesOwn.never rfl (b_ (cC (fF (ag (pv 0)) rfl T.list aa (fun t ha=>bw bS rfl T.list boot_list ha (he:=aa) (hpl:=au))))) (aS (i:=4) sc_law_closed.nd rfl (Or.inl rfl))
 (ar (cw PassesOwn.never rfl (b_ (dS (ab (dm (ab (ay (ag (pv 0)) (ag (pv 3))) (ab (ai (pv 4)) ao aa) ah)) (ab (dm (ab (ai (pv 4)) (ab (ay (ag (pv 0)) (ag (pv 3))) ao ah) aa)) ao mw) mw))) (dv rfl (aM (i:=5) sc_law_closed.nd rfl (Or.inl rfl)) (aM (i:=6) sc_law_closed.nd rfl (Or.inr rfl)))
 (ar (bD (gx (bM hr) (EB.of (ay (ag (pv 5)) (EB.of am))) (EB.of (ay (ag (pv 6)) (EB.of am))))
 (aq (bx (i:=7) sc_law_closed.nd rfl (Or.inl rfl) (dm (ab (ay (ag (pv 5)) (EB.of am)) (ab (ay (ag (pv 6)) (EB.of am)) (ab (kj (EB.of (cC (bG (N':=Nc_law_closed_0) (n:=1) rfl rfl rfl (e8 8) b0 (b_ (ay (ag (pv 5)) (EB.of am))) (fun L cs s H fp=>(aS (i:=8) lv rfl (Or.inl rfl))) (fun L cs s H fp=>bm) (fun L cs s H fp=>(ay (EB.of (ay (ag (pv 6)) (EB.of am))) (ag (pv 8))))))) rfl T.tuple aZ (fun t ha=>bw eD rfl T.tuple boot_tuple ha (he:=aZ) (hpl:=au))) ao aF) ah) ah)))
 (ar (bD (xE (oR hr) (pv 1) (ai (pv 7)))
 (aq (tU (oR hr) (pv 1) (ai (pv 7)) eW)
 (ar (iL (pv 0) (ai (pv 7)) (hst:=aa))))
 aQ)))
 aQ)))))
 (ar (bx (i:=3) sc_law_closed.nd rfl (Or.inl rfl) (eQ (ag (pv 3)) (EB.of am))))))
 (hE 0 (ar (aT (ai (pv 0)))))))))
theorem og {a:Addr} {fd:FuncData}  (T:Txt K mg C) (F:Fun K "_law_closed" "_law_closed" cG a fd) (hm:mg "_law_closed"=some (.ref a)) (hb:Binds K fd ["known"] []):Mv P w K mg base C 1 "_law_closed" cv :=
 ⟨a,fd,_,BN F sc_law_closed (fun cdv A outer s H E hr=>lL T cdv A outer s H E hr),hm,F.kp,hb⟩
noncomputable abbrev cI:Stmt:=PySem.Challenge.pw_arrowhall_k13_rests_and_things.main.body.getD 46 (.Pass ⟨0,0,0,0⟩)
noncomputable abbrev iB:List Str:=["script","k","sizes","known","step","turn","one","other","row","x","mixed","arrow"]
theorem sc_law_arrows:aH iB ["script","k","sizes"] (ac cI):=⟨rfl,rfl,rfl,by decide +kernel,rfl,by decide +kernel,by decide +kernel⟩
noncomputable abbrev Nc_law_arrows_0:List Str:=["script","k","sizes","known","step","turn","one","other","row","x","mixed","arrow","box"]
theorem lx:Nc_law_arrows_0.Nodup:=by decide +kernel
noncomputable def gp:Rho->R Out:=(sq (own 3 (bq (dh (aC (una aU (vb 2)) aN)) 1 (tgN 12) tT (eT (aC (vr 12) (aC (vr 12) (aC (i3 (aC (bin fix (vb 2) (vb 12)) aN)) aN))))))
 (sq (asg 4 (cal 1 aR (aC (bin cX (bin (iI bu) (bin (iI h_) (cal 2 aA (aC (vr 0) (aC (vr 1) aN))) (kd (.int 1000003))) (kd (.int 2147483647))) (kd (.int 17))) aN)))
 (sq (cA (dh (aC (bin (iI bu) (cal 2 aA (aC (vr 0) (aC (bin cX (vb 1) (kd (.int 1))) aN))) (kd (.int 5))) aN)) (tgN 5)
 (sq (asg 4 (cal 1 aR (aC (vr 4) aN)))
 (sq (asg 6 (bin (iI bu) (bin (iI e9) (vb 4) (kd (.int 64))) (una aU (vb 2))))
 (sq (asg 4 (cal 1 aR (aC (vr 4) aN)))
 (sq (asg 7 (bin (iI bu) (bin (iI e9) (vb 4) (kd (.int 64))) (una aU (vb 2))))
 (sq (own 8 (ib aN))
 (sq (cA (dh (aC (bin fix (vb 2) (vb 6)) aN)) (tgN 9)
 (sq (asg 4 (cal 1 aR (aC (vr 4) aN)))
 (iff (tst (bin feq (bin fix (vb 2) (vb 6)) (kd (.int 3))))
 (ins 8 (bin (iI bu) (bin (iI e9) (vb 4) (kd (.int 64))) (bin cX (vb 9) (kd (.int 1)))) (vr 9))
 (app 8 (bin (iI bu) (bin (iI e9) (vb 4) (kd (.int 64))) (yR (aC (kd (.int 1)) (aC (bin fix (vb 2) (vb 7)) aN))))))))
 (iff (orB (tst (bin feq (bin fix (vb 2) (vb 6)) (kd (.int 0)))) (tst (bin (iI fgt) (bin fix (vb 2) (vb 7)) (kd (.int 0)))))
 (iff (tst (bin (lD true) (eT (aC (vr 6) (aC (vr 7) (aC (una jv (vb 8)) aN)))) (vb 3)))
 (app 3 (eT (aC (vr 6) (aC (vr 7) (aC (una jv (vb 8)) aN)))))
 nxt)
 nxt))))))))
 (sq (yi 3 cv)
 (sq (own 10 (ib aN))
 (fz 3 (sq (cA (fIt (vr 3)) (tgN 11)
 (sq (asg 4 (cal 1 aR (aC (vr 4) aN)))
 (ins 10 (bin (iI bu) (bin (iI e9) (vb 4) (kd (.int 64))) (bin cX (una aU (vb 10)) (kd (.int 1)))) (vr 11))))
 (fz 10 (ret (vr 10))))))))))
noncomputable def cq (ds:List D):R D:=fin (gp (st0 iB ds))
theorem lN {f:Addr} (fn_law_cell:Fn P w K mg base C 1 "_law_cell" 2 aA) (mv_law_closed:Mv P w K mg base C 1 "_law_closed" cv) (fn_law_next:Fn P w K mg base C 1 "_law_next" 1 aR) (T:Txt K mg C) (cdv:Value) (A:Around) (outer:List Env) (s:Shared) (H:Hp) (E:XK) (hr:Room 1 (A.deeper (envOfC "_law_arrows" (ac cI) s.heap.objs.size f cdv))) :
  SDs C (bX CX0 P w K mg base iB "_law_arrows" (ac cI) f cdv A outer s H E).nox (aw cI) gp :=
 (aq (xJ (hU (i:=3) (aM (i:=3) sc_law_arrows.nd rfl (Or.inl rfl)) (N':=Nc_law_arrows_0) (n:=1) rfl rfl rfl (e8 12) b0 (cS rfl T.range (ab (bf (ag (pv 2)) rfl T.len aa (fun t ha=>aE ax rfl T.len PySem.boot_len ha (he:=aa) (hpl:=au))) ao aF) (bK aF)) (fun L cs s H fp=>(aS (i:=12) lx rfl (Or.inl rfl))) (fun L cs s H fp=>bm) (fun L cs s H fp=>(dm (ab (ai (pv 12)) (ab (ai (pv 12)) (ab (ss rfl (ab (ay (ag (pv 2)) (ag (pv 12))) ao ah) rfl T.range rfl T.tuple (bK ah) aF (fun t ha=>bw (i9 rfl) rfl T.tuple boot_tuple ha (he:=aF) (hpl:=au))) ao aF) aa) aa))) rfl))
 (aq (bx (i:=4) sc_law_arrows.nd rfl (Or.inl rfl) (aV fn_law_next (hr.mono (by decide)) rfl (ab (eQ (EB.of (dO (EB.of (qy (EB.of (aV fn_law_cell (hr.mono (by decide)) rfl (ab (ai (pv 0)) (ab (ai (pv 1)) ao aa) aa) rfl (he:=aa) (hpl:=(av aa au)))) (EB.of am))) (EB.of am))) (EB.of am)) ao bH) rfl (he:=bH) (hpl:=au)))
 (aq (cw PassesOwn.never rfl (cS rfl T.range (ab (dO (EB.of (aV fn_law_cell (hr.mono (by decide)) rfl (ab (ai (pv 0)) (ab (eQ (ag (pv 1)) (EB.of am)) ao bH) aa) rfl (he:=aa) (hpl:=(av bH au)))) (EB.of am)) ao bH) (bK bH)) (aS (i:=5) sc_law_arrows.nd rfl (Or.inl rfl))
 (aq (bx (i:=4) sc_law_arrows.nd rfl (Or.inl rfl) (aV fn_law_next (hr.mono (by decide)) rfl (ab (ai (pv 4)) ao aa) rfl (he:=aa) (hpl:=au)))
 (aq (bx (i:=6) sc_law_arrows.nd rfl (Or.inl rfl) (dO (EB.of (gC (ag (pv 4)) (EB.of am))) (EB.of (bf (ag (pv 2)) rfl T.len aa (fun t ha=>aE ax rfl T.len PySem.boot_len ha (he:=aa) (hpl:=au))))))
 (aq (bx (i:=4) sc_law_arrows.nd rfl (Or.inl rfl) (aV fn_law_next (hr.mono (by decide)) rfl (ab (ai (pv 4)) ao aa) rfl (he:=aa) (hpl:=au)))
 (aq (bx (i:=7) sc_law_arrows.nd rfl (Or.inl rfl) (dO (EB.of (gC (ag (pv 4)) (EB.of am))) (EB.of (bf (ag (pv 2)) rfl T.len aa (fun t ha=>aE ax rfl T.len PySem.boot_len ha (he:=aa) (hpl:=au))))))
 (aq (jD (i:=8) sc_law_arrows.nd rfl (Or.inl rfl) (iX ao))
 (aq (cw PassesOwn.never rfl (cS rfl T.range (ab (ay (ag (pv 2)) (ag (pv 6))) ao ah) (bK ah)) (aS (i:=9) sc_law_arrows.nd rfl (Or.inl rfl))
 (aq (bx (i:=4) sc_law_arrows.nd rfl (Or.inl rfl) (aV fn_law_next (hr.mono (by decide)) rfl (ab (ai (pv 4)) ao aa) rfl (he:=aa) (hpl:=au)))
 (ar (bD (gx (bM hr) (EB.of (ay (ag (pv 2)) (ag (pv 6)))) (EB.of am))
 (ar (vZ (pv 8) (dO (EB.of (gC (ag (pv 4)) (EB.of am))) (EB.of (eQ (ag (pv 9)) (EB.of am)))) (ai (pv 9)) (hst:=bH) (hst2:=aa)))
 (ar (iL (pv 8) (dO (EB.of (gC (ag (pv 4)) (EB.of am))) (EB.of (AS rfl (ab am (ab (ay (ag (pv 2)) (ag (pv 7))) ao ah) aD) rfl T.max (fun t ha=>aE (o8 rfl) rfl T.max boot_max ha (he:=aD) (hpl:=(av ah au)))))) (hst:=bH)))))))
 (ar (bD (jC (fH (gx (bM hr) (EB.of (ay (ag (pv 2)) (ag (pv 6)))) (EB.of am)) (ft (zc (EB.of (ay (ag (pv 2)) (ag (pv 7)))) (EB.of am)))))
 (ar (bD (zx (bM hr) (EB.of (dm (ab (ai (pv 6)) (ab (ai (pv 7)) (ab (kj (ag (pv 8)) rfl T.tuple aa (fun t ha=>bw eD rfl T.tuple boot_tuple ha (he:=aa) (hpl:=au))) ao aF) aa) aa))) (ag (pv 3)))
 (ar (iL (pv 3) (dm (ab (ai (pv 6)) (ab (ai (pv 7)) (ab (kj (ag (pv 8)) rfl T.tuple aa (fun t ha=>bw eD rfl T.tuple boot_tuple ha (he:=aa) (hpl:=au))) ao aF) aa) aa)) (hst:=mw)))
 aQ))
 aQ)))))))))
 (aq (xK mv_law_closed (hr.mono (by decide)) rfl (pv 3) (i:=3) sc_law_arrows.nd rfl (Or.inl rfl) rfl)
 (aq (jD (i:=10) sc_law_arrows.nd rfl (Or.inl rfl) (iX ao))
 (hE 3 (aq (cw PassesOwn.never rfl (b_ (ai (pv 3))) (aS (i:=11) sc_law_arrows.nd rfl (Or.inl rfl))
 (aq (bx (i:=4) sc_law_arrows.nd rfl (Or.inl rfl) (aV fn_law_next (hr.mono (by decide)) rfl (ab (ai (pv 4)) ao aa) rfl (he:=aa) (hpl:=au)))
 (ar (vZ (pv 10) (dO (EB.of (gC (ag (pv 4)) (EB.of am))) (EB.of (eQ (EB.of (bf (ag (pv 10)) rfl T.len aa (fun t ha=>aE ax rfl T.len PySem.boot_len ha (he:=aa) (hpl:=au)))) (EB.of am)))) (ai (pv 11)) (hst:=bH) (hst2:=aa)))))
 (hE 10 (ar (aT (ai (pv 10))))))))))))
theorem oi {a:Addr} {fd:FuncData} (fn_law_cell:Fn P w K mg base C 1 "_law_cell" 2 aA) (mv_law_closed:Mv P w K mg base C 1 "_law_closed" cv) (fn_law_next:Fn P w K mg base C 1 "_law_next" 1 aR) (T:Txt K mg C) (F:Fun K "_law_arrows" "_law_arrows" cI a fd) (hm:mg "_law_arrows"=some (.ref a)) (hb:Binds K fd ["script","k","sizes"] []):Fn P w K mg base C 2 "_law_arrows" 3 cq :=
 ⟨a,fd,_,bt F sc_law_arrows (fun cdv A outer s H E hr=>lN fn_law_cell mv_law_closed fn_law_next T cdv A outer s H E hr),hm,F.kp,hb⟩
noncomputable abbrev c_:Stmt:=PySem.Challenge.pw_arrowhall_k13_rests_and_things.main.body.getD 47 (.Pass ⟨0,0,0,0⟩)
noncomputable abbrev je:List Str:=["script","k","sizes","known","place","at","table","first","row","second","made","rests"]
theorem sc_law_parts:aH je ["script","k"] (ac c_):=⟨rfl,rfl,rfl,by decide +kernel,rfl,by decide +kernel,by decide +kernel⟩
noncomputable abbrev Nc_law_parts_0:List Str:=["script","k","sizes","known","place","at","table","first","row","second","made","rests","x"]
theorem mO:Nc_law_parts_0.Nodup:=by decide +kernel
noncomputable abbrev Nc_law_parts_1:List Str:=["script","k","sizes","known","place","at","table","first","row","second","made","rests","box"]
theorem mN:Nc_law_parts_1.Nodup:=by decide +kernel
noncomputable abbrev Nc_law_parts_2:List Str:=["script","k","sizes","known","place","at","table","first","row","second","made","rests","arrow"]
theorem mM:Nc_law_parts_2.Nodup:=by decide +kernel
noncomputable def gG:Rho->R Out:=(sq (asg 2 (cal 2 dj (aC (vr 0) (aC (vr 1) aN))))
 (sq (asg 3 (cal 3 cq (aC (vr 0) (aC (bin cX (vb 1) (kd (.int 1))) (aC (vr 2) aN)))))
 (sq (xn 4)
 (sq (cA (dh (aC (una aU (vb 3)) aN)) (tgN 5)
 (qz 4 (bin fix (vb 3) (vb 5)) (vr 5)))
 (sq (own 6 (ib aN))
 (sq (cA (fIt (vr 3)) (tgN 7)
 (sq (own 8 (ib aN))
 (sq (cA (fIt (vr 3)) (tgN 9)
 (sq (asg 10 (una lE (kd (.int 1))))
 (sq (iff (tst (bin feq (bin fix (vb 7) (kd (.int 1))) (bin fix (vb 9) (kd (.int 0)))))
 (asg 10 (qB 4 (eT (aC (bin fix (vb 7) (kd (.int 0))) (aC (bin fix (vb 9) (kd (.int 1))) (aC (una jv (eLs (bq (fIt (bin fix (vb 7) (kd (.int 2)))) 1 (tgN 12) tT (bin fix (bin fix (vb 9) (kd (.int 2))) (vb 12))))) aN))))))
 nxt)
 (app 8 (vr 10)))))
 (fz 8 (app 6 (vr 8))))))
 (sq (asg 11 (eLs (bq (dh (aC (una aU (vb 2)) aN)) 1 (tgN 12) tT (qB 4 (eT (aC (vr 12) (aC (vr 12) (aC (i3 (aC (bin fix (vb 2) (vb 12)) aN)) aN))))))))
 (fz 6 (ret (eT (aC (eLs (bq (fIt (vr 3)) 1 (tgN 12) tT (eT (aC (bin fix (vb 12) (kd (.int 0))) (aC (bin fix (vb 12) (kd (.int 1))) aN))))) (aC (vr 11) (aC (vr 6) (aC (vr 3) (aC (vr 2) aN)))))))))))))))
noncomputable def dk (ds:List D):R D:=fin (gG (st0 je ds))
theorem nP {f:Addr} (fn_law_arrows:Fn P w K mg base C 2 "_law_arrows" 3 cq) (fn_law_sizes:Fn P w K mg base C 2 "_law_sizes" 2 dj) (T:Txt K mg C) (cdv:Value) (A:Around) (outer:List Env) (s:Shared) (H:Hp) (E:XK) (hr:Room 2 (A.deeper (envOfC "_law_parts" (ac c_) s.heap.objs.size f cdv))) :
  SDs C (bX CX0 P w K mg base je "_law_parts" (ac c_) f cdv A outer s H E).nox (aw c_) gG :=
 (aq (bx (i:=2) sc_law_parts.nd rfl (Or.inr rfl) (aV fn_law_sizes (hr.mono (by decide)) rfl (ab (ai (pv 0)) (ab (ai (pv 1)) ao aa) aa) rfl (he:=aa) (hpl:=(av aa au))))
 (aq (bx (i:=3) sc_law_parts.nd rfl (Or.inl rfl) (aV fn_law_arrows (hr.mono (by decide)) rfl (ab (ai (pv 0)) (ab (eQ (ag (pv 1)) (EB.of am)) (ab (ai (pv 2)) ao aa) bH) aa) rfl (he:=aa) (hpl:=(av bH (av aa au)))))
 (aq (tV (i:=4) sc_law_parts.nd rfl (Or.inr rfl))
 (aq (cw PassesOwn.never rfl (cS rfl T.range (ab (bf (ag (pv 3)) rfl T.len aa (fun t ha=>aE ax rfl T.len PySem.boot_len ha (he:=aa) (hpl:=au))) ao aF) (bK aF)) (aS (i:=5) sc_law_parts.nd rfl (Or.inl rfl))
 (ar (tU (oR hr) (pv 4) (ay (ag (pv 3)) (ag (pv 5))) (ai (pv 5)))))
 (aq (jD (i:=6) sc_law_parts.nd rfl (Or.inl rfl) (iX ao))
 (aq (cw PassesOwn.never rfl (b_ (ai (pv 3))) (aS (i:=7) sc_law_parts.nd rfl (Or.inl rfl))
 (aq (jD (i:=8) sc_law_parts.nd rfl (Or.inl rfl) (iX ao))
 (aq (cw PassesOwn.never rfl (b_ (ai (pv 3))) (aS (i:=9) sc_law_parts.nd rfl (Or.inr rfl))
 (aq (bx (i:=10) sc_law_parts.nd rfl (Or.inl rfl) (nC (EB.of am)))
 (aq (bD (gx (bM hr) (EB.of (ay (ag (pv 7)) (EB.of am))) (EB.of (ay (ag (pv 9)) (EB.of am))))
 (ar (bx (i:=10) sc_law_parts.nd rfl (Or.inl rfl) (uJ (oR hr) (pv 4) (dm (ab (ay (ag (pv 7)) (EB.of am)) (ab (ay (ag (pv 9)) (EB.of am)) (ab (kj (EB.of (cC (bG (N':=Nc_law_parts_0) (n:=1) rfl rfl rfl (e8 12) b0 (b_ (ay (ag (pv 7)) (EB.of am))) (fun L cs s H fp=>(aS (i:=12) mO rfl (Or.inl rfl))) (fun L cs s H fp=>bm) (fun L cs s H fp=>(ay (EB.of (ay (ag (pv 9)) (EB.of am))) (ag (pv 12))))))) rfl T.tuple aZ (fun t ha=>bw eD rfl T.tuple boot_tuple ha (he:=aZ) (hpl:=au))) ao aF) ah) ah)))))
 aQ)
 (ar (iL (pv 8) (ai (pv 10)) (hst:=aa))))))
 (hE 8 (ar (iL (pv 6) (ai (pv 8)) (hst:=aa)))))))
 (aq (pA (hU (i:=11) (aM (i:=11) sc_law_parts.nd rfl (Or.inl rfl)) (N':=Nc_law_parts_1) (n:=1) rfl rfl rfl (e8 12) b0 (cS rfl T.range (ab (bf (ag (pv 2)) rfl T.len aa (fun t ha=>aE ax rfl T.len PySem.boot_len ha (he:=aa) (hpl:=au))) ao aF) (bK aF)) (fun L cs s H fp=>(aS (i:=12) mN rfl (Or.inl rfl))) (fun L cs s H fp=>bm) (fun L cs s H fp=>(uJ (oR hr) (pv 4) (dm (ab (ai (pv 12)) (ab (ai (pv 12)) (ab (ss rfl (ab (ay (ag (pv 2)) (ag (pv 12))) ao ah) rfl T.range rfl T.tuple (bK ah) aF (fun t ha=>bw (i9 rfl) rfl T.tuple boot_tuple ha (he:=aF) (hpl:=au))) ao aF) aa) aa)))) rfl))
 (hE 6 (ar (aT (dm (ab (cC (bG (N':=Nc_law_parts_2) (n:=1) rfl rfl rfl (e8 12) b0 (b_ (ai (pv 3))) (fun L cs s H fp=>(aS (i:=12) mM rfl (Or.inl rfl))) (fun L cs s H fp=>bm) (fun L cs s H fp=>(dm (ab (ay (ag (pv 12)) (EB.of am)) (ab (ay (ag (pv 12)) (EB.of am)) ao ah) ah))))) (ab (ai (pv 11)) (ab (ai (pv 6)) (ab (ai (pv 3)) (ab (ai (pv 2)) ao aa) aa) aa) aa) aZ))))))))))))
theorem p5 {a:Addr} {fd:FuncData} (fn_law_arrows:Fn P w K mg base C 2 "_law_arrows" 3 cq) (fn_law_sizes:Fn P w K mg base C 2 "_law_sizes" 2 dj) (T:Txt K mg C) (F:Fun K "_law_parts" "_law_parts" c_ a fd) (hm:mg "_law_parts"=some (.ref a)) (hb:Binds K fd ["script","k"] []):Fn P w K mg base C 3 "_law_parts" 2 dk :=
 ⟨a,fd,_,bt F sc_law_parts (fun cdv A outer s H E hr=>nP fn_law_arrows fn_law_sizes T cdv A outer s H E hr),hm,F.kp,hb⟩
noncomputable abbrev dG:Stmt:=PySem.Challenge.pw_arrowhall_k13_rests_and_things.main.body.getD 48 (.Pass ⟨0,0,0,0⟩)
noncomputable abbrev jP:List Str:=["rows"]
theorem qZ:aH jP ["rows"] (ac dG):=⟨rfl,rfl,rfl,by decide +kernel,rfl,by decide +kernel,by decide +kernel⟩
noncomputable abbrev Nc_law_copy_0:List Str:=["rows","row"]
theorem n9:Nc_law_copy_0.Nodup:=by decide +kernel
noncomputable def im:Rho->R D:=(eLs (bq (fIt (vr 0)) 1 (tgN 1) tT (eLs (fIt (vb 1)))))
noncomputable def cN (ds:List D):R D:=im (st0 jP ds)
theorem oE {f:Addr}  (T:Txt K mg C) (cdv:Value) (A:Around) (outer:List Env) (s:Shared) (H:Hp) (E:XK) (hr:Room 0 (A.deeper (envOfC "_law_copy" (ac dG) s.heap.objs.size f cdv))) :
  sI C (bX CX0 P w K mg base jP "_law_copy" (ac dG) f cdv A outer s H E).nox (.l (.l .s)) (aw dG) im :=
 (pz (lY (N':=Nc_law_copy_0) (n:=1) rfl rfl rfl (e8 1) (b_ (ai (pv 0))) (fun L cs s H fp=>(aS (i:=1) n9 rfl (Or.inl rfl))) (fun L cs s H fp=>bm) (fun L cs s H fp=>(zl (fF (ag (pv 1)) rfl T.list aa (fun t ha=>bw bS rfl T.list boot_list ha (he:=aa) (hpl:=au)))))))
theorem rJ {a:Addr} {fd:FuncData}  (T:Txt K mg C) (F:Fun K "_law_copy" "_law_copy" dG a fd) (hm:mg "_law_copy"=some (.ref a)) (hb:Binds K fd ["rows"] []):FnK P w K mg base C 1 "_law_copy" 1 (.l (.l .s)) cN :=
 ⟨a,fd,_,qD F qZ (fun cdv A outer s H E hr=>oE  T cdv A outer s H E hr),hm,F.kp,hb⟩
noncomputable abbrev dF:Stmt:=PySem.Challenge.pw_arrowhall_k13_rests_and_things.main.body.getD 49 (.Pass ⟨0,0,0,0⟩)
noncomputable abbrev jO:List Str:=["parts"]
theorem qY:aH jO ["parts"] (ac dF):=⟨rfl,rfl,rfl,by decide +kernel,rfl,by decide +kernel,by decide +kernel⟩
noncomputable abbrev Nc_law_hall_0:List Str:=["parts","row"]
theorem n8:Nc_law_hall_0.Nodup:=by decide +kernel
noncomputable def ik:Rho->R Out:=(ret (mkH gt (aC (eLs (fIt (bin fix (vb 0) (kd (.int 0))))) (aC (eLs (fIt (bin fix (vb 0) (kd (.int 1))))) (aC (eLs (bq (fIt (bin fix (vb 0) (kd (.int 2)))) 1 (tgN 1) tT (eLs (fIt (vb 1))))) aN)))))
noncomputable def dA (ds:List D):R D:=fin (ik (st0 jO ds))
theorem oC {f:Addr} (fn_Hall:FnH P w K mg base C 4 gt) (T:Txt K mg C) (cdv:Value) (A:Around) (outer:List Env) (s:Shared) (H:Hp) (E:XK) (hr:Room 5 (A.deeper (envOfC "_law_hall" (ac dF) s.heap.objs.size f cdv))) :
  SDs C (bX CX0 P w K mg base jO "_law_hall" (ac dF) f cdv A outer s H E).nox (aw dF) ik :=
 (ar (aT (yN fn_Hall (hr.mono (by decide)) rfl (ab (cC (fF (EB.of (ay (ag (pv 0)) (EB.of am))) rfl T.list ah (fun t ha=>bw bS rfl T.list boot_list ha (he:=ah) (hpl:=au)))) (ab (cC (fF (EB.of (ay (ag (pv 0)) (EB.of am))) rfl T.list ah (fun t ha=>bw bS rfl T.list boot_list ha (he:=ah) (hpl:=au)))) (ab (cC (bG (N':=Nc_law_hall_0) (n:=1) rfl rfl rfl (e8 1) b0 (b_ (ay (ag (pv 0)) (EB.of am))) (fun L cs s H fp=>(aS (i:=1) n8 rfl (Or.inl rfl))) (fun L cs s H fp=>bm) (fun L cs s H fp=>(cC (fF (ag (pv 1)) rfl T.list aa (fun t ha=>bw bS rfl T.list boot_list ha (he:=aa) (hpl:=au))))))) ao aZ) aF) aF) rfl (he:=aF) (hpl:=(av aF (av aZ au))))))
theorem rH {a:Addr} {fd:FuncData} (fn_Hall:FnH P w K mg base C 4 gt) (T:Txt K mg C) (F:Fun K "_law_hall" "_law_hall" dF a fd) (hm:mg "_law_hall"=some (.ref a)) (hb:Binds K fd ["parts"] []):Fn P w K mg base C 6 "_law_hall" 1 dA :=
 ⟨a,fd,_,bt F qY (fun cdv A outer s H E hr=>oC fn_Hall T cdv A outer s H E hr),hm,F.kp,hb⟩
noncomputable abbrev ca:Stmt:=PySem.Challenge.pw_arrowhall_k13_rests_and_things.main.body.getD 50 (.Pass ⟨0,0,0,0⟩)
noncomputable abbrev gL:List Str:=["parts","box","other"]
theorem mB:aH gL ["parts","box","other"] (ac ca):=⟨rfl,rfl,rfl,by decide +kernel,rfl,by decide +kernel,by decide +kernel⟩
noncomputable abbrev Nc_law_between_0:List Str:=["parts","box","other","arrow"]
theorem kI:Nc_law_between_0.Nodup:=by decide +kernel
noncomputable def fO:Rho->R Out:=(ret (eLs (bq (dh (aC (una aU (bin fix (vb 0) (kd (.int 0)))) aN)) 1 (tgN 3) (tst (bin feq (bin fix (bin fix (vb 0) (kd (.int 0))) (vb 3)) (eT (aC (vr 1) (aC (vr 2) aN))))) (vr 3))))
noncomputable def bc (ds:List D):R D:=fin (fO (st0 gL ds))
theorem kS {f:Addr}  (T:Txt K mg C) (cdv:Value) (A:Around) (outer:List Env) (s:Shared) (H:Hp) (E:XK) (hr:Room 0 (A.deeper (envOfC "_law_between" (ac ca) s.heap.objs.size f cdv))) :
  SDs C (bX CX0 P w K mg base gL "_law_between" (ac ca) f cdv A outer s H E).nox (aw ca) fO :=
 (ar (aT (cC (bG (N':=Nc_law_between_0) (n:=1) rfl rfl rfl (e8 3) b0 (cS rfl T.range (ab (bf (EB.of (ay (ag (pv 0)) (EB.of am))) rfl T.len ah (fun t ha=>aE ax rfl T.len PySem.boot_len ha (he:=ah) (hpl:=au))) ao aF) (bK aF)) (fun L cs s H fp=>(aS (i:=3) kI rfl (Or.inl rfl))) (fun L cs s H fp=>(uu (gx (bM hr) (EB.of (ay (EB.of (ay (ag (pv 0)) (EB.of am))) (ag (pv 3)))) (EB.of (dm (ab (ai (pv 1)) (ab (ai (pv 2)) ao aa) aa)))))) (fun L cs s H fp=>(ai (pv 3)))))))
theorem mS {a:Addr} {fd:FuncData}  (T:Txt K mg C) (F:Fun K "_law_between" "_law_between" ca a fd) (hm:mg "_law_between"=some (.ref a)) (hb:Binds K fd ["parts","box","other"] []):Fn P w K mg base C 1 "_law_between" 3 bc :=
 ⟨a,fd,_,bt F mB (fun cdv A outer s H E hr=>kS  T cdv A outer s H E hr),hm,F.kp,hb⟩
noncomputable abbrev bE:Stmt:=PySem.Challenge.pw_arrowhall_k13_rests_and_things.main.body.getD 51 (.Pass ⟨0,0,0,0⟩)
noncomputable abbrev fA:List Str:=["parts"]
theorem jW:aH fA ["parts"] (ac bE):=⟨rfl,rfl,rfl,by decide +kernel,rfl,by decide +kernel,by decide +kernel⟩
noncomputable abbrev Nc_law_reading_of_0:List Str:=["parts","size"]
theorem ju:Nc_law_reading_of_0.Nodup:=by decide +kernel
noncomputable abbrev Nc_law_reading_of_1:List Str:=["parts","arrow"]
theorem jt:Nc_law_reading_of_1.Nodup:=by decide +kernel
noncomputable def eR:Rho->R Out:=(ret (eT (aC (eLs (bq (fIt (bin fix (vb 0) (kd (.int 4)))) 1 (tgN 1) tT (vr 1))) (aC (eLs (bq (fIt (bin fix (vb 0) (kd (.int 3)))) 1 (tgN 1) tT (eLs (fIt (bin fix (vb 1) (kd (.int 2))))))) aN))))
noncomputable def bJ (ds:List D):R D:=fin (eR (st0 fA ds))
theorem jw {f:Addr}  (T:Txt K mg C) (cdv:Value) (A:Around) (outer:List Env) (s:Shared) (H:Hp) (E:XK) (hr:Room 0 (A.deeper (envOfC "_law_reading_of" (ac bE) s.heap.objs.size f cdv))) :
  SDs C (bX CX0 P w K mg base fA "_law_reading_of" (ac bE) f cdv A outer s H E).nox (aw bE) eR :=
 (ar (aT (dm (ab (cC (bG (N':=Nc_law_reading_of_0) (n:=1) rfl rfl rfl (e8 1) b0 (b_ (ay (ag (pv 0)) (EB.of am))) (fun L cs s H fp=>(aS (i:=1) ju rfl (Or.inl rfl))) (fun L cs s H fp=>bm) (fun L cs s H fp=>(ai (pv 1))))) (ab (cC (bG (N':=Nc_law_reading_of_1) (n:=1) rfl rfl rfl (e8 1) b0 (b_ (ay (ag (pv 0)) (EB.of am))) (fun L cs s H fp=>(aS (i:=1) jt rfl (Or.inl rfl))) (fun L cs s H fp=>bm) (fun L cs s H fp=>(cC (fF (EB.of (ay (ag (pv 1)) (EB.of am))) rfl T.list ah (fun t ha=>bw bS rfl T.list boot_list ha (he:=ah) (hpl:=au))))))) ao aZ) aZ))))
theorem j9 {a:Addr} {fd:FuncData}  (T:Txt K mg C) (F:Fun K "_law_reading_of" "_law_reading_of" bE a fd) (hm:mg "_law_reading_of"=some (.ref a)) (hb:Binds K fd ["parts"] []):Fn P w K mg base C 1 "_law_reading_of" 1 bJ :=
 ⟨a,fd,_,bt F jW (fun cdv A outer s H E hr=>jw  T cdv A outer s H E hr),hm,F.kp,hb⟩
noncomputable abbrev d6:Stmt:=PySem.Challenge.pw_arrowhall_k13_rests_and_things.main.body.getD 52 (.Pass ⟨0,0,0,0⟩)
noncomputable abbrev ld:List Str:=["parts","box","things","maps","arrow","one","other"]
theorem sc_law_out:aH ld ["parts","box"] (ac d6):=⟨rfl,rfl,rfl,by decide +kernel,rfl,by decide +kernel,by decide +kernel⟩
noncomputable abbrev Nc_law_out_0:List Str:=["parts","box","things","maps","arrow","one","6.","other"]
theorem pY:Nc_law_out_0.Nodup:=by decide +kernel
noncomputable abbrev Nc_law_out_1:List Str:=["parts","box","things","maps","arrow","one","other","first"]
theorem pX:Nc_law_out_1.Nodup:=by decide +kernel
noncomputable abbrev Nc_law_out_2:List Str:=["parts","box","things","maps","arrow","one","other","row"]
theorem pW:Nc_law_out_2.Nodup:=by decide +kernel
noncomputable def i4:Rho->R Out:=(sq (asg 2 (eLs (bq (dh (aC (una aU (bin fix (vb 0) (kd (.int 1)))) aN)) 1 (tgN 7) tT (cal 3 bc (aC (vr 0) (aC (vr 1) (aC (vr 7) aN)))))))
 (sq (own 3 (ib aN))
 (sq (cA (dh (aC (una aU (bin fix (vb 0) (kd (.int 0)))) aN)) (tgN 4)
 (sq (asT (tg2 5 6) (bin fix (bin fix (vb 0) (kd (.int 0))) (vb 4)))
 (app 3 (eLs (bq (fIt (bin fix (vb 2) (vb 5))) 1 (tgN 7) tT (qj (bin fix (vb 2) (vb 6)) (bin fix (bin fix (bin fix (vb 0) (kd (.int 2))) (vb 7)) (vb 4))))))))
 (fz 3 (ret (eT (aC (eLs (bq (fIt (vr 2)) 1 (tgN 7) tT (una aU (vb 7)))) (aC (vr 3) aN))))))))
noncomputable def dn (ds:List D):R D:=fin (i4 (st0 ld ds))
theorem qL {f:Addr} (fn_law_between:Fn P w K mg base C 1 "_law_between" 3 bc) (T:Txt K mg C) (cdv:Value) (A:Around) (outer:List Env) (s:Shared) (H:Hp) (E:XK) (hr:Room 1 (A.deeper (envOfC "_law_out" (ac d6) s.heap.objs.size f cdv))) :
  SDs C (bX CX0 P w K mg base ld "_law_out" (ac d6) f cdv A outer s H E).nox (aw d6) i4 :=
 (aq (bx (i:=2) sc_law_out.nd rfl (Or.inr rfl) (cC (bG (N':=Nc_law_out_0) (n:=1) rfl rfl rfl (e8 7) b0 (cS rfl T.range (ab (bf (EB.of (ay (ag (pv 0)) (EB.of am))) rfl T.len ah (fun t ha=>aE ax rfl T.len PySem.boot_len ha (he:=ah) (hpl:=au))) ao aF) (bK aF)) (fun L cs s H fp=>(aS (i:=7) pY rfl (Or.inl rfl))) (fun L cs s H fp=>bm) (fun L cs s H fp=>(aV fn_law_between (hr.mono (by decide)) rfl (ab (ai (pv 0)) (ab (ai (pv 1)) (ab (ai (pv 7)) ao aa) aa) aa) rfl (he:=aa) (hpl:=(av aa (av aa au))))))))
 (aq (jD (i:=3) sc_law_out.nd rfl (Or.inl rfl) (iX ao))
 (aq (cw PassesOwn.never rfl (cS rfl T.range (ab (bf (EB.of (ay (ag (pv 0)) (EB.of am))) rfl T.len ah (fun t ha=>aE ax rfl T.len PySem.boot_len ha (he:=ah) (hpl:=au))) ao aF) (bK aF)) (aS (i:=4) sc_law_out.nd rfl (Or.inr rfl))
 (aq (zD (ay (EB.of (ay (ag (pv 0)) (EB.of am))) (ag (pv 4))) (dv rfl (aM (i:=5) sc_law_out.nd rfl (Or.inl rfl)) (aM (i:=6) sc_law_out.nd rfl (Or.inr rfl))))
 (ar (iL (pv 3) (cC (bG (N':=Nc_law_out_1) (n:=1) rfl rfl rfl (e8 7) b0 (b_ (ay (ag (pv 2)) (ag (pv 5)))) (fun L cs s H fp=>(aS (i:=7) pX rfl (Or.inl rfl))) (fun L cs s H fp=>bm) (fun L cs s H fp=>(nF (EB.of (ay (ag (pv 2)) (ag (pv 6)))) (ay (EB.of (ay (EB.of (ay (ag (pv 0)) (EB.of am))) (ag (pv 7)))) (ag (pv 4))) ah)))) (hst:=aZ)))))
 (hE 3 (ar (aT (dm (ab (cC (bG (N':=Nc_law_out_2) (n:=1) rfl rfl rfl (e8 7) b0 (b_ (ai (pv 2))) (fun L cs s H fp=>(aS (i:=7) pW rfl (Or.inl rfl))) (fun L cs s H fp=>bm) (fun L cs s H fp=>(bf (ag (pv 7)) rfl T.len aa (fun t ha=>aE ax rfl T.len PySem.boot_len ha (he:=aa) (hpl:=au)))))) (ab (ai (pv 3)) ao aa) aZ))))))))
theorem sZ {a:Addr} {fd:FuncData} (fn_law_between:Fn P w K mg base C 1 "_law_between" 3 bc) (T:Txt K mg C) (F:Fun K "_law_out" "_law_out" d6 a fd) (hm:mg "_law_out"=some (.ref a)) (hb:Binds K fd ["parts","box"] []):Fn P w K mg base C 2 "_law_out" 2 dn :=
 ⟨a,fd,_,bt F sc_law_out (fun cdv A outer s H E hr=>qL fn_law_between T cdv A outer s H E hr),hm,F.kp,hb⟩
noncomputable abbrev cH:Stmt:=PySem.Challenge.pw_arrowhall_k13_rests_and_things.main.body.getD 53 (.Pass ⟨0,0,0,0⟩)
noncomputable abbrev iA:List Str:=["parts","one","other","maps","arrow","more"]
theorem sc_law_beside:aH iA ["parts","one","other"] (ac cH):=⟨rfl,rfl,rfl,by decide +kernel,rfl,by decide +kernel,by decide +kernel⟩
noncomputable abbrev Nc_law_beside_0:List Str:=["parts","one","other","maps","arrow","more","thing"]
theorem lw:Nc_law_beside_0.Nodup:=by decide +kernel
noncomputable abbrev Nc_law_beside_1:List Str:=["parts","one","other","maps","arrow","more","a","b"]
theorem iE:Nc_law_beside_1.Nodup:=by decide +kernel
noncomputable def gn:Rho->R Out:=(sq (own 3 (ib aN))
 (sq (cA (dh (aC (una aU (bin fix (vb 0) (kd (.int 0)))) aN)) (tgN 4)
 (sq (asg 5 (bin fix (bin fix (vb 1) (kd (.int 0))) (bin fix (bin fix (bin fix (vb 0) (kd (.int 0))) (vb 4)) (kd (.int 1)))))
 (app 3 (bin cX (bin fix (bin fix (vb 1) (kd (.int 1))) (vb 4)) (eLs (bq (fIt (bin fix (bin fix (vb 2) (kd (.int 1))) (vb 4))) 1 (tgN 6) tT (bin cX (vb 6) (vb 5))))))))
 (fz 3 (ret (eT (aC (eLs (bq (lF (aC (bin fix (vb 1) (kd (.int 0))) (aC (bin fix (vb 2) (kd (.int 0))) aN))) 2 (tg2 6 7) tT (bin cX (vb 6) (vb 7)))) (aC (vr 3) aN)))))))
noncomputable def cO (ds:List D):R D:=fin (gn (st0 iA ds))
theorem lM {f:Addr}  (T:Txt K mg C) (cdv:Value) (A:Around) (outer:List Env) (s:Shared) (H:Hp) (E:XK) (hr:Room 0 (A.deeper (envOfC "_law_beside" (ac cH) s.heap.objs.size f cdv))) :
  SDs C (bX CX0 P w K mg base iA "_law_beside" (ac cH) f cdv A outer s H E).nox (aw cH) gn :=
 (aq (jD (i:=3) sc_law_beside.nd rfl (Or.inl rfl) (iX ao))
 (aq (cw PassesOwn.never rfl (cS rfl T.range (ab (bf (EB.of (ay (ag (pv 0)) (EB.of am))) rfl T.len ah (fun t ha=>aE ax rfl T.len PySem.boot_len ha (he:=ah) (hpl:=au))) ao aF) (bK aF)) (aS (i:=4) sc_law_beside.nd rfl (Or.inl rfl))
 (aq (bx (i:=5) sc_law_beside.nd rfl (Or.inr rfl) (ay (EB.of (ay (ag (pv 1)) (EB.of am))) (EB.of (ay (EB.of (ay (EB.of (ay (ag (pv 0)) (EB.of am))) (ag (pv 4)))) (EB.of am)))))
 (ar (iL (pv 3) (eQ (EB.of (ay (EB.of (ay (ag (pv 1)) (EB.of am))) (ag (pv 4)))) (EB.of (cC (bG (N':=Nc_law_beside_0) (n:=1) rfl rfl rfl (e8 6) b0 (b_ (ay (EB.of (ay (ag (pv 2)) (EB.of am))) (ag (pv 4)))) (fun L cs s H fp=>(aS (i:=6) lw rfl (Or.inl rfl))) (fun L cs s H fp=>bm) (fun L cs s H fp=>(eQ (ag (pv 6)) (ag (pv 5)))))))) (hst:=bH)))))
 (hE 3 (ar (aT (dm (ab (cC (bG (N':=Nc_law_beside_1) (n:=2) rfl rfl rfl (yu 6) pk (qk rfl T.zip (ab (ay (ag (pv 1)) (EB.of am)) (ab (ay (ag (pv 2)) (EB.of am)) ao ah) ah) ah (av ah au)) (fun L cs s H fp=>(dv rfl (aM (i:=6) iE rfl (Or.inl rfl)) (aM (i:=7) iE rfl (Or.inl rfl)))) (fun L cs s H fp=>bm) (fun L cs s H fp=>(eQ (ag (pv 6)) (ag (pv 7)))))) (ab (ai (pv 3)) ao aa) aZ)))))))
theorem oh {a:Addr} {fd:FuncData}  (T:Txt K mg C) (F:Fun K "_law_beside" "_law_beside" cH a fd) (hm:mg "_law_beside"=some (.ref a)) (hb:Binds K fd ["parts","one","other"] []):Fn P w K mg base C 1 "_law_beside" 3 cO :=
 ⟨a,fd,_,bt F sc_law_beside (fun cdv A outer s H E hr=>lM  T cdv A outer s H E hr),hm,F.kp,hb⟩
noncomputable abbrev bh:Stmt:=PySem.Challenge.pw_arrowhall_k13_rests_and_things.main.body.getD 54 (.Pass ⟨0,0,0,0⟩)
noncomputable abbrev eB:List Str:=["script","k","parts","point","none","plain","way","out"]
theorem sc_law_drawn_reading:aH eB ["script","k","parts"] (ac bh):=⟨rfl,rfl,rfl,by decide +kernel,rfl,by decide +kernel,by decide +kernel⟩
noncomputable abbrev Nc_law_drawn_reading_0:List Str:=["script","k","parts","point","none","plain","way","out","box"]
theorem h6:Nc_law_drawn_reading_0.Nodup:=by decide +kernel
noncomputable abbrev Nc_law_drawn_reading_1:List Str:=["script","k","parts","point","none","plain","way","out","arrow"]
theorem hZ:Nc_law_drawn_reading_1.Nodup:=by decide +kernel
noncomputable abbrev Nc_law_drawn_reading_2:List Str:=["script","k","parts","point","none","plain","way","out","box"]
theorem hX:Nc_law_drawn_reading_2.Nodup:=by decide +kernel
noncomputable abbrev Nc_law_drawn_reading_3:List Str:=["script","k","parts","point","none","plain","way","out","arrow"]
theorem hW:Nc_law_drawn_reading_3.Nodup:=by decide +kernel
noncomputable def dU:Rho->R Out:=(sq (asg 3 (eT (aC (eLs (bq (fIt (bin fix (vb 2) (kd (.int 1)))) 1 (tgN 8) tT (kd (.int 1)))) (aC (eLs (bq (fIt (bin fix (vb 2) (kd (.int 0)))) 1 (tgN 8) tT (eL (aC (kd (.int 0)) aN)))) aN))))
 (sq (asg 4 (eT (aC (eLs (bq (fIt (bin fix (vb 2) (kd (.int 1)))) 1 (tgN 8) tT (kd (.int 0)))) (aC (eLs (bq (fIt (bin fix (vb 2) (kd (.int 0)))) 1 (tgN 8) tT (eL aN))) aN))))
 (sq (asg 5 (cal 1 bJ (aC (vr 2) aN)))
 (sq (asg 6 (bin (iI bu) (cal 2 aA (aC (vr 0) (aC (vr 1) aN))) (kd (.int 5))))
 (sq (iff (tst (bin feq (vb 6) (kd (.int 0))))
 (ret (vr 5))
 nxt)
 (sq (iff (tst (bin feq (vb 6) (kd (.int 1))))
 (ret (cal 3 cO (aC (vr 2) (aC (vr 5) (aC (vr 3) aN)))))
 nxt)
 (sq (iff (tst (bin feq (vb 6) (kd (.int 2))))
 (ret (cal 3 cO (aC (vr 2) (aC (vr 3) (aC (bin fix (eL (aC (vr 4) (aC (vr 3) aN))) (bin (iI bu) (cal 2 aA (aC (vr 0) (aC (bin cX (vb 1) (kd (.int 1))) aN))) (kd (.int 2)))) aN)))))
 nxt)
 (sq (iff (tst (bin feq (vb 6) (kd (.int 3))))
 (sq (asg 7 (cal 2 dn (aC (vr 2) (aC (bin (iI bu) (cal 2 aA (aC (vr 0) (aC (bin cX (vb 1) (kd (.int 1))) aN))) (una aU (bin fix (vb 2) (kd (.int 1))))) aN))))
 (sq (iff (tst (bin (iI fle) (una o0 (bin fix (vb 7) (kd (.int 0)))) (kd (.int 3))))
 (ret (vr 7))
 nxt)
 (ret (vr 5))))
 nxt)
 (ret (vr 4))))))))))
noncomputable def bn (ds:List D):R D:=fin (dU (st0 eB ds))
theorem iu {f:Addr} (fn_law_beside:Fn P w K mg base C 1 "_law_beside" 3 cO) (fn_law_cell:Fn P w K mg base C 1 "_law_cell" 2 aA) (fn_law_out:Fn P w K mg base C 2 "_law_out" 2 dn) (fn_law_reading_of:Fn P w K mg base C 1 "_law_reading_of" 1 bJ) (T:Txt K mg C) (cdv:Value) (A:Around) (outer:List Env) (s:Shared) (H:Hp) (E:XK) (hr:Room 2 (A.deeper (envOfC "_law_drawn_reading" (ac bh) s.heap.objs.size f cdv))) :
  SDs C (bX CX0 P w K mg base eB "_law_drawn_reading" (ac bh) f cdv A outer s H E).nox (aw bh) dU :=
 (aq (bx (i:=3) sc_law_drawn_reading.nd rfl (Or.inl rfl) (dm (ab (cC (bG (N':=Nc_law_drawn_reading_0) (n:=1) rfl rfl rfl (e8 8) b0 (b_ (ay (ag (pv 2)) (EB.of am))) (fun L cs s H fp=>(aS (i:=8) h6 rfl (Or.inl rfl))) (fun L cs s H fp=>bm) (fun L cs s H fp=>am))) (ab (cC (bG (N':=Nc_law_drawn_reading_1) (n:=1) rfl rfl rfl (e8 8) b0 (b_ (ay (ag (pv 2)) (EB.of am))) (fun L cs s H fp=>(aS (i:=8) hZ rfl (Or.inl rfl))) (fun L cs s H fp=>bm) (fun L cs s H fp=>(dS (ab am ao aD))))) ao aZ) aZ)))
 (aq (bx (i:=4) sc_law_drawn_reading.nd rfl (Or.inl rfl) (dm (ab (cC (bG (N':=Nc_law_drawn_reading_2) (n:=1) rfl rfl rfl (e8 8) b0 (b_ (ay (ag (pv 2)) (EB.of am))) (fun L cs s H fp=>(aS (i:=8) hX rfl (Or.inl rfl))) (fun L cs s H fp=>bm) (fun L cs s H fp=>am))) (ab (cC (bG (N':=Nc_law_drawn_reading_3) (n:=1) rfl rfl rfl (e8 8) b0 (b_ (ay (ag (pv 2)) (EB.of am))) (fun L cs s H fp=>(aS (i:=8) hW rfl (Or.inl rfl))) (fun L cs s H fp=>bm) (fun L cs s H fp=>(dS ao)))) ao aZ) aZ)))
 (aq (bx (i:=5) sc_law_drawn_reading.nd rfl (Or.inl rfl) (aV fn_law_reading_of (hr.mono (by decide)) rfl (ab (ai (pv 2)) ao aa) rfl (he:=aa) (hpl:=au)))
 (aq (bx (i:=6) sc_law_drawn_reading.nd rfl (Or.inl rfl) (dO (EB.of (aV fn_law_cell (hr.mono (by decide)) rfl (ab (ai (pv 0)) (ab (ai (pv 1)) ao aa) aa) rfl (he:=aa) (hpl:=(av aa au)))) (EB.of am)))
 (aq (bD (gx (bM hr) (ag (pv 6)) (EB.of am))
 (ar (aT (ai (pv 5))))
 aQ)
 (aq (bD (gx (bM hr) (ag (pv 6)) (EB.of am))
 (ar (aT (aV fn_law_beside (hr.mono (by decide)) rfl (ab (ai (pv 2)) (ab (ai (pv 5)) (ab (ai (pv 3)) ao aa) aa) aa) rfl (he:=aa) (hpl:=(av aa (av aa au))))))
 aQ)
 (aq (bD (gx (bM hr) (ag (pv 6)) (EB.of am))
 (ar (aT (aV fn_law_beside (hr.mono (by decide)) rfl (ab (ai (pv 2)) (ab (ai (pv 3)) (ab (ay (EB.of (dS (ab (ai (pv 4)) (ab (ai (pv 3)) ao aa) aa))) (EB.of (dO (EB.of (aV fn_law_cell (hr.mono (by decide)) rfl (ab (ai (pv 0)) (ab (eQ (ag (pv 1)) (EB.of am)) ao bH) aa) rfl (he:=aa) (hpl:=(av bH au)))) (EB.of am)))) ao ah) aa) aa) rfl (he:=aa) (hpl:=(av aa (av ah au))))))
 aQ)
 (aq (bD (gx (bM hr) (ag (pv 6)) (EB.of am))
 (aq (bx (i:=7) sc_law_drawn_reading.nd rfl (Or.inl rfl) (aV fn_law_out (hr.mono (by decide)) rfl (ab (ai (pv 2)) (ab (dO (EB.of (aV fn_law_cell (hr.mono (by decide)) rfl (ab (ai (pv 0)) (ab (eQ (ag (pv 1)) (EB.of am)) ao bH) aa) rfl (he:=aa) (hpl:=(av bH au)))) (EB.of (bf (EB.of (ay (ag (pv 2)) (EB.of am))) rfl T.len ah (fun t ha=>aE ax rfl T.len PySem.boot_len ha (he:=ah) (hpl:=au))))) ao bH) aa) rfl (he:=aa) (hpl:=(av bH au))))
 (aq (bD (Bf (EB.of (yM rfl rfl T.max ah (EB.of (ay (ag (pv 7)) (EB.of am))))) (EB.of am))
 (ar (aT (ai (pv 7))))
 aQ)
 (ar (aT (ai (pv 5))))))
 aQ)
 (ar (aT (ai (pv 4))))))))))))
theorem iT {a:Addr} {fd:FuncData} (fn_law_beside:Fn P w K mg base C 1 "_law_beside" 3 cO) (fn_law_cell:Fn P w K mg base C 1 "_law_cell" 2 aA) (fn_law_out:Fn P w K mg base C 2 "_law_out" 2 dn) (fn_law_reading_of:Fn P w K mg base C 1 "_law_reading_of" 1 bJ) (T:Txt K mg C) (F:Fun K "_law_drawn_reading" "_law_drawn_reading" bh a fd) (hm:mg "_law_drawn_reading"=some (.ref a)) (hb:Binds K fd ["script","k","parts"] []):Fn P w K mg base C 3 "_law_drawn_reading" 3 bn :=
 ⟨a,fd,_,bt F sc_law_drawn_reading (fun cdv A outer s H E hr=>iu fn_law_beside fn_law_cell fn_law_out fn_law_reading_of T cdv A outer s H E hr),hm,F.kp,hb⟩
noncomputable abbrev iM:Stmt:=PySem.Challenge.pw_arrowhall_k13_rests_and_things.main.body.getD 55 (.Pass ⟨0,0,0,0⟩)
noncomputable abbrev xB:List Str:=["script","parts","hall","box","reading","thing","due","other","handed","found","change","back"]
theorem sc_law:aH xB ["script"] (ac iM):=⟨rfl,rfl,rfl,by decide +kernel,rfl,by decide +kernel,by decide +kernel⟩
noncomputable abbrev Nc_law_0:List Str:=["script","parts","hall","box","reading","thing","due","other","handed","found","change","back","arrow"]
theorem wB:Nc_law_0.Nodup:=by decide +kernel
noncomputable def qC:Rho->R Out:=(sq (asg 1 (cal 2 dk (aC (vr 0) (aC (kd (.int 0)) aN))))
 (sq (asg 2 (cal 1 dA (aC (vr 1) aN)))
 (sq (asg 3 (bin (iI bu) (cal 2 aA (aC (vr 0) (aC (kd (.int 4)) aN))) (una aU (bin fix (vb 1) (kd (.int 1))))))
 (sq (asg 4 (cal 3 bn (aC (vr 0) (aC (kd (.int 5)) (aC (vr 1) aN)))))
 (sq (iff (tst (bin feq (bin fix (bin fix (vb 4) (kd (.int 0))) (vb 3)) (kd (.int 0))))
 (ret (kd (.bl true)))
 nxt)
 (sq (asg 5 (bin (iI bu) (cal 2 aA (aC (vr 0) (aC (kd (.int 7)) aN))) (bin fix (bin fix (vb 4) (kd (.int 0))) (vb 3))))
 (sq (own 6 (ib aN))
 (sq (cA (dh (aC (una aU (bin fix (vb 1) (kd (.int 1)))) aN)) (tgN 7)
 (app 6 (eLs (bq (fIt (cal 3 bc (aC (vr 1) (aC (vr 3) (aC (vr 7) aN))))) 1 (tgN 12) tT (bin fix (bin fix (bin fix (vb 4) (kd (.int 1))) (vb 12)) (vb 5))))))
 (sq (asg 8 (eT (aC (eLs (fIt (bin fix (vb 4) (kd (.int 0))))) (aC (cal 1 cN (aC (bin fix (vb 4) (kd (.int 1))) aN)) aN))))
 (sq (trS 9 (.l (.l .s)) (cal 4 cM (aC (vr 2) (aC (vr 3) (aC (vr 8) (aC (vr 5) aN))))))
 (sq (iff (orB (ez (tst (flF (cal 2 bv (aC (va 9) (aC (vb 6) aN)))))) (tst (bin fne (vb 8) (vb 4))))
 (ret (kd (.bl false)))
 nxt)
 (fz 6 (sq (asg 10 (cal 1 cN (aC (vr 6) aN)))
 (sq (asg 11 (cal 4 dY (aC (vr 2) (aC (vr 3) (aC (vr 8) (aC (vr 10) aN))))))
 (sq (iff (orB (ez (tst (cal 1 di (aC (vr 11) aN)))) (orB (tst (bin fne (vb 11) (vb 5))) (orB (tst (bin fne (vb 8) (vb 4))) (tst (bin fne (vb 10) (vb 6))))))
 (ret (kd (.bl false)))
 nxt)
 (sq (asO (apP 9 .s (pN 9 (pN0 9) (vr 3)) (kd (.int 0))))
 (sq (asO (apP 9 (.l .s) (pN0 9) (eLs (ib aN))))
 (fz 6 (ret (cal 2 bv (aC (cal 4 cM (aC (vr 2) (aC (vr 3) (aC (vr 8) (aC (vr 5) aN))))) (aC (vr 6) aN))))))))))))))))))))))
noncomputable def nH (ds:List D):R D:=fin (qC (st0 xB ds))
theorem xv {f:Addr} (fn_law_between:Fn P w K mg base C 1 "_law_between" 3 bc) (fn_law_cell:Fn P w K mg base C 1 "_law_cell" 2 aA) (fn_law_copy:FnK P w K mg base C 1 "_law_copy" 1 (.l (.l .s)) cN) (fn_law_drawn_reading:Fn P w K mg base C 3 "_law_drawn_reading" 3 bn) (fn_law_hall:Fn P w K mg base C 6 "_law_hall" 1 dA) (fn_law_lists_like:Fn P w K mg base C 2 "_law_lists_like" 2 bv) (fn_law_parts:Fn P w K mg base C 3 "_law_parts" 2 dk) (fn_law_whole:Fn P w K mg base C 1 "_law_whole" 1 di) (fn_change_of:FnK P w K mg base C 6 "change_of" 4 (.l (.l .s)) cM) (fn_thing_of:Fn P w K mg base C 6 "thing_of" 4 dY) (T:Txt K mg C) (cdv:Value) (A:Around) (outer:List Env) (s:Shared) (H:Hp) (E:XK) (hr:Room 6 (A.deeper (envOfC "law" (ac iM) s.heap.objs.size f cdv))) :
  SDs C (bX CX0 P w K mg base xB "law" (ac iM) f cdv A outer s H E).nox (aw iM) qC :=
 (aq (bx (i:=1) sc_law.nd rfl (Or.inl rfl) (aV fn_law_parts (hr.mono (by decide)) rfl (ab (ai (pv 0)) (ab am ao aD) aa) rfl (he:=aa) (hpl:=(av aD au))))
 (aq (bx (i:=2) sc_law.nd rfl (Or.inl rfl) (aV fn_law_hall (hr.mono (by decide)) rfl (ab (ai (pv 1)) ao aa) rfl (he:=aa) (hpl:=au)))
 (aq (bx (i:=3) sc_law.nd rfl (Or.inl rfl) (dO (EB.of (aV fn_law_cell (hr.mono (by decide)) rfl (ab (ai (pv 0)) (ab am ao aD) aa) rfl (he:=aa) (hpl:=(av aD au)))) (EB.of (bf (EB.of (ay (ag (pv 1)) (EB.of am))) rfl T.len ah (fun t ha=>aE ax rfl T.len PySem.boot_len ha (he:=ah) (hpl:=au))))))
 (aq (bx (i:=4) sc_law.nd rfl (Or.inr rfl) (aV fn_law_drawn_reading (hr.mono (by decide)) rfl (ab (ai (pv 0)) (ab am (ab (ai (pv 1)) ao aa) aD) aa) rfl (he:=aa) (hpl:=(av aD (av aa au)))))
 (aq (bD (gx (bM hr) (EB.of (ay (EB.of (ay (ag (pv 4)) (EB.of am))) (ag (pv 3)))) (EB.of am))
 (ar (aT eW))
 aQ)
 (aq (bx (i:=5) sc_law.nd rfl (Or.inr rfl) (dO (EB.of (aV fn_law_cell (hr.mono (by decide)) rfl (ab (ai (pv 0)) (ab am ao aD) aa) rfl (he:=aa) (hpl:=(av aD au)))) (EB.of (ay (EB.of (ay (ag (pv 4)) (EB.of am))) (ag (pv 3))))))
 (aq (jD (i:=6) sc_law.nd rfl (Or.inl rfl) (iX ao))
 (aq (cw PassesOwn.never rfl (cS rfl T.range (ab (bf (EB.of (ay (ag (pv 1)) (EB.of am))) rfl T.len ah (fun t ha=>aE ax rfl T.len PySem.boot_len ha (he:=ah) (hpl:=au))) ao aF) (bK aF)) (aS (i:=7) sc_law.nd rfl (Or.inl rfl))
 (ar (iL (pv 6) (cC (bG (N':=Nc_law_0) (n:=1) rfl rfl rfl (e8 12) b0 (b_ (aV fn_law_between (hr.mono (by decide)) rfl (ab (ai (pv 1)) (ab (ai (pv 3)) (ab (ai (pv 7)) ao aa) aa) aa) rfl (he:=aa) (hpl:=(av aa (av aa au))))) (fun L cs s H fp=>(aS (i:=12) wB rfl (Or.inl rfl))) (fun L cs s H fp=>bm) (fun L cs s H fp=>(ay (EB.of (ay (EB.of (ay (ag (pv 4)) (EB.of am))) (ag (pv 12)))) (ag (pv 5)))))) (hst:=aZ))))
 (aq (bx (i:=8) sc_law.nd rfl (Or.inl rfl) (dm (ab (cC (fF (EB.of (ay (ag (pv 4)) (EB.of am))) rfl T.list ah (fun t ha=>bw bS rfl T.list boot_list ha (he:=ah) (hpl:=au)))) (ab (xk (rY fn_law_copy (hr.mono (by decide)) rfl (ab (ay (ag (pv 4)) (EB.of am)) ao ah) (he:=ah) (hpl:=au))) ao aF) aF)))
 (aq (zC (i:=9) sc_law.nd rfl (Or.inl rfl) (rY fn_change_of (hr.mono (by decide)) rfl (ab (ai (pv 2)) (ab (ai (pv 3)) (ab (ai (pv 8)) (ab (ai (pv 5)) ao aa) aa) aa) aa) (he:=aa) (hpl:=(av aa (av aa (av aa au))))))
 (aq (bD (jC (fH (dB (dQ (yO (B2 fn_law_lists_like (hr.mono (by decide)) rfl (uU (AN (pv 9)) (uU (B1 (ag (pv 6))) AZ aa) aa) (he:=aa) (hpl:=(av aa au)))))) (ft (du (bM hr) (ag (pv 8)) (ag (pv 4))))))
 (ar (aT eW))
 aQ)
 (hE 6 (aq (bx (i:=10) sc_law.nd rfl (Or.inl rfl) (xk (rY fn_law_copy (hr.mono (by decide)) rfl (ab (ai (pv 6)) ao aa) (he:=aa) (hpl:=au))))
 (aq (bx (i:=11) sc_law.nd rfl (Or.inl rfl) (aV fn_thing_of (hr.mono (by decide)) rfl (ab (ai (pv 2)) (ab (ai (pv 3)) (ab (ai (pv 8)) (ab (ai (pv 10)) ao aa) aa) aa) aa) rfl (he:=aa) (hpl:=(av aa (av aa (av aa au))))))
 (aq (bD (jC (fH (dB (dQ (aV fn_law_whole (hr.mono (by decide)) rfl (ab (ai (pv 11)) ao aa) rfl (he:=aa) (hpl:=au)))) (fH (du (bM hr) (ag (pv 11)) (ag (pv 5))) (fH (du (bM hr) (ag (pv 8)) (ag (pv 4))) (ft (du (bM hr) (ag (pv 10)) (ag (pv 6))))))))
 (ar (aT eW))
 aQ)
 (aq (Bm (qV (k':=.s) (BM (ue (pv 9)) (ai (pv 3))) (uq am) (hst:=aD)))
 (aq (Bm (qV (k':=(.l .s)) (ue (pv 9)) (zl (iX ao)) (hst:=eE)))
 (hE 6 (ar (aT (aV fn_law_lists_like (hr.mono (by decide)) rfl (ab (xk (rY fn_change_of (hr.mono (by decide)) rfl (ab (ai (pv 2)) (ab (ai (pv 3)) (ab (ai (pv 8)) (ab (ai (pv 5)) ao aa) aa) aa) aa) (he:=aa) (hpl:=(av aa (av aa (av aa au)))))) (ab (ai (pv 6)) ao aa) aF) rfl (he:=aF) (hpl:=(av aa au)))))))))))))))))))))))
end DL
namespace DL
open PySem L2 Ar
theorem iY (a b:Int):aK [.int a,.int b]=.val (.bl (decide (0<=a) && decide (a < b))):=by
 simp only [aK,ip]
 show fin (ret _ [some (.shr (.int a)),some (.shr (.int b))])=_
 by_cases h:(0:Int)<=a <;> simp [h]
theorem hC {a b:Nat} (h:a < b):aK [.int (a:Int),.int (b:Int)]=.val (.bl true):=by
 rw [iY];simp;exact h
section
variable {en:List (Nat × Nat)} {re:List Nat} {tb:List (List Int)}
theorem lI (h:bW en re tb):bV [bC en,aP re]=.val .non:=by
 have h1:=h.nb1;have h2:=h.nb6;have h3:=h.na1;have h4:=h.na40
 simp only [bV,fy]
 show fin (sq _ _ [some (.shr (bC en)),some (.shr (aP re))])=_
 have a1:(1:Int)<=re.length:=by omega
 have a2:(re.length:Int)<=6:=by omega
 have a3:(1:Int)<=en.length:=by omega
 have a4:(en.length:Int)<=40:=by omega
 simp [a1,a2,a3,a4]
theorem xi {k:Nat} {x:D} (e:(en.map dw)[k]?=some x):k < en.length/\x=dw (en.getD k (0,0)):=by
 have hk:k < en.length:=by have:=(List.getElem?_eq_some_iff.mp e).1;simpa using this
 rw [fu (d:=(0,0)) hk] at e
 exact ⟨hk,(Option.some.inj e).symm⟩
theorem zH {k:Nat} {x:D} (e:(re.map nD)[k]?=some x):k < re.length/\x=nD (re.getD k 0):=by
 have hk:k < re.length:=by have:=(List.getElem?_eq_some_iff.mp e).1;simpa using this
 rw [fu (d:=0) hk] at e
 exact ⟨hk,(Option.some.inj e).symm⟩
theorem sN {k:Nat} {x:D} (e:(tb.map ak)[k]?=some x):k < tb.length/\x=ak (tb.getD k []):=by
 have hk:k < tb.length:=by have:=(List.getElem?_eq_some_iff.mp e).1;simpa using this
 rw [fu (d:=[]) hk] at e
 exact ⟨hk,(Option.some.inj e).symm⟩
theorem sS {r:List Int} {k:Nat} {x:D} (e:(r.map D.int)[k]?=some x):k < r.length/\x=.int (r.getD k (-1)):=by
 have hk:k < r.length:=by have:=(List.getElem?_eq_some_iff.mp e).1;simpa using this
 rw [fu (d:=-1) hk] at e
 exact ⟨hk,(Option.some.inj e).symm⟩
theorem keep {F:Rho->R Out} {ρ1:Rho} {I:Rho->Prop} (h:F ρ1=.val (.nx ρ1)) (hI:I ρ1):∃ ρ2,F ρ1=.val (.nx ρ2)/\I ρ2:=⟨ρ1,h,hI⟩
theorem ia {F:Rho->R Out} {i j:Nat} {xs:List D} {ρ:Rho} (I:Rho->Prop) (step:∀ (k:Nat) x ρ,xs[k]?=some x->I ρ->∃ ρ2,F ((ρ.set i (some (.shr (.int (k:Int))))).set j (some (.shr x)))=.val (.nx ρ2)/\I ρ2) (h:I ρ):fin (cR (tg2 i j) F (enu 0 xs) ρ)=.val .non:=by
 obtain ⟨ρ',e,_⟩:=m4 I step h
 rw [e];rfl
theorem oy (h:bW en re tb):cQ [bC en,.int re.length]=.val .non:=by
 simp only [cQ,gs]
 show fin (cR (tg2 2 3) _ (enu 0 (en.map dw)) [some (.shr (bC en)),some (.shr (.int re.length)),none,none])=_
 refine ia (fun ρ=>∃ a b,ρ=[some (.shr (bC en)),some (.shr (.int re.length)),a,b]) (fun k x ρ ex hI=>?_) ⟨none,none,rfl⟩
 obtain ⟨a,b,rfl⟩:=hI
 obtain ⟨hk,rfl⟩:=xi ex
 obtain ⟨b1,b2⟩:=h.eb k hk
 refine keep ?_ ⟨_,_,rfl⟩
 simp [-List.getD_eq_getElem?_getD,hC b1,hC b2]
theorem nv (h:bW en re tb):cy [bC en,aP re]=.val .non:=by
 simp only [cy,fS]
 show fin (cR (tg2 2 3) _ (enu 0 (re.map nD)) [some (.shr (bC en)),some (.shr (aP re)),none,none])=_
 refine ia (fun ρ=>∃ a b,ρ=[some (.shr (bC en)),some (.shr (aP re)),a,b]) (fun k x ρ ex hI=>?_) ⟨none,none,rfl⟩
 obtain ⟨a,b,rfl⟩:=hI
 obtain ⟨hk,rfl⟩:=zH ex
 obtain ⟨b1,b2⟩:=h.rs k hk
 have e2:fne (dw (en.getD (re.getD k 0) (0,0))) (.tup [.int (k:Int),.int (k:Int)])=.val (.bl false):=by
  rw [b2];exact fJ (x:=dw (k,k)) (j3 _)
 refine keep ?_ ⟨_,_,rfl⟩
 simp [-List.getD_eq_getElem?_getD,hC b1,fE b1,e2]
theorem ow (h:bW en re tb):cP [aj tb,.int en.length]=.val .non:=by
 simp only [cP,gr]
 have ht:=h.tl
 have:sq (DL.iff (tst (bin fne (una aU (vb 0)) (vb 1))) bad nxt) (cA (fZ (aC (vr 0) aN)) (tg2 2 3) (DL.iff (tst (bin fne (una aU (vb 3)) (vb 1))) bad nxt)) (st0 ge [aj tb,.int en.length])=cR (tg2 2 3) (DL.iff (tst (bin fne (una aU (vb 3)) (vb 1))) bad nxt) (enu 0 (tb.map ak)) [some (.shr (aj tb)),some (.shr (.int en.length)),none,none]:=by
  show sq _ _ [some (.shr (aj tb)),some (.shr (.int en.length)),none,none]=_
  simp [ht];rfl
 rw [this]
 refine ia (fun ρ=>∃ a b,ρ=[some (.shr (aj tb)),some (.shr (.int en.length)),a,b]) (fun k x ρ ex hI=>?_) ⟨none,none,rfl⟩
 obtain ⟨a,b,rfl⟩:=hI
 obtain ⟨hk,rfl⟩:=sN ex
 have b1:=h.rl k (by omega)
 refine keep ?_ ⟨_,_,rfl⟩
 simp [-List.getD_eq_getElem?_getD,b1]
theorem nw (h:bW en re tb) {i j:Nat} (hi:i < en.length) (hj:j < en.length):cz [bC en,.int (i:Int),.int (j:Int),.int ((tb.getD i []).getD j (-1))]=.val .non:=by
 simp only [cz,fT]
 show fin (DL.iff _ _ _ [some (.shr (bC en)),some (.shr (.int (i:Int))),some (.shr (.int (j:Int))),some (.shr (.int ((tb.getD i []).getD j (-1))))])=_
 by_cases e:(en.getD i (0,0)).2=(en.getD j (0,0)).1
 ·obtain ⟨k,k1,k2,k3⟩:=h.tp i j hi hj e
  have e2:fne (dw (en.getD k (0,0))) (.tup [nD (en.getD i (0,0)).1,nD (en.getD j (0,0)).2])=.val (.bl false):=by
   rw [k3];exact fJ (x:=dw _) (j3 _)
  rw [k2]
  simp [-List.getD_eq_getElem?_getD,fE hi,fE hj,e,hC k1,fE k1,e2]
 ·have e1:=h.tn i j hi hj e
  have e':((en.getD i (0,0)).2:Int) ≠ ((en.getD j (0,0)).1:Int):=by omega
  rw [e1]
  simp [-List.getD_eq_getElem?_getD,fE hi,fE hj,e']
theorem nu (h:bW en re tb):cx [bC en,aj tb]=.val .non:=by
 simp only [cx,fR]
 show fin (cR (tg2 2 3) _ (enu 0 (tb.map ak)) [some (.shr (bC en)),some (.shr (aj tb)),none,none,none,none])=_
 refine ia (fun ρ=>∃ a b c d,ρ=[some (.shr (bC en)),some (.shr (aj tb)),a,b,c,d]) (fun k x ρ ex hI=>?_) ⟨none,none,none,none,rfl⟩
 obtain ⟨a,b,c,d,rfl⟩:=hI
 obtain ⟨hk,rfl⟩:=sN ex
 have hk':k < en.length:=by have:=h.tl;omega
 show ∃ ρ2,cR (tg2 4 5) _ (enu 0 ((tb.getD k []).map D.int)) [some (.shr (bC en)),some (.shr (aj tb)),some (.shr (.int (k:Int))),some (.shr (ak (tb.getD k []))),c,d]=_/\_
 have:=m4 (i:=4) (j:=5) (F:=drp (cal 4 cz (aC (vr 0) (aC (vr 2) (aC (vr 4) (aC (vr 5) aN)))))) (fun ρ=>∃ c d,ρ=[some (.shr (bC en)),some (.shr (aj tb)),some (.shr (.int (k:Int))),some (.shr (ak (tb.getD k []))),c,d]) (xs:=(tb.getD k []).map D.int) (fun m x ρ ex hI=>?_) (ρ:=[some (.shr (bC en)),some (.shr (aj tb)),some (.shr (.int (k:Int))),some (.shr (ak (tb.getD k []))),c,d]) ⟨c,d,rfl⟩
 ·obtain ⟨ρ',e,c',d',rfl⟩:=this
  exact ⟨_,e,_,_,_,_,rfl⟩
 ·obtain ⟨c,d,rfl⟩:=hI
  obtain ⟨hm,rfl⟩:=sS ex
  have hm':m < en.length:=by rw [h.rl k hk'] at hm;exact hm
  refine keep ?_ ⟨_,_,rfl⟩
  simp [-List.getD_eq_getElem?_getD,nw h hk' hm']
theorem o3 (h:bW en re tb) {i j:Nat} (hi:i < en.length) (hj:j < en.length):(tb.getD i []).getD j (-1)=-1\/∃ k:Nat,k < en.length/\(tb.getD i []).getD j (-1)=(k:Int):=by
 by_cases e:(en.getD i (0,0)).2=(en.getD j (0,0)).1
 ·obtain ⟨k,k1,k2,_⟩:=h.tp i j hi hj e
  exact .inr ⟨k,k1,k2⟩
 ·exact .inl (h.tn i j hi hj e)
theorem ki (h:bW en re tb) {i j k:Nat} (hi:i < en.length) (hj:j < en.length) (e:(tb.getD i []).getD j (-1)=(k:Int)):(en.getD i (0,0)).2=(en.getD j (0,0)).1/\k < en.length/\en.getD k (0,0)=((en.getD i (0,0)).1,(en.getD j (0,0)).2):=by
 by_cases e0:(en.getD i (0,0)).2=(en.getD j (0,0)).1
 ·obtain ⟨k',k1,k2,k3⟩:=h.tp i j hi hj e0
  have:k'=k:=by rw [k2] at e;omega
  subst this
  exact ⟨e0,k1,k3⟩
 ·rw [h.tn i j hi hj e0] at e;omega
theorem iG (h:bW en re tb):bg [bC en,aP re,aj tb]=.val .non:=by
 simp only [bg,dP]
 show fin (cR (tg2 3 4) _ (enu 0 (en.map dw)) [some (.shr (bC en)),some (.shr (aP re)),some (.shr (aj tb)),none,none])=_
 refine ia (fun ρ=>∃ a b,ρ=[some (.shr (bC en)),some (.shr (aP re)),some (.shr (aj tb)),a,b]) (fun k x ρ ex hI=>?_) ⟨none,none,rfl⟩
 obtain ⟨a,b,rfl⟩:=hI
 obtain ⟨hk,rfl⟩:=xi ex
 obtain ⟨b1,b2⟩:=h.eb k hk
 have r1:=(h.rs _ b1).1
 have r2:=(h.rs _ b2).1
 have u1:=h.ul k hk
 have u2:=h.ur k hk
 have ht:=h.tl
 have t1:=cB (tb:=tb) (show re.getD (en.getD k (0,0)).1 0 < tb.length by omega)
 have t2:=cB (tb:=tb) (show k < tb.length by omega)
 have t3:=dg (r:=tb.getD (re.getD (en.getD k (0,0)).1 0) []) (i:=k) (by rw [h.rl _ r1];exact hk)
 have t4:=dg (r:=tb.getD k []) (i:=re.getD (en.getD k (0,0)).2 0) (by rw [h.rl _ hk];exact r2)
 refine keep ?_ ⟨_,_,rfl⟩
 simp [-List.getD_eq_getElem?_getD,me b1,me b2,t1,t2,t3,t4,u1,u2]
theorem lH (h:bW en re tb) {i j x:Nat} (hi:i < en.length) (hj:j < en.length) (e:(tb.getD i []).getD j (-1)=(x:Int)):bU [aj tb,.int (i:Int),.int (j:Int),.int (x:Int)]=.val .non:=by
 simp only [bU,fx]
 have ht:=h.tl
 obtain ⟨_,hx,_⟩:=ki h hi hj e
 have t1:=cB (tb:=tb) (show i < tb.length by omega)
 have t2:=cB (tb:=tb) (show j < tb.length by omega)
 have t3:=cB (tb:=tb) (show x < tb.length by omega)
 have:∀ F,cA (fZ (aC (bin fix (vb 0) (vb 2)) aN)) (tg2 4 5) F (st0 fq [aj tb,.int (i:Int),.int (j:Int),.int (x:Int)])=cR (tg2 4 5) F (enu 0 ((tb.getD j []).map D.int)) [some (.shr (aj tb)),some (.shr (.int (i:Int))),some (.shr (.int (j:Int))),some (.shr (.int (x:Int))),none,none]:=fun F=>by
  show cA _ _ F [some (.shr (aj tb)),some (.shr (.int (i:Int))),some (.shr (.int (j:Int))),some (.shr (.int (x:Int))),none,none]=_
  simp [-List.getD_eq_getElem?_getD,t2];rfl
 rw [this]
 refine ia (fun ρ=>∃ a b,ρ=[some (.shr (aj tb)),some (.shr (.int (i:Int))),some (.shr (.int (j:Int))),some (.shr (.int (x:Int))),a,b]) (fun k d ρ ex hI=>?_) ⟨none,none,rfl⟩
 obtain ⟨a,b,rfl⟩:=hI
 obtain ⟨hk,rfl⟩:=sS ex
 rw [h.rl j hj] at hk
 refine keep ?_ ⟨_,_,rfl⟩
 rcases o3 h hj hk with ey | ⟨y,hy,ey⟩
 ·rw [ey];simp
 ·rw [ey]
  have as:=h.as i j k x y hi hj hk e ey
  have t4:=dg (r:=tb.getD x []) (i:=k) (by rw [h.rl _ hx];exact hk)
  have t5:=dg (r:=tb.getD i []) (i:=y) (by rw [h.rl _ hi];exact hy)
  have ny:(y:Int) ≠ -1:=by omega
  simp [-List.getD_eq_getElem?_getD,t1,t3,t4,t5,as,ny]
theorem lG (h:bW en re tb):bT [aj tb]=.val .non:=by
 simp only [bT,fw]
 show fin (cR (tg2 1 2) _ (enu 0 (tb.map ak)) [some (.shr (aj tb)),none,none,none,none])=_
 refine ia (fun ρ=>∃ a b c d,ρ=[some (.shr (aj tb)),a,b,c,d]) (fun k x ρ ex hI=>?_) ⟨none,none,none,none,rfl⟩
 obtain ⟨a,b,c,d,rfl⟩:=hI
 obtain ⟨hk,rfl⟩:=sN ex
 have hk':k < en.length:=by have:=h.tl;omega
 have:=m4 (i:=3) (j:=4) (F:=DL.iff (tst (bin fne (vb 4) (una lE (kd (.int 1))))) (drp (cal 4 bU (aC (vr 0) (aC (vr 1) (aC (vr 3) (aC (vr 4) aN)))))) nxt) (fun ρ=>∃ c d,ρ=[some (.shr (aj tb)),some (.shr (.int (k:Int))),some (.shr (ak (tb.getD k []))),c,d]) (xs:=(tb.getD k []).map D.int) (fun m x ρ ex hI=>?_) (ρ:=[some (.shr (aj tb)),some (.shr (.int (k:Int))),some (.shr (ak (tb.getD k []))),c,d]) ⟨c,d,rfl⟩
 ·obtain ⟨ρ',e,c',d',rfl⟩:=this
  exact ⟨_,e,_,_,_,_,rfl⟩
 ·obtain ⟨c,d,rfl⟩:=hI
  obtain ⟨hm,rfl⟩:=sS ex
  have hm':m < en.length:=by rw [h.rl k hk'] at hm;exact hm
  refine keep ?_ ⟨_,_,rfl⟩
  rcases o3 h hk' hm' with ey | ⟨y,hy,ey⟩
  ·rw [ey];simp
  ·have:=lH h hk' hm' ey
   rw [ey]
   have ny:(y:Int) ≠ -1:=by omega
   simp [-List.getD_eq_getElem?_getD,this,ny]
theorem yL (h:bW en re tb):gt (js (bC en) (aP re) (aj tb))=.val (.ob (bC en) (aP re) (aj tb)):=by
 have n1:=h.na40
 have n2:=h.tl
 have hf:bq (fIt (vr 3)) 1 (tgN 4) tT (eLs (fIt (vb 4))) (js (bC en) (aP re) (aj tb))=.val (tb.map ak):=bZ (f:=ak) rfl (by omega) fun r _=>rfl
 unfold gt yT
 rw [hf]
 unfold js
 simp [-List.getD_eq_getElem?_getD,vI,lI h,oy h,nv h,ow h,nu h,iG h,lG h]
 rfl
end
end DL
namespace DL
open PySem L2 Ar
theorem ic (ns:List Int) (k:Nat):∃ c:Int,aA [.scr ns,.int (k:Int)]=.val (.int c):=by
 simp only [aA,io]
 have m1:∀ i:Int,bu i 65521=.val (.int (i % 65521)):=fun i=>dX (by decide)
 have m2:∀ i:Int,h_ i 48271=.val (.int (i * 48271)):=fun i=>l_ (by decide)
 have m3:∀ i:Int,h_ i 30103=.val (.int (i * 30103)):=fun i=>l_ (by decide)
 show ∃ c,fin (sq _ _ [some (.shr (.scr ns)),some (.shr (.int (k:Int))),none])=_
 have t1:tst (bin (iI flt) (vb 1) (una aU (vb 0))) [some (.shr (.scr ns)),some (.shr (.int (k:Int))),none]=.val (decide ((k:Int) < (ns.length:Int))):=Eq.trans rfl rfl
 rw [aX,cD,t1,ae]
 by_cases h:k < ns.length
 ·have e:fix (.scr ns) (.int (k:Int))=.val (.int ns[k]):=zm (List.getElem?_eq_getElem h)
  refine ⟨ns[k],?_⟩
  rw [if_pos (decide_eq_true (Int.ofNat_lt.mpr h)),dM,bO]
  show fin (R.bind (R.bind (fix (.scr ns) (.int (k:Int))) _) _)=_
  rw [e];rfl
 ·rw [if_neg (by rw [decide_eq_false (fun z=>h (Int.ofNat_lt.mp z))];decide),iR,ae]
  dsimp only
  have t2:tst (bin (iI fgt) (una aU (vb 0)) (kd (.int 0))) [some (.shr (.scr ns)),some (.shr (.int (k:Int))),some (.shr (.int 0))]=.val (decide ((0:Int) < (ns.length:Int))):=Eq.trans rfl rfl
  have last:∀ b:Int,ret (bin (iI bu) (bin cX (bin (iI h_) (bin (iI bu) (vb 2) (kd (.int 65521))) (kd (.int 48271))) (bin (iI h_) (vb 1) (kd (.int 30103)))) (kd (.int 65521))) [some (.shr (.scr ns)),some (.shr (.int (k:Int))),some (.shr (.int b))]=.val (.rt (.int ((b % 65521 * 48271 + k * 30103) % 65521))):=fun b=>by
   have v2:vb 2 [some (.shr (.scr ns)),some (.shr (.int (k:Int))),some (.shr (.int b))]=.val (.int b):=Eq.trans rfl rfl
   have v1:vb 1 [some (.shr (.scr ns)),some (.shr (.int (k:Int))),some (.shr (.int b))]=.val (.int (k:Int)):=Eq.trans rfl rfl
   rw [dM,bO _ (iI bu),bO _ cX,bO _ (iI h_),bO _ (iI bu),v2,ae,lh,ae,m_,m1,ae,lh,ae,m_,m2,ae,bO _ (iI h_),v1,ae,lh,ae,m_,m3,ae,uA,ae,ae,m_,m1,ae]
  have a2:asg 2 (kd (.int 0)) [some (.shr (.scr ns)),some (.shr (.int (k:Int))),none]=.val (.nx [some (.shr (.scr ns)),some (.shr (.int (k:Int))),some (.shr (.int 0))]):=Eq.trans rfl rfl
  rw [aX,a2,ae]
  dsimp only
  rw [aX,cD,t2,ae]
  by_cases h0:0 < ns.length
  ·have e:fix (.scr ns) (.int 0)=.val (.int ns[0]):=zm (i:=0) (List.getElem?_eq_getElem h0)
   refine ⟨(ns[0] % 65521 * 48271 + k * 30103) % 65521,?_⟩
   rw [if_pos (decide_eq_true (show (0:Int) < (ns.length:Int) from Int.ofNat_lt.mpr h0)),fo,bO]
   show fin (R.bind (R.bind (fix (.scr ns) (.int 0)) _) _)=_
   rw [e]
   show fin (ret _ [some (.shr (.scr ns)),some (.shr (.int (k:Int))),some (.shr (.int ns[0]))])=_
   rw [last];rfl
  ·refine ⟨(0 % 65521 * 48271 + k * 30103) % 65521,?_⟩
   rw [if_neg (by rw [decide_eq_false (fun (z:(0:Int) < (ns.length:Int))=>h0 (Int.ofNat_lt.mp z))];decide),iR,ae]
   dsimp only
   rw [last];rfl
theorem kg (s:Int):∃ c:Int,aR [.int s]=.val (.int c):=by
 simp only [aR,ii]
 have m1:∀ i:Int,bu i 2147483647=.val (.int (i % 2147483647)):=fun i=>dX (by decide)
 have m2:∀ i:Int,h_ i 48271=.val (.int (i * 48271)):=fun i=>l_ (by decide)
 show ∃ c,fin (ret _ [some (.shr (.int s))])=_
 refine ⟨(s * 48271 + 11) % 2147483647,?_⟩
 simp [m1,m2]
theorem vW (m:Nat) (h:m=1\/m=2\/m=3\/m=4):∃ sz ∈ szs,D.lst ((List.range m).map fun _=>D.int 1)=aP sz:=by
 rcases h with rfl | rfl | rfl | rfl
 ·exact ⟨[1],by decide,rfl⟩
 ·exact ⟨[1,1],by decide,rfl⟩
 ·exact ⟨[1,1,1],by decide,rfl⟩
 ·exact ⟨[1,1,1,1],by decide,rfl⟩
noncomputable def l6:List (List Nat):=[[1,2],[2,1],[2,2],[0,2],[2],[1]]
noncomputable def l5:List (List Nat):=[[1,1,2],[0,1,2],[1,2,2],[2,1,0],[2,2]]
theorem BP:∀ i,i < 6->l6.getD i [] ∈ szs:=by decide
theorem BQ:∀ i,i < 5->l5.getD i [] ∈ szs:=by decide
theorem fj (c:Int) (m:Nat) (h:0 < m):∃ i:Nat,i < m/\c % (m:Int)=(i:Int):=by
 have h':(0:Int) < (m:Int):=Int.ofNat_lt.mpr h
 obtain ⟨i,e⟩:=Int.eq_ofNat_of_zero_le (Int.emod_nonneg c (Int.ne_of_gt h'))
 refine ⟨i,?_,e⟩
 have:=Int.emod_lt_of_pos c h'
 rw [e] at this
 exact Int.ofNat_lt.mp this
theorem w6 (ns:List Int) (k:Nat):∃ sz ∈ szs,dj [.scr ns,.int (k:Int)]=.val (aP sz):=by
 simp only [dj,gF]
 obtain ⟨c,hc⟩:=ic ns k
 have d4:e9 c 4=.val (.int (c / 4)):=uz (by decide)
 show ∃ sz ∈ szs,fin (sq _ _ [some (.shr (.scr ns)),some (.shr (.int (k:Int))),none,none])=_
 have x1:asg 2 (cal 2 aA (aC (vr 0) (aC (vr 1) aN))) [some (.shr (.scr ns)),some (.shr (.int (k:Int))),none,none]=.val (.nx [some (.shr (.scr ns)),some (.shr (.int (k:Int))),some (.shr (.int c)),none]):=by
  rw [fo,xu]
  show R.bind (noex (aA [.scr ns,.int (k:Int)])) _=_
  rw [hc];rfl
 have x2:asg 3 (bin (iI bu) (vb 2) (kd (.int 4))) [some (.shr (.scr ns)),some (.shr (.int (k:Int))),some (.shr (.int c)),none]=.val (.nx [some (.shr (.scr ns)),some (.shr (.int (k:Int))),some (.shr (.int c)),some (.shr (.int (c % 4)))]):=by
  rw [fo,bO]
  show R.bind (bu c 4) _=_
  rw [dX (by decide)];rfl
 rw [aX,x1,ae];dsimp only
 rw [aX,x2,ae];dsimp only
 have ix:∀ (w:Int) (m:Int),0 < m->bin (iI bu) (bin (iI e9) (vb 2) (kd (.int 4))) (kd (.int m)) [some (.shr (.scr ns)),some (.shr (.int (k:Int))),some (.shr (.int c)),some (.shr (.int w))]=.val (.int (c / 4 % m)):=fun w m hm=>by
  rw [bO,bO]
  show R.bind (e9 c 4) _=_
  rw [d4]
  show bu (c / 4) m=_
  exact dX hm
 have ts:∀ (w:Int) (m:Int),tst (bin feq (vb 3) (kd (.int m))) [some (.shr (.scr ns)),some (.shr (.int (k:Int))),some (.shr (.int c)),some (.shr (.int w))]=.val (decide (w=m)):=fun w m=>by
  rw [dq,bO]
  show R.bind (feq (.int w) (.int m)) asB=_
  rw [tu];rfl
 obtain ⟨i,hi,ei⟩:=fj c 4 (by decide)
 have ei:c % 4=(i:Int):=ei
 rw [ei]
 match i,hi with
 | 0,_ =>
  obtain ⟨j,hj,ej⟩:=fj (c / 4) 4 (by decide)
  have ej:c / 4 % 4=(j:Int):=ej
  have hz:n0 [.int (1 + c / 4 % 4)]=.val (rng 0 (1 + j)):=by
   rw [ej]
   have:=gR (n:=1 + j) (Nat.le_trans (Nat.add_le_add_left (Nat.le_of_lt hj) 1) (by decide))
   rw [Int.natCast_add] at this
   exact this
  have hf:bq (dh (aC (bin cX (kd (.int 1)) (bin (iI bu) (bin (iI e9) (vb 2) (kd (.int 4))) (kd (.int 4)))) aN)) 1 (tgN 4) tT (kd (.int 1)) [some (.shr (.scr ns)),some (.shr (.int (k:Int))),some (.shr (.int c)),some (.shr (.int ((0:Nat):Int)))]=.val ((List.range (1 + j)).map fun _=>D.int 1):=by
   refine nn ?_ (Nat.le_trans (Nat.add_le_add_left (Nat.le_of_lt hj) 1) (by decide)) fun k _=>rfl
   rw [uB,e7,bO,lh,ae,ix _ 4 (by decide),ae,uA,ae,ph,ae,ae,hz]
  obtain ⟨sz,hs,e⟩:=vW (1 + j) (by
   match j,hj with
   | 0,_=>exact .inl rfl
   | 1,_=>exact .inr (.inl rfl)
   | 2,_=>exact .inr (.inr (.inl rfl))
   | 3,_=>exact .inr (.inr (.inr rfl)))
  refine ⟨sz,hs,?_⟩
  rw [aX,cD,ts,ae,if_pos (by decide),dM,cE,hf,ae,ae,ae]
  exact congrArg R.val e
 | 1,_ =>
  obtain ⟨j,hj,ej⟩:=fj (c / 4) 6 (by decide)
  have ej:c / 4 % 6=(j:Int):=ej
  refine ⟨_,BP j hj,?_⟩
  have el:eL (aC (eL (aC (kd (.int 1)) (aC (kd (.int 2)) aN))) (aC (eL (aC (kd (.int 2)) (aC (kd (.int 1)) aN))) (aC (eL (aC (kd (.int 2)) (aC (kd (.int 2)) aN))) (aC (eL (aC (kd (.int 0)) (aC (kd (.int 2)) aN))) (aC (eL (aC (kd (.int 2)) aN)) (aC (eL (aC (kd (.int 1)) aN)) aN)))))) [some (.shr (.scr ns)),some (.shr (.int (k:Int))),some (.shr (.int c)),some (.shr (.int ((1:Nat):Int)))]=.val (.lst (l6.map aP)):=Eq.trans rfl rfl
  rw [aX,cD,ts,ae,if_neg (by decide),iR,ae];dsimp only
  rw [aX,cD,ts,ae,if_pos (by decide),dM,bO,el,ae,ix _ 6 (by decide),ae,ej,jz (fu (d:=[]) hj)]
  rfl
 | 2,_ =>
  refine ⟨[3],by decide,?_⟩
  rw [aX,cD,ts,ae,if_neg (by decide),iR,ae];dsimp only
  rw [aX,cD,ts,ae,if_neg (by decide),iR,ae];dsimp only
  rw [aX,cD,ts,ae,if_pos (by decide)]
  exact Eq.trans rfl rfl
 | 3,_ =>
  obtain ⟨j,hj,ej⟩:=fj (c / 4) 5 (by decide)
  have ej:c / 4 % 5=(j:Int):=ej
  refine ⟨_,BQ j hj,?_⟩
  have el:eL (aC (eL (aC (kd (.int 1)) (aC (kd (.int 1)) (aC (kd (.int 2)) aN)))) (aC (eL (aC (kd (.int 0)) (aC (kd (.int 1)) (aC (kd (.int 2)) aN)))) (aC (eL (aC (kd (.int 1)) (aC (kd (.int 2)) (aC (kd (.int 2)) aN)))) (aC (eL (aC (kd (.int 2)) (aC (kd (.int 1)) (aC (kd (.int 0)) aN)))) (aC (eL (aC (kd (.int 2)) (aC (kd (.int 2)) aN))) aN))))) [some (.shr (.scr ns)),some (.shr (.int (k:Int))),some (.shr (.int c)),some (.shr (.int ((3:Nat):Int)))]=.val (.lst (l5.map aP)):=Eq.trans rfl rfl
  rw [aX,cD,ts,ae,if_neg (by decide),iR,ae];dsimp only
  rw [aX,cD,ts,ae,if_neg (by decide),iR,ae];dsimp only
  rw [aX,cD,ts,ae,if_neg (by decide),iR,ae];dsimp only
  rw [dM,bO,el,ae,ix _ 5 (by decide),ae,ej,jz (fu (d:=[]) hj)]
  rfl
end DL
namespace DL
open PySem L2 Ar
noncomputable def gX (x:Arr):KA:=((x.1:Int),(x.2.1:Int),x.2.2.map fun (n:Nat)=>(n:Int))
theorem kN:∀ l:List Nat,gY (l.map nD)=some (l.map fun (n:Nat)=>(n:Int))
 | []=>rfl
 | a :: l=>by
  show (gY (l.map nD)).map _=_
  rw [kN l];rfl
theorem gW (x:Arr):oq (az x)=some (gX x):=by
 show (gY (x.2.2.map nD)).map _=_
 rw [kN];rfl
theorem m8 {x y:Arr} (h:gX x=gX y):x=y:=by
 obtain ⟨a,b,l⟩:=x
 obtain ⟨c,d,m⟩:=y
 simp only [gX,Prod.mk.injEq] at h
 obtain ⟨h1,h2,h3⟩:=h
 have e3:l=m:=by
  have:∀ {l m:List Nat},(l.map fun (n:Nat)=>(n:Int))=(m.map fun (n:Nat)=>(n:Int))->l=m:=by
   intro l
   induction l with
   | nil=>intro m h;cases m with
    | nil=>rfl
    | cons _ _=>simp at h
   | cons a l ih=>intro m h;cases m with
    | nil=>simp at h
    | cons b m =>
     simp only [List.map_cons,List.cons.injEq] at h
     rw [ih h.2];congr 1;omega
  exact this h3
 rw [e3,show a=c by omega,show b=d by omega]
noncomputable def met (kn:List Arr):List (KA × D):=kn.map fun x=>(gX x,.bl true)
theorem uk (kn:List Arr) (x:Arr):((met kn).any fun p=>decide (p.1=gX x))=decide (x ∈ kn):=by
 unfold met
 rw [List.any_map]
 by_cases h:x ∈ kn
 ·rw [decide_eq_true h,List.any_eq_true]
  exact ⟨x,h,by simp⟩
 ·rw [decide_eq_false h,List.any_eq_false]
  intro y hy
  simp only [Function.comp,decide_eq_true_eq]
  exact fun e=>h (m8 e ▸ hy)
theorem uh {kn:List Arr} {x:Arr} (h:x ∉ kn):m7 (met kn) (gX x) (.bl true)=met (kn ++ [x]):=by
 unfold m7
 rw [uk,decide_eq_false h,if_neg (by decide)]
 unfold met
 rw [List.map_append];rfl
theorem um:∀ (l acc:List Arr),(acc ++ l).Nodup->(acc ++ l).length<=100000->rQ (l.map az) (met acc)=some (met (acc ++ l))
 | [],acc,_,_=>by rw [List.append_nil];rfl
 | x :: l,acc,nd,hl=>by
  have hx:x ∉ acc:=fun h=>by
   rw [List.nodup_append] at nd
   exact nd.2.2 x h x (by simp) rfl
  have e:acc ++ x :: l=(acc ++ [x]) ++ l:=by simp
  rw [List.map_cons]
  unfold rQ
  rw [gW]
  dsimp only
  have hl1:(met acc).length<=100000:=by unfold met;rw [List.length_map];simp at hl;omega
  rw [if_pos hl1,uh hx,e]
  exact um l (acc ++ [x]) (by rw [<- e];exact nd) (by rw [<- e];exact hl)
section
variable (ρ:Rho)
@[simp] theorem uM (i:Nat):xn i ρ=.val (.nx (ρ.set i (some (.dic [])))):=Eq.trans rfl rfl
theorem jb {i:Nat} {e:Rho->R D} {xs:List D} {d:D} (h:ρ[i]?=some (some (.own xs))) (he:e ρ=.val d) (hl:xs.length < 100000):app i e ρ=.val (.nx (ρ.set i (some (.own (xs ++ [d]))))):=by
 unfold app;rw [h];dsimp only;rw [he,ae,if_pos (show xs.length < LIM from hl)]
theorem wN {i:Nat} {k e:Rho->R D} {xs:List D} {n:Nat} {d:D} (h:ρ[i]?=some (some (.own xs))) (hk:k ρ=.val (.int (n:Int))) (he:e ρ=.val d) (hn:n<=xs.length) (hl:xs.length < 100000):ins i k e ρ=.val (.nx (ρ.set i (some (.own (xs.take n ++ d :: xs.drop n))))):=by
 unfold ins;rw [h];dsimp only;rw [hk,ae,he,ae];dsimp only
 rw [if_pos ⟨by omega,by omega,(show xs.length < LIM from hl)⟩];rfl
theorem uK {i:Nat} {k e:Rho->R D} {kvs:List (KA × D)} {kd d:D} {ka:KA} (h:ρ[i]?=some (some (.dic kvs))) (hk:k ρ=.val kd) (he:e ρ=.val d) (ek:oq kd=some ka) (hl:kvs.length<=100000):qz i k e ρ=.val (.nx (ρ.set i (some (.dic (m7 kvs ka d))))):=by
 unfold qz;rw [he,ae,hk,j6,ae,ek];dsimp only;rw [h];dsimp only;rw [if_pos hl]
theorem uN {i:Nat} {k:Rho->R D} {kvs:List (KA × D)} {kd d:D} {ka:KA} (h:ρ[i]?=some (some (.dic kvs))) (hk:k ρ=.val kd) (ek:oq kd=some ka) (hg:tq kvs ka=some d):qB i k ρ=.val d:=by
 unfold qB;rw [h];dsimp only;rw [hk,ae,ek];dsimp only;rw [hg]
theorem yS {i:Nat} {k:Rho->R D} {kvs:List (KA × D)} {kd:D} {ka:KA} (h:ρ[i]?=some (some (.dic kvs))) (hk:k ρ=.val kd) (ek:oq kd=some ka):xm i k ρ=.val (!(kvs.any fun p=>decide (p.1=ka))):=by
 unfold xm;rw [hk,ae,h];dsimp only;rw [ek]
end
noncomputable def rC (kn:List Arr) (a:Nat) (o f s m:Option Slt):Rho:=[some (.own (kn.map az)),some (.dic (met kn)),none,some (.shr (nD a)),o,f,s,m]
noncomputable abbrev nW:Rho->R Out:=DL.iff (tst (bin feq (bin fix (vb 5) (kd (.int 1))) (bin fix (vb 6) (kd (.int 0)))))
 (sq (asg 7 (eT (aC (bin fix (vb 5) (kd (.int 0))) (aC (bin fix (vb 6) (kd (.int 1))) (aC (una jv (eLs (bq (fIt (bin fix (vb 5) (kd (.int 2)))) 1 (tgN 8) tT (bin fix (bin fix (vb 6) (kd (.int 2))) (vb 8))))) aN)))))
 (DL.iff (xm 1 (vr 7))
 (sq (qz 1 (vr 7) (kd (.bl true)))
 (app 0 (vr 7)))
 nxt))
 nxt
theorem wy {sz:List Nat} {f s:Arr} (hf:Ok sz f) (hs:Ok sz s) (e:f.2.1=s.1):∀ i ∈ f.2.2,i < s.2.2.length:=by
 obtain ⟨n,m,h1,h2,h3,h4⟩:=hf
 obtain ⟨n',m',g1,g2,g3,g4⟩:=hs
 have hm:m=n':=by rw [e] at h2;rw [h2] at g1;exact Option.some.inj g1
 intro i hi
 rw [g3,<- hm];exact h4 i hi
theorem An {sz:List Nat} (hz:sz ∈ szs) {f:Arr} (hf:Ok sz f):f.2.2.length<=3:=by
 obtain ⟨n,m,h1,h2,h3,h4⟩:=hf
 rw [h3]
 exact (gy sz hz).2.2 n (List.mem_of_getElem? h1)
theorem Kn.few {sz kn} (hz:sz ∈ szs) (g:Kn sz kn):kn.length<=27 :=
 Nat.le_trans (gD g.nd fun x hx=>rR (g.ok x hx)) (qT sz hz)
theorem uO {sz:List Nat} (hz:sz ∈ szs) {f s:Arr} (hf:Ok sz f) (hs:Ok sz s) (e:f.2.1=s.1) {src:Rho->R (List D)} {el:Rho->R D} {ρ:Rho} {i:Nat} (h1:src ρ=.val (f.2.2.map nD)) (h2:∀ k:Nat,el ((ρ ++ List.replicate 1 none).set i (some (.shr (nD k))))=fix (.tup (s.2.2.map nD)) (.int (k:Int))) :
  bq src 1 (tgN i) tT el ρ=.val ((comp f s).2.2.map nD):=by
 have hl:=An hz hf
 have:=bZ (f:=nD) (g:=fun k=>nD (s.2.2.getD k 0)) (n:=1) (i:=i) (e:=el) h1 (by omega) fun k hk=>by
  rw [h2 k]
  exact uv (fu (wy hf hs e k hk))
 rw [this]
 simp only [comp,List.map_map];rfl
theorem so {sz kn:List _} (hz:sz ∈ szs) (hk:Kn sz kn) {f s:Arr} (hf:Ok sz f) (hs:Ok sz s) (a:Nat) (o m:Option Slt) :
  ∃ m',nW (rC kn a o (some (.shr (az f))) (some (.shr (az s))) m)=.val (.nx (rC (iK kn f s) a o (some (.shr (az f))) (some (.shr (az s))) m')):=by
 have few:=Kn.few hz hk
 unfold iK
 by_cases e:f.2.1=s.1
 ·rw [if_pos e]
  have hc:=uO hz hf hs e (src:=fIt (bin fix (vb 5) (kd (.int 2)))) (el:=bin fix (bin fix (vb 6) (kd (.int 2))) (vb 8)) (i:=8) (ρ:=rC kn a o (some (.shr (az f))) (some (.shr (az s))) m) (by simp [rC]) (fun k=>by simp [rC])
  refine ⟨some (.shr (az (comp f s))),?_⟩
  have ht:tst (bin feq (bin fix (vb 5) (kd (.int 1))) (bin fix (vb 6) (kd (.int 0)))) (rC kn a o (some (.shr (az f))) (some (.shr (az s))) m)=.val true:=by
   unfold rC;simp [e]
  have hv:eT (aC (bin fix (vb 5) (kd (.int 0))) (aC (bin fix (vb 6) (kd (.int 1))) (aC (una jv (eLs (bq (fIt (bin fix (vb 5) (kd (.int 2)))) 1 (tgN 8) tT (bin fix (bin fix (vb 6) (kd (.int 2))) (vb 8))))) aN))) (rC kn a o (some (.shr (az f))) (some (.shr (az s))) m)=.val (az (comp f s)):=by
   simp only [kl,e7,gg,cE,hc]
   unfold rC;simp;rfl
  show DL.iff _ _ _ _=_
  rw [cD,ht,ae,if_pos rfl,aX,fo,hv]
  show DL.iff _ _ _ (rC kn a o (some (.shr (az f))) (some (.shr (az s))) (some (.shr (az (comp f s)))))=_
  unfold oK
  rw [cD,yS (kvs:=met kn) _ rfl (kd:=az (comp f s)) rfl (gW _),uk]
  by_cases hin:comp f s ∈ kn
  ·rw [if_pos hin,decide_eq_true hin];rfl
  ·rw [if_neg hin,decide_eq_false hin]
   show sq _ _ _=_
   rw [aX,uK (kvs:=met kn) _ rfl (kd:=az (comp f s)) rfl (d:=.bl true) rfl (gW _) (by unfold met;rw [List.length_map];omega),uh hin]
   rw [ae]
   dsimp only
   rw [jb (xs:=kn.map az) _ rfl (d:=az (comp f s)) rfl (by rw [List.length_map];omega)]
   unfold rC
   rw [List.map_append];rfl
 ·rw [if_neg e]
  refine ⟨m,?_⟩
  have e':¬ ((f.2.1:Int)=(s.1:Int)):=by omega
  unfold rC
  simp [e']
noncomputable abbrev vX:Rho->R (List D):=fIt (eL (aC (eT (aC (bin fix (vb 0) (vb 3)) (aC (vr 4) aN))) (aC (eT (aC (vr 4) (aC (bin fix (vb 0) (vb 3)) aN))) aN)))
theorem yB {sz kn:List _} (hz:sz ∈ szs) (hk:Kn sz kn) {a:Nat} {k o:Arr} (ha:kn[a]?=some k) (ho:Ok sz o) (f s m:Option Slt) :
  ∃ f' s' m',cA vX (tg2 5 6) nW (rC kn a (some (.shr (az o))) f s m)=.val (.nx (rC (kB k kn o) a (some (.shr (az o))) f' s' m')):=by
 have hkk:Ok sz k:=hk.ok k (List.mem_of_getElem? ha)
 have hx:fix (.lst (kn.map az)) (.int (a:Int))=.val (az k):=jz (by rw [List.getElem?_map,ha];rfl)
 have hs:vX (rC kn a (some (.shr (az o))) f s m)=.val [.tup [az k,az o],.tup [az o,az k]]:=by
  unfold rC;simp [hx]
 obtain ⟨m1,e1⟩:=so hz hk hkk ho a (some (.shr (az o))) m
 obtain ⟨m2,e2⟩:=so hz (mv hk hkk ho) ho hkk a (some (.shr (az o))) m1
 refine ⟨some (.shr (az o)),some (.shr (az k)),m2,?_⟩
 rw [eI,hs,ae]
 unfold cR
 show (nW (rC kn a (some (.shr (az o))) (some (.shr (az k))) (some (.shr (az o))) m)).bind _=_
 rw [e1,ae]
 dsimp only
 unfold cR
 show (nW (rC (iK kn k o) a (some (.shr (az o))) (some (.shr (az o))) (some (.shr (az k))) m1)).bind _=_
 rw [e2,ae]
 rfl
theorem uC {sz:List Nat} (hz:sz ∈ szs) {a:Nat} {k:Arr}:∀ (snap:List Arr) {kn:List Arr} (hk:Kn sz kn) (ha:kn[a]?=some k) (hs:∀ o ∈ snap,Ok sz o) (o f s m:Option Slt),
  ∃ o' f' s' m',cR (tgN 4) (cA vX (tg2 5 6) nW) (snap.map az) (rC kn a o f s m)=.val (.nx (rC (pU k kn snap) a o' f' s' m'))
 | [],kn,hk,ha,hs,o,f,s,m=>⟨o,f,s,m,rfl⟩
 | q :: r,kn,hk,ha,hs,o,f,s,m=>by
  have hq:=hs q (by simp)
  have hkk:Ok sz k:=hk.ok k (List.mem_of_getElem? ha)
  obtain ⟨f1,s1,m1,e1⟩:=yB hz hk ha hq f s m
  obtain ⟨o2,f2,s2,m2,e2⟩:=uC hz r (tP hk hkk hq) (t7 (qR k kn q) ha) (fun x hx=>hs x (by simp [hx])) (some (.shr (az q))) f1 s1 m1
  refine ⟨o2,f2,s2,m2,?_⟩
  rw [List.map_cons]
  unfold cR
  show (cA vX (tg2 5 6) nW (rC kn a (some (.shr (az q))) f s m)).bind _=_
  rw [e1,ae]
  exact e2
noncomputable abbrev xw:Rho->R Out:=sq (cA (fIt (eLs (fIt (vb 0)))) (tgN 4) (cA vX (tg2 5 6) nW)) (asg 3 (bin cX (vb 3) (kd (.int 1))))
noncomputable abbrev xo:Rho->R Bool:=tst (bin (iI flt) (vb 3) (una aU (vb 0)))
theorem w_ {sz:List Nat} (hz:sz ∈ szs) {a:Nat} {k:Arr} {kn:List Arr} (hk:Kn sz kn) (ha:kn[a]?=some k) (o f s m:Option Slt) :
  ∃ o' f' s' m',xw (rC kn a o f s m)=.val (.nx (rC (pU k kn kn) (a + 1) o' f' s' m')):=by
 obtain ⟨o',f',s',m',e⟩:=uC hz kn hk ha hk.ok o f s m
 refine ⟨o',f',s',m',?_⟩
 show sq _ _ _=_
 rw [aX,eI]
 have:fIt (eLs (fIt (vb 0))) (rC kn a o f s m)=.val (kn.map az):=by unfold rC;simp
 rw [this,ae,e,ae]
 show asg 3 _ _=_
 unfold rC
 simp
theorem si {sz:List Nat} (hz:sz ∈ szs):∀ (n a:Nat) (kn:List Arr) (o f s m:Option Slt),Kn sz kn->Cl kn a->a<=kn.length->28<=n + a ->
  ∃ kn' a' o' f' s' m',whD xo xw n (rC kn a o f s m)=.val (.nx (rC kn' a' o' f' s' m'))/\Kn sz kn'/\kn <+: kn'/\Cl kn' kn'.length
 | 0,a,kn,o,f,s,m,hk,hc,hl,hn=>by have:=Kn.few hz hk;omega
 | n + 1,a,kn,o,f,s,m,hk,hc,hl,hn=>by
  have hcond:xo (rC kn a o f s m)=.val (decide (a < kn.length)):=by
   unfold rC;simp
  unfold whD
  rw [hcond,ae]
  by_cases h:a < kn.length
  ·rw [decide_eq_true h,if_pos rfl]
   have ha:kn[a]?=some kn[a]:=by simp [h]
   obtain ⟨o',f',s',m',e⟩:=w_ hz hk ha o f s m
   have hkk:Ok sz kn[a]:=hk.ok _ (List.getElem_mem h)
   have pre:=iQ kn[a] kn kn
   obtain ⟨kn',a',o2,f2,s2,m2,e2,g1,g2,g3⟩:=si hz n (a + 1) (pU kn[a] kn kn) o' f' s' m' (uc hkk hk hk.ok) (x8 hc ha) (Nat.le_trans h pre.length_le) (by omega)
   rw [e,ae]
   exact ⟨kn',a',o2,f2,s2,m2,e2,g1,pre.trans g2,g3⟩
  ·rw [decide_eq_false h]
   have:a=kn.length:=by omega
   subst this
   exact ⟨kn,kn.length,o,f,s,m,rfl,hk,List.prefix_refl _,hc⟩
theorem vB {sz kn:List _} (hz:sz ∈ szs) (hk:Kn sz kn):∃ kn',cv (kn.map az)=.val (.lst (kn'.map az))/\Kn sz kn'/\kn <+: kn'/\∀ x ∈ kn',∀ y ∈ kn',x.2.1=y.1->comp x y ∈ kn':=by
 have few:=Kn.few hz hk
 obtain ⟨kn',a',o',f',s',m',e,g1,g2,g3⟩:=si hz 30 0 kn none none none none hk (fun i j x y hi=>absurd hi (Nat.not_lt_zero _)) (Nat.zero_le _) (by omega)
 refine ⟨kn',?_,g1,g2,AV g3⟩
 have hm:rQ (kn.map az) []=some (met kn):=um kn [] (by simpa using hk.nd) (by simp;omega)
 have h0:ng 0 2 1 [some (.own (kn.map az)),some (.dic []),none,none,none,none,none,none]=.val (.nx [some (.own (kn.map az)),some (.dic (met kn)),none,none,none,none,none,none]):=by
  show (match rQ (kn.map az) [] with | some kvs'=>_ | none=>_)=_
  rw [hm];rfl
 simp only [cv,gl]
 show fin (sq (xn 1) _ [some (.own (kn.map az)),none,none,none,none,none,none,none])=_
 rw [aX,uM,ae]
 show fin (sq (ng 0 2 1) _ [some (.own (kn.map az)),some (.dic []),none,none,none,none,none,none])=_
 rw [aX,h0,ae]
 show fin (sq (asg 3 (kd (.int 0))) _ [some (.own (kn.map az)),some (.dic (met kn)),none,none,none,none,none,none])=_
 rw [aX,fo,lh,ae,ae]
 show fin (sq (whD xo xw 30) _ (rC kn 0 none none none none))=_
 rw [aX,e,ae]
 rfl
end DL
namespace DL
open PySem L2 Ar
theorem xM (n:Nat):rng 0 n=(List.range n).map nD:=by
 unfold rng
 apply List.map_congr_left
 intro k _
 simp [nD]
theorem tW {n:Nat} (h:n<=100000):rgT [.int (n:Int)]=.val (.tup ((List.range n).map nD)):=by
 have:-(2 ^ 62)<=(n:Int)/\(n:Int)<=100000:=by constructor <;> omega
 unfold rgT
 dsimp only
 rw [if_pos this,Int.toNat_natCast,xM]
theorem wT (x:Arr) (kn:List Arr):lD true (az x) (.lst (kn.map az))=.val (.bl (!decide (x ∈ kn))):=by
 have h1:eqb 8 (az x)=true:=fC (jl x)
 have h2:(kn.map az).all (eqb 8)=true:=by
  rw [List.all_eq_true]
  intro y hy
  obtain ⟨a,_,rfl⟩:=List.mem_map.mp hy
  exact fC (jl a)
 unfold lD
 dsimp only
 rw [if_pos ⟨h1,h2⟩]
 have:((kn.map az).any fun y=>pyq 8 y (az x))=decide (x ∈ kn):=by
  rw [List.any_map]
  by_cases h:x ∈ kn
  ·rw [decide_eq_true h,List.any_eq_true]
   exact ⟨x,h,(jj 8 (jl x) (jl x)).mpr rfl⟩
  ·rw [decide_eq_false h,List.any_eq_false]
   intro y hy e
   exact h (arrD_inj.mp ((jj 8 (jl y) (jl x)).mp e) ▸ hy)
 rw [this];rfl
theorem u4:∀ sz ∈ szs,∀ a,a < sz.length->∀ b,b < sz.length->sz.getD a 0=3->sz.getD b 0=3:=by decide +kernel
theorem jr {sz:List Nat} {i:Nat} (h:i < sz.length):fix (aP sz) (.int (i:Int))=.val (.int ((sz.getD i 0:Nat):Int)):=me h
theorem AE {sz:List Nat} {b:Nat} (h:b < sz.length):Ok sz (idm sz b):=by
 refine ⟨sz[b],sz[b],by simp [idm,h],by simp [idm,h],?_,fun y hy=>?_⟩
 ·simp [idm,h]
 ·simp [idm,h] at hy;exact hy
theorem AC (sz:List Nat):Kn sz ((List.range sz.length).map (idm sz)):=by
 refine ⟨?_,fun x hx=>?_⟩
 ·unfold List.Nodup
  rw [List.pairwise_map]
  exact List.nodup_range.imp fun {a b} h e=>h (by simpa [idm] using congrArg (·.1) e)
 ·obtain ⟨b,hb,rfl⟩:=List.mem_map.mp hx
  exact AE (List.mem_range.mp hb)
noncomputable def rA (ns:List Int) (k:Nat) (sz:List Nat) (known:Slt) (st:Int) (a5 a6 a7 a8 a9 a10 a11:Option Slt):Rho:=[some (.shr (.scr ns)),some (.shr (nD k)),some (.shr (aP sz)),some known,some (.shr (.int st)),a5,a6,a7,a8,a9,a10,a11]
section
variable {ns:List Int} {k:Nat} {sz:List Nat}
noncomputable abbrev v6:Rho->R Out:=sq (asg 4 (cal 1 aR (aC (vr 4) aN)))
 (DL.iff (tst (bin feq (bin fix (vb 2) (vb 6)) (kd (.int 3))))
 (ins 8 (bin (iI bu) (bin (iI e9) (vb 4) (kd (.int 64))) (bin cX (vb 9) (kd (.int 1)))) (vr 9))
 (app 8 (bin (iI bu) (bin (iI e9) (vb 4) (kd (.int 64))) (yR (aC (kd (.int 1)) (aC (bin fix (vb 2) (vb 7)) aN))))))
noncomputable def bnd (s1 s2:Nat):Nat:=if s1=3 then 3 else max 1 s2
theorem d64 (i:Int):e9 i 64=.val (.int (i / 64)):=uz (by decide)
theorem yE {known:Slt} {st:Int} {o1 o2 x:Nat} {l:List Nat} {a5 a10 a11:Option Slt} (h1:o1 < sz.length) (h2:o2 < sz.length) (hx:x < sz.getD o1 0) (hl:l.length=x) (hx3:sz.getD o1 0<=3) (hb:∀ y ∈ l,y < bnd (sz.getD o1 0) (sz.getD o2 0)) :
  ∃ (st':Int) (l':List Nat),v6 (rA ns k sz known st a5 (some (.shr (nD o1))) (some (.shr (nD o2))) (some (.own (l.map nD))) (some (.shr (nD x))) a10 a11)=.val (.nx (rA ns k sz known st' a5 (some (.shr (nD o1))) (some (.shr (nD o2))) (some (.own (l'.map nD))) (some (.shr (nD x))) a10 a11))/\l'.length=x + 1/\∀ y ∈ l',y < bnd (sz.getD o1 0) (sz.getD o2 0):=by
 obtain ⟨st',hst⟩:=kg st
 have f1:=jr (sz:=sz) h1
 have f2:=jr (sz:=sz) h2
 have hA:asg 4 (cal 1 aR (aC (vr 4) aN)) (rA ns k sz known st a5 (some (.shr (nD o1))) (some (.shr (nD o2))) (some (.own (l.map nD))) (some (.shr (nD x))) a10 a11)=.val (.nx (rA ns k sz known st' a5 (some (.shr (nD o1))) (some (.shr (nD o2))) (some (.own (l.map nD))) (some (.shr (nD x))) a10 a11)):=by
  unfold rA;simp [hst]
 have hT:tst (bin feq (bin fix (vb 2) (vb 6)) (kd (.int 3))) (rA ns k sz known st' a5 (some (.shr (nD o1))) (some (.shr (nD o2))) (some (.own (l.map nD))) (some (.shr (nD x))) a10 a11)=.val (decide (((sz.getD o1 0:Nat):Int)=3)):=by
  unfold rA;simp [-List.getD_eq_getElem?_getD,f1]
 show ∃ (st':Int) (l':List Nat),sq _ _ _=_/\_
 rw [aX,hA,ae]
 dsimp only
 rw [cD,hT,ae]
 by_cases e3:sz.getD o1 0=3
 ·rw [if_pos (by simp [-List.getD_eq_getElem?_getD,e3])]
  have hm:bu (st' / 64) ((x:Int) + 1)=.val (.int (st' / 64 % ((x:Int) + 1))):=dX (by omega)
  have p0:0<=st' / 64 % ((x:Int) + 1):=Int.emod_nonneg _ (by omega)
  have p1:st' / 64 % ((x:Int) + 1) < (x:Int) + 1:=Int.emod_lt_of_pos _ (by omega)
  obtain ⟨p,hp⟩:∃ p:Nat,st' / 64 % ((x:Int) + 1)=(p:Int):=⟨_,(Int.toNat_of_nonneg p0).symm⟩
  refine ⟨st',l.take p ++ x :: l.drop p,?_,?_,fun y hy=>?_⟩
  ·rw [wN (xs:=l.map nD) (n:=p) (d:=nD x) _ rfl (by unfold rA;simp [d64,hm,hp]) rfl (by rw [List.length_map];omega) (by rw [List.length_map];omega)]
   unfold rA
   simp
  ·rw [List.length_append,List.length_cons,List.length_take,List.length_drop];omega
  ·unfold bnd
   rw [if_pos e3]
   rcases List.mem_append.mp hy with q | q
   ·have:=hb y (List.mem_of_mem_take q)
    unfold bnd at this;rw [if_pos e3] at this;exact this
   ·rcases List.mem_cons.mp q with q | q
    ·rw [q];omega
    ·have:=hb y (List.mem_of_mem_drop q)
     unfold bnd at this;rw [if_pos e3] at this;exact this
 ·have e3':¬ (((sz.getD o1 0:Nat):Int)=3):=by omega
  rw [if_neg (by simp [-List.getD_eq_getElem?_getD];exact e3')]
  have hmx:(if ((sz.getD o2 0:Nat):Int) > 1 then ((sz.getD o2 0:Nat):Int) else 1)=((max 1 (sz.getD o2 0):Nat):Int):=by
   split <;> omega
  have hm:bu (st' / 64) ((max 1 (sz.getD o2 0):Nat):Int)=.val (.int (st' / 64 % ((max 1 (sz.getD o2 0):Nat):Int))):=dX (by omega)
  have p0:0<=st' / 64 % ((max 1 (sz.getD o2 0):Nat):Int):=Int.emod_nonneg _ (by omega)
  have p1:st' / 64 % ((max 1 (sz.getD o2 0):Nat):Int) < ((max 1 (sz.getD o2 0):Nat):Int):=Int.emod_lt_of_pos _ (by omega)
  obtain ⟨p,hp⟩:∃ p:Nat,st' / 64 % ((max 1 (sz.getD o2 0):Nat):Int)=(p:Int):=⟨_,(Int.toNat_of_nonneg p0).symm⟩
  refine ⟨st',l ++ [p],?_,by rw [List.length_append,hl];rfl,fun y hy=>?_⟩
  ·rw [jb (xs:=l.map nD) (d:=nD p) _ rfl (by unfold rA;simp only [bO,gg,Bc,lh,ae,yQ,e7,ph,m_,List.getElem?_cons_succ,List.getElem?_cons_zero,f2,yx,d64];rw [hmx,hm,hp]) (by rw [List.length_map];omega)]
   unfold rA
   simp
  ·rcases List.mem_append.mp hy with q | q
   ·exact hb y q
   ·rw [List.mem_singleton.mp q]
    unfold bnd;rw [if_neg e3];omega
theorem yC {known:Slt} {st:Int} {o1 o2:Nat} {a5 a9 a10 a11:Option Slt} (h1:o1 < sz.length) (h2:o2 < sz.length) (hx3:sz.getD o1 0<=3) :
  ∃ (st':Int) (l:List Nat) (a9':Option Slt),cR (tgN 9) v6 (rng 0 (sz.getD o1 0)) (rA ns k sz known st a5 (some (.shr (nD o1))) (some (.shr (nD o2))) (some (.own [])) a9 a10 a11)=.val (.nx (rA ns k sz known st' a5 (some (.shr (nD o1))) (some (.shr (nD o2))) (some (.own (l.map nD))) a9' a10 a11))/\l.length=sz.getD o1 0/\∀ y ∈ l,y < bnd (sz.getD o1 0) (sz.getD o2 0):=by
 obtain ⟨ρ',e,st',l,a9',rfl,g1,g2⟩:=gT (i:=9) (n:=sz.getD o1 0) (F:=v6) (ρ:=rA ns k sz known st a5 (some (.shr (nD o1))) (some (.shr (nD o2))) (some (.own [])) a9 a10 a11) (fun x ρ=>∃ (st:Int) (l:List Nat) (a9:Option Slt),ρ=rA ns k sz known st a5 (some (.shr (nD o1))) (some (.shr (nD o2))) (some (.own (l.map nD))) a9 a10 a11/\l.length=x/\∀ y ∈ l,y < bnd (sz.getD o1 0) (sz.getD o2 0)) (fun x ρ hx hI=>by
  obtain ⟨st,l,a9,rfl,hl,hb⟩:=hI
  obtain ⟨st',l',e,g1,g2⟩:=yE (ns:=ns) (k:=k) (known:=known) (st:=st) (a5:=a5) (a10:=a10) (a11:=a11) h1 h2 hx hl hx3 hb
  exact ⟨_,e,st',l',_,rfl,g1,g2⟩) ⟨st,[],a9,rfl,rfl,fun y hy=>by cases hy⟩
 exact ⟨st',l,a9',e,g1,g2⟩
noncomputable abbrev sF:Rho->R Out:=sq (asg 4 (cal 1 aR (aC (vr 4) aN)))
 (sq (asg 6 (bin (iI bu) (bin (iI e9) (vb 4) (kd (.int 64))) (una aU (vb 2))))
 (sq (asg 4 (cal 1 aR (aC (vr 4) aN)))
 (sq (asg 7 (bin (iI bu) (bin (iI e9) (vb 4) (kd (.int 64))) (una aU (vb 2))))
 (sq (own 8 (ib aN))
 (sq (cA (dh (aC (bin fix (vb 2) (vb 6)) aN)) (tgN 9) v6)
 (DL.iff (orB (tst (bin feq (bin fix (vb 2) (vb 6)) (kd (.int 0)))) (tst (bin (iI fgt) (bin fix (vb 2) (vb 7)) (kd (.int 0)))))
 (DL.iff (tst (bin (lD true) (eT (aC (vr 6) (aC (vr 7) (aC (una jv (vb 8)) aN)))) (vb 3)))
 (app 3 (eT (aC (vr 6) (aC (vr 7) (aC (una jv (vb 8)) aN)))))
 nxt)
 nxt))))))
theorem wU:aU (aP sz)=.val (.int ((sz.length:Nat):Int)):=by
 show R.val (D.int (((sz.map nD).length:Nat):Int))=_
 rw [List.length_map]
theorem wz {known:Slt} {st s1:Int} {a5 a6 a7 a8 a9 a10 a11:Option Slt} (h:aR [.int st]=.val (.int s1)):asg 4 (cal 1 aR (aC (vr 4) aN)) (rA ns k sz known st a5 a6 a7 a8 a9 a10 a11)=.val (.nx (rA ns k sz known s1 a5 a6 a7 a8 a9 a10 a11)):=by
 rw [fo,xu]
 show R.bind (noex (aR [.int st])) _=_
 rw [h];rfl
theorem wm {known:Slt} {s1:Int} {o:Nat} {a5 a6 a7 a8 a9 a10 a11:Option Slt} (q:bu (s1 / 64) (sz.length:Int)=.val (.int (o:Int))):bin (iI bu) (bin (iI e9) (vb 4) (kd (.int 64))) (una aU (vb 2)) (rA ns k sz known s1 a5 a6 a7 a8 a9 a10 a11)=.val (nD o):=by
 rw [bO,bO]
 show R.bind (e9 s1 64) _=_
 rw [d64,ae,gg]
 show R.bind (R.bind (.val (aP sz)) aU) _=_
 rw [ae,wU]
 exact q
theorem xT {known:Slt} {s1:Int} {o:Nat} {a5 a6 a7 a8 a9 a10 a11:Option Slt} (q:bu (s1 / 64) (sz.length:Int)=.val (.int (o:Int))):asg 6 (bin (iI bu) (bin (iI e9) (vb 4) (kd (.int 64))) (una aU (vb 2))) (rA ns k sz known s1 a5 a6 a7 a8 a9 a10 a11)=.val (.nx (rA ns k sz known s1 a5 (some (.shr (nD o))) a7 a8 a9 a10 a11)):=by
 rw [fo,wm q];rfl
theorem xS {known:Slt} {s1:Int} {o:Nat} {a5 a6 a7 a8 a9 a10 a11:Option Slt} (q:bu (s1 / 64) (sz.length:Int)=.val (.int (o:Int))):asg 7 (bin (iI bu) (bin (iI e9) (vb 4) (kd (.int 64))) (una aU (vb 2))) (rA ns k sz known s1 a5 a6 a7 a8 a9 a10 a11)=.val (.nx (rA ns k sz known s1 a5 a6 (some (.shr (nD o))) a8 a9 a10 a11)):=by
 rw [fo,wm q];rfl
theorem pick (st:Int) {n:Nat} (h:1<=n):∃ p:Nat,p < n/\bu (st / 64) (n:Int)=.val (.int (p:Int)):=by
 have hm:bu (st / 64) (n:Int)=.val (.int (st / 64 % (n:Int))):=dX (by omega)
 have p0:0<=st / 64 % (n:Int):=Int.emod_nonneg _ (by omega)
 have p1:st / 64 % (n:Int) < (n:Int):=Int.emod_lt_of_pos _ (by omega)
 refine ⟨(st / 64 % (n:Int)).toNat,by omega,?_⟩
 rw [hm,Int.toNat_of_nonneg p0]
theorem xf (hz:sz ∈ szs) {kn:List Arr} (hk:Kn sz kn) (st:Int) (a5 a6 a7 a8 a9 a10 a11:Option Slt) :
  ∃ (kn':List Arr) (st':Int) (b6 b7 b8 b9:Option Slt),sF (rA ns k sz (.own (kn.map az)) st a5 a6 a7 a8 a9 a10 a11)=.val (.nx (rA ns k sz (.own (kn'.map az)) st' a5 b6 b7 b8 b9 a10 a11))/\Kn sz kn'/\kn <+: kn':=by
 obtain ⟨l1,l4,l3⟩:=gy sz hz
 have few:=Kn.few hz hk
 obtain ⟨s1,hs1⟩:=kg st
 obtain ⟨o1,ho1,q1⟩:=pick s1 l1
 obtain ⟨s2,hs2⟩:=kg s1
 obtain ⟨o2,ho2,q2⟩:=pick s2 l1
 have g3:sz.getD o1 0<=3:=by rw [aG ho1];exact l3 _ (List.getElem_mem ho1)
 obtain ⟨s3,l,a9',e,hl,hb⟩:=yC (ns:=ns) (k:=k) (sz:=sz) (known:=.own (kn.map az)) (st:=s2) (a5:=a5) (a9:=a9) (a10:=a10) (a11:=a11) ho1 ho2 g3
 have f1:=jr (sz:=sz) ho1
 have f2:=jr (sz:=sz) ho2
 have hr:n0 [.int ((sz.getD o1 0:Nat):Int)]=.val (rng 0 (sz.getD o1 0)):=gR (by omega)
 have start:sF (rA ns k sz (.own (kn.map az)) st a5 a6 a7 a8 a9 a10 a11)=DL.iff (orB (tst (bin feq (bin fix (vb 2) (vb 6)) (kd (.int 0)))) (tst (bin (iI fgt) (bin fix (vb 2) (vb 7)) (kd (.int 0)))))
   (DL.iff (tst (bin (lD true) (eT (aC (vr 6) (aC (vr 7) (aC (una jv (vb 8)) aN)))) (vb 3)))
   (app 3 (eT (aC (vr 6) (aC (vr 7) (aC (una jv (vb 8)) aN))))) nxt) nxt (rA ns k sz (.own (kn.map az)) s3 a5 (some (.shr (nD o1))) (some (.shr (nD o2))) (some (.own (l.map nD))) a9' a10 a11):=by
  have x1:asg 4 (cal 1 aR (aC (vr 4) aN)) (rA ns k sz (.own (kn.map az)) st a5 a6 a7 a8 a9 a10 a11)=.val (.nx (rA ns k sz (.own (kn.map az)) s1 a5 a6 a7 a8 a9 a10 a11)):=wz hs1
  have x2:asg 6 (bin (iI bu) (bin (iI e9) (vb 4) (kd (.int 64))) (una aU (vb 2))) (rA ns k sz (.own (kn.map az)) s1 a5 a6 a7 a8 a9 a10 a11)=.val (.nx (rA ns k sz (.own (kn.map az)) s1 a5 (some (.shr (nD o1))) a7 a8 a9 a10 a11)):=xT q1
  have x3:asg 4 (cal 1 aR (aC (vr 4) aN)) (rA ns k sz (.own (kn.map az)) s1 a5 (some (.shr (nD o1))) a7 a8 a9 a10 a11)=.val (.nx (rA ns k sz (.own (kn.map az)) s2 a5 (some (.shr (nD o1))) a7 a8 a9 a10 a11)):=wz hs2
  have x4:asg 7 (bin (iI bu) (bin (iI e9) (vb 4) (kd (.int 64))) (una aU (vb 2))) (rA ns k sz (.own (kn.map az)) s2 a5 (some (.shr (nD o1))) a7 a8 a9 a10 a11)=.val (.nx (rA ns k sz (.own (kn.map az)) s2 a5 (some (.shr (nD o1))) (some (.shr (nD o2))) a8 a9 a10 a11)):=xS q2
  have x5:own 8 (ib aN) (rA ns k sz (.own (kn.map az)) s2 a5 (some (.shr (nD o1))) (some (.shr (nD o2))) a8 a9 a10 a11)=.val (.nx (rA ns k sz (.own (kn.map az)) s2 a5 (some (.shr (nD o1))) (some (.shr (nD o2))) (some (.own [])) a9 a10 a11)):=Eq.trans rfl rfl
  have x6:cA (dh (aC (bin fix (vb 2) (vb 6)) aN)) (tgN 9) v6 (rA ns k sz (.own (kn.map az)) s2 a5 (some (.shr (nD o1))) (some (.shr (nD o2))) (some (.own [])) a9 a10 a11)=.val (.nx (rA ns k sz (.own (kn.map az)) s3 a5 (some (.shr (nD o1))) (some (.shr (nD o2))) (some (.own (l.map nD))) a9' a10 a11)):=by
   rw [eI]
   have:dh (aC (bin fix (vb 2) (vb 6)) aN) (rA ns k sz (.own (kn.map az)) s2 a5 (some (.shr (nD o1))) (some (.shr (nD o2))) (some (.own [])) a9 a10 a11)=.val (rng 0 (sz.getD o1 0)):=by unfold rA;simp [-List.getD_eq_getElem?_getD,f1,hr]
   rw [this,ae,e]
  show sq _ _ _=_
  rw [aX,x1,ae];dsimp only
  rw [aX,x2,ae];dsimp only
  rw [aX,x3,ae];dsimp only
  rw [aX,x4,ae];dsimp only
  rw [aX,x5,ae];dsimp only
  rw [aX,x6,ae]
 rw [start]
 have hT:orB (tst (bin feq (bin fix (vb 2) (vb 6)) (kd (.int 0)))) (tst (bin (iI fgt) (bin fix (vb 2) (vb 7)) (kd (.int 0)))) (rA ns k sz (.own (kn.map az)) s3 a5 (some (.shr (nD o1))) (some (.shr (nD o2))) (some (.own (l.map nD))) a9' a10 a11)=.val (decide (sz.getD o1 0=0\/0 < sz.getD o2 0)):=by
  unfold rA
  by_cases z:sz.getD o1 0=0
  ·simp [-List.getD_eq_getElem?_getD,f1,z]
  ·have z':¬ (((sz.getD o1 0:Nat):Int)=0):=by omega
   simp [-List.getD_eq_getElem?_getD,f1,f2,z,z']
 rw [cD,hT,ae]
 by_cases hc:sz.getD o1 0=0\/0 < sz.getD o2 0
 ·rw [decide_eq_true hc,if_pos rfl]
  have hok:Ok sz (o1,o2,l):=by
   refine ⟨sz.getD o1 0,sz.getD o2 0,by rw [aG ho1];simp [ho1],by rw [aG ho2];simp [ho2],hl,fun y hy=>?_⟩
   have:=hb y hy
   unfold bnd at this
   have hy0:sz.getD o1 0 ≠ 0:=fun z=>by
    rw [z] at hl
    have:l=[]:=List.length_eq_zero_iff.mp hl
    rw [this] at hy;cases hy
   split at this
   ·rename_i e3
    have:=u4 sz hz o1 ho1 o2 ho2 e3
    omega
   ·rcases hc with hc | hc
    ·exact absurd hc hy0
    ·have:max 1 (sz.getD o2 0)=sz.getD o2 0:=by omega
     omega
  have hv:eT (aC (vr 6) (aC (vr 7) (aC (una jv (vb 8)) aN))) (rA ns k sz (.own (kn.map az)) s3 a5 (some (.shr (nD o1))) (some (.shr (nD o2))) (some (.own (l.map nD))) a9' a10 a11)=.val (az (o1,o2,l)):=by
   unfold rA;simp;rfl
  have hn:tst (bin (lD true) (eT (aC (vr 6) (aC (vr 7) (aC (una jv (vb 8)) aN)))) (vb 3)) (rA ns k sz (.own (kn.map az)) s3 a5 (some (.shr (nD o1))) (some (.shr (nD o2))) (some (.own (l.map nD))) a9' a10 a11)=.val (!decide ((o1,o2,l) ∈ kn)):=by
   rw [dq,bO,hv,ae]
   show ((R.val (D.lst (kn.map az))).bind fun y=>lD true (az (o1,o2,l)) y).bind asB=_
   rw [ae,wT];rfl
  rw [cD,hn,ae]
  refine ⟨oK kn (o1,o2,l),s3,some (.shr (nD o1)),some (.shr (nD o2)),some (.own (l.map nD)),a9',?_,uV hk hok,sH _ _⟩
  unfold oK
  by_cases hin:(o1,o2,l) ∈ kn
  ·rw [if_pos hin,decide_eq_true hin];rfl
  ·rw [if_neg hin,decide_eq_false hin]
   rw [if_pos (show (!false)=true from rfl)]
   rw [jb (xs:=kn.map az) _ rfl hv (by rw [List.length_map];omega)]
   unfold rA
   rw [List.map_append];rfl
 ·rw [decide_eq_false hc]
  exact ⟨kn,s3,_,_,_,_,rfl,hk,List.prefix_refl _⟩
end
end DL
namespace DL
open PySem L2 Ar
section
variable {ns:List Int} {k:Nat} {sz:List Nat}
theorem AM (hz:sz ∈ szs) (a3 a4 a5 a6 a7 a8 a9 a10 a11:Option Slt):bq (dh (aC (una aU (vb 2)) aN)) 1 (tgN 12) tT (eT (aC (vr 12) (aC (vr 12) (aC (i3 (aC (bin fix (vb 2) (vb 12)) aN)) aN)))) [some (.shr (.scr ns)),some (.shr (nD k)),some (.shr (aP sz)),a3,a4,a5,a6,a7,a8,a9,a10,a11]=.val (((List.range sz.length).map (idm sz)).map az):=by
 obtain ⟨l1,l4,l3⟩:=gy sz hz
 have:=nn (src:=dh (aC (una aU (vb 2)) aN)) (m:=sz.length) (n:=1) (i:=12) (e:=eT (aC (vr 12) (aC (vr 12) (aC (i3 (aC (bin fix (vb 2) (vb 12)) aN)) aN)))) (g:=fun b=>az (idm sz b)) (ρ:=[some (.shr (.scr ns)),some (.shr (nD k)),some (.shr (aP sz)),a3,a4,a5,a6,a7,a8,a9,a10,a11]) (by simp;exact gR (by omega)) (by omega) fun b hb=>by
  have f1:=jr (sz:=sz) hb
  have hs:sz.getD b 0<=3:=by rw [aG hb];exact l3 _ (List.getElem_mem hb)
  have:=tW (n:=sz.getD b 0) (by omega)
  simp [-List.getD_eq_getElem?_getD,f1,this];rfl
 rw [this,List.map_map];rfl
theorem wo {mx:List Arr} {x:Arr} {l:List Arr} (p:Nat) (h:mx.Perm l):(mx.take p ++ x :: mx.drop p).Perm (l ++ [x]):=by
 have h1:(mx.take p ++ x :: mx.drop p).Perm (x :: (mx.take p ++ mx.drop p)):=List.perm_middle
 rw [List.take_append_drop] at h1
 exact h1.trans ((h.cons x).trans (List.perm_append_singleton x l).symm)
noncomputable abbrev yj:Rho->R Out:=sq (asg 4 (cal 1 aR (aC (vr 4) aN)))
 (ins 10 (bin (iI bu) (bin (iI e9) (vb 4) (kd (.int 64))) (bin cX (una aU (vb 10)) (kd (.int 1)))) (vr 11))
theorem yF {known:Slt} {st:Int} {mx:List Arr} {x:Arr} (hl:mx.length<=27) (a5 a6 a7 a8 a9:Option Slt) :
  ∃ (st':Int) (p:Nat),yj (rA ns k sz known st a5 a6 a7 a8 a9 (some (.own (mx.map az))) (some (.shr (az x))))=.val (.nx (rA ns k sz known st' a5 a6 a7 a8 a9 (some (.own ((mx.take p ++ x :: mx.drop p).map az))) (some (.shr (az x))))):=by
 obtain ⟨s1,hs1⟩:=kg st
 obtain ⟨p,hp,q⟩:=pick s1 (n:=mx.length + 1) (by omega)
 have q':bu (s1 / 64) ((mx.length:Int) + 1)=.val (.int (p:Int)):=q
 refine ⟨s1,p,?_⟩
 have x1:asg 4 (cal 1 aR (aC (vr 4) aN)) (rA ns k sz known st a5 a6 a7 a8 a9 (some (.own (mx.map az))) (some (.shr (az x))))=.val (.nx (rA ns k sz known s1 a5 a6 a7 a8 a9 (some (.own (mx.map az))) (some (.shr (az x))))):=by unfold rA;simp [hs1]
 show sq _ _ _=_
 rw [aX,x1,ae];dsimp only
 rw [wN (xs:=mx.map az) (n:=p) (d:=az x) _ rfl (by unfold rA;simp [d64,q']) rfl (by rw [List.length_map];omega) (by rw [List.length_map];omega)]
 unfold rA
 simp
theorem vC (hz:sz ∈ szs) (ns:List Int) (k:Nat):∃ kn,Good sz kn/\cq [.scr ns,.int (k:Int),aP sz]=.val (.lst (kn.map az)):=by
 obtain ⟨l1,l4,l3⟩:=gy sz hz
 obtain ⟨c1,hc1⟩:=ic ns k
 obtain ⟨c2,hc2⟩:=ic ns (k + 1)
 obtain ⟨s0,hs0⟩:=kg (c1 * 1000003 % 2147483647 + 17)
 have hc2':aA [.scr ns,.int ((k:Int) + 1)]=.val (.int c2):=hc2
 have m5:bu c2 5=.val (.int (c2 % 5)):=dX (by decide)
 have mm:h_ c1 1000003=.val (.int (c1 * 1000003)):=l_ (by decide)
 have md:bu (c1 * 1000003) 2147483647=.val (.int (c1 * 1000003 % 2147483647)):=dX (by decide)
 have hr:n0 [.int (c2 % 5)]=.val (rng 0 (c2 % 5).toNat):=v7 (by omega) (by omega)
 let kn0:=(List.range sz.length).map (idm sz)
 have hk0:Kn sz kn0:=AC sz
 obtain ⟨ρ1,e1,kn1,st1,a5,a6,a7,a8,a9,rfl,hk1,hp1⟩:=gT (i:=5) (n:=(c2 % 5).toNat) (F:=sF) (ρ:=rA ns k sz (.own (kn0.map az)) s0 none none none none none none none) (fun _ ρ=>∃ (kn:List Arr) (st:Int) (a5 a6 a7 a8 a9:Option Slt),ρ=rA ns k sz (.own (kn.map az)) st a5 a6 a7 a8 a9 none none/\Kn sz kn/\kn0 <+: kn) (fun x ρ hx hI=>by
  obtain ⟨kn,st,a5,a6,a7,a8,a9,rfl,hk,hp⟩:=hI
  obtain ⟨kn',st',b6,b7,b8,b9,e,g1,g2⟩:=xf (ns:=ns) (k:=k) hz hk st (some (.shr (.int (x:Int)))) a6 a7 a8 a9 none none
  exact ⟨_,e,kn',st',_,b6,b7,b8,b9,rfl,g1,hp.trans g2⟩) ⟨kn0,s0,none,none,none,none,none,rfl,hk0,List.prefix_refl _⟩
 obtain ⟨kn2,hcl,hk2,hp2,hcl2⟩:=vB hz hk1
 have few2:=Kn.few hz hk2
 have good:Good sz kn2:=⟨hz,hk2.nd,hk2.ok,fun b hb=>hp2.subset (hp1.subset (List.mem_map.mpr ⟨b,List.mem_range.mpr hb,rfl⟩)),hcl2⟩
 obtain ⟨ρ3,e3,mx,st3,a11,rfl,hperm⟩:=gU (T:=tgN 11) (F:=yj) (xs:=kn2.map az) (ρ:=rA ns k sz (.shr (.lst (kn2.map az))) st1 a5 a6 a7 a8 a9 (some (.own [])) none) (fun i ρ=>∃ (mx:List Arr) (st:Int) (a11:Option Slt),ρ=rA ns k sz (.shr (.lst (kn2.map az))) st a5 a6 a7 a8 a9 (some (.own (mx.map az))) a11/\mx.Perm (kn2.take i)) (fun i x ρ hx hI=>by
  obtain ⟨mx,st,a11,rfl,hperm⟩:=hI
  have hi:i < kn2.length:=by have:=(List.getElem?_eq_some_iff.mp hx).1;simpa using this
  have hxe:x=az kn2[i]:=by
   rw [List.getElem?_map] at hx
   simp [hi] at hx;exact hx.symm
  subst hxe
  have hml:mx.length<=27:=by rw [hperm.length_eq,List.length_take];omega
  obtain ⟨st',p,e⟩:=yF (ns:=ns) (k:=k) (sz:=sz) (known:=.shr (.lst (kn2.map az))) (st:=st) (x:=kn2[i]) hml a5 a6 a7 a8 a9
  refine ⟨_,_,rfl,e,_,st',_,rfl,?_⟩
  rw [List.take_succ_eq_append_getElem hi]
  exact wo p hperm) ⟨[],st1,none,rfl,by simp⟩
 rw [List.length_map,List.take_length] at hperm
 refine ⟨mx,good.perm hperm,?_⟩
 simp only [cq,gp]
 show fin (sq (own 3 _) _ [some (.shr (.scr ns)),some (.shr (nD k)),some (.shr (aP sz)),none,none,none,none,none,none,none,none,none])=_
 rw [aX,Ab,AM hz,ae,ae]
 show fin (sq (asg 4 _) _ [some (.shr (.scr ns)),some (.shr (nD k)),some (.shr (aP sz)),some (.own (kn0.map az)),none,none,none,none,none,none,none,none])=_
 have x1:asg 4 (cal 1 aR (aC (bin cX (bin (iI bu) (bin (iI h_) (cal 2 aA (aC (vr 0) (aC (vr 1) aN))) (kd (.int 1000003))) (kd (.int 2147483647))) (kd (.int 17))) aN)) [some (.shr (.scr ns)),some (.shr (nD k)),some (.shr (aP sz)),some (.own (kn0.map az)),none,none,none,none,none,none,none,none]=.val (.nx (rA ns k sz (.own (kn0.map az)) s0 none none none none none none none)):=by
  unfold rA;simp [hc1,mm,md,hs0]
 rw [aX,x1,ae];dsimp only
 have x2:cA (dh (aC (bin (iI bu) (cal 2 aA (aC (vr 0) (aC (bin cX (vb 1) (kd (.int 1))) aN))) (kd (.int 5))) aN)) (tgN 5) sF (rA ns k sz (.own (kn0.map az)) s0 none none none none none none none)=.val (.nx (rA ns k sz (.own (kn1.map az)) st1 a5 a6 a7 a8 a9 none none)):=by
  rw [eI]
  have:dh (aC (bin (iI bu) (cal 2 aA (aC (vr 0) (aC (bin cX (vb 1) (kd (.int 1))) aN))) (kd (.int 5))) aN) (rA ns k sz (.own (kn0.map az)) s0 none none none none none none none)=.val (rng 0 (c2 % 5).toNat):=by unfold rA;simp [hc2',m5,hr]
  rw [this,ae,e1]
 show fin (sq (cA (dh (aC (bin (iI bu) (cal 2 aA (aC (vr 0) (aC (bin cX (vb 1) (kd (.int 1))) aN))) (kd (.int 5))) aN)) (tgN 5) sF) _ _)=_
 rw [aX,x2,ae];dsimp only
 have x3:yi 3 cv (rA ns k sz (.own (kn1.map az)) st1 a5 a6 a7 a8 a9 none none)=.val (.nx (rA ns k sz (.shr (.lst (kn2.map az))) st1 a5 a6 a7 a8 a9 none none)):=by
  show (noex (cv (kn1.map az))).bind _=_
  rw [hcl];rfl
 rw [aX,x3,ae];dsimp only
 have x4:own 10 (ib aN) (rA ns k sz (.shr (.lst (kn2.map az))) st1 a5 a6 a7 a8 a9 none none)=.val (.nx (rA ns k sz (.shr (.lst (kn2.map az))) st1 a5 a6 a7 a8 a9 (some (.own [])) none)):=by unfold rA;simp
 rw [aX,x4,ae];dsimp only
 show fin (sq (cA (fIt (vr 3)) (tgN 11) yj) _ (rA ns k sz (.shr (.lst (kn2.map az))) st1 a5 a6 a7 a8 a9 (some (.own [])) none))=_
 have x5:cA (fIt (vr 3)) (tgN 11) yj (rA ns k sz (.shr (.lst (kn2.map az))) st1 a5 a6 a7 a8 a9 (some (.own [])) none)=.val (.nx (rA ns k sz (.shr (.lst (kn2.map az))) st3 a5 a6 a7 a8 a9 (some (.own (mx.map az))) a11)):=by
  rw [eI]
  show (R.val (kn2.map az)).bind _=_
  rw [ae,e3]
 rw [aX,x5,ae]
 rfl
end
end DL
namespace DL
open PySem L2 Ar
noncomputable def plD:List Arr->Nat->List (KA × D)
 | [],_=>[]
 | x :: r,s=>(gX x,nD s) :: plD r (s + 1)
theorem wf:∀ (l:List Arr) (s:Nat),(plD l s).length=l.length
 | [],_=>rfl
 | x :: r,s=>by simp [plD,wf r (s + 1)]
theorem wl (x:Arr):∀ (l:List Arr) (s:Nat),((plD l s).any fun p=>decide (p.1=gX x))=decide (x ∈ l)
 | [],_=>by simp [plD]
 | y :: r,s=>by
  show (decide (gX y=gX x) || (plD r (s + 1)).any fun p=>decide (p.1=gX x))=_
  rw [wl x r (s + 1)]
  by_cases h:y=x
  ·subst h;simp
  ·have:¬ gX y=gX x:=fun e=>h (m8 e)
   have h':¬ x=y:=fun e=>h e.symm
   simp [this,h']
theorem wg (x:Arr):∀ (l:List Arr) (s:Nat),plD (l ++ [x]) s=plD l s ++ [(gX x,nD (s + l.length))]
 | [],s=>rfl
 | y :: r,s=>by
  show (gX y,nD s) :: plD (r ++ [x]) (s + 1)=_
  rw [wg x r (s + 1)]
  have:s + 1 + r.length=s + (y :: r).length:=by simp;omega
  rw [this];rfl
theorem zV {x:Arr} {l:List Arr} (h:x ∉ l):m7 (plD l 0) (gX x) (nD l.length)=plD (l ++ [x]) 0:=by
 unfold m7
 rw [wl,decide_eq_false h,if_neg (by decide),wg,Nat.zero_add]
theorem sW {x:Arr}:∀ {l:List Arr} (s:Nat),x ∈ l->tq (plD l s) (gX x)=some (nD (s + l.idxOf x))
 | [],_,h=>by cases h
 | y :: r,s,h=>by
  unfold tq plD
  by_cases e:y=x
  ·subst e;simp
  ·have e':¬ gX y=gX x:=fun z=>e (m8 z)
   rw [List.find?_cons_of_neg (by simpa using e')]
   have hr:x ∈ r:=by
    rcases List.mem_cons.mp h with q | q
    ·exact absurd q.symm e
    ·exact q
   have ih:=sW (l:=r) (s + 1) hr
   unfold tq at ih
   rw [ih]
   have:(y :: r).idxOf x=r.idxOf x + 1:=by
    rw [List.idxOf_cons]
    have:(y == x)=false:=by simpa using e
    rw [this];rfl
   rw [this]
   congr 2
   omega
noncomputable def rP (ns:List Int) (k:Nat) (sz:List Nat) (kn:List Arr) (pl:List (KA × D)) (a5 a6 a7 a8 a9 a10 a11:Option Slt):Rho:=[some (.shr (.scr ns)),some (.shr (nD k)),some (.shr (aP sz)),some (.shr (.lst (kn.map az))),some (.dic pl),a5,a6,a7,a8,a9,a10,a11]
section
variable {ns:List Int} {k:Nat} {sz:List Nat} {kn:List Arr}
theorem AK {i:Nat} (h:i < kn.length):fix (.lst (kn.map az)) (.int (i:Int))=.val (az kn[i]):=jz (by simp [h])
theorem w8 (g:Good sz kn) (a6 a7 a8 a9 a10 a11:Option Slt):∃ a5,cA (dh (aC (una aU (vb 3)) aN)) (tgN 5) (qz 4 (bin fix (vb 3) (vb 5)) (vr 5)) (rP ns k sz kn [] none a6 a7 a8 a9 a10 a11)=.val (.nx (rP ns k sz kn (plD kn 0) a5 a6 a7 a8 a9 a10 a11)):=by
 have few:=g.few
 obtain ⟨ρ',e,a5,rfl⟩:=gT (i:=5) (n:=kn.length) (F:=qz 4 (bin fix (vb 3) (vb 5)) (vr 5)) (ρ:=rP ns k sz kn [] none a6 a7 a8 a9 a10 a11) (fun i ρ=>∃ a5,ρ=rP ns k sz kn (plD (kn.take i) 0) a5 a6 a7 a8 a9 a10 a11) (fun i ρ hi hI=>by
  obtain ⟨a5,rfl⟩:=hI
  have hx:=AK hi
  have hl:(kn.take i).length=i:=by rw [List.length_take];omega
  have nin:kn[i] ∉ kn.take i:=fun h=>by
   obtain ⟨j,hj,e⟩:=List.mem_take_iff_getElem.mp h
   exact (List.pairwise_iff_getElem.mp g.nd) j i (by omega) hi (by omega) e
  refine ⟨_,?_,some (.shr (.int (i:Int))),rfl⟩
  show qz 4 _ _ (rP ns k sz kn (plD (kn.take i) 0) (some (.shr (.int (i:Int)))) a6 a7 a8 a9 a10 a11)=_
  rw [uK (kvs:=plD (kn.take i) 0) (kd:=az kn[i]) (d:=nD i) _ rfl (by unfold rP;simp [hx]) rfl (gW _) (by rw [wf];omega)]
  have:=zV nin
  rw [hl] at this
  rw [this,<- List.take_succ_eq_append_getElem hi]
  rfl) ⟨none,rfl⟩
 refine ⟨a5,?_⟩
 rw [eI]
 have:dh (aC (una aU (vb 3)) aN) (rP ns k sz kn [] none a6 a7 a8 a9 a10 a11)=.val (rng 0 kn.length):=by
  unfold rP;simp;exact gR (by omega)
 rw [this,ae,e,List.take_length]
noncomputable abbrev AO:Rho->R Out:=sq (asg 10 (una lE (kd (.int 1))))
 (sq (DL.iff (tst (bin feq (bin fix (vb 7) (kd (.int 1))) (bin fix (vb 9) (kd (.int 0)))))
 (asg 10 (qB 4 (eT (aC (bin fix (vb 7) (kd (.int 0))) (aC (bin fix (vb 9) (kd (.int 1))) (aC (una jv (eLs (bq (fIt (bin fix (vb 7) (kd (.int 2)))) 1 (tgN 12) tT (bin fix (bin fix (vb 9) (kd (.int 2))) (vb 12))))) aN))))))
 nxt)
 (app 8 (vr 10)))
theorem yK (g:Good sz kn) {x y:Arr} (hx:x ∈ kn) (hy:y ∈ kn) {row:List D} (hl:row.length<=27) (a5 a6 a10 a11:Option Slt) :
  ∃ b10,AO (rP ns k sz kn (plD kn 0) a5 a6 (some (.shr (az x))) (some (.own row)) (some (.shr (az y))) a10 a11)=.val (.nx (rP ns k sz kn (plD kn 0) a5 a6 (some (.shr (az x))) (some (.own (row ++ [.int (mk kn x y)]))) (some (.shr (az y))) b10 a11)):=by
 have x1:asg 10 (una lE (kd (.int 1))) (rP ns k sz kn (plD kn 0) a5 a6 (some (.shr (az x))) (some (.own row)) (some (.shr (az y))) a10 a11)=.val (.nx (rP ns k sz kn (plD kn 0) a5 a6 (some (.shr (az x))) (some (.own row)) (some (.shr (az y))) (some (.shr (.int (-1)))) a11)):=by unfold rP;simp
 have last:∀ z:Int,app 8 (vr 10) (rP ns k sz kn (plD kn 0) a5 a6 (some (.shr (az x))) (some (.own row)) (some (.shr (az y))) (some (.shr (.int z))) a11)=.val (.nx (rP ns k sz kn (plD kn 0) a5 a6 (some (.shr (az x))) (some (.own (row ++ [.int z]))) (some (.shr (az y))) (some (.shr (.int z))) a11)):=fun z=>by
  rw [jb (xs:=row) (d:=.int z) _ rfl rfl (by omega)];rfl
 have hT:tst (bin feq (bin fix (vb 7) (kd (.int 1))) (bin fix (vb 9) (kd (.int 0)))) (rP ns k sz kn (plD kn 0) a5 a6 (some (.shr (az x))) (some (.own row)) (some (.shr (az y))) (some (.shr (.int (-1)))) a11)=.val (decide (x.2.1=y.1)):=by
  unfold rP;simp;omega
 show ∃ b10,sq _ _ _=_
 rw [aX,x1,ae];dsimp only
 rw [aX,cD,hT,ae]
 unfold mk
 by_cases e:x.2.1=y.1
 ·rw [decide_eq_true e,if_pos rfl,if_pos e]
  have hc:=uO g.szm (g.ok x hx) (g.ok y hy) e (src:=fIt (bin fix (vb 7) (kd (.int 2)))) (el:=bin fix (bin fix (vb 9) (kd (.int 2))) (vb 12)) (i:=12) (ρ:=rP ns k sz kn (plD kn 0) a5 a6 (some (.shr (az x))) (some (.own row)) (some (.shr (az y))) (some (.shr (.int (-1)))) a11) (by simp [rP]) (fun k=>by simp [rP])
  have hv:eT (aC (bin fix (vb 7) (kd (.int 0))) (aC (bin fix (vb 9) (kd (.int 1))) (aC (una jv (eLs (bq (fIt (bin fix (vb 7) (kd (.int 2)))) 1 (tgN 12) tT (bin fix (bin fix (vb 9) (kd (.int 2))) (vb 12))))) aN))) (rP ns k sz kn (plD kn 0) a5 a6 (some (.shr (az x))) (some (.own row)) (some (.shr (az y))) (some (.shr (.int (-1)))) a11)=.val (az (comp x y)):=by
   simp only [kl,e7,gg,cE,hc]
   unfold rP;simp;rfl
  have hg:=sW 0 (g.cl x hx y hy e)
  rw [Nat.zero_add] at hg
  rw [fo,uN (kvs:=plD kn 0) _ rfl hv (gW _) hg,ae,ae];dsimp only
  exact ⟨_,last _⟩
 ·rw [decide_eq_false e,if_neg (by decide),if_neg e]
  exact ⟨_,last _⟩
noncomputable abbrev xL:Rho->R Out:=sq (own 8 (ib aN))
 (sq (cA (fIt (vr 3)) (tgN 9) AO)
 (fz 8 (app 6 (vr 8))))
theorem yD (g:Good sz kn) {x:Arr} (hx:x ∈ kn) {tab:List D} (hl:tab.length<=27) (a5 a8 a9 a10 a11:Option Slt) :
  ∃ b8 b9 b10,xL (rP ns k sz kn (plD kn 0) a5 (some (.own tab)) (some (.shr (az x))) a8 a9 a10 a11)=.val (.nx (rP ns k sz kn (plD kn 0) a5 (some (.own (tab ++ [ak (kn.map fun y=>mk kn x y)]))) (some (.shr (az x))) b8 b9 b10 a11)):=by
 have few:=g.few
 obtain ⟨ρ',e,a9',a10',rfl⟩:=gU (T:=tgN 9) (F:=AO) (xs:=kn.map az) (ρ:=rP ns k sz kn (plD kn 0) a5 (some (.own tab)) (some (.shr (az x))) (some (.own [])) a9 a10 a11) (fun i ρ=>∃ a9 a10,ρ=rP ns k sz kn (plD kn 0) a5 (some (.own tab)) (some (.shr (az x))) (some (.own (((kn.take i).map fun y=>mk kn x y).map D.int))) a9 a10 a11) (fun i d ρ hd hI=>by
  obtain ⟨a9,a10,rfl⟩:=hI
  have hi:i < kn.length:=by have:=(List.getElem?_eq_some_iff.mp hd).1;simpa using this
  have hde:d=az kn[i]:=by
   rw [List.getElem?_map] at hd
   simp [hi] at hd;exact hd.symm
  subst hde
  obtain ⟨b10,e⟩:=yK (ns:=ns) (k:=k) g hx (List.getElem_mem hi) (row:=((kn.take i).map fun y=>mk kn x y).map D.int) (by simp;omega) a5 (some (.own tab)) a10 a11
  refine ⟨_,_,rfl,e,some (.shr (az kn[i])),b10,?_⟩
  rw [List.take_succ_eq_append_getElem hi,List.map_append,List.map_append]
  rfl) ⟨a9,a10,rfl⟩
 rw [List.length_map,List.take_length] at e
 refine ⟨some (.shr (ak (kn.map fun y=>mk kn x y))),a9',a10',?_⟩
 show sq _ _ _=_
 have x1:own 8 (ib aN) (rP ns k sz kn (plD kn 0) a5 (some (.own tab)) (some (.shr (az x))) a8 a9 a10 a11)=.val (.nx (rP ns k sz kn (plD kn 0) a5 (some (.own tab)) (some (.shr (az x))) (some (.own [])) a9 a10 a11)):=by unfold rP;simp
 rw [aX,x1,ae];dsimp only
 rw [aX,eI]
 show ((((R.val (kn.map az)).bind _)).bind _)=_
 rw [ae,e,ae];dsimp only
 rw [oY]
 show app 6 (vr 8) (rP ns k sz kn (plD kn 0) a5 (some (.own tab)) (some (.shr (az x))) (some (.shr (ak (kn.map fun y=>mk kn x y)))) a9' a10' a11)=_
 rw [jb (xs:=tab) (d:=ak (kn.map fun y=>mk kn x y)) _ rfl rfl (by omega)]
 rfl
theorem w9 (ns:List Int) (k:Nat):∃ sz kn,Good sz kn/\dk [.scr ns,.int (k:Int)]=.val (.tup [bC (bI kn),aP (bz sz kn),aj (cV kn),.lst (kn.map az),aP sz]):=by
 obtain ⟨sz,hz,hs⟩:=w6 ns k
 obtain ⟨l1,l4,l3⟩:=gy sz hz
 obtain ⟨kn,g,ha⟩:=vC hz ns (k + 1)
 have ha':cq [.scr ns,.int ((k:Int) + 1),aP sz]=.val (.lst (kn.map az)):=ha
 have few:=g.few
 obtain ⟨a5,ep⟩:=w8 (ns:=ns) (k:=k) g none none none none none none
 obtain ⟨ρ',et,a7,a8,a9,a10,rfl⟩:=gU (T:=tgN 7) (F:=xL) (xs:=kn.map az) (ρ:=rP ns k sz kn (plD kn 0) a5 (some (.own [])) none none none none none) (fun i ρ=>∃ a7 a8 a9 a10,ρ=rP ns k sz kn (plD kn 0) a5 (some (.own ((kn.take i).map fun x=>ak (kn.map fun y=>mk kn x y)))) a7 a8 a9 a10 none) (fun i d ρ hd hI=>by
  obtain ⟨a7,a8,a9,a10,rfl⟩:=hI
  have hi:i < kn.length:=by have:=(List.getElem?_eq_some_iff.mp hd).1;simpa using this
  have hde:d=az kn[i]:=by
   rw [List.getElem?_map] at hd
   simp [hi] at hd;exact hd.symm
  subst hde
  obtain ⟨b8,b9,b10,e⟩:=yD (ns:=ns) (k:=k) g (List.getElem_mem hi) (tab:=(kn.take i).map fun x=>ak (kn.map fun y=>mk kn x y)) (by simp;omega) a5 a8 a9 a10 none
  refine ⟨_,_,rfl,e,some (.shr (az kn[i])),b8,b9,b10,?_⟩
  rw [List.take_succ_eq_append_getElem hi,List.map_append]
  rfl) ⟨none,none,none,none,rfl⟩
 rw [List.length_map,List.take_length] at et
 refine ⟨sz,kn,g,?_⟩
 simp only [dk,gG]
 show fin (sq (asg 2 _) _ [some (.shr (.scr ns)),some (.shr (nD k)),none,none,none,none,none,none,none,none,none,none])=_
 have x1:asg 2 (cal 2 dj (aC (vr 0) (aC (vr 1) aN))) [some (.shr (.scr ns)),some (.shr (nD k)),none,none,none,none,none,none,none,none,none,none]=.val (.nx [some (.shr (.scr ns)),some (.shr (nD k)),some (.shr (aP sz)),none,none,none,none,none,none,none,none,none]):=by simp [hs]
 rw [aX,x1,ae];dsimp only
 have x2:asg 3 (cal 3 cq (aC (vr 0) (aC (bin cX (vb 1) (kd (.int 1))) (aC (vr 2) aN)))) [some (.shr (.scr ns)),some (.shr (nD k)),some (.shr (aP sz)),none,none,none,none,none,none,none,none,none]=.val (.nx [some (.shr (.scr ns)),some (.shr (nD k)),some (.shr (aP sz)),some (.shr (.lst (kn.map az))),none,none,none,none,none,none,none,none]):=by simp [ha']
 rw [aX,x2,ae];dsimp only
 rw [aX,uM,ae];dsimp only
 show fin (sq (cA _ (tgN 5) _) _ (rP ns k sz kn [] none none none none none none none))=_
 rw [aX,ep,ae];dsimp only
 have x3:own 6 (ib aN) (rP ns k sz kn (plD kn 0) a5 none none none none none none)=.val (.nx (rP ns k sz kn (plD kn 0) a5 (some (.own [])) none none none none none)):=by unfold rP;simp
 rw [aX,x3,ae];dsimp only
 have x4:cA (fIt (vr 3)) (tgN 7) xL (rP ns k sz kn (plD kn 0) a5 (some (.own [])) none none none none none)=.val (.nx (rP ns k sz kn (plD kn 0) a5 (some (.own (kn.map fun x=>ak (kn.map fun y=>mk kn x y)))) a7 a8 a9 a10 none)):=by
  rw [eI]
  show (R.val (kn.map az)).bind _=_
  rw [ae,et]
 show fin (sq (cA (fIt (vr 3)) (tgN 7) xL) _ _)=_
 rw [aX,x4,ae];dsimp only
 have hrest:bq (dh (aC (una aU (vb 2)) aN)) 1 (tgN 12) tT (qB 4 (eT (aC (vr 12) (aC (vr 12) (aC (i3 (aC (bin fix (vb 2) (vb 12)) aN)) aN))))) (rP ns k sz kn (plD kn 0) a5 (some (.own (kn.map fun x=>ak (kn.map fun y=>mk kn x y)))) a7 a8 a9 a10 none)=.val ((bz sz kn).map nD):=by
  have:=nn (src:=dh (aC (una aU (vb 2)) aN)) (m:=sz.length) (n:=1) (i:=12) (e:=qB 4 (eT (aC (vr 12) (aC (vr 12) (aC (i3 (aC (bin fix (vb 2) (vb 12)) aN)) aN))))) (g:=fun b=>nD (kn.idxOf (idm sz b))) (ρ:=rP ns k sz kn (plD kn 0) a5 (some (.own (kn.map fun x=>ak (kn.map fun y=>mk kn x y)))) a7 a8 a9 a10 none) (by unfold rP;simp;exact gR (by omega)) (by omega) fun b hb=>by
   have f1:=jr (sz:=sz) hb
   have hs:sz.getD b 0<=3:=by rw [aG hb];exact l3 _ (List.getElem_mem hb)
   have hrg:=tW (n:=sz.getD b 0) (by omega)
   have hg:=sW 0 (g.rest b hb)
   rw [Nat.zero_add] at hg
   refine uN (kvs:=plD kn 0) (kd:=az (idm sz b)) _ rfl ?_ (gW _) hg
   unfold rP
   simp [-List.getD_eq_getElem?_getD,f1,hrg];rfl
  rw [this]
  unfold bz
  rw [List.map_map];rfl
 rw [aX,fo,cE,hrest,ae,ae,ae];dsimp only
 rw [oY]
 have hens:∀ t a7 a8 a9 a10 a11,bq (fIt (vr 3)) 1 (tgN 12) tT (eT (aC (bin fix (vb 12) (kd (.int 0))) (aC (bin fix (vb 12) (kd (.int 1))) aN))) (rP ns k sz kn (plD kn 0) a5 t a7 a8 a9 a10 a11)=.val ((bI kn).map dw):=fun t a7 a8 a9 a10 a11=>by
  rw [bZ (f:=az) (l:=kn) (g:=fun x=>dw (x.1,x.2.1)) rfl (by omega) fun x _=>by unfold rP;simp;rfl]
  unfold bI
  rw [List.map_map];rfl
 have htab:D.lst (kn.map fun x=>ak (kn.map fun y=>mk kn x y))=aj (cV kn):=by
  unfold aj cV;rw [List.map_map];rfl
 show fin (ret _ (rP ns k sz kn (plD kn 0) a5 (some (.shr (.lst (kn.map fun x=>ak (kn.map fun y=>mk kn x y))))) a7 a8 a9 a10 (some (.shr (aP (bz sz kn))))))=_
 rw [htab,dM,kl,e7,cE,hens,ae,ae]
 unfold rP
 simp;rfl
theorem yJ {sz kn:List _} (g:Good sz kn) (r:List D):dA [.tup (bC (bI kn) :: aP (bz sz kn) :: aj (cV kn) :: r)]=.val (.ob (bC (bI kn)) (aP (bz sz kn)) (aj (cV kn))):=by
 have h:=qm g
 have n1:=h.na40
 have n2:=h.tl
 simp only [dA,ik]
 have hf:bq (fIt (bin fix (vb 0) (kd (.int 2)))) 1 (tgN 1) tT (eLs (fIt (vb 1))) [some (.shr (.tup (bC (bI kn) :: aP (bz sz kn) :: aj (cV kn) :: r)))]=.val ((cV kn).map ak):=bZ (f:=ak) (by simp;rfl) (by omega) fun r _=>rfl
 have eh:=yL h
 show fin (ret _ [some (.shr (.tup (bC (bI kn) :: aP (bz sz kn) :: aj (cV kn) :: r)))])=_
 have ha:aC (eLs (fIt (bin fix (vb 0) (kd (.int 0))))) (aC (eLs (fIt (bin fix (vb 0) (kd (.int 1))))) (aC (eLs (bq (fIt (bin fix (vb 0) (kd (.int 2)))) 1 (tgN 1) tT (eLs (fIt (vb 1))))) aN)) [some (.shr (.tup (bC (bI kn) :: aP (bz sz kn) :: aj (cV kn) :: r)))]=.val [bC (bI kn),aP (bz sz kn),aj (cV kn)]:=by
  simp only [e7,cE,hf]
  simp;rfl
 rw [dM,Ap,ha,ae];dsimp only
 rw [eh];rfl
end
end DL
namespace DL
open PySem L2 Ar
section
variable (ρ:Rho)
@[simp] theorem Ci (a b:Rho->R D):xz a b ρ=(a ρ).bind fun x=>(asB x).bind fun c=>if c=true then b ρ else .val (.bl false):=Eq.trans rfl rfl
end
theorem o4 {α:Type} {T:D->Rho->Option Rho} {t:Rho->R Bool} {e:Rho->R D} {f g:α->D} {p:α->Bool} {ρ:Rho}:∀ {l:List α},(∀ a ∈ l,∃ ρ1,T (f a) ρ=some ρ1/\t ρ1=.val (p a)/\e ρ1=.val (g a))->i7 T t e (l.map f) ρ=.val ((l.filter p).map g)
 | [],_=>rfl
 | a :: r,h=>by
  obtain ⟨ρ1,h1,h2,h3⟩:=h a (by simp)
  have ih:=o4 (T:=T) (t:=t) (e:=e) (f:=f) (g:=g) (p:=p) (ρ:=ρ) (l:=r) fun b hb=>h b (by simp [hb])
  rw [List.map_cons]
  unfold i7
  rw [h1]
  show (noE (t ρ1)).bind _=_
  rw [h2,List.filter_cons]
  cases q:p a with
  | true=>simp [h3,ih]
  | false=>simp [ih]
theorem gZ {α:Type} {src:Rho->R (List D)} {n:Nat} {T:D->Rho->Option Rho} {t:Rho->R Bool} {e:Rho->R D} {f g:α->D} {p:α->Bool} {l:List α} {ρ:Rho} (hs:src ρ=.val (l.map f)) (hl:l.length<=100000)
  (h:∀ a ∈ l,∃ ρ1,T (f a) (ρ ++ List.replicate n none)=some ρ1/\t ρ1=.val (p a)/\e ρ1=.val (g a)):bq src n T t e ρ=.val ((l.filter p).map g):=by
 unfold bq
 rw [hs,ae,if_pos (show (l.map f).length<=LIM by rw [List.length_map];exact hl),o4 h]
 rfl
theorem jX (n:Nat):rng 0 n=(List.range n).map nD:=by
 unfold rng nD
 apply List.map_congr_left
 intro k _
 rw [Int.zero_add]
theorem kh:∀ (l:List D) (s:Nat),enu s l=(List.range l.length).map fun i=>.tup [nD (s + i),l.getD i .non]
 | [],s=>rfl
 | x :: r,s=>by
  unfold enu
  rw [kh r (s + 1),List.length_cons,List.range_succ_eq_map,List.map_cons,List.map_map]
  simp only [Nat.add_zero,List.getD_cons_zero]
  congr 1
  apply List.map_congr_left
  intro i _
  simp only [Function.comp,List.getD_cons_succ]
  rw [show s + 1 + i=s + (i + 1) by omega]
theorem oV {α:Type} {T:D->Rho->Option Rho} {F:Rho->R Out} {f g:α->D} {p:α->Bool} (I:Rho->Prop):∀ {l:List α} {ρ:Rho},(∀ a ∈ l,∀ ρ,I ρ->∃ ρ1,T (f a) ρ=some ρ1/\(p a=true->F ρ1=.val (.rt (g a)))/\(p a=false->∃ ρ2,F ρ1=.val (.nx ρ2)/\I ρ2))->I ρ ->
  (∃ a,l.find? p=some a/\cR T F (l.map f) ρ=.val (.rt (g a)))\/(l.find? p=none/\∃ ρ',cR T F (l.map f) ρ=.val (.nx ρ')/\I ρ')
 | [],ρ,_,h=>.inr ⟨rfl,ρ,rfl,h⟩
 | a :: r,ρ,step,h=>by
  obtain ⟨ρ1,h1,h2,h3⟩:=step a (by simp) ρ h
  rw [List.find?_cons,List.map_cons]
  unfold cR
  rw [h1]
  cases q:p a with
  | true=>exact .inl ⟨a,rfl,by dsimp only;rw [h2 q];rfl⟩
  | false =>
   obtain ⟨ρ2,e2,i2⟩:=h3 q
   dsimp only
   rw [e2]
   exact oV (T:=T) (F:=F) (f:=f) (g:=g) (p:=p) I (fun b hb=>step b (by simp [hb])) i2
theorem ux (p q:Nat × Nat):feq (dw p) (dw q)=.val (.bl (decide (p=q))):=by
 by_cases h:p=q
 ·subst h;rw [ni (j3 _)];simp
 ·rw [nj (j3 _) (j3 _) (fun z=>h (endD_inj.mp z))];simp [h]
end DL
namespace DL
open PySem L2 Ar
noncomputable def hlD (en:List (Nat × Nat)) (re:List Nat) (tb:List (List Int)):D:=.ob (bC en) (aP re) (aj tb)
section
variable {en:List (Nat × Nat)} {re:List Nat} {tb:List (List Int)}
@[simp] theorem C3:eO 0 (hlD en re tb)=.val (bC en):=Eq.trans rfl rfl
@[simp] theorem C2:eO 1 (hlD en re tb)=.val (aP re):=Eq.trans rfl rfl
@[simp] theorem C1:eO 2 (hlD en re tb)=.val (aj tb):=Eq.trans rfl rfl
end
section
variable (ρ:Rho)
@[simp] theorem Cg (F:Rho->R (List D)):lF F ρ=(F ρ).bind zt:=Eq.trans rfl rfl
@[simp] theorem Cb (xs ys:List D):zt [.lst xs,.lst ys]=.val (zp xs ys):=Eq.trans rfl rfl
@[simp] theorem Ch (F:Rho->R (List D)):w4 F ρ=(F ρ).bind wF:=Eq.trans rfl rfl
end
theorem wE {n:Nat} (h:n<=100000):wF [.int (n:Int)]=.val ((List.range n).map nD):=by
 unfold wF
 dsimp only
 rw [if_pos (by constructor <;> omega),Int.toNat_natCast,jX]
theorem o9 {α:Type} (p:α->Bool):∀ l:List α,ja (l.map fun a=>D.bl (p a))=some (l.map p)
 | []=>rfl
 | a :: r=>by
  rw [List.map_cons,List.map_cons]
  unfold ja
  rw [o9 p r];rfl
theorem nl {α:Type} (p:α->Bool) (l:List α):sh (.lst (l.map fun a=>D.bl (p a)))=.val (.bl (l.all p)):=by
 unfold sh
 dsimp only
 rw [o9]
 dsimp only
 rw [List.all_map];rfl
theorem vK:∀ {xs ys:List D},xs.length=ys.length->zp xs ys=(List.range xs.length).map fun i=>.tup [xs.getD i .non,ys.getD i .non]
 | [],[],_=>rfl
 | [],_ :: _,h=>by simp at h
 | _ :: _,[],h=>by simp at h
 | x :: xs,y :: ys,h=>by
  unfold zp
  rw [vK (by simpa using h),List.length_cons,List.range_succ_eq_map,List.map_cons,List.map_map]
  congr 1
theorem pi {α β:Type} {f:α->D} {g:β->D} {l:List α} {m:List β} {a:α} {b:β} (h:l.length=m.length):zp (l.map f) (m.map g)=(List.range l.length).map fun i=>.tup [f (l.getD i a),g (m.getD i b)]:=by
 rw [vK (by simpa using h),List.length_map]
 apply List.map_congr_left
 intro i hi
 have hi:=List.mem_range.mp hi
 rw [aG (show i < (l.map f).length by simpa using hi),aG (show i < (m.map g).length by simpa [<- h] using hi),aG hi,aG (show i < m.length by omega),List.getElem_map,List.getElem_map]
theorem wG {α:Type} {T:D->Rho->Option Rho} {F:Rho->R Out} {f:α->D} {ok:α->Bool} (I:Rho->Prop) {l:List α} {ρ:Rho} (step:∀ a ∈ l,∀ ρ,I ρ->∃ ρ1,T (f a) ρ=some ρ1/\(ok a=false->F ρ1=.val (.rt (.bl false)))/\(ok a=true->∃ ρ2,F ρ1=.val (.nx ρ2)/\I ρ2)) (h:I ρ) :
  (l.all ok=false/\cR T F (l.map f) ρ=.val (.rt (.bl false)))\/(l.all ok=true/\∃ ρ',cR T F (l.map f) ρ=.val (.nx ρ')/\I ρ'):=by
 rcases oV (T:=T) (F:=F) (f:=f) (g:=fun _=>.bl false) (p:=fun a=>!ok a) I (l:=l) (ρ:=ρ) (fun a ha ρ hI=>by
  obtain ⟨ρ1,h1,h2,h3⟩:=step a ha ρ hI
  exact ⟨ρ1,h1,fun q=>h2 (by simpa using q),fun q=>h3 (by simpa using q)⟩) h with ⟨a,e,z⟩ | ⟨e,z⟩
 ·refine .inl ⟨?_,z⟩
  have:=List.find?_some e
  rw [Bool.eq_false_iff]
  intro q
  have q:=List.all_eq_true.mp q a (List.mem_of_find?_eq_some e)
  simp [q] at this
 ·refine .inr ⟨?_,z⟩
  rw [List.all_eq_true]
  intro a ha
  have:=List.find?_eq_none.mp e a ha
  simpa using this
theorem qo {α:Type} {src:Rho->R (List D)} {T:D->Rho->Option Rho} {F:Rho->R Out} {f:α->D} {ok:α->Bool} (I:Rho->Prop) {l:List α} {ρ:Rho} (hs:src ρ=.val (l.map f)) (step:∀ a ∈ l,∀ ρ,I ρ->∃ ρ1,T (f a) ρ=some ρ1/\(ok a=false->F ρ1=.val (.rt (.bl false)))/\(ok a=true->∃ ρ2,F ρ1=.val (.nx ρ2)/\I ρ2)) (h:I ρ) :
  (l.all ok=false/\cA src T F ρ=.val (.rt (.bl false)))\/(l.all ok=true/\∃ ρ',cA src T F ρ=.val (.nx ρ')/\I ρ'):=by
 rw [eI,hs,ae]
 exact wG I step h
theorem l0 {α:Type} {src:Rho->R (List D)} {T:D->Rho->Option Rho} {F:Rho->R Out} {f:α->D} {ok:α->Bool} (I:Rho->Prop) {l:List α} {ρ:Rho} (hs:src ρ=.val (l.map f)) (step:∀ a ∈ l,∀ ρ,I ρ->∃ ρ1,T (f a) ρ=some ρ1/\(ok a=false->F ρ1=.val (.rt (.bl false)))/\(ok a=true->∃ ρ2,F ρ1=.val (.nx ρ2)/\I ρ2)) (h:I ρ) :
  fin (sq (cA src T F) (ret (kd (.bl true))) ρ)=.val (.bl (l.all ok)):=by
 rw [aX]
 rcases qo I hs step h with ⟨e,z⟩ | ⟨e,ρ',z,_⟩
 ·rw [z,e];rfl
 ·rw [z,e];rfl
noncomputable def fX (n:Int) (z:Int):Bool:=decide (0<=z) && decide (z < n)
theorem ie (l:List Int) (n:Int) (hl:l.length<=100000):bp [ak l,.int n]=.val (.bl (l.all (fX n))):=by
 simp only [bp,gK]
 show fin (ret _ [some (.shr (ak l)),some (.shr (.int n))])=_
 have hc:bq (fIt (vr 0)) 1 (tgN 2) tT (cal 2 aK (aC (vr 2) (aC (vr 1) aN))) [some (.shr (ak l)),some (.shr (.int n))]=.val (l.map fun z=>.bl (fX n z)):=bZ (f:=D.int) rfl hl fun z _=>by
  have:=iY z n
  simp [this,fX]
 rw [dM,gg,cE,hc,ae,ae,nl];rfl
theorem zB {A B:Rho->R Out} {ρ:Rho} {c r:Bool} (I:Rho->Prop) (hA:(c=false/\A ρ=.val (.rt (.bl false)))\/(c=true/\∃ ρ',A ρ=.val (.nx ρ')/\I ρ')) (hB:c=true->∀ ρ',I ρ'->fin (B ρ')=.val (.bl r)):fin (sq A B ρ)=.val (.bl (c && r)):=by
 rw [aX]
 rcases hA with ⟨e,h⟩ | ⟨e,ρ',h,i⟩
 ·rw [h,e];rfl
 ·rw [h,ae,e,Bool.true_and];exact hB e ρ' i
theorem ifR {t:Rho->R Bool} {ρ:Rho} {c:Bool} (ht:t ρ=.val (!c)):(c=false/\DL.iff t (ret (kd (.bl false))) nxt ρ=.val (.rt (.bl false)))\/(c=true/\∃ ρ',DL.iff t (ret (kd (.bl false))) nxt ρ=.val (.nx ρ')/\ρ'=ρ):=by
 rw [cD,ht]
 cases c with
 | false=>exact .inl ⟨rfl,rfl⟩
 | true=>exact .inr ⟨rfl,_,rfl,rfl⟩
theorem zk {t:Rho->R Bool} {ρ:Rho} {c:Bool} (ht:t ρ=.val (!c)):(c=false->DL.iff t (ret (kd (.bl false))) nxt ρ=.val (.rt (.bl false)))/\(c=true->DL.iff t (ret (kd (.bl false))) nxt ρ=.val (.nx ρ)):=by
 rw [cD,ht]
 exact ⟨fun z=>by rw [z];rfl,fun z=>by rw [z];rfl⟩
@[simp] theorem CV (T:D->Rho->Option Rho) (e:Rho->R D) (ρ:Rho):asT T e ρ=(e ρ).bind fun d=>match T d ρ with
 | some ρ'=>.val (.nx ρ')
 | none=>.bad:=Eq.trans rfl rfl
theorem fY {F:Rho->R D} {ρ:Rho} {n:Nat} (h:F ρ=.val (.int (n:Int))) (hn:n<=100000):dh (aC F aN) ρ=.val ((List.range n).map nD):=by
 rw [uB,e7,h,ae,ph,ae,ae,gR hn,jX]
theorem rowD_inj {a b:List Int}:ak a=ak b ↔ a=b:=by
 constructor
 ·intro h
  unfold ak at h
  injection h with h
  exact qa (fun a b e=>by cases e;rfl) h
 ·rintro rfl;rfl
theorem yA (a b:List Int):feq (ak a) (ak b)=.val (.bl (decide (a=b))):=by
 by_cases h:a=b
 ·subst h;rw [ni (gB _)];simp
 ·rw [nj (gB _) (gB _) (fun z=>h (rowD_inj.mp z))];simp [h]
theorem qp (a b:List Int):fne (ak a) (ak b)=.val (.bl (!decide (a=b))):=by
 by_cases h:a=b
 ·subst h;rw [fJ (gB _)];simp
 ·rw [se (gB _) (gB _) (fun z=>h (rowD_inj.mp z))];simp [h]
noncomputable def rg (n:Nat):List Int:=(List.range n).map fun (k:Nat)=>(k:Int)
theorem zE (n:Nat):D.lst ((List.range n).map nD)=ak (rg n):=by
 unfold ak rg
 rw [List.map_map];rfl
theorem wY {r:List Int} {x:Int} (h:0<=x) (h2:x < r.length):fix (ak r) (.int x)=.val (.int (r.getD x.toNat (-1))):=by
 have:=dg (r:=r) (i:=x.toNat) (by omega)
 rwa [Int.toNat_of_nonneg h] at this
noncomputable def fol (a b:List Int):List Int:=a.map fun x=>b.getD x.toNat (-1)
theorem AH {a b:List Int} {src:Rho->R (List D)} {e:Rho->R D} {ρ:Rho} {i:Nat} (hl:a.length<=100000) (h:∀ x ∈ a,0<=x/\x < b.length) (hs:src ρ=.val (a.map D.int)) (he:∀ x:Int,e ((ρ ++ List.replicate 1 none).set i (some (.shr (.int x))))=fix (ak b) (.int x)):eLs (bq src 1 (tgN i) tT e) ρ=.val (ak (fol a b)):=by
 rw [cE,bZ (f:=D.int) (g:=fun x=>.int (b.getD x.toNat (-1))) hs hl fun x hx=>(by rw [he,wY (h x hx).1 (h x hx).2])]
 unfold ak fol
 rw [List.map_map];rfl
theorem iZ {a b:List Int} (hl:a.length<=100000) (h:∀ x ∈ a,0<=x/\x < b.length):bA [ak a,ak b]=.val (ak (fol a b)):=by
 simp only [bA,ir]
 show fin (ret _ [some (.shr (ak a)),some (.shr (ak b))])=_
 rw [dM,AH (a:=a) (b:=b) hl h rfl fun x=>rfl];rfl
structure Bd (cs:List Int) (ms:List (List Int)):Prop where
 c:cs.length<=1000
 m:ms.length<=1000
 r:∀ l ∈ ms,l.length<=1000
section
variable {en:List (Nat × Nat)} {re:List Nat} {tb:List (List Int)} {cs:List Int} {ms:List (List Int)}
theorem Bd.at (b:Bd cs ms) (i:Nat):(ms.getD i []).length<=1000:=by
 by_cases h:i < ms.length
 ·rw [aG h];exact b.r _ (List.getElem_mem h)
 ·rw [List.getD_eq_getElem?_getD,List.getElem?_eq_none (by omega)];exact Nat.zero_le _
noncomputable def r1 (en:List (Nat × Nat)) (re:List Nat) (cs:List Int) (ms:List (List Int)):Bool:=decide (cs.length=re.length) && decide (ms.length=en.length)
noncomputable def fOk (en:List (Nat × Nat)) (cs:List Int) (ms:List (List Int)) (i:Nat):Bool:=decide (((ms.getD i []).length:Int)=cs.getD (en.getD i (0,0)).1 (-1)) && (ms.getD i []).all (fX (cs.getD (en.getD i (0,0)).2 (-1)))
noncomputable def okR (re:List Nat) (cs:List Int) (ms:List (List Int)) (b:Nat):Bool:=decide (ms.getD (re.getD b 0) []=rg (cs.getD b (-1)).toNat)
noncomputable def okT (tb:List (List Int)) (ms:List (List Int)) (i j:Nat):Bool:=decide ((tb.getD i []).getD j (-1)=-1) || decide (ms.getD ((tb.getD i []).getD j (-1)).toNat []=fol (ms.getD i []) (ms.getD j []))
noncomputable def r3 (en:List (Nat × Nat)) (cs:List Int) (ms:List (List Int)):Bool:=(List.range en.length).all (fOk en cs ms)
noncomputable def r4 (re:List Nat) (cs:List Int) (ms:List (List Int)):Bool:=(List.range re.length).all (okR re cs ms)
noncomputable def r5 (en:List (Nat × Nat)) (tb ms:List (List Int)):Bool:=(List.range en.length).all fun i=>(List.range en.length).all (okT tb ms i)
theorem nB (h:bW en re tb) {i j:Nat} (hi:i < en.length) (hj:j < en.length):(tb.getD i []).getD j (-1)=-1\/∃ k,k < en.length/\(tb.getD i []).getD j (-1)=(k:Int)/\(en.getD i (0,0)).2=(en.getD j (0,0)).1:=by
 by_cases e:(en.getD i (0,0)).2=(en.getD j (0,0)).1
 ·obtain ⟨k,h1,h2,_⟩:=h.tp i j hi hj e
  exact .inr ⟨k,h1,h2,e⟩
 ·exact .inl (h.tn i j hi hj e)
theorem AG (h3:r3 en cs ms=true) {i j:Nat} (hi:i < en.length) (hj:j < en.length) (e:(en.getD i (0,0)).2=(en.getD j (0,0)).1):∀ x ∈ ms.getD i [],0<=x/\x < (ms.getD j []).length:=by
 have q1:=List.all_eq_true.mp h3 i (List.mem_range.mpr hi)
 have q2:=List.all_eq_true.mp h3 j (List.mem_range.mpr hj)
 unfold fOk at q1 q2
 rw [Bool.and_eq_true,decide_eq_true_iff] at q1 q2
 intro x hx
 have:=List.all_eq_true.mp q1.2 x hx
 unfold fX at this
 rw [Bool.and_eq_true,decide_eq_true_iff,decide_eq_true_iff] at this
 refine ⟨this.1,?_⟩
 rw [q2.1,<- e];exact this.2
theorem sn (h:bW en re tb) (b:Bd cs ms):dZ [hlD en re tb,ak cs,aj ms]=.val (.bl (r1 en re cs ms && (cs.all (fX 41) && (r3 en cs ms && true)))):=by
 simp only [dZ,iq]
 show fin (sq _ _ [some (.shr (hlD en re tb)),some (.shr (ak cs)),some (.shr (aj ms)),none,none])=_
 refine zB (·=[some (.shr (hlD en re tb)),some (.shr (ak cs)),some (.shr (aj ms)),none,none]) (ifR ?_) ?_
 ·unfold r1
  by_cases p1:cs.length=re.length
  ·by_cases p2:ms.length=en.length
   ·simp [p1,p2]
   ·have q2:¬ (ms.length:Int)=en.length:=by omega
    simp [p1,p2,q2]
  ·have q1:¬ (cs.length:Int)=re.length:=by omega
   simp [p1,q1]
 ·rintro e1 _ rfl
  unfold r1 at e1
  rw [Bool.and_eq_true,decide_eq_true_iff,decide_eq_true_iff] at e1
  obtain ⟨l1,l2⟩:=e1
  refine zB (·=[some (.shr (hlD en re tb)),some (.shr (ak cs)),some (.shr (aj ms)),none,none]) (ifR ?_) ?_
  ·have e:=ie cs 41 (by have:=b.c;omega)
   simp [-List.all_eq_true,e]
  ·rintro e2 _ rfl
   refine zB (fun _=>True) ?_ fun _ ρ' _=>rfl
   have main:=qo (src:=lF (aC (una (eO 0) (vb 0)) (aC (vr 2) aN))) (T:=tg2 3 4) (F:=(DL.iff (orB (tst (bin fne (una aU (vb 4)) (bin fix (vb 1) (bin fix (vb 3) (kd (.int 0)))))) (ez (tst (cal 2 bp (aC (vr 4) (aC (bin fix (vb 1) (bin fix (vb 3) (kd (.int 1)))) aN)))))) (ret (kd (.bl false))) nxt)) (f:=fun i=>.tup [dw (en.getD i (0,0)),ak (ms.getD i [])]) (ok:=fOk en cs ms) (l:=List.range en.length) (ρ:=[some (.shr (hlD en re tb)),some (.shr (ak cs)),some (.shr (aj ms)),none,none]) (fun ρ=>∃ x y,ρ=[some (.shr (hlD en re tb)),some (.shr (ak cs)),some (.shr (aj ms)),x,y]) ?_ (fun i hi ρ hI=>?_) ⟨_,_,rfl⟩
   ·rcases main with ⟨q,e⟩ | ⟨q,ρ',e,_⟩
    ·exact .inl ⟨q,e⟩
    ·exact .inr ⟨q,ρ',e,trivial⟩
   ·have:=pi (f:=dw) (g:=ak) (l:=en) (m:=ms) (a:=(0,0)) (b:=[]) l2.symm
    simp [bC,aj,this]
   ·obtain ⟨x,y,rfl⟩:=hI
    have hi:=List.mem_range.mp hi
    have eb:=h.eb i hi
    have f2:=dg (r:=cs) (i:=(en.getD i (0,0)).1) (by omega)
    have f3:=dg (r:=cs) (i:=(en.getD i (0,0)).2) (by omega)
    have e:=ie (ms.getD i []) (cs.getD (en.getD i (0,0)).2 (-1)) (by have:=b.at i;omega)
    have ht:orB (tst (bin fne (una aU (vb 4)) (bin fix (vb 1) (bin fix (vb 3) (kd (.int 0)))))) (ez (tst (cal 2 bp (aC (vr 4) (aC (bin fix (vb 1) (bin fix (vb 3) (kd (.int 1)))) aN))))) [some (.shr (hlD en re tb)),some (.shr (ak cs)),some (.shr (aj ms)),some (.shr (dw (en.getD i (0,0)))),some (.shr (ak (ms.getD i [])))]=.val (!fOk en cs ms i):=by
     unfold fOk
     by_cases p:((ms.getD i []).length:Int)=cs.getD (en.getD i (0,0)).1 (-1)
     ·simp [-List.getD_eq_getElem?_getD,-List.all_eq_true,f2,f3,e,p]
     ·simp [-List.getD_eq_getElem?_getD,-List.all_eq_true,f2,f3,e,p]
    obtain ⟨k1,k2⟩:=zk ht
    exact ⟨_,rfl,k1,fun z=>⟨_,k2 z,_,_,rfl⟩⟩
theorem nt (h:bW en re tb) (b:Bd cs ms) (l1:cs.length=re.length) (l2:ms.length=en.length) (h2:cs.all (fX 41)=true) :
  cU [hlD en re tb,ak cs,aj ms]=.val (.bl (r4 re cs ms)):=by
 simp only [cU,fQ]
 show fin (ret _ [some (.shr (hlD en re tb)),some (.shr (ak cs)),some (.shr (aj ms))])=_
 have n6:=h.nb6
 have hc:bq (fZ (aC (una (eO 1) (vb 0)) aN)) 2 (tg2 3 4) tT (bin feq (bin fix (vb 2) (vb 4)) (eLs (w4 (aC (bin fix (vb 1) (vb 3)) aN)))) [some (.shr (hlD en re tb)),some (.shr (ak cs)),some (.shr (aj ms))]=.val ((List.range re.length).map fun i=>.bl (okR re cs ms i)):=by
  have:=gZ (src:=fZ (aC (una (eO 1) (vb 0)) aN)) (n:=2) (T:=tg2 3 4) (t:=tT) (e:=bin feq (bin fix (vb 2) (vb 4)) (eLs (w4 (aC (bin fix (vb 1) (vb 3)) aN)))) (f:=fun i=>.tup [nD i,nD (re.getD i 0)]) (g:=fun i=>.bl (okR re cs ms i)) (p:=fun _=>true) (l:=List.range re.length) (ρ:=[some (.shr (hlD en re tb)),some (.shr (ak cs)),some (.shr (aj ms))]) ?_ (by rw [List.length_range];omega) fun i hi=>?_
  ·rw [this,List.filter_eq_self.mpr fun _ _=>rfl]
  ·have:enu 0 (re.map nD)=_:=kh _ _
   simp only [qs,e7,gg,ph]
   show (tz [.lst (re.map nD)])=_
   rw [qw,this,List.length_map]
   congr 1
   apply List.map_congr_left
   intro i hi
   have hi:=List.mem_range.mp hi
   rw [Nat.zero_add,aG (show i < (re.map nD).length by simpa using hi),aG hi,List.getElem_map]
  ·have hi:=List.mem_range.mp hi
   have q1:=(h.rs i hi).1
   have f1:=cB (tb:=ms) (i:=re.getD i 0) (by omega)
   have f2:=dg (r:=cs) (i:=i) (by omega)
   have cb:fX 41 (cs.getD i (-1))=true:=by
    rw [aG (show i < cs.length by omega)]
    exact List.all_eq_true.mp h2 _ (List.getElem_mem _)
   unfold fX at cb
   rw [Bool.and_eq_true,decide_eq_true_iff,decide_eq_true_iff] at cb
   have lr:=wE (n:=(cs.getD i (-1)).toNat) (by omega)
   rw [Int.toNat_of_nonneg cb.1] at lr
   refine ⟨_,rfl,rfl,?_⟩
   have q:=yA (ms.getD (re.getD i 0) []) (rg (cs.getD i (-1)).toNat)
   rw [<- zE] at q
   simp [-List.getD_eq_getElem?_getD,f1,f2,lr,q,okR]
 rw [dM,gg,cE,hc,ae,ae,nl];rfl
theorem nr (h:bW en re tb) (b:Bd cs ms) (l2:ms.length=en.length) (h3:r3 en cs ms=true) :
  cT [hlD en re tb,aj ms]=.val (.bl (r5 en tb ms)):=by
 simp only [cT,fP]
 show fin (sq _ _ [some (.shr (hlD en re tb)),some (.shr (aj ms)),none,none,none,none])=_
 have hl:=h.tl
 refine l0 (f:=fun i=>.tup [nD i,ak (tb.getD i [])]) (fun ρ=>∃ x y z w,ρ=[some (.shr (hlD en re tb)),some (.shr (aj ms)),x,y,z,w]) ?_ (fun i hi ρ hI=>?_) ⟨_,_,_,_,rfl⟩
 ·have:enu 0 (tb.map ak)=_:=kh _ _
  simp only [qs,e7,gg,ph]
  show (tz [.lst (tb.map ak)])=_
  rw [qw,this,List.length_map,hl]
  congr 1
  apply List.map_congr_left
  intro i hi
  have hi:=List.mem_range.mp hi
  rw [Nat.zero_add,aG (show i < (tb.map ak).length by simpa [hl] using hi),aG (show i < tb.length by omega),List.getElem_map]
 ·obtain ⟨x,y,z,w,rfl⟩:=hI
  have hi:=List.mem_range.mp hi
  have rl:=h.rl i hi
  refine ⟨_,rfl,?_⟩
  have main:=qo (src:=fZ (aC (vr 3) aN)) (T:=tg2 4 5) (F:=DL.iff (vG (tst (bin fne (vb 5) (una lE (kd (.int 1))))) (tst (bin fne (bin fix (vb 1) (vb 5)) (cal 2 bA (aC (bin fix (vb 1) (vb 2)) (aC (bin fix (vb 1) (vb 4)) aN)))))) (ret (kd (.bl false))) nxt) (f:=fun j=>.tup [nD j,.int ((tb.getD i []).getD j (-1))]) (ok:=okT tb ms i) (l:=List.range en.length) (ρ:=[some (.shr (hlD en re tb)),some (.shr (aj ms)),some (.shr (nD i)),some (.shr (ak (tb.getD i []))),z,w])
   (fun ρ=>∃ z w,ρ=[some (.shr (hlD en re tb)),some (.shr (aj ms)),some (.shr (nD i)),some (.shr (ak (tb.getD i []))),z,w]) ?_ (fun j hj ρ hI=>?_) ⟨_,_,rfl⟩
  ·rcases main with ⟨q,e⟩ | ⟨q,ρ',e,z',w',rfl⟩
   ·exact ⟨fun _=>e,fun t=>(by rw [t] at q;cases q)⟩
   ·exact ⟨fun t=>(by rw [t] at q;cases q),fun _=>⟨_,e,_,_,_,_,rfl⟩⟩
  ·have:enu 0 ((tb.getD i []).map D.int)=_:=kh _ _
   simp only [qs,e7,Bb,ph]
   show (tz [.lst ((tb.getD i []).map D.int)])=_
   rw [qw,this,List.length_map,rl]
   congr 1
   apply List.map_congr_left
   intro j hj
   have hj:=List.mem_range.mp hj
   rw [Nat.zero_add,aG (show j < ((tb.getD i []).map D.int).length by rw [List.length_map,rl];exact hj),aG (show j < (tb.getD i []).length by omega),List.getElem_map]
  ·obtain ⟨z,w,rfl⟩:=hI
   have hj:=List.mem_range.mp hj
   refine ⟨_,rfl,?_⟩
   have ht:vG (tst (bin fne (vb 5) (una lE (kd (.int 1))))) (tst (bin fne (bin fix (vb 1) (vb 5)) (cal 2 bA (aC (bin fix (vb 1) (vb 2)) (aC (bin fix (vb 1) (vb 4)) aN))))) [some (.shr (hlD en re tb)),some (.shr (aj ms)),some (.shr (nD i)),some (.shr (ak (tb.getD i []))),some (.shr (nD j)),some (.shr (.int ((tb.getD i []).getD j (-1))))]=.val (!okT tb ms i j):=by
    unfold okT
    rcases nB h hi hj with e | ⟨k,hk,e,e2⟩
    ·rw [e];simp
    ·rw [e]
     have f1:=cB (tb:=ms) (i:=k) (by omega)
     have f2:=cB (tb:=ms) (i:=i) (by omega)
     have f3:=cB (tb:=ms) (i:=j) (by omega)
     have q:=iZ (a:=ms.getD i []) (b:=ms.getD j []) (by have:=b.at i;omega) (AG h3 hi hj e2)
     have q2:=qp (ms.getD k []) (fol (ms.getD i []) (ms.getD j []))
     have nk:¬ (k:Int)=-1:=by omega
     simp [-List.getD_eq_getElem?_getD,f1,f2,f3,q,q2,nk]
   obtain ⟨k1,k2⟩:=zk ht
   exact ⟨k1,fun z=>⟨_,k2 z,_,_,rfl⟩⟩
noncomputable def isR (en:List (Nat × Nat)) (re:List Nat) (tb:List (List Int)) (cs:List Int) (ms:List (List Int)):Bool:=r1 en re cs ms && (cs.all (fX 41) && (r3 en cs ms && (r4 re cs ms && (r5 en tb ms && true))))
theorem ou (h:bW en re tb) (b:Bd cs ms):cu [hlD en re tb,ak cs,aj ms]=.val (.bl (isR en re tb cs ms)):=by
 simp only [cu,gq]
 show fin (ret _ [some (.shr (hlD en re tb)),some (.shr (ak cs)),some (.shr (aj ms))])=_
 have e1:=sn h b
 unfold isR
 cases c1:r1 en re cs ms with
 | false=>rw [c1] at e1;simp [e1]
 | true =>
  cases c2:cs.all (fX 41) with
  | false=>rw [c1,c2] at e1;simp [e1]
  | true =>
   cases c3:r3 en cs ms with
   | false=>rw [c1,c2,c3] at e1;simp [e1]
   | true =>
    rw [c1,c2,c3] at e1
    have c1:=c1
    unfold r1 at c1
    rw [Bool.and_eq_true,decide_eq_true_iff,decide_eq_true_iff] at c1
    have e2:=nt h b c1.1 c1.2 c2
    have e3:=nr h b c1.2 c3
    cases c4:r4 re cs ms with
    | false=>rw [c4] at e2;simp [e1,e2]
    | true=>rw [c4] at e2;simp [e1,e2,e3]
end
end DL
namespace DL
open PySem L2 Ar
structure IsR (L:Nat) (en:List (Nat × Nat)) (re:List Nat) (tb:List (List Int)) (cs:List Int) (ms:List (List Int)):Prop where
 lc:cs.length=re.length
 lm:ms.length=en.length
 cb:∀ b,b < re.length->0<=cs.getD b (-1)/\cs.getD b (-1)<=(L:Int)
 ml:∀ i,i < en.length->((ms.getD i []).length:Int)=cs.getD (en.getD i (0,0)).1 (-1)
 mb:∀ i,i < en.length->∀ x ∈ ms.getD i [],0<=x/\x < cs.getD (en.getD i (0,0)).2 (-1)
 idn:∀ b,b < re.length->ms.getD (re.getD b 0) []=rg (cs.getD b (-1)).toNat
 cmp:∀ i j k:Nat,i < en.length->j < en.length->(tb.getD i []).getD j (-1)=(k:Int)->ms.getD k []=fol (ms.getD i []) (ms.getD j [])
section
variable {en:List (Nat × Nat)} {re:List Nat} {tb:List (List Int)} {cs ds:List Int} {ms ns:List (List Int)} {L M:Nat}
theorem below_iff {n z:Int}:fX n z=true ↔ 0<=z/\z < n:=by
 unfold fX
 rw [Bool.and_eq_true,decide_eq_true_iff,decide_eq_true_iff]
theorem IsR.tru (h:bW en re tb) (r:IsR L en re tb cs ms) (hL:L<=40):isR en re tb cs ms=true:=by
 have e1:r1 en re cs ms=true:=by unfold r1;rw [decide_eq_true r.lc,decide_eq_true r.lm];rfl
 have e2:cs.all (fX 41)=true:=List.all_eq_true.mpr fun x hx=>by
  obtain ⟨i,hi,rfl⟩:=List.mem_iff_getElem.mp hx
  have:=r.cb i (by rw [<- r.lc];exact hi)
  rw [aG hi] at this
  rw [below_iff];omega
 have e3:r3 en cs ms=true:=List.all_eq_true.mpr fun i hi=>by
  have hi:=List.mem_range.mp hi
  unfold fOk
  rw [decide_eq_true (r.ml i hi),Bool.true_and,List.all_eq_true]
  exact fun x hx=>below_iff.mpr (r.mb i hi x hx)
 have e4:r4 re cs ms=true:=List.all_eq_true.mpr fun b hb=>decide_eq_true (r.idn b (List.mem_range.mp hb))
 have e5:r5 en tb ms=true:=List.all_eq_true.mpr fun i hi=>List.all_eq_true.mpr fun j hj=>by
  have hi:=List.mem_range.mp hi
  have hj:=List.mem_range.mp hj
  unfold okT
  rcases nB h hi hj with e | ⟨k,hk,e,_⟩
  ·rw [e];rfl
  ·rw [e,Int.toNat_natCast,decide_eq_true (r.cmp i j k hi hj e),Bool.or_true]
 unfold isR
 rw [e1,e2,e3,e4,e5];rfl
theorem zF (n:Nat):(rg n).length=n:=by unfold rg;simp
theorem ze {n i:Nat} {d:Int} (h:i < n):(rg n).getD i d=(i:Int):=by
 unfold rg
 rw [aG (by simpa using h)];simp
theorem fI {α:Type} {l:List α} {f:α->Int} {i:Nat} {d:α} {e:Int} (h:i < l.length):(l.map f).getD i e=f (l.getD i d):=by
 rw [aG (by simpa using h),aG h,List.getElem_map]
theorem rV {α:Type} {l:List α} {f:α->List Int} {i:Nat} {d:α} (h:i < l.length):(l.map f).getD i []=f (l.getD i d):=by
 rw [aG (by simpa using h),aG h,List.getElem_map]
theorem jY {n:Nat} {f:Nat->List Int} {i:Nat} (h:i < n):((List.range n).map f).getD i []=f i:=by
 rw [aG (by simpa using h)];simp
theorem mF {n:Nat} {f:Nat->Int} {i:Nat} {e:Int} (h:i < n):((List.range n).map f).getD i e=f i:=by
 rw [aG (by simpa using h)];simp
theorem yf (h:bW en re tb):IsR 1 en re tb (re.map fun _=>1) (en.map fun _=>[0]):=by
 have gc:∀ b,b < re.length->(re.map fun _=>(1:Int)).getD b (-1)=1:=fun b hb=>fI (d:=0) hb
 have gm:∀ i,i < en.length->(en.map fun _=>[(0:Int)]).getD i []=[0]:=fun i hi=>rV (d:=(0,0)) hi
 refine ⟨by simp,by simp,fun b hb=>?_,fun i hi=>?_,fun i hi x hx=>?_,fun b hb=>?_,fun i j k hi hj e=>?_⟩
 ·rw [gc b hb];omega
 ·rw [gm i hi,gc _ (h.eb i hi).1];rfl
 ·rw [gm i hi] at hx
  rw [gc _ (h.eb i hi).2,List.mem_singleton.mp hx];omega
 ·rw [gm _ (h.rs b hb).1,gc b hb];rfl
 ·obtain ⟨_,hk,_⟩:=ki h hi hj e
  rw [gm k hk,gm i hi,gm j hj];rfl
theorem yh (h:bW en re tb):IsR 0 en re tb (re.map fun _=>0) (en.map fun _=>[]):=by
 have gc:∀ b,b < re.length->(re.map fun _=>(0:Int)).getD b (-1)=0:=fun b hb=>fI (d:=0) hb
 have gm:∀ i,i < en.length->(en.map fun _=>([]:List Int)).getD i []=[]:=fun i hi=>rV (d:=(0,0)) hi
 refine ⟨by simp,by simp,fun b hb=>?_,fun i hi=>?_,fun i hi x hx=>?_,fun b hb=>?_,fun i j k hi hj e=>?_⟩
 ·rw [gc b hb];omega
 ·rw [gm i hi,gc _ (h.eb i hi).1];rfl
 ·rw [gm i hi] at hx;cases hx
 ·rw [gm _ (h.rs b hb).1,gc b hb];rfl
 ·obtain ⟨_,hk,_⟩:=ki h hi hj e
  rw [gm k hk,gm i hi,gm j hj];rfl
noncomputable def xx (cs ds:List Int):List Int:=(List.range cs.length).map fun i=>cs.getD i 0 + ds.getD i 0
noncomputable def oJ (en:List (Nat × Nat)) (cs:List Int) (ms ns:List (List Int)) (k:Nat):List Int:=ms.getD k [] ++ (ns.getD k []).map fun x=>x + cs.getD (en.getD k (0,0)).2 (-1)
noncomputable def vE (en:List (Nat × Nat)) (cs:List Int) (ms ns:List (List Int)):List (List Int):=(List.range en.length).map (oJ en cs ms ns)
theorem zG (n m:Nat):rg (n + m)=rg n ++ (rg m).map fun x=>x + (n:Int):=by
 unfold rg
 rw [List.range_add,List.map_append,List.map_map,List.map_map]
 congr 1
 apply List.map_congr_left
 intro k _
 simp only [Function.comp]
 omega
theorem sd {l:List Int} {i:Nat} {d e:Int} (h:i < l.length):l.getD i d=l.getD i e:=by rw [aG h,aG h]
theorem B7 {l m:List Int} {i:Nat} {d:Int} (h:i < l.length):(l ++ m).getD i d=l.getD i d:=by
 rw [List.getD_eq_getElem?_getD,List.getElem?_append_left h,<- List.getD_eq_getElem?_getD]
theorem B6 {l m:List Int} {i:Nat} {d:Int} (h:l.length<=i):(l ++ m).getD i d=m.getD (i - l.length) d:=by
 rw [List.getD_eq_getElem?_getD,List.getElem?_append_right h,<- List.getD_eq_getElem?_getD]
theorem uT (h:bW en re tb) (r:IsR L en re tb cs ms) (q:IsR M en re tb ds ns):IsR (L + M) en re tb (xx cs ds) (vE en cs ms ns):=by
 have gc:∀ b,b < re.length->(xx cs ds).getD b (-1)=cs.getD b (-1) + ds.getD b (-1):=fun b hb=>by
  unfold xx
  rw [mF (by rw [r.lc];exact hb),sd (e:=-1) (by rw [r.lc];exact hb),sd (l:=ds) (e:=-1) (by rw [q.lc];exact hb)]
 have gm:∀ i,i < en.length->(vE en cs ms ns).getD i []=oJ en cs ms ns i:=fun i hi=>jY hi
 refine ⟨by simp [xx,r.lc],by simp [vE],fun b hb=>?_,fun i hi=>?_,fun i hi x hx=>?_,fun b hb=>?_,fun i j k hi hj e=>?_⟩
 ·rw [gc b hb]
  have:=r.cb b hb
  have:=q.cb b hb
  omega
 ·rw [gm i hi,gc _ (h.eb i hi).1]
  have:=r.ml i hi
  have:=q.ml i hi
  unfold oJ
  rw [List.length_append,List.length_map];omega
 ·rw [gm i hi] at hx
  rw [gc _ (h.eb i hi).2]
  unfold oJ at hx
  have b1:=q.cb _ (h.eb i hi).2
  have b2:=r.cb _ (h.eb i hi).2
  rcases List.mem_append.mp hx with hx | hx
  ·have:=r.mb i hi x hx;omega
  ·obtain ⟨y,hy,rfl⟩:=List.mem_map.mp hx
   have:=q.mb i hi y hy;omega
 ·obtain ⟨q1,q2⟩:=h.rs b hb
  rw [gm _ q1,gc b hb]
  unfold oJ
  rw [r.idn b hb,q.idn b hb,q2]
  have c1:=r.cb b hb
  have c2:=q.cb b hb
  dsimp only
  rw [Int.toNat_add c1.1 c2.1,zG]
  congr 1
  apply List.map_congr_left
  intro x _
  omega
 ·obtain ⟨e1,hk,e2⟩:=ki h hi hj e
  rw [gm k hk,gm i hi,gm j hj]
  unfold oJ
  rw [r.cmp i j k hi hj e,q.cmp i j k hi hj e,e2]
  have l1:=r.ml j hj
  rw [<- e1] at l1
  unfold fol
  rw [List.map_append,List.map_map,List.map_map]
  congr 1
  ·apply List.map_congr_left
   intro x hx
   have:=r.mb i hi x hx
   rw [B7 (by omega)]
  ·apply List.map_congr_left
   intro y hy
   have b1:=q.mb i hi y hy
   have l2:=q.ml j hj
   rw [<- e1] at l2
   have c0:=r.cb _ (h.eb i hi).2
   simp only [Function.comp]
   rw [B6 (by omega)]
   have:(y + cs.getD (en.getD i (0,0)).2 (-1)).toNat - (ms.getD j []).length=y.toNat:=by omega
   rw [this,fI (d:=-1) (by omega)]
end
end DL
namespace DL
open PySem L2 Ar
noncomputable def fW (l:List Nat):List Int:=l.map fun (k:Nat)=>(k:Int)
noncomputable def plC (sz:List Nat):List Int:=fW sz
noncomputable def plM (kn:List Arr):List (List Int):=kn.map fun x=>fW x.2.2
theorem o7 (l:List Nat):(fW l).length=l.length:=by unfold fW;simp
theorem sx {l:List Nat} {i:Nat} {e:Int} (h:i < l.length):(fW l).getD i e=((l.getD i 0:Nat):Int):=fI (d:=0) h
theorem wS {a b:List Nat} (h:∀ i ∈ a,i < b.length):fol (fW a) (fW b)=fW (a.map fun i=>b.getD i 0):=by
 unfold fol
 conv=>lhs;unfold fW
 conv=>rhs;unfold fW
 rw [List.map_map,List.map_map]
 apply List.map_congr_left
 intro i hi
 simp only [Function.comp,Int.toNat_natCast]
 exact sx (h i hi)
section
variable {sz:List Nat} {kn:List Arr}
theorem vf (g:Good sz kn) (h3:∀ n ∈ sz,n<=3):IsR 3 (bI kn) (bz sz kn) (cV kn) (plC sz) (plM kn):=by
 have okat:∀ {i} (h:i < kn.length),Ok sz kn[i]:=fun h=>g.ok _ (List.getElem_mem h)
 have gc:∀ b,b < sz.length->(plC sz).getD b (-1)=((sz.getD b 0:Nat):Int):=fun b hb=>sx hb
 have gm:∀ {i} (h:i < kn.length),(plM kn).getD i []=fW kn[i].2.2:=fun {i} h=>by
  unfold plM
  rw [aG (by simpa using h)];simp
 have gz:∀ {b n:Nat},sz[b]?=some n->sz.getD b 0=n/\b < sz.length:=fun {b n} e=>by
  obtain ⟨hb,e⟩:=List.getElem?_eq_some_iff.mp e
  exact ⟨by rw [aG hb];exact e,hb⟩
 refine ⟨by rw [iN];exact o7 _,by rw [dR];simp [plM],fun b hb=>?_,fun i hi=>?_,fun i hi x hx=>?_,fun b hb=>?_,fun i j k hi hj e=>?_⟩
 ·rw [iN] at hb
  rw [gc b hb]
  have:sz.getD b 0<=3:=by rw [aG hb];exact h3 _ (List.getElem_mem hb)
  omega
 ·rw [dR] at hi
  obtain ⟨n,m,h1,h2,h3,h4⟩:=okat hi
  obtain ⟨z1,z2⟩:=gz h1
  rw [gm hi,g9 hi,gc _ z2,o7,h3]
  rw [z1]
 ·rw [dR] at hi
  obtain ⟨n,m,h1,h2,h3,h4⟩:=okat hi
  obtain ⟨z1,z2⟩:=gz h2
  rw [gm hi] at hx
  rw [g9 hi,gc _ z2]
  unfold fW at hx
  obtain ⟨y,hy,rfl⟩:=List.mem_map.mp hx
  have:=h4 y hy
  rw [z1];omega
 ·rw [iN] at hb
  obtain ⟨hl,e⟩:=iV (g.rest b hb)
  rw [tY hb,gm hl,e,gc b hb,Int.toNat_natCast]
  unfold idm rg fW
  rfl
 ·rw [dR] at hi hj
  rw [jU hi hj] at e
  obtain ⟨e1,rfl⟩:=sY e
  obtain ⟨hl,e2⟩:=iV (g.cl _ (List.getElem_mem hi) _ (List.getElem_mem hj) e1)
  rw [gm hl,gm hi,gm hj,e2,wS (wy (okat hi) (okat hj) e1)]
  rfl
end
section
variable {en:List (Nat × Nat)} {re:List Nat} {tb:List (List Int)} {s:Nat}
noncomputable def btw (en:List (Nat × Nat)) (a b:Nat):List Nat:=(List.range en.length).filter fun n=>decide (en.getD n (0,0)=(a,b))
theorem eK (a b:Nat):(btw en a b).length<=en.length:=by
 unfold btw
 exact Nat.le_trans (List.length_filter_le _ _) (by rw [List.length_range];exact Nat.le_refl _)
theorem mem_btw {a b n:Nat}:n ∈ btw en a b ↔ n < en.length/\en.getD n (0,0)=(a,b):=by
 unfold btw
 rw [List.mem_filter,List.mem_range,decide_eq_true_iff]
theorem AX (a b:Nat):(btw en a b).Nodup:=List.nodup_range.filter _
noncomputable def eC (en:List (Nat × Nat)) (re:List Nat) (s:Nat):List Int:=(List.range re.length).map fun t=>((btw en s t).length:Int)
noncomputable def ent (tb:List (List Int)) (i j:Nat):Nat:=((tb.getD i []).getD j (-1)).toNat
noncomputable def j5 (en:List (Nat × Nat)) (tb:List (List Int)) (s k:Nat):List Int:=(btw en s (en.getD k (0,0)).1).map fun x=>((btw en s (en.getD k (0,0)).2).idxOf (ent tb x k):Int)
noncomputable def eN (en:List (Nat × Nat)) (tb:List (List Int)) (s:Nat):List (List Int):=(List.range en.length).map (j5 en tb s)
theorem nA (h:bW en re tb) {k x:Nat} (hk:k < en.length) (hx:x ∈ btw en s (en.getD k (0,0)).1):(tb.getD x []).getD k (-1)=(ent tb x k:Int)/\ent tb x k ∈ btw en s (en.getD k (0,0)).2:=by
 obtain ⟨x1,x2⟩:=mem_btw.mp hx
 obtain ⟨q,q1,q2,q3⟩:=h.tp x k x1 hk (by rw [x2])
 have e:ent tb x k=q:=by unfold ent;rw [q2,Int.toNat_natCast]
 rw [e]
 rw [x2] at q3
 exact ⟨q2,mem_btw.mpr ⟨q1,q3⟩⟩
theorem ud (h:bW en re tb) {L:Nat} (hL:∀ t,t < re.length->(btw en s t).length<=L):IsR L en re tb (eC en re s) (eN en tb s):=by
 have gc:∀ b,b < re.length->(eC en re s).getD b (-1)=((btw en s b).length:Int):=fun b hb=>mF hb
 have gm:∀ i,i < en.length->(eN en tb s).getD i []=j5 en tb s i:=fun i hi=>jY hi
 refine ⟨by simp [eC],by simp [eN],fun b hb=>?_,fun i hi=>?_,fun i hi x hx=>?_,fun b hb=>?_,fun i j k hi hj e=>?_⟩
 ·rw [gc b hb]
  have:=hL b hb
  omega
 ·rw [gm i hi,gc _ (h.eb i hi).1]
  unfold j5
  rw [List.length_map]
 ·rw [gm i hi] at hx
  rw [gc _ (h.eb i hi).2]
  unfold j5 at hx
  obtain ⟨y,hy,rfl⟩:=List.mem_map.mp hx
  have:=List.idxOf_lt_length_of_mem (nA h hi hy).2
  omega
 ·obtain ⟨q1,q2⟩:=h.rs b hb
  rw [gm _ q1,gc b hb,Int.toNat_natCast]
  unfold j5
  rw [q2]
  dsimp only
  apply List.ext_getElem
  ·rw [List.length_map,zF]
  ·intro n n1 n2
   rw [List.length_map] at n1
   rw [List.getElem_map]
   have hm:=List.getElem_mem n1
   obtain ⟨x1,x2⟩:=mem_btw.mp hm
   have u:=h.ur _ x1
   rw [x2] at u
   have e:ent tb (btw en s b)[n] (re.getD b 0)=(btw en s b)[n]:=by
    unfold ent
    rw [u,Int.toNat_natCast]
   rw [e,(AX s b).idxOf_getElem n n1,<- aG (d:=(-1:Int)) n2,ze n1]
 ·obtain ⟨e1,hk,e2⟩:=ki h hi hj e
  rw [gm k hk,gm i hi,gm j hj]
  unfold j5 fol
  rw [e2,List.map_map]
  dsimp only
  apply List.map_congr_left
  intro x hx
  simp only [Function.comp,Int.toNat_natCast]
  obtain ⟨y1,y2⟩:=nA h hi hx
  rw [e1] at y2
  have yl:=List.idxOf_lt_length_of_mem y2
  rw [e1]
  rw [fI (d:=0) yl,aG yl,List.getElem_idxOf]
  have x1:=(mem_btw.mp hx).1
  have as:=h.as x i j _ k x1 hi hj y1 e
  have:ent tb (ent tb x i) j=ent tb x k:=by
   unfold ent at as ⊢
   rw [as]
  rw [this]
end
end DL
namespace DL
open PySem L2 Ar
theorem oX:∀ l:List Int,gY (l.map D.int)=some l
 | []=>rfl
 | a :: r=>by
  rw [List.map_cons]
  unfold gY
  rw [oX r];rfl
theorem uw {k:Nat}:∀ {l:List Nat},k ∈ l->(l.map fun (n:Nat)=>(n:Int)).findIdx? (· == (k:Int))=some (l.idxOf k)
 | [],h=>by cases h
 | a :: r,h=>by
  rw [List.map_cons,List.findIdx?_cons,List.idxOf_cons]
  by_cases e:a=k
  ·subst e;simp
  ·have e1:((a:Int) == (k:Int))=false:=by rw [beq_eq_false_iff_ne];omega
   have e2:(a == k)=false:=by rw [beq_eq_false_iff_ne];exact e
   have hr:k ∈ r:=by
    rcases List.mem_cons.mp h with rfl | h
    ·exact absurd rfl e
    ·exact h
   rw [e1,e2,uw hr];rfl
theorem qr {l:List Nat} {k:Nat} (h:k ∈ l) (hl:l.length<=100000):wZ (aP l) (.int (k:Int))=.val (.int (l.idxOf k:Int)):=by
 unfold wZ aP
 dsimp only
 rw [kN]
 dsimp only
 rw [if_pos (by rw [List.length_map];exact hl),uw h]
theorem qi {Fo F:Rho->R D} {l:List Nat} {t:Int} {ρ:Rho} (h1:Fo ρ=.val (aP l)) (h2:F ρ=.val (.int t)):qj Fo F ρ=wZ (aP l) (.int t):=by
 unfold qj
 rw [h1,h2];rfl
theorem bY {A B:Rho->R Out} {ρ ρ':Rho} (h:A ρ=.val (.nx ρ')):sq A B ρ=B ρ':=by rw [aX,h];rfl
theorem jV {α:Type} (l:List α) (f:α->List Int):D.lst (l.map fun a=>ak (f a))=aj (l.map f):=by
 unfold aj;rw [List.map_map];rfl
theorem lS {α:Type} (l:List α) (f:α->Int):D.lst (l.map fun a=>.int (f a))=ak (l.map f):=by
 unfold ak;rw [List.map_map];rfl
theorem fL {α:Type} {src:Rho->R (List D)} {n:Nat} {e:Rho->R D} {f:α->D} {g:α->Int} {l:List α} {ρ:Rho} {i:Nat} (hs:src ρ=.val (l.map f)) (hl:l.length<=100000) (h:∀ a ∈ l,e ((ρ ++ List.replicate n none).set i (some (.shr (f a))))=.val (.int (g a))) :
  eLs (bq src n (tgN i) tT e) ρ=.val (ak (l.map g)):=by
 rw [cE,bZ (f:=f) (g:=fun a=>.int (g a)) hs hl h,ae,lS]
section
variable {en:List (Nat × Nat)} {re:List Nat} {tb:List (List Int)} {r:List D}
theorem ll (h:bW en re tb) (a b:Nat):bc [.tup (bC en :: r),nD a,nD b]=.val (aP (btw en a b)):=by
 simp only [bc,fO]
 show fin (ret _ [some (.shr (.tup (bC en :: r))),some (.shr (nD a)),some (.shr (nD b))])=_
 have n40:=h.na40
 have hc:=gZ (src:=dh (aC (una aU (bin fix (vb 0) (kd (.int 0)))) aN)) (n:=1) (T:=tgN 3) (t:=tst (bin feq (bin fix (bin fix (vb 0) (kd (.int 0))) (vb 3)) (eT (aC (vr 1) (aC (vr 2) aN))))) (e:=vr 3) (f:=nD) (g:=nD) (p:=fun n=>decide (en.getD n (0,0)=(a,b))) (l:=List.range en.length) (ρ:=[some (.shr (.tup (bC en :: r))),some (.shr (nD a)),some (.shr (nD b))]) (fY (by simp) (by omega)) (by rw [List.length_range];omega) fun n hn=>⟨_,rfl,by
  have hn:=List.mem_range.mp hn
  have f1:=fE (en:=en) hn
  have q:=ux (en.getD n (0,0)) (a,b)
  simp [-List.getD_eq_getElem?_getD,f1]
  exact congrArg (fun z=>R.bind z asB) q,rfl⟩
 rw [dM,cE,hc];rfl
theorem yG (h:bW en re tb) (s:Nat):dn [.tup (bC en :: aP re :: aj tb :: r),nD s]=.val (.tup [ak (eC en re s),aj (eN en tb s)]):=by
 simp only [dn,i4]
 have n40:=h.na40
 have n6:=h.nb6
 have tl:=h.tl
 show fin (sq _ _ [some (.shr (.tup (bC en :: aP re :: aj tb :: r))),some (.shr (nD s)),none,none,none,none,none])=_
 have s1:asg 2 (eLs (bq (dh (aC (una aU (bin fix (vb 0) (kd (.int 1)))) aN)) 1 (tgN 7) tT (cal 3 bc (aC (vr 0) (aC (vr 1) (aC (vr 7) aN)))))) [some (.shr (.tup (bC en :: aP re :: aj tb :: r))),some (.shr (nD s)),none,none,none,none,none]=.val (.nx [some (.shr (.tup (bC en :: aP re :: aj tb :: r))),some (.shr (nD s)),some (.shr (.lst ((List.range re.length).map fun t=>aP (btw en s t)))),none,none,none,none]):=by
  have hc:=bZ (src:=dh (aC (una aU (bin fix (vb 0) (kd (.int 1)))) aN)) (n:=1) (i:=7) (e:=cal 3 bc (aC (vr 0) (aC (vr 1) (aC (vr 7) aN)))) (f:=nD) (g:=fun t=>aP (btw en s t)) (l:=List.range re.length) (ρ:=[some (.shr (.tup (bC en :: aP re :: aj tb :: r))),some (.shr (nD s)),none,none,none,none,none]) (fY (by simp) (by omega)) (by rw [List.length_range];omega) fun t _=>by
   have:=ll (r:=aP re :: aj tb :: r) h s t
   simp [this]
  rw [fo,cE,hc];rfl
 rw [bY s1,aX]
 show fin (sq _ _ [some (.shr (.tup (bC en :: aP re :: aj tb :: r))),some (.shr (nD s)),some (.shr (.lst ((List.range re.length).map fun t=>aP (btw en s t)))),some (.own []),none,none,none])=_
 have th:∀ t,t < re.length->fix (.lst ((List.range re.length).map fun t=>aP (btw en s t))) (.int (t:Int))=.val (aP (btw en s t)):=fun t ht=>jz (by simp [ht])
 obtain ⟨ρ',e,a4,a5,a6,rfl⟩:=gT (i:=4) (n:=en.length) (F:=(sq (asT (tg2 5 6) (bin fix (bin fix (vb 0) (kd (.int 0))) (vb 4)))
  (app 3 (eLs (bq (fIt (bin fix (vb 2) (vb 5))) 1 (tgN 7) tT (qj (bin fix (vb 2) (vb 6)) (bin fix (bin fix (bin fix (vb 0) (kd (.int 2))) (vb 7)) (vb 4)))))))) (fun k ρ=>∃ (a4 a5 a6:Option Slt),ρ=[some (.shr (.tup (bC en :: aP re :: aj tb :: r))),some (.shr (nD s)),some (.shr (.lst ((List.range re.length).map fun t=>aP (btw en s t)))),some (.own (((List.range k).map (j5 en tb s)).map ak)),a4,a5,a6]) (fun k ρ hk hI=>by
  obtain ⟨a4,a5,a6,rfl⟩:=hI
  have eb:=h.eb k hk
  have fe:=fE (en:=en) (i:=k) hk
  have s2:asT (tg2 5 6) (bin fix (bin fix (vb 0) (kd (.int 0))) (vb 4)) [some (.shr (.tup (bC en :: aP re :: aj tb :: r))),some (.shr (nD s)),some (.shr (.lst ((List.range re.length).map fun t=>aP (btw en s t)))),some (.own (((List.range k).map (j5 en tb s)).map ak)),some (.shr (nD k)),a5,a6]=.val (.nx [some (.shr (.tup (bC en :: aP re :: aj tb :: r))),some (.shr (nD s)),some (.shr (.lst ((List.range re.length).map fun t=>aP (btw en s t)))),some (.own (((List.range k).map (j5 en tb s)).map ak)),some (.shr (nD k)),some (.shr (nD (en.getD k (0,0)).1)),some (.shr (nD (en.getD k (0,0)).2))]):=by
   simp [-List.getD_eq_getElem?_getD,fe,dw]
   rfl
  generalize hw:((List.range k).map (j5 en tb s)).map ak=acc at s2 ⊢
  have al:acc.length=k:=by rw [<- hw];simp
  have z2:=fL (src:=fIt (bin fix (vb 2) (vb 5))) (n:=1) (i:=7) (e:=qj (bin fix (vb 2) (vb 6)) (bin fix (bin fix (bin fix (vb 0) (kd (.int 2))) (vb 7)) (vb 4))) (f:=nD) (g:=fun x=>((btw en s (en.getD k (0,0)).2).idxOf (ent tb x k):Int)) (l:=btw en s (en.getD k (0,0)).1) (ρ:=[some (.shr (.tup (bC en :: aP re :: aj tb :: r))),some (.shr (nD s)),some (.shr (.lst ((List.range re.length).map fun t=>aP (btw en s t)))),some (.own acc),some (.shr (nD k)),some (.shr (nD (en.getD k (0,0)).1)),some (.shr (nD (en.getD k (0,0)).2))]) (by
    have:=th _ eb.1
    exact (congrArg (fun z=>R.bind z itD) this).trans rfl) (by have:=eK (en:=en) s (en.getD k (0,0)).1;omega) (fun x hx=>by
    obtain ⟨x1,x2⟩:=mem_btw.mp hx
    obtain ⟨q2,q3⟩:=nA h hk hx
    have f1:=cB (tb:=tb) (i:=x) (by omega)
    have f2:=dg (r:=tb.getD x []) (i:=k) (by rw [h.rl x x1];exact hk)
    rw [q2] at f2
    have hj:=qr (l:=btw en s (en.getD k (0,0)).2) (k:=ent tb x k) q3 (by have:=eK (en:=en) s (en.getD k (0,0)).2;omega)
    have g1:bin fix (vb 2) (vb 6) ((([some (.shr (.tup (bC en :: aP re :: aj tb :: r))),some (.shr (nD s)),some (.shr (.lst ((List.range re.length).map fun t=>aP (btw en s t)))),some (.own acc),some (.shr (nD k)),some (.shr (nD (en.getD k (0,0)).1)),some (.shr (nD (en.getD k (0,0)).2))]:Rho) ++ List.replicate 1 none).set 7 (some (.shr (nD x))))=.val (aP (btw en s (en.getD k (0,0)).2)):=th _ eb.2
    have g2:bin fix (bin fix (bin fix (vb 0) (kd (.int 2))) (vb 7)) (vb 4) ((([some (.shr (.tup (bC en :: aP re :: aj tb :: r))),some (.shr (nD s)),some (.shr (.lst ((List.range re.length).map fun t=>aP (btw en s t)))),some (.own acc),some (.shr (nD k)),some (.shr (nD (en.getD k (0,0)).1)),some (.shr (nD (en.getD k (0,0)).2))]:Rho) ++ List.replicate 1 none).set 7 (some (.shr (nD x))))=.val (.int (ent tb x k:Int)):=by
     simp [-List.getD_eq_getElem?_getD,f1,f2]
    rw [qi g1 g2,hj])
  have s3:=jb (i:=3) (ρ:=[some (.shr (.tup (bC en :: aP re :: aj tb :: r))),some (.shr (nD s)),some (.shr (.lst ((List.range re.length).map fun t=>aP (btw en s t)))),some (.own acc),some (.shr (nD k)),some (.shr (nD (en.getD k (0,0)).1)),some (.shr (nD (en.getD k (0,0)).2))]) rfl z2 (by omega)
  exact ⟨_,(bY s2).trans s3,some (.shr (nD k)),some (.shr (nD (en.getD k (0,0)).1)),some (.shr (nD (en.getD k (0,0)).2)),by rw [List.range_succ,List.map_append,List.map_append,hw];rfl⟩) (ρ:=[some (.shr (.tup (bC en :: aP re :: aj tb :: r))),some (.shr (nD s)),some (.shr (.lst ((List.range re.length).map fun t=>aP (btw en s t)))),some (.own []),none,none,none]) ⟨none,none,none,rfl⟩
 have sr:dh (aC (una aU (bin fix (vb 0) (kd (.int 0)))) aN) [some (.shr (.tup (bC en :: aP re :: aj tb :: r))),some (.shr (nD s)),some (.shr (.lst ((List.range re.length).map fun t=>aP (btw en s t)))),some (.own []),none,none,none]=.val (rng 0 en.length):=by
  rw [jX]
  exact fY (by simp) (by omega)
 rw [aX,eI,sr,ae,e,ae]
 dsimp only
 have hc:=fL (src:=fIt (vr 2)) (n:=1) (i:=7) (e:=una aU (vb 7)) (f:=fun t=>aP (btw en s t)) (g:=fun t=>((btw en s t).length:Int)) (l:=List.range re.length) (ρ:=[some (.shr (.tup (bC en :: aP re :: aj tb :: r))),some (.shr (nD s)),some (.shr (.lst ((List.range re.length).map fun t=>aP (btw en s t)))),some (.shr (aj (eN en tb s))),a4,a5,a6]) rfl (by rw [List.length_range];omega) fun t _=>by simp
 rw [oY]
 show fin (ret _ [some (.shr (.tup (bC en :: aP re :: aj tb :: r))),some (.shr (nD s)),some (.shr (.lst ((List.range re.length).map fun t=>aP (btw en s t)))),some (.shr (aj (eN en tb s))),a4,a5,a6])=_
 rw [dM,kl,e7,hc,ae];rfl
theorem nq (h:bW en re tb) {cs ds:List Int} {ms ns:List (List Int)} (c1:cs.length=re.length) (c2:ms.length=en.length) (d1:ds.length=re.length) (d2:ns.length=en.length) (c3:∀ l ∈ ms,l.length<=1000) (d3:∀ l ∈ ns,l.length<=1000):cO [.tup (bC en :: aP re :: aj tb :: r),.tup [ak cs,aj ms],.tup [ak ds,aj ns]]=.val (.tup [ak (xx cs ds),aj (vE en cs ms ns)]):=by
 have n40:=h.na40
 have n6:=h.nb6
 simp only [cO,gn]
 show fin (sq _ _ [some (.shr (.tup (bC en :: aP re :: aj tb :: r))),some (.shr (.tup [ak cs,aj ms])),some (.shr (.tup [ak ds,aj ns])),none,none,none])=_
 rw [aX]
 show fin (sq _ _ [some (.shr (.tup (bC en :: aP re :: aj tb :: r))),some (.shr (.tup [ak cs,aj ms])),some (.shr (.tup [ak ds,aj ns])),some (.own []),none,none])=_
 obtain ⟨ρ',e,a4,a5,rfl⟩:=gT (i:=4) (n:=en.length) (F:=(sq (asg 5 (bin fix (bin fix (vb 1) (kd (.int 0))) (bin fix (bin fix (bin fix (vb 0) (kd (.int 0))) (vb 4)) (kd (.int 1)))))
  (app 3 (bin cX (bin fix (bin fix (vb 1) (kd (.int 1))) (vb 4)) (eLs (bq (fIt (bin fix (bin fix (vb 2) (kd (.int 1))) (vb 4))) 1 (tgN 6) tT (bin cX (vb 6) (vb 5)))))))) (fun k ρ=>∃ (a4 a5:Option Slt),ρ=[some (.shr (.tup (bC en :: aP re :: aj tb :: r))),some (.shr (.tup [ak cs,aj ms])),some (.shr (.tup [ak ds,aj ns])),some (.own (((List.range k).map (oJ en cs ms ns)).map ak)),a4,a5]) (fun k ρ hk hI=>by
  obtain ⟨a4,a5,rfl⟩:=hI
  have eb:=h.eb k hk
  have fe:=fE (en:=en) (i:=k) hk
  have f1:=dg (r:=cs) (i:=(en.getD k (0,0)).2) (by omega)
  have f2:=cB (tb:=ms) (i:=k) (by omega)
  have f3:=cB (tb:=ns) (i:=k) (by omega)
  have l1:(ms.getD k []).length<=1000:=by rw [aG (show k < ms.length by omega)];exact c3 _ (List.getElem_mem _)
  have l2:(ns.getD k []).length<=1000:=by rw [aG (show k < ns.length by omega)];exact d3 _ (List.getElem_mem _)
  generalize hw:((List.range k).map (oJ en cs ms ns)).map ak=acc
  have al:acc.length=k:=by rw [<- hw];simp
  generalize hv:cs.getD (en.getD k (0,0)).2 (-1)=v at f1
  have s2:asg 5 (bin fix (bin fix (vb 1) (kd (.int 0))) (bin fix (bin fix (bin fix (vb 0) (kd (.int 0))) (vb 4)) (kd (.int 1)))) [some (.shr (.tup (bC en :: aP re :: aj tb :: r))),some (.shr (.tup [ak cs,aj ms])),some (.shr (.tup [ak ds,aj ns])),some (.own acc),some (.shr (nD k)),a5]=.val (.nx [some (.shr (.tup (bC en :: aP re :: aj tb :: r))),some (.shr (.tup [ak cs,aj ms])),some (.shr (.tup [ak ds,aj ns])),some (.own acc),some (.shr (nD k)),some (.shr (.int v))]):=by
   simp [-List.getD_eq_getElem?_getD,fe,f1]
  have z2:=fL (src:=fIt (bin fix (bin fix (vb 2) (kd (.int 1))) (vb 4))) (n:=1) (i:=6) (e:=bin cX (vb 6) (vb 5)) (f:=D.int) (g:=fun x=>x + v) (l:=ns.getD k []) (ρ:=[some (.shr (.tup (bC en :: aP re :: aj tb :: r))),some (.shr (.tup [ak cs,aj ms])),some (.shr (.tup [ak ds,aj ns])),some (.own acc),some (.shr (nD k)),some (.shr (.int v))]) (by
    simp [-List.getD_eq_getElem?_getD,f3];rfl) (by omega) (fun x hx=>rfl)
  have s4:bin cX (bin fix (bin fix (vb 1) (kd (.int 1))) (vb 4)) (eLs (bq (fIt (bin fix (bin fix (vb 2) (kd (.int 1))) (vb 4))) 1 (tgN 6) tT (bin cX (vb 6) (vb 5)))) [some (.shr (.tup (bC en :: aP re :: aj tb :: r))),some (.shr (.tup [ak cs,aj ms])),some (.shr (.tup [ak ds,aj ns])),some (.own acc),some (.shr (nD k)),some (.shr (.int v))]=.val (ak (oJ en cs ms ns k)):=by
   rw [bO,z2]
   have:bin fix (bin fix (vb 1) (kd (.int 1))) (vb 4) [some (.shr (.tup (bC en :: aP re :: aj tb :: r))),some (.shr (.tup [ak cs,aj ms])),some (.shr (.tup [ak ds,aj ns])),some (.own acc),some (.shr (nD k)),some (.shr (.int v))]=.val (ak (ms.getD k [])):=by
    simp [-List.getD_eq_getElem?_getD,f2]
   rw [this,ae,ae]
   unfold oJ
   rw [hv]
   unfold ak cX
   dsimp only
   rw [if_pos (by rw [List.length_map,List.length_map,List.length_map];show _<=100000;omega),List.map_append]
  have s3:=jb (i:=3) (xs:=acc) (ρ:=[some (.shr (.tup (bC en :: aP re :: aj tb :: r))),some (.shr (.tup [ak cs,aj ms])),some (.shr (.tup [ak ds,aj ns])),some (.own acc),some (.shr (nD k)),some (.shr (.int v))]) rfl s4 (by omega)
  exact ⟨_,(bY s2).trans s3,some (.shr (nD k)),some (.shr (.int v)),by rw [List.range_succ,List.map_append,List.map_append,hw];rfl⟩) (ρ:=[some (.shr (.tup (bC en :: aP re :: aj tb :: r))),some (.shr (.tup [ak cs,aj ms])),some (.shr (.tup [ak ds,aj ns])),some (.own []),none,none]) ⟨none,none,rfl⟩
 have sr:dh (aC (una aU (bin fix (vb 0) (kd (.int 0)))) aN) [some (.shr (.tup (bC en :: aP re :: aj tb :: r))),some (.shr (.tup [ak cs,aj ms])),some (.shr (.tup [ak ds,aj ns])),some (.own []),none,none]=.val (rng 0 en.length):=by
  rw [jX]
  exact fY (by simp) (by omega)
 rw [aX,eI,sr,ae,e,ae]
 dsimp only
 have hc:=gZ (src:=lF (aC (bin fix (vb 1) (kd (.int 0))) (aC (bin fix (vb 2) (kd (.int 0))) aN))) (n:=2) (T:=tg2 6 7) (t:=tT) (e:=bin cX (vb 6) (vb 7)) (f:=fun i=>.tup [.int (cs.getD i 0),.int (ds.getD i 0)]) (g:=fun i=>.int (cs.getD i 0 + ds.getD i 0)) (p:=fun _=>true) (l:=List.range cs.length) (ρ:=[some (.shr (.tup (bC en :: aP re :: aj tb :: r))),some (.shr (.tup [ak cs,aj ms])),some (.shr (.tup [ak ds,aj ns])),some (.shr (aj (vE en cs ms ns))),a4,a5]) (by
  have:=pi (f:=D.int) (g:=D.int) (l:=cs) (m:=ds) (a:=0) (b:=0) (by omega)
  simp [ak,this]) (by rw [List.length_range];omega) fun t _=>⟨_,rfl,rfl,rfl⟩
 rw [List.filter_eq_self.mpr fun _ _=>rfl] at hc
 rw [oY]
 show fin (ret _ [some (.shr (.tup (bC en :: aP re :: aj tb :: r))),some (.shr (.tup [ak cs,aj ms])),some (.shr (.tup [ak ds,aj ns])),some (.shr (aj (vE en cs ms ns))),a4,a5])=_
 rw [dM,kl,e7,cE,hc,ae,ae,lS];rfl
end
end DL
namespace DL
open PySem L2 Ar
theorem IsR.row {L:Nat} {en:List (Nat × Nat)} {re:List Nat} {tb:List (List Int)} {cs:List Int} {ms:List (List Int)} (h:bW en re tb) (r:IsR L en re tb cs ms):∀ l ∈ ms,l.length<=L:=by
 intro l hl
 obtain ⟨i,hi,rfl⟩:=List.mem_iff_getElem.mp hl
 have hi':i < en.length:=by rw [<- r.lm];exact hi
 have:=r.ml i hi'
 rw [aG hi] at this
 have:=r.cb _ (h.eb i hi').1
 omega
theorem IsR.bd {L:Nat} {en:List (Nat × Nat)} {re:List Nat} {tb:List (List Int)} {cs:List Int} {ms:List (List Int)} (h:bW en re tb) (r:IsR L en re tb cs ms) (hL:L<=1000):Bd cs ms:=by
 have:=h.nb6
 have:=h.na40
 exact ⟨by rw [r.lc];omega,by rw [r.lm];omega,fun l hl=>Nat.le_trans (r.row h l hl) hL⟩
theorem IsR.up {L M:Nat} {en:List (Nat × Nat)} {re:List Nat} {tb:List (List Int)} {cs:List Int} {ms:List (List Int)} (r:IsR L en re tb cs ms) (hL:L<=M):IsR M en re tb cs ms:=⟨r.lc,r.lm,fun b hb=>by have:=r.cb b hb;omega,r.ml,r.mb,r.idn,r.cmp⟩
theorem vx {cs:List Int} (h:0 < cs.length):o0 (ak cs)=.val (.int (ke cs)):=by
 unfold o0 ak
 dsimp only
 rw [oX]
 dsimp only
 rw [if_pos h]
theorem qJ {den:List D->R D} {A B C:Rho->R D} {ρ:Rho} {a b c x:D} (ha:A ρ=.val a) (hb:B ρ=.val b) (hc:C ρ=.val c) (h:den [a,b,c]=.val x):cal 3 den (aC A (aC B (aC C aN))) ρ=.val x:=by
 simp [ha,hb,hc,h]
noncomputable def PK (sz:List Nat) (kn:List Arr):D:=.tup [bC (bI kn),aP (bz sz kn),aj (cV kn),.lst (kn.map az),aP sz]
section
variable {sz:List Nat} {kn:List Arr} {ns:List Int}
theorem np (g:Good sz kn):bJ [PK sz kn]=.val (.tup [ak (plC sz),aj (plM kn)]):=by
 obtain ⟨s1,s4,_⟩:=gy sz g.szm
 have few:=g.few
 simp only [bJ,eR]
 show fin (ret _ [some (.shr (PK sz kn))])=_
 have h1:=bZ (src:=fIt (bin fix (vb 0) (kd (.int 4)))) (n:=1) (i:=1) (e:=vr 1) (f:=nD) (g:=nD) (l:=sz) (ρ:=[some (.shr (PK sz kn))]) rfl (by omega) fun a _=>rfl
 have h2:=bZ (src:=fIt (bin fix (vb 0) (kd (.int 3)))) (n:=1) (i:=1) (e:=eLs (fIt (bin fix (vb 1) (kd (.int 2))))) (f:=az) (g:=fun x=>ak (fW x.2.2)) (l:=kn) (ρ:=[some (.shr (PK sz kn))]) rfl (by omega) fun a _=>by
  unfold ak fW
  rw [List.map_map];rfl
 rw [dM,kl,e7,e7,cE,h1,ae,ae,cE,h2,ae,ae,jV]
 have:D.lst (sz.map nD)=ak (plC sz):=by
  unfold ak plC fW
  rw [List.map_map];rfl
 rw [this];rfl
noncomputable def rW (ns:List Int) (k:Nat) (P:D) (a3 a4 a5 a6 a7:Option Slt):Rho:=[some (.shr (.scr ns)),some (.shr (nD k)),some (.shr P),a3,a4,a5,a6,a7]
noncomputable def onD (re:List Nat) (en:List (Nat × Nat)):D:=.tup [ak (re.map fun _=>1),aj (en.map fun _=>[0])]
noncomputable def noD (re:List Nat) (en:List (Nat × Nat)):D:=.tup [ak (re.map fun _=>0),aj (en.map fun _=>[])]
theorem vA (g:Good sz kn) (ns:List Int) (k:Nat):∃ cs ms,IsR 40 (bI kn) (bz sz kn) (cV kn) cs ms/\bn [.scr ns,nD k,PK sz kn]=.val (.tup [ak cs,aj ms]):=by
 have h:=qm g
 have n40:=h.na40
 have n6:=h.nb6
 have n1:=h.nb1
 have pe:=np g
 have pr:=vf g (gy sz g.szm).2.2
 obtain ⟨c,hc⟩:=ic ns k
 obtain ⟨c1,hc1⟩:=ic ns (k + 1)
 have hc1:aA [.scr ns,.int ((k:Int) + 1)]=.val (.int c1):=hc1
 simp only [bn,dU]
 show ∃ cs ms,_/\fin (sq _ _ (rW ns k (PK sz kn) none none none none none))=_
 have s3:asg 3 (eT (aC (eLs (bq (fIt (bin fix (vb 2) (kd (.int 1)))) 1 (tgN 8) tT (kd (.int 1)))) (aC (eLs (bq (fIt (bin fix (vb 2) (kd (.int 0)))) 1 (tgN 8) tT (eL (aC (kd (.int 0)) aN)))) aN))) (rW ns k (PK sz kn) none none none none none)=.val (.nx (rW ns k (PK sz kn) (some (.shr (onD (bz sz kn) (bI kn)))) none none none none)):=by
  have h1:=bZ (src:=fIt (bin fix (vb 2) (kd (.int 1)))) (n:=1) (i:=8) (e:=kd (.int 1)) (f:=nD) (g:=fun _=>.int 1) (l:=bz sz kn) (ρ:=rW ns k (PK sz kn) none none none none none) rfl (by omega) fun a _=>rfl
  have h2:=bZ (src:=fIt (bin fix (vb 2) (kd (.int 0)))) (n:=1) (i:=8) (e:=eL (aC (kd (.int 0)) aN)) (f:=dw) (g:=fun _=>ak [0]) (l:=bI kn) (ρ:=rW ns k (PK sz kn) none none none none none) rfl (by omega) fun a _=>rfl
  rw [fo,kl,e7,e7,cE,h1,ae,ae,cE,h2,ae,ae,jV,lS];rfl
 have s4:asg 4 (eT (aC (eLs (bq (fIt (bin fix (vb 2) (kd (.int 1)))) 1 (tgN 8) tT (kd (.int 0)))) (aC (eLs (bq (fIt (bin fix (vb 2) (kd (.int 0)))) 1 (tgN 8) tT (eL aN))) aN))) (rW ns k (PK sz kn) (some (.shr (onD (bz sz kn) (bI kn)))) none none none none)=.val (.nx (rW ns k (PK sz kn) (some (.shr (onD (bz sz kn) (bI kn)))) (some (.shr (noD (bz sz kn) (bI kn)))) none none none)):=by
  have h1:=bZ (src:=fIt (bin fix (vb 2) (kd (.int 1)))) (n:=1) (i:=8) (e:=kd (.int 0)) (f:=nD) (g:=fun _=>.int 0) (l:=bz sz kn) (ρ:=rW ns k (PK sz kn) (some (.shr (onD (bz sz kn) (bI kn)))) none none none none) rfl (by omega) fun a _=>rfl
  have h2:=bZ (src:=fIt (bin fix (vb 2) (kd (.int 0)))) (n:=1) (i:=8) (e:=eL aN) (f:=dw) (g:=fun _=>ak []) (l:=bI kn) (ρ:=rW ns k (PK sz kn) (some (.shr (onD (bz sz kn) (bI kn)))) none none none none) rfl (by omega) fun a _=>rfl
  rw [fo,kl,e7,e7,cE,h1,ae,ae,cE,h2,ae,ae,jV,lS];rfl
 rw [bY s3,bY s4]
 have ron:=yf h
 have rno:=yh h
 generalize hon:onD (bz sz kn) (bI kn)=on
 generalize hno:noD (bz sz kn) (bI kn)=no
 unfold onD at hon
 unfold noD at hno
 generalize hpl:D.tup [ak (plC sz),aj (plM kn)]=pl at pe
 have s5:asg 5 (cal 1 bJ (aC (vr 2) aN)) (rW ns k (PK sz kn) (some (.shr on)) (some (.shr no)) none none none)=.val (.nx (rW ns k (PK sz kn) (some (.shr on)) (some (.shr no)) (some (.shr pl)) none none)):=by
  unfold rW
  simp [pe]
 obtain ⟨i,hi,ei⟩:=fj c 5 (by decide)
 have ei:c % 5=(i:Int):=ei
 have s6:asg 6 (bin (iI bu) (cal 2 aA (aC (vr 0) (aC (vr 1) aN))) (kd (.int 5))) (rW ns k (PK sz kn) (some (.shr on)) (some (.shr no)) (some (.shr pl)) none none)=.val (.nx (rW ns k (PK sz kn) (some (.shr on)) (some (.shr no)) (some (.shr pl)) (some (.shr (nD i))) none)):=by
  have m:bu c 5=.val (.int (i:Int)):=by rw [dX (by decide),ei]
  unfold rW
  simp [hc,m]
 rw [bY s5,bY s6]
 have ts:∀ (w m:Int),tst (bin feq (vb 6) (kd (.int m))) (rW ns k (PK sz kn) (some (.shr on)) (some (.shr no)) (some (.shr pl)) (some (.shr (.int w))) none)=.val (decide (w=m)):=fun w m=>by
  rw [dq,bO]
  show R.bind (feq (.int w) (.int m)) asB=_
  rw [tu];rfl
 have no_:∀ (w m:Int) (F G:Rho->R Out),w ≠ m->sq (DL.iff (tst (bin feq (vb 6) (kd (.int m)))) F nxt) G (rW ns k (PK sz kn) (some (.shr on)) (some (.shr no)) (some (.shr pl)) (some (.shr (.int w))) none)=G (rW ns k (PK sz kn) (some (.shr on)) (some (.shr no)) (some (.shr pl)) (some (.shr (.int w))) none):=fun w m F G hn=>by
  rw [aX,cD,ts,ae,if_neg (by rw [decide_eq_false hn];decide)];rfl
 have yes:∀ (w m:Int) (F G:Rho->R Out),w=m->sq (DL.iff (tst (bin feq (vb 6) (kd (.int m)))) F nxt) G (rW ns k (PK sz kn) (some (.shr on)) (some (.shr no)) (some (.shr pl)) (some (.shr (.int w))) none)=sq F G (rW ns k (PK sz kn) (some (.shr on)) (some (.shr no)) (some (.shr pl)) (some (.shr (.int w))) none):=fun w m F G hm=>by
  rw [aX,cD,ts,ae,if_pos (decide_eq_true hm),aX]
 have hret:∀ (F:Rho->R D) (G:Rho->R Out) (ρ:Rho) (x:D),F ρ=.val x->fin (sq (ret F) G ρ)=.val x:=fun F G ρ x e=>by rw [aX,dM,e];rfl
 match i,hi with
 | 0,_ =>
  refine ⟨_,_,pr.up (by decide),?_⟩
  rw [yes _ _ _ _ (by decide),hpl]
  exact hret _ _ _ _ rfl
 | 1,_ =>
  have z2:=nq (r:=[.lst (kn.map az),aP sz]) h pr.lc pr.lm ron.lc ron.lm (fun l hl=>Nat.le_trans (pr.row h l hl) (by decide)) (fun l hl=>Nat.le_trans (ron.row h l hl) (by decide))
  rw [hon,hpl] at z2
  refine ⟨_,_,(uT h pr ron).up (by decide),?_⟩
  rw [no_ _ _ _ _ (by decide),yes _ _ _ _ (by decide)]
  refine hret _ _ _ _ ?_
  exact qJ rfl rfl rfl z2
 | 2,_ =>
  have key:∃ ds ns',IsR 1 (bI kn) (bz sz kn) (cV kn) ds ns'/\bin fix (eL (aC (vr 4) (aC (vr 3) aN))) (bin (iI bu) (cal 2 aA (aC (vr 0) (aC (bin cX (vb 1) (kd (.int 1))) aN))) (kd (.int 2))) (rW ns k (PK sz kn) (some (.shr on)) (some (.shr no)) (some (.shr pl)) (some (.shr (.int 2))) none)=.val (.tup [ak ds,aj ns']):=by
   obtain ⟨j,hj,ej⟩:=fj c1 2 (by decide)
   have ej:c1 % 2=(j:Int):=ej
   have m:bu c1 2=.val (.int (j:Int)):=by rw [dX (by decide),ej]
   have:bin fix (eL (aC (vr 4) (aC (vr 3) aN))) (bin (iI bu) (cal 2 aA (aC (vr 0) (aC (bin cX (vb 1) (kd (.int 1))) aN))) (kd (.int 2))) (rW ns k (PK sz kn) (some (.shr on)) (some (.shr no)) (some (.shr pl)) (some (.shr (.int 2))) none)=fix (.lst [no,on]) (.int (j:Int)):=by
    unfold rW
    simp [hc1,m]
   rw [this]
   match j,hj with
   | 0,_=>exact ⟨_,_,rno.up (by decide),by rw [hno];rfl⟩
   | 1,_=>exact ⟨_,_,ron,by rw [hon];rfl⟩
  obtain ⟨ds,ns',q1,q2⟩:=key
  have z2:=nq (r:=[.lst (kn.map az),aP sz]) h ron.lc ron.lm q1.lc q1.lm (fun l hl=>Nat.le_trans (ron.row h l hl) (by decide)) (fun l hl=>Nat.le_trans (q1.row h l hl) (by decide))
  rw [hon] at z2
  refine ⟨_,_,(uT h ron q1).up (by decide),?_⟩
  rw [no_ _ _ _ _ (by decide),no_ _ _ _ _ (by decide),yes _ _ _ _ (by decide)]
  refine hret _ _ _ _ ?_
  have q2:bin fix (eL (aC (vr 4) (aC (vr 3) aN))) (bin (iI bu) (cal 2 aA (aC (vr 0) (aC (bin cX (vb 1) (kd (.int 1))) aN))) (kd (.int 2))) (rW ns k (PK sz kn) (some (.shr on)) (some (.shr no)) (some (.shr pl)) (some (.shr (.int ((2:Nat):Int)))) none)=.val (.tup [ak ds,aj ns']):=q2
  exact qJ rfl rfl q2 z2
 | 3,_ =>
  obtain ⟨j,hj,ej⟩:=fj c1 (bz sz kn).length (by omega)
  have m:bu c1 ((bz sz kn).length:Int)=.val (.int (j:Int)):=by rw [dX (by omega),ej]
  have z2:=yG (r:=[.lst (kn.map az),aP sz]) h j
  have zr:IsR 40 (bI kn) (bz sz kn) (cV kn) _ _:=ud (s:=j) h fun t _=>Nat.le_trans (eK (en:=bI kn) j t) n40
  generalize eC (bI kn) (bz sz kn) j=cs at z2 zr
  generalize eN (bI kn) (cV kn) j=ms at z2 zr
  have s7:asg 7 (cal 2 dn (aC (vr 2) (aC (bin (iI bu) (cal 2 aA (aC (vr 0) (aC (bin cX (vb 1) (kd (.int 1))) aN))) (una aU (bin fix (vb 2) (kd (.int 1))))) aN))) (rW ns k (PK sz kn) (some (.shr on)) (some (.shr no)) (some (.shr pl)) (some (.shr (.int 3))) none)=.val (.nx (rW ns k (PK sz kn) (some (.shr on)) (some (.shr no)) (some (.shr pl)) (some (.shr (.int 3))) (some (.shr (.tup [ak cs,aj ms]))))) :=by
   unfold rW PK
   simp [hc1,m,z2]
  have q1:=zr.lc
  have t:tst (bin (iI fle) (una o0 (bin fix (vb 7) (kd (.int 0)))) (kd (.int 3))) (rW ns k (PK sz kn) (some (.shr on)) (some (.shr no)) (some (.shr pl)) (some (.shr (.int 3))) (some (.shr (.tup [ak cs,aj ms]))))=.val (decide (ke cs<=3)):=by
   have:=vx (cs:=cs) (by omega)
   unfold rW
   simp [this]
  by_cases p:ke cs<=3
  ·refine ⟨cs,ms,zr,?_⟩
   rw [no_ _ _ _ _ (by decide),no_ _ _ _ _ (by decide),no_ _ _ _ _ (by decide),yes _ _ _ _ (by decide),aX]
   rw [show ∀ F G,sq (asg 7 (cal 2 dn (aC (vr 2) (aC (bin (iI bu) (cal 2 aA (aC (vr 0) (aC (bin cX (vb 1) (kd (.int 1))) aN))) (una aU (bin fix (vb 2) (kd (.int 1))))) aN)))) (sq F G) (rW ns k (PK sz kn) (some (.shr on)) (some (.shr no)) (some (.shr pl)) (some (.shr (.int ((3:Nat):Int)))) none)=sq F G (rW ns k (PK sz kn) (some (.shr on)) (some (.shr no)) (some (.shr pl)) (some (.shr (.int 3))) (some (.shr (.tup [ak cs,aj ms])))) from fun F G=>bY s7]
   rw [aX,cD,t,ae,if_pos (decide_eq_true p)]
   rfl
  ·refine ⟨_,_,pr.up (by decide),?_⟩
   rw [hpl,no_ _ _ _ _ (by decide),no_ _ _ _ _ (by decide),no_ _ _ _ _ (by decide),yes _ _ _ _ (by decide),aX]
   rw [show ∀ F G,sq (asg 7 (cal 2 dn (aC (vr 2) (aC (bin (iI bu) (cal 2 aA (aC (vr 0) (aC (bin cX (vb 1) (kd (.int 1))) aN))) (una aU (bin fix (vb 2) (kd (.int 1))))) aN)))) (sq F G) (rW ns k (PK sz kn) (some (.shr on)) (some (.shr no)) (some (.shr pl)) (some (.shr (.int ((3:Nat):Int)))) none)=sq F G (rW ns k (PK sz kn) (some (.shr on)) (some (.shr no)) (some (.shr pl)) (some (.shr (.int 3))) (some (.shr (.tup [ak cs,aj ms])))) from fun F G=>bY s7]
   rw [aX,cD,t,ae,if_neg (by rw [decide_eq_false p];decide)]
   rfl
 | 4,_ =>
  refine ⟨_,_,rno.up (by decide),?_⟩
  rw [hno,no_ _ _ _ _ (by decide),no_ _ _ _ _ (by decide),no_ _ _ _ _ (by decide),no_ _ _ _ _ (by decide)]
  rfl
end
end DL
namespace DL
open PySem L2 Ar
theorem xh {α:Type} {f:α->D} (l:List α) (d:α):enu 0 (l.map f)=(List.range l.length).map fun i=>.tup [nD i,f (l.getD i d)]:=by
 rw [kh,List.length_map]
 apply List.map_congr_left
 intro i hi
 have hi:=List.mem_range.mp hi
 rw [Nat.zero_add,aG (show i < (l.map f).length by simpa using hi),aG hi,List.getElem_map]
theorem y6 {den:List D->R D} {A:Rho->R D} {ρ:Rho} {a x:D} (ha:A ρ=.val a) (h:den [a]=.val x):cal 1 den (aC A aN) ρ=.val x:=by
 simp [ha,h]
theorem i_ {den:List D->R D} {A B:Rho->R D} {ρ:Rho} {a b x:D} (ha:A ρ=.val a) (hb:B ρ=.val b) (h:den [a,b]=.val x):cal 2 den (aC A (aC B aN)) ρ=.val x:=by
 simp [ha,hb,h]
theorem yZ {den:List D->R D} {A B C E:Rho->R D} {ρ:Rho} {a b c e x:D} (ha:A ρ=.val a) (hb:B ρ=.val b) (hc:C ρ=.val c) (he:E ρ=.val e) (h:den [a,b,c,e]=.val x):cal 4 den (aC A (aC B (aC C (aC E aN)))) ρ=.val x:=by
 simp [ha,hb,hc,he,h]
theorem CU {den:List D->R D} {A B C E F:Rho->R D} {ρ:Rho} {a b c e f x:D} (ha:A ρ=.val a) (hb:B ρ=.val b) (hc:C ρ=.val c) (he:E ρ=.val e) (hf:F ρ=.val f) (h:den [a,b,c,e,f]=.val x):cal 5 den (aC A (aC B (aC C (aC E (aC F aN))))) ρ=.val x:=by
 simp [ha,hb,hc,he,hf,h]
theorem fU {i:Nat} {e:Rho->R D} {ρ:Rho} {x:D} (h:e ρ=.val x):asg i e ρ=.val (.nx (ρ.set i (some (.shr x)))):=by rw [fo,h];rfl
theorem kP {e:Rho->R D} {ρ:Rho} {x:D} (h:e ρ=.val x):drp e ρ=.val (.nx ρ):=by rw [AU,h];rfl
theorem fv {t:Rho->R Bool} {a:Rho->R Out} {ρ:Rho} (h:t ρ=.val false):DL.iff t a nxt ρ=.val (.nx ρ):=by rw [cD,h];rfl
theorem sP {A:Rho->R Out} {B:Rho->R D} {ρ ρ':Rho} (h:A ρ=.val (.nx ρ')):sqK A B ρ=B ρ':=by
 unfold sqK
 rw [h]
section
variable {en:List (Nat × Nat)} {re:List Nat} {tb:List (List Int)} {cs:List Int} {ms:List (List Int)} {L:Nat}
theorem f_ {b:Nat} (hb:b < re.length):aY [hlD en re tb,nD b]=.val .non:=by
 simp only [aY,gI]
 show fin (DL.iff _ _ _ [some (.shr (hlD en re tb)),some (.shr (nD b))])=_
 have:=hC hb
 simp [this]
theorem jG (h:bW en re tb) {a b:Nat} (ha:a < re.length) (hb:b < re.length):bB [hlD en re tb,nD a,nD b]=.val (aP (btw en a b)):=by
 simp only [bB,i5]
 show fin (sq _ _ [some (.shr (hlD en re tb)),some (.shr (nD a)),some (.shr (nD b))])=_
 have n40:=h.na40
 have e1:drp (cal 2 aY (aC (vr 0) (aC (vr 1) aN))) [some (.shr (hlD en re tb)),some (.shr (nD a)),some (.shr (nD b))]=.val (.nx [some (.shr (hlD en re tb)),some (.shr (nD a)),some (.shr (nD b))]):=kP (i_ rfl rfl (f_ ha))
 have e2:drp (cal 2 aY (aC (vr 0) (aC (vr 2) aN))) [some (.shr (hlD en re tb)),some (.shr (nD a)),some (.shr (nD b))]=.val (.nx [some (.shr (hlD en re tb)),some (.shr (nD a)),some (.shr (nD b))]):=kP (i_ rfl rfl (f_ hb))
 rw [bY e1,bY e2]
 have hc:=gZ (src:=fZ (aC (una (eO 0) (vb 0)) aN)) (n:=2) (T:=tg2 3 4) (t:=tst (bin feq (vb 4) (eT (aC (vr 1) (aC (vr 2) aN))))) (e:=vr 3) (f:=fun i=>.tup [nD i,dw (en.getD i (0,0))]) (g:=nD) (p:=fun n=>decide (en.getD n (0,0)=(a,b))) (l:=List.range en.length) (ρ:=[some (.shr (hlD en re tb)),some (.shr (nD a)),some (.shr (nD b))]) (by
  rw [<- xh (f:=dw) en (0,0)];rfl) (by rw [List.length_range];omega) fun n hn=>⟨_,rfl,by
  have q:=ux (en.getD n (0,0)) (a,b)
  exact congrArg (fun z=>R.bind z asB) q,rfl⟩
 rw [dM,cE,hc];rfl
theorem g8 (h:bW en re tb) (r:IsR 40 en re tb cs ms):ba [hlD en re tb,.tup [ak cs,aj ms]]=.val .non:=by
 simp only [ba,fm]
 show fin (DL.iff _ _ _ [some (.shr (hlD en re tb)),some (.shr (.tup [ak cs,aj ms]))])=_
 have e:=ou h (r.bd h (by decide))
 rw [r.tru h (by decide)] at e
 have e2:cal 3 cu (aC (vr 0) (aC (bin fix (vb 1) (kd (.int 0))) (aC (bin fix (vb 1) (kd (.int 1))) aN))) [some (.shr (hlD en re tb)),some (.shr (.tup [ak cs,aj ms]))]=.val (.bl true):=qJ (a:=hlD en re tb) (b:=ak cs) (c:=aj ms) rfl rfl rfl e
 have t:orB (tst (bin fne (una aU (vb 1)) (kd (.int 2)))) (ez (tst (cal 3 cu (aC (vr 0) (aC (bin fix (vb 1) (kd (.int 0))) (aC (bin fix (vb 1) (kd (.int 1))) aN)))))) [some (.shr (hlD en re tb)),some (.shr (.tup [ak cs,aj ms]))]=.val false:=by
  rw [hV,fD,dq _ (cal 3 _ _),e2];rfl
 rw [fv t];rfl
noncomputable def led (en:List (Nat × Nat)) (ms:List (List Int)) (b o th:Nat):List Int:=(btw en b o).map fun a=>(ms.getD a []).getD th (-1)
noncomputable def chg (en:List (Nat × Nat)) (re:List Nat) (ms:List (List Int)) (b th:Nat):List (List Int):=(List.range re.length).map fun o=>led en ms b o th
theorem pM (r:IsR L en re tb cs ms) {a b o th:Nat} (ha:a ∈ btw en b o) (ht:(th:Int) < cs.getD b (-1)):a < en.length/\th < (ms.getD a []).length:=by
 obtain ⟨a1,a2⟩:=mem_btw.mp ha
 have:=r.ml a a1
 rw [a2] at this
 dsimp only at this
 exact ⟨a1,by omega⟩
theorem vz (h:bW en re tb) (r:IsR L en re tb cs ms) {b o th:Nat} (hb:b < re.length) (ho:o < re.length) (ht:(th:Int) < cs.getD b (-1)):eX [hlD en re tb,nD b,nD o,aj ms,nD th]=.val (ak (led en ms b o th)):=by
 simp only [eX,jI]
 show eLs _ [some (.shr (hlD en re tb)),some (.shr (nD b)),some (.shr (nD o)),some (.shr (aj ms)),some (.shr (nD th))]=_
 have n40:=h.na40
 have e1:cal 3 bB (aC (vr 0) (aC (vr 1) (aC (vr 2) aN))) [some (.shr (hlD en re tb)),some (.shr (nD b)),some (.shr (nD o)),some (.shr (aj ms)),some (.shr (nD th))]=.val (aP (btw en b o)):=qJ rfl rfl rfl (jG h hb ho)
 refine fL (f:=nD) (g:=fun a=>(ms.getD a []).getD th (-1)) ?_ (by have:=eK (en:=en) b o;omega) fun a ha=>?_
 ·rw [tw,e1];rfl
 ·obtain ⟨a1,a2⟩:=pM r ha ht
  have f1:=cB (tb:=ms) (i:=a) (by rw [r.lm];exact a1)
  have f2:=dg (r:=ms.getD a []) a2
  simp [-List.getD_eq_getElem?_getD,f1,f2]
theorem qu (h:bW en re tb) (r:IsR 40 en re tb cs ms) {b th:Nat} (hb:b < re.length) (ht:(th:Int) < cs.getD b (-1)):cM [hlD en re tb,nD b,.tup [ak cs,aj ms],nD th]=.val (aj (chg en re ms b th)):=by
 simp only [cM,gJ]
 show sqK _ _ [some (.shr (hlD en re tb)),some (.shr (nD b)),some (.shr (.tup [ak cs,aj ms])),some (.shr (nD th))]=_
 have n6:=h.nb6
 have e1:drp (cal 2 aY (aC (vr 0) (aC (vr 1) aN))) [some (.shr (hlD en re tb)),some (.shr (nD b)),some (.shr (.tup [ak cs,aj ms])),some (.shr (nD th))]=.val (.nx [some (.shr (hlD en re tb)),some (.shr (nD b)),some (.shr (.tup [ak cs,aj ms])),some (.shr (nD th))]):=kP (i_ rfl rfl (f_ hb))
 have e2:drp (cal 2 ba (aC (vr 0) (aC (vr 2) aN))) [some (.shr (hlD en re tb)),some (.shr (nD b)),some (.shr (.tup [ak cs,aj ms])),some (.shr (nD th))]=.val (.nx [some (.shr (hlD en re tb)),some (.shr (nD b)),some (.shr (.tup [ak cs,aj ms])),some (.shr (nD th))]):=kP (i_ rfl rfl (g8 h r))
 have e3:DL.iff (ez (tst (cal 2 aK (aC (vr 3) (aC (bin fix (bin fix (vb 2) (kd (.int 0))) (vb 1)) aN))))) bad nxt [some (.shr (hlD en re tb)),some (.shr (nD b)),some (.shr (.tup [ak cs,aj ms])),some (.shr (nD th))]=.val (.nx [some (.shr (hlD en re tb)),some (.shr (nD b)),some (.shr (.tup [ak cs,aj ms])),some (.shr (nD th))]):=by
  have f:=dg (r:=cs) (i:=b) (by rw [r.lc];exact hb)
  have q:=iY (th:Int) (cs.getD b (-1))
  rw [decide_eq_true (Int.natCast_nonneg th),decide_eq_true ht] at q
  have c:cal 2 aK (aC (vr 3) (aC (bin fix (bin fix (vb 2) (kd (.int 0))) (vb 1)) aN)) [some (.shr (hlD en re tb)),some (.shr (nD b)),some (.shr (.tup [ak cs,aj ms])),some (.shr (nD th))]=.val (.bl true):=i_ (a:=nD th) rfl f q
  refine fv ?_
  rw [fD,dq,c];rfl
 rw [sP e1,sP e2,sP e3]
 have hc:=bZ (src:=dh (aC (una aU (una (eO 1) (vb 0))) aN)) (n:=1) (i:=4) (e:=cal 5 eX (aC (vr 0) (aC (vr 1) (aC (vr 4) (aC (bin fix (vb 2) (kd (.int 1))) (aC (vr 3) aN)))))) (f:=nD) (g:=fun o=>ak (led en ms b o th)) (l:=List.range re.length) (ρ:=[some (.shr (hlD en re tb)),some (.shr (nD b)),some (.shr (.tup [ak cs,aj ms])),some (.shr (nD th))]) (fY (by simp) (by omega)) (by rw [List.length_range];omega) fun o ho=>by
  have ho:=List.mem_range.mp ho
  exact CU (e:=aj ms) rfl rfl rfl rfl rfl (vz h r hb ho ht)
 rw [cE,hc,ae,jV];rfl
end
end DL
namespace DL
open PySem L2 Ar
section
variable {en:List (Nat × Nat)} {re:List Nat} {tb:List (List Int)} {cs:List Int} {ms:List (List Int)} {L:Nat}
noncomputable def thD (en:List (Nat × Nat)) (re:List Nat) (s:Nat):D:=.lst ((List.range re.length).map fun t=>aP (btw en s t))
theorem wV {s t:Nat} (ht:t < re.length):fix (thD en re s) (.int (t:Int))=.val (aP (btw en s t)):=jz (by simp [ht])
theorem ot (h:bW en re tb) {s k:Nat} (hk:k < en.length):cn [hlD en re tb,thD en re s,nD k]=.val (ak (j5 en tb s k)):=by
 simp only [cn,gk]
 show fin (sq _ _ [some (.shr (hlD en re tb)),some (.shr (thD en re s)),some (.shr (nD k)),none])=_
 have n40:=h.na40
 have tl:=h.tl
 have eb:=h.eb k hk
 have s1:asg 3 (bin fix (una (eO 0) (vb 0)) (vb 2)) [some (.shr (hlD en re tb)),some (.shr (thD en re s)),some (.shr (nD k)),none]=.val (.nx [some (.shr (hlD en re tb)),some (.shr (thD en re s)),some (.shr (nD k)),some (.shr (dw (en.getD k (0,0))))]):=fU (fE (en:=en) hk)
 rw [bY s1,dM]
 have g0:bin fix (vb 1) (bin fix (vb 3) (kd (.int 0))) [some (.shr (hlD en re tb)),some (.shr (thD en re s)),some (.shr (nD k)),some (.shr (dw (en.getD k (0,0))))]=.val (aP (btw en s (en.getD k (0,0)).1)):=wV eb.1
 rw [fL (f:=nD) (g:=fun x=>((btw en s (en.getD k (0,0)).2).idxOf (ent tb x k):Int)) (l:=btw en s (en.getD k (0,0)).1) (by rw [tw,g0];rfl) (by have:=eK (en:=en) s (en.getD k (0,0)).1;omega) fun x hx=>by
  obtain ⟨x1,x2⟩:=mem_btw.mp hx
  obtain ⟨q2,q3⟩:=nA h hk hx
  have f1:=cB (tb:=tb) (i:=x) (by omega)
  have f2:=dg (r:=tb.getD x []) (i:=k) (by rw [h.rl x x1];exact hk)
  rw [q2] at f2
  have hj:=qr (l:=btw en s (en.getD k (0,0)).2) (k:=ent tb x k) q3 (by have:=eK (en:=en) s (en.getD k (0,0)).2;omega)
  have g1:bin fix (vb 1) (bin fix (vb 3) (kd (.int 1))) [some (.shr (hlD en re tb)),some (.shr (thD en re s)),some (.shr (nD k)),some (.shr (dw (en.getD k (0,0)))),some (.shr (nD x))]=.val (aP (btw en s (en.getD k (0,0)).2)):=wV eb.2
  have g2:bin fix (bin fix (una (eO 2) (vb 0)) (vb 4)) (vb 2) [some (.shr (hlD en re tb)),some (.shr (thD en re s)),some (.shr (nD k)),some (.shr (dw (en.getD k (0,0)))),some (.shr (nD x))]=.val (.int (ent tb x k:Int)):=by
   simp [-List.getD_eq_getElem?_getD,f1,f2]
  exact (qi g1 g2).trans hj]
 rfl
theorem vy (h:bW en re tb) {s:Nat} (hs:s < re.length):d8 [hlD en re tb,nD s]=.val (.tup [ak (eC en re s),aj (eN en tb s)]):=by
 simp only [d8,jH]
 show fin (sq _ _ [some (.shr (hlD en re tb)),some (.shr (nD s)),none,none,none])=_
 have n40:=h.na40
 have n6:=h.nb6
 have s1:asg 2 (eLs (bq (dh (aC (una aU (una (eO 1) (vb 0))) aN)) 1 (tgN 5) tT (cal 3 bB (aC (vr 0) (aC (vr 1) (aC (vr 5) aN)))))) [some (.shr (hlD en re tb)),some (.shr (nD s)),none,none,none]=.val (.nx [some (.shr (hlD en re tb)),some (.shr (nD s)),some (.shr (thD en re s)),none,none]):=by
  have hc:=bZ (src:=dh (aC (una aU (una (eO 1) (vb 0))) aN)) (n:=1) (i:=5) (e:=cal 3 bB (aC (vr 0) (aC (vr 1) (aC (vr 5) aN)))) (f:=nD) (g:=fun t=>aP (btw en s t)) (l:=List.range re.length) (ρ:=[some (.shr (hlD en re tb)),some (.shr (nD s)),none,none,none]) (fY (by simp) (by omega)) (by rw [List.length_range];omega) fun t ht=>qJ rfl rfl rfl (jG h hs (List.mem_range.mp ht))
  refine fU ?_
  rw [cE,hc];rfl
 have s2:asg 3 (eLs (bq (fIt (vr 2)) 1 (tgN 5) tT (una aU (vb 5)))) [some (.shr (hlD en re tb)),some (.shr (nD s)),some (.shr (thD en re s)),none,none]=.val (.nx [some (.shr (hlD en re tb)),some (.shr (nD s)),some (.shr (thD en re s)),some (.shr (ak (eC en re s))),none]):=by
  refine fU (fL (f:=fun t=>aP (btw en s t)) (g:=fun t=>((btw en s t).length:Int)) (l:=List.range re.length) rfl (by rw [List.length_range];omega) fun t _=>by simp)
 have s3:asg 4 (eLs (bq (dh (aC (una aU (una (eO 0) (vb 0))) aN)) 1 (tgN 5) tT (cal 3 cn (aC (vr 0) (aC (vr 2) (aC (vr 5) aN)))))) [some (.shr (hlD en re tb)),some (.shr (nD s)),some (.shr (thD en re s)),some (.shr (ak (eC en re s))),none]=.val (.nx [some (.shr (hlD en re tb)),some (.shr (nD s)),some (.shr (thD en re s)),some (.shr (ak (eC en re s))),some (.shr (aj (eN en tb s)))]):=by
  have hc:=bZ (src:=dh (aC (una aU (una (eO 0) (vb 0))) aN)) (n:=1) (i:=5) (e:=cal 3 cn (aC (vr 0) (aC (vr 2) (aC (vr 5) aN)))) (f:=nD) (g:=fun k=>ak (j5 en tb s k)) (l:=List.range en.length) (ρ:=[some (.shr (hlD en re tb)),some (.shr (nD s)),some (.shr (thD en re s)),some (.shr (ak (eC en re s))),none]) (fY (by simp) (by omega)) (by rw [List.length_range];omega) fun k hk=>qJ (b:=thD en re s) rfl rfl rfl (ot h (List.mem_range.mp hk))
  refine fU ?_
  rw [cE,hc,ae,jV];rfl
 rw [bY s1,bY s2,bY s3];rfl
theorem i8 {b th o:Nat} (ho:o < re.length):(chg en re ms b th).getD o []=led en ms b o th:=jY ho
theorem gd {b th:Nat}:(chg en re ms b th).length=re.length:=by simp [chg]
theorem jo {b o th:Nat}:(led en ms b o th).length=(btw en b o).length:=by simp [led]
theorem wI (r:IsR L en re tb cs ms) {b o th:Nat} (ht:(th:Int) < cs.getD b (-1)):∀ x ∈ led en ms b o th,0<=x/\x < cs.getD o (-1):=by
 intro x hx
 unfold led at hx
 obtain ⟨a,ha,rfl⟩:=List.mem_map.mp hx
 obtain ⟨a1,a2⟩:=pM r ha ht
 have:=r.mb a a1 ((ms.getD a []).getD th (-1)) (by rw [aG a2];exact List.getElem_mem a2)
 rw [(mem_btw.mp ha).2] at this
 exact this
theorem AW (h:bW en re tb) (r:IsR L en re tb cs ms) {b th i:Nat} (ht:(th:Int) < cs.getD b (-1)) (hi:i < en.length):fol ((eN en tb b).getD i []) ((chg en re ms b th).getD (en.getD i (0,0)).2 [])=fol ((chg en re ms b th).getD (en.getD i (0,0)).1 []) (ms.getD i []):=by
 have eb:=h.eb i hi
 rw [i8 eb.1,i8 eb.2,show (eN en tb b).getD i []=j5 en tb b i from jY hi]
 unfold j5 fol led
 rw [List.map_map,List.map_map]
 apply List.map_congr_left
 intro x hx
 simp only [Function.comp,Int.toNat_natCast]
 obtain ⟨y1,y2⟩:=nA h hi hx
 have yl:=List.idxOf_lt_length_of_mem y2
 rw [fI (d:=0) yl,aG yl,List.getElem_idxOf]
 obtain ⟨x1,x2⟩:=pM r hx ht
 rw [r.cmp x i _ x1 hi y1]
 unfold fol
 rw [fI (d:=-1) x2]
theorem qt (h:bW en re tb) (r:IsR 40 en re tb cs ms) {b th:Nat} (hb:b < re.length) (ht:(th:Int) < cs.getD b (-1)):dl [hlD en re tb,.tup [ak (eC en re b),aj (eN en tb b)],.tup [ak cs,aj ms],aj (chg en re ms b th)]=.val (.bl true):=by
 simp only [dl,gH]
 show fin (sq _ _ [some (.shr (hlD en re tb)),some (.shr (.tup [ak (eC en re b),aj (eN en tb b)])),some (.shr (.tup [ak cs,aj ms])),some (.shr (aj (chg en re ms b th))),none,none])=_
 have n40:=h.na40
 have n6:=h.nb6
 have ro:IsR 40 en re tb (eC en re b) (eN en tb b):=ud h fun t _=>Nat.le_trans (eK (en:=en) b t) n40
 have s1:DL.iff (tst (bin fne (eLs (bq (fIt (vr 3)) 1 (tgN 6) tT (una aU (vb 6)))) (bin fix (vb 1) (kd (.int 0))))) (ret (kd (.bl false))) nxt [some (.shr (hlD en re tb)),some (.shr (.tup [ak (eC en re b),aj (eN en tb b)])),some (.shr (.tup [ak cs,aj ms])),some (.shr (aj (chg en re ms b th))),none,none]=.val (.nx [some (.shr (hlD en re tb)),some (.shr (.tup [ak (eC en re b),aj (eN en tb b)])),some (.shr (.tup [ak cs,aj ms])),some (.shr (aj (chg en re ms b th))),none,none]):=by
  have c:eLs (bq (fIt (vr 3)) 1 (tgN 6) tT (una aU (vb 6))) [some (.shr (hlD en re tb)),some (.shr (.tup [ak (eC en re b),aj (eN en tb b)])),some (.shr (.tup [ak cs,aj ms])),some (.shr (aj (chg en re ms b th))),none,none]=.val (ak (eC en re b)):=by
   rw [fL (f:=ak) (g:=fun l=>(l.length:Int)) (l:=chg en re ms b th) rfl (by rw [gd];omega) fun t _=>by simp]
   congr 2
   unfold chg eC
   rw [List.map_map]
   apply List.map_congr_left
   intro o _
   simp only [Function.comp,jo]
  refine fv ?_
  rw [dq,bO,c]
  show R.bind (fne (ak (eC en re b)) (ak (eC en re b))) asB=_
  rw [qp];simp
 have s2:DL.iff (ez (tst (una sh (eLs (bq (lF (aC (vr 3) (aC (bin fix (vb 2) (kd (.int 0))) aN))) 2 (tg2 6 7) tT (cal 2 bp (aC (vr 6) (aC (vr 7) aN)))))))) (ret (kd (.bl false))) nxt [some (.shr (hlD en re tb)),some (.shr (.tup [ak (eC en re b),aj (eN en tb b)])),some (.shr (.tup [ak cs,aj ms])),some (.shr (aj (chg en re ms b th))),none,none]=.val (.nx [some (.shr (hlD en re tb)),some (.shr (.tup [ak (eC en re b),aj (eN en tb b)])),some (.shr (.tup [ak cs,aj ms])),some (.shr (aj (chg en re ms b th))),none,none]):=by
  have hc:=gZ (src:=lF (aC (vr 3) (aC (bin fix (vb 2) (kd (.int 0))) aN))) (n:=2) (T:=tg2 6 7) (t:=tT) (e:=cal 2 bp (aC (vr 6) (aC (vr 7) aN))) (f:=fun i=>.tup [ak ((chg en re ms b th).getD i []),.int (cs.getD i (-1))]) (g:=fun i=>.bl (((chg en re ms b th).getD i []).all (fX (cs.getD i (-1))))) (p:=fun _=>true) (l:=List.range (chg en re ms b th).length) (ρ:=[some (.shr (hlD en re tb)),some (.shr (.tup [ak (eC en re b),aj (eN en tb b)])),some (.shr (.tup [ak cs,aj ms])),some (.shr (aj (chg en re ms b th))),none,none]) (by
   have:=pi (f:=ak) (g:=D.int) (l:=chg en re ms b th) (m:=cs) (a:=[]) (b:=-1) (by rw [gd,r.lc])
   rw [<- this];rfl) (by rw [List.length_range,gd];omega) fun i hi=>by
   have hi:=List.mem_range.mp hi
   rw [gd] at hi
   refine ⟨_,rfl,rfl,i_ (a:=ak ((chg en re ms b th).getD i [])) (b:=.int (cs.getD i (-1))) rfl rfl (ie _ _ ?_)⟩
   rw [i8 hi,jo]
   have:=eK (en:=en) b i
   omega
  rw [List.filter_eq_self.mpr fun _ _=>rfl] at hc
  have al:((List.range (chg en re ms b th).length).all fun i=>((chg en re ms b th).getD i []).all (fX (cs.getD i (-1))))=true:=by
   rw [List.all_eq_true]
   intro i hi
   have hi:=List.mem_range.mp hi
   rw [gd] at hi
   rw [i8 hi,List.all_eq_true]
   exact fun x hx=>below_iff.mpr (wI r ht x hx)
  refine fv ?_
  rw [fD,dq,gg,cE,hc,ae,ae,nl,al];rfl
 rw [bY s1,bY s2]
 have fe:=l0 (src:=fZ (aC (una (eO 0) (vb 0)) aN)) (T:=tg2 4 5) (F:=DL.iff (tst (bin fne (cal 2 bA (aC (bin fix (bin fix (vb 1) (kd (.int 1))) (vb 4)) (aC (bin fix (vb 3) (bin fix (vb 5) (kd (.int 1)))) aN))) (cal 2 bA (aC (bin fix (vb 3) (bin fix (vb 5) (kd (.int 0)))) (aC (bin fix (bin fix (vb 2) (kd (.int 1))) (vb 4)) aN))))) (ret (kd (.bl false))) nxt) (f:=fun i=>.tup [nD i,dw (en.getD i (0,0))]) (ok:=fun _=>true) (l:=List.range en.length) (ρ:=[some (.shr (hlD en re tb)),some (.shr (.tup [ak (eC en re b),aj (eN en tb b)])),some (.shr (.tup [ak cs,aj ms])),some (.shr (aj (chg en re ms b th))),none,none]) (fun ρ=>∃ x y,ρ=[some (.shr (hlD en re tb)),some (.shr (.tup [ak (eC en re b),aj (eN en tb b)])),some (.shr (.tup [ak cs,aj ms])),some (.shr (aj (chg en re ms b th))),x,y]) (by rw [<- xh (f:=dw) en (0,0)];rfl) (fun i hi ρ hI=>by
  obtain ⟨x,y,rfl⟩:=hI
  have hi:=List.mem_range.mp hi
  have eb:=h.eb i hi
  refine ⟨_,rfl,(fun z=>by cases z),fun _=>⟨_,fv (ρ:=[some (.shr (hlD en re tb)),some (.shr (.tup [ak (eC en re b),aj (eN en tb b)])),some (.shr (.tup [ak cs,aj ms])),some (.shr (aj (chg en re ms b th))),some (.shr (nD i)),some (.shr (dw (en.getD i (0,0))))]) ?_,_,_,rfl⟩⟩
  have ol:(eN en tb b).length=en.length:=ro.lm
  have v1:bin fix (bin fix (vb 1) (kd (.int 1))) (vb 4) [some (.shr (hlD en re tb)),some (.shr (.tup [ak (eC en re b),aj (eN en tb b)])),some (.shr (.tup [ak cs,aj ms])),some (.shr (aj (chg en re ms b th))),some (.shr (nD i)),some (.shr (dw (en.getD i (0,0))))]=.val (ak ((eN en tb b).getD i [])):=cB (by rw [ol];exact hi)
  have v2:bin fix (vb 3) (bin fix (vb 5) (kd (.int 1))) [some (.shr (hlD en re tb)),some (.shr (.tup [ak (eC en re b),aj (eN en tb b)])),some (.shr (.tup [ak cs,aj ms])),some (.shr (aj (chg en re ms b th))),some (.shr (nD i)),some (.shr (dw (en.getD i (0,0))))]=.val (ak ((chg en re ms b th).getD (en.getD i (0,0)).2 [])):=cB (by rw [gd];exact eb.2)
  have v3:bin fix (vb 3) (bin fix (vb 5) (kd (.int 0))) [some (.shr (hlD en re tb)),some (.shr (.tup [ak (eC en re b),aj (eN en tb b)])),some (.shr (.tup [ak cs,aj ms])),some (.shr (aj (chg en re ms b th))),some (.shr (nD i)),some (.shr (dw (en.getD i (0,0))))]=.val (ak ((chg en re ms b th).getD (en.getD i (0,0)).1 [])):=cB (by rw [gd];exact eb.1)
  have v4:bin fix (bin fix (vb 2) (kd (.int 1))) (vb 4) [some (.shr (hlD en re tb)),some (.shr (.tup [ak (eC en re b),aj (eN en tb b)])),some (.shr (.tup [ak cs,aj ms])),some (.shr (aj (chg en re ms b th))),some (.shr (nD i)),some (.shr (dw (en.getD i (0,0))))]=.val (ak (ms.getD i [])):=cB (by rw [r.lm];exact hi)
  have f1:=iZ (a:=(eN en tb b).getD i []) (b:=(chg en re ms b th).getD (en.getD i (0,0)).2 []) (by have:=(ro.bd h (by decide)).at i;omega) (fun x hx=>by
   have:=ro.mb i hi x hx
   rw [i8 eb.2,jo]
   have e:(eC en re b).getD (en.getD i (0,0)).2 (-1)=((btw en b (en.getD i (0,0)).2).length:Int):=mF eb.2
   rw [e] at this
   exact this)
  have f2:=iZ (a:=(chg en re ms b th).getD (en.getD i (0,0)).1 []) (b:=ms.getD i []) (by rw [i8 eb.1,jo];have:=eK (en:=en) b (en.getD i (0,0)).1;omega) (fun x hx=>by
   rw [i8 eb.1] at hx
   have:=wI r ht x hx
   rw [r.ml i hi]
   exact this)
  rw [AW h r ht hi] at f1
  rw [dq,bO,i_ v1 v2 f1,i_ v3 v4 f2,ae,ae,qp];simp) ⟨_,_,rfl⟩
 rw [fe,List.all_eq_true.mpr fun _ _=>rfl]
theorem sk (h:bW en re tb) (r:IsR 40 en re tb cs ms) {b th:Nat} (hb:b < re.length) (ht:(th:Int) < cs.getD b (-1)):dY [hlD en re tb,nD b,.tup [ak cs,aj ms],aj (chg en re ms b th)]=.val (nD th):=by
 simp only [dY,ig]
 show fin (sq _ _ [some (.shr (hlD en re tb)),some (.shr (nD b)),some (.shr (.tup [ak cs,aj ms])),some (.shr (aj (chg en re ms b th)))])=_
 have n40:=h.na40
 have e1:drp (cal 2 aY (aC (vr 0) (aC (vr 1) aN))) [some (.shr (hlD en re tb)),some (.shr (nD b)),some (.shr (.tup [ak cs,aj ms])),some (.shr (aj (chg en re ms b th)))]=.val (.nx [some (.shr (hlD en re tb)),some (.shr (nD b)),some (.shr (.tup [ak cs,aj ms])),some (.shr (aj (chg en re ms b th)))]):=kP (i_ rfl rfl (f_ hb))
 have e2:drp (cal 2 ba (aC (vr 0) (aC (vr 2) aN))) [some (.shr (hlD en re tb)),some (.shr (nD b)),some (.shr (.tup [ak cs,aj ms])),some (.shr (aj (chg en re ms b th)))]=.val (.nx [some (.shr (hlD en re tb)),some (.shr (nD b)),some (.shr (.tup [ak cs,aj ms])),some (.shr (aj (chg en re ms b th)))]):=kP (i_ rfl rfl (g8 h r))
 have e3:DL.iff (ez (tst (cal 4 dl (aC (vr 0) (aC (cal 2 d8 (aC (vr 0) (aC (vr 1) aN))) (aC (vr 2) (aC (vr 3) aN))))))) bad nxt [some (.shr (hlD en re tb)),some (.shr (nD b)),some (.shr (.tup [ak cs,aj ms])),some (.shr (aj (chg en re ms b th)))]=.val (.nx [some (.shr (hlD en re tb)),some (.shr (nD b)),some (.shr (.tup [ak cs,aj ms])),some (.shr (aj (chg en re ms b th)))]):=by
  refine fv ?_
  have o:cal 2 d8 (aC (vr 0) (aC (vr 1) aN)) [some (.shr (hlD en re tb)),some (.shr (nD b)),some (.shr (.tup [ak cs,aj ms])),some (.shr (aj (chg en re ms b th)))]=.val (.tup [ak (eC en re b),aj (eN en tb b)]):=i_ rfl rfl (vy h hb)
  rw [fD,dq,yZ (a:=hlD en re tb) (c:=.tup [ak cs,aj ms]) (e:=aj (chg en re ms b th)) rfl o rfl rfl (qt h r hb ht)];rfl
 rw [bY e1,bY e2,bY e3]
 obtain ⟨q1,q2⟩:=h.rs b hb
 have mem:re.getD b 0 ∈ btw en b b:=mem_btw.mpr ⟨q1,q2⟩
 have il:=List.idxOf_lt_length_of_mem mem
 have i1:qj (cal 3 bB (aC (vr 0) (aC (vr 1) (aC (vr 1) aN)))) (bin fix (una (eO 1) (vb 0)) (vb 1)) [some (.shr (hlD en re tb)),some (.shr (nD b)),some (.shr (.tup [ak cs,aj ms])),some (.shr (aj (chg en re ms b th)))]=.val (nD ((btw en b b).idxOf (re.getD b 0))):=by
  rw [qi (l:=btw en b b) (t:=(re.getD b 0:Nat)) (qJ rfl rfl rfl (jG h hb hb)) (me (re:=re) hb)]
  exact qr mem (by have:=eK (en:=en) b b;omega)
 have c1:bin fix (vb 3) (vb 1) [some (.shr (hlD en re tb)),some (.shr (nD b)),some (.shr (.tup [ak cs,aj ms])),some (.shr (aj (chg en re ms b th)))]=.val (ak (led en ms b b th)):=by
  have:=cB (tb:=chg en re ms b th) (i:=b) (by rw [gd];exact hb)
  rw [i8 hb] at this
  exact this
 rw [dM,bO,c1,ae,i1,ae,dg (by rw [jo];exact il)]
 have v:(led en ms b b th).getD ((btw en b b).idxOf (re.getD b 0)) (-1)=(th:Int):=by
  unfold led
  rw [fI (d:=0) il,aG il,List.getElem_idxOf,r.idn b hb,ze (by omega)]
 rw [v];rfl
end
end DL
namespace DL
open PySem L2 Ar
theorem yp {n i:Nat} (h:i < n):ixN n (i:Int)=some i:=by
 unfold ixN
 rw [if_pos (Int.natCast_nonneg i),if_pos (Int.ofNat_lt.mpr h),Int.toNat_natCast]
theorem uD {ms:List (List Int)} (h:ms.length<=100000):cN [aj ms]=.val (aj ms):=by
 simp only [cN,im]
 show eLs _ [some (.shr (aj ms))]=_
 have hc:=bZ (src:=fIt (vr 0)) (n:=1) (i:=1) (e:=eLs (fIt (vb 1))) (f:=ak) (g:=ak) (l:=ms) (ρ:=[some (.shr (aj ms))]) rfl h fun a _=>rfl
 rw [cE,hc];rfl
theorem w5 (i:Int):di [.int i]=.val (.bl true):=by
 simp only [di,gE]
 rfl
theorem yI {l:List Int} (hl:l.length<=100000):dz [ak l,ak l]=.val (.bl true):=by
 simp only [dz,ij]
 show fin (sq _ _ [some (.shr (ak l)),some (.shr (ak l)),none])=_
 have s1:DL.iff (orB (ez (tst (una (jF "list") (vb 0)))) (tst (bin fne (una aU (vb 0)) (una aU (vb 1))))) (ret (kd (.bl false))) nxt [some (.shr (ak l)),some (.shr (ak l)),none]=.val (.nx [some (.shr (ak l)),some (.shr (ak l)),none]):=by
  refine fv ?_
  have t1:tst (una (jF "list") (vb 0)) [some (.shr (ak l)),some (.shr (ak l)),none]=.val true:=Eq.trans rfl rfl
  rw [hV,fD,t1]
  simp
 rw [bY s1]
 have fe:=l0 (src:=dh (aC (una aU (vb 1)) aN)) (T:=tgN 2) (F:=DL.iff (orB (ez (tst (una (jF "int") (bin fix (vb 0) (vb 2))))) (orB (tst (una (jF "bool") (bin fix (vb 0) (vb 2)))) (tst (bin fne (bin fix (vb 0) (vb 2)) (bin fix (vb 1) (vb 2)))))) (ret (kd (.bl false))) nxt) (f:=nD) (ok:=fun _=>true) (l:=List.range l.length) (ρ:=[some (.shr (ak l)),some (.shr (ak l)),none]) (fun ρ=>∃ x,ρ=[some (.shr (ak l)),some (.shr (ak l)),x]) (fY (by simp) hl) (fun i hi ρ hI=>by
  obtain ⟨x,rfl⟩:=hI
  have hi:=List.mem_range.mp hi
  have f:=dg (r:=l) hi
  refine ⟨_,rfl,(fun z=>by cases z),fun _=>⟨_,fv (ρ:=[some (.shr (ak l)),some (.shr (ak l)),some (.shr (nD i))]) ?_,_,rfl⟩⟩
  have v0:bin fix (vb 0) (vb 2) [some (.shr (ak l)),some (.shr (ak l)),some (.shr (nD i))]=.val (.int (l.getD i (-1))):=f
  have v1:bin fix (vb 1) (vb 2) [some (.shr (ak l)),some (.shr (ak l)),some (.shr (nD i))]=.val (.int (l.getD i (-1))):=f
  have t1:tst (una (jF "int") (bin fix (vb 0) (vb 2))) [some (.shr (ak l)),some (.shr (ak l)),some (.shr (nD i))]=.val true:=by rw [dq,gg,v0];rfl
  have t2:tst (una (jF "bool") (bin fix (vb 0) (vb 2))) [some (.shr (ak l)),some (.shr (ak l)),some (.shr (nD i))]=.val false:=by rw [dq,gg,v0];rfl
  have t3:tst (bin fne (bin fix (vb 0) (vb 2)) (bin fix (vb 1) (vb 2))) [some (.shr (ak l)),some (.shr (ak l)),some (.shr (nD i))]=.val false:=by
   rw [dq,bO,v0,v1,ae,ae,AI];simp
  rw [hV,fD,t1,ae,ae,if_neg (by decide),hV,t2,ae,if_neg (by decide),t3]) ⟨_,rfl⟩
 rw [fe,List.all_eq_true.mpr fun _ _=>rfl]
theorem yH {ms:List (List Int)} (hm:ms.length<=100000) (hr:∀ l ∈ ms,l.length<=100000):bv [aj ms,aj ms]=.val (.bl true):=by
 simp only [bv,eS]
 show fin (sq _ _ [some (.shr (aj ms)),some (.shr (aj ms)),none,none])=_
 have s1:DL.iff (orB (ez (tst (una (jF "list") (vb 0)))) (tst (bin fne (una aU (vb 0)) (una aU (vb 1))))) (ret (kd (.bl false))) nxt [some (.shr (aj ms)),some (.shr (aj ms)),none,none]=.val (.nx [some (.shr (aj ms)),some (.shr (aj ms)),none,none]):=by
  refine fv ?_
  have t1:tst (una (jF "list") (vb 0)) [some (.shr (aj ms)),some (.shr (aj ms)),none,none]=.val true:=Eq.trans rfl rfl
  rw [hV,fD,t1]
  simp
 rw [bY s1]
 have fe:=l0 (src:=lF (aC (vr 0) (aC (vr 1) aN))) (T:=tg2 2 3) (F:=DL.iff (ez (tst (cal 2 dz (aC (vr 2) (aC (vr 3) aN))))) (ret (kd (.bl false))) nxt) (f:=fun i=>.tup [ak (ms.getD i []),ak (ms.getD i [])]) (ok:=fun _=>true) (l:=List.range ms.length) (ρ:=[some (.shr (aj ms)),some (.shr (aj ms)),none,none]) (fun ρ=>∃ x y,ρ=[some (.shr (aj ms)),some (.shr (aj ms)),x,y]) (by
   have:=pi (f:=ak) (g:=ak) (l:=ms) (m:=ms) (a:=[]) (b:=[]) rfl
   rw [<- this];rfl) (fun i hi ρ hI=>by
  obtain ⟨x,y,rfl⟩:=hI
  have hi:=List.mem_range.mp hi
  refine ⟨_,rfl,(fun z=>by cases z),fun _=>⟨_,fv (ρ:=[some (.shr (aj ms)),some (.shr (aj ms)),some (.shr (ak (ms.getD i []))),some (.shr (ak (ms.getD i [])))]) ?_,_,_,rfl⟩⟩
  rw [fD,dq,i_ (a:=ak (ms.getD i [])) (b:=ak (ms.getD i [])) rfl rfl (yI (by rw [aG hi];exact hr _ (List.getElem_mem hi)))];rfl) ⟨_,_,rfl⟩
 rw [fe,List.all_eq_true.mpr fun _ _=>rfl]
noncomputable def rL (ns:List Int) (P H:D) (b:Nat) (x:D) (th:Nat) (due:List (List Int)) (a7:Option Slt) (fnd:List (List Int)) (bk:D):Rho:=[some (.shr (.scr ns)),some (.shr P),some (.shr H),some (.shr (nD b)),some (.shr x),some (.shr (nD th)),some (.shr (aj due)),a7,some (.shr x),some (.tre (.l (.l .s)) (aj fnd)),some (.shr (aj due)),some (.shr bk)]
theorem B8 {ns:List Int} {P H x bk:D} {b th:Nat} {due fnd:List (List Int)} {a7:Option Slt} (hb:b < fnd.length) (hl:(fnd.getD b []).length<=1000):asO (apP 9 .s (pN 9 (pN0 9) (vr 3)) (kd (.int 0))) (rL ns P H b x th due a7 fnd bk)=.val (.nx (rL ns P H b x th due a7 (fnd.set b (fnd.getD b [] ++ [0])) bk)):=by
 have p1:pN 9 (pN0 9) (vr 3) (rL ns P H b x th due a7 fnd bk)=.val [b]:=by
  show pIx (.l (.l .s)) (aj fnd) [] (b:Int)=_
  unfold pIx aj
  simp only [iJ,ln]
  rw [List.length_map,yp hb];rfl
 have sub:ln (aj fnd) [b]=some (ak (fnd.getD b [])):=by
  unfold aj
  simp only [ln]
  rw [fu (d:=[]) hb]
 have put:∀ x,mG (aj fnd) [b] x=.lst ((fnd.map ak).set b x):=fun x=>by
  unfold aj
  simp only [mG]
  rw [fu (d:=[]) hb]
 have af:apF (.int 0) ((fnd.getD b []).map D.int)=.val ((fnd.getD b [] ++ [0]).map D.int):=by
  unfold apF
  rw [if_pos (by rw [List.length_map];show _ < 100000;omega),List.map_append];rfl
 have h2:uZ 9 .s [b] (apF (.int 0)) (rL ns P H b x th due a7 fnd bk)=.val (rL ns P H b x th due a7 (fnd.set b (fnd.getD b [] ++ [0])) bk):=by
  unfold uZ
  show (if iJ (.l (.l .s)) [b]=some (.l .s) then _ else _)=_
  rw [if_pos (show iJ (.l (.l .s)) [b]=some (.l .s) from rfl),sub]
  show R.bind (apF (.int 0) ((fnd.getD b []).map D.int)) _=_
  rw [af,ae,put]
  have:D.lst ((fnd.map ak).set b (.lst ((fnd.getD b [] ++ [0]).map D.int)))=aj (fnd.set b (fnd.getD b [] ++ [0])):=congrArg D.lst (List.map_set (f:=ak)).symm
  rw [this];rfl
 unfold asO apP
 rw [p1,ae,lh,j6,ae,h2];rfl
theorem A5 {ns:List Int} {P H x bk:D} {b th:Nat} {due fnd:List (List Int)} {a7:Option Slt} (hl:fnd.length<=1000):asO (apP 9 (.l .s) (pN0 9) (eLs (ib aN))) (rL ns P H b x th due a7 fnd bk)=.val (.nx (rL ns P H b x th due a7 (fnd ++ [[]]) bk)):=by
 have af:apF (ak []) (fnd.map ak)=.val ((fnd ++ [[]]).map ak):=by
  unfold apF
  rw [if_pos (by rw [List.length_map];show _ < 100000;omega),List.map_append];rfl
 have h2:uZ 9 (.l .s) [] (apF (ak [])) (rL ns P H b x th due a7 fnd bk)=.val (rL ns P H b x th due a7 (fnd ++ [[]]) bk):=by
  show R.bind (apF (ak []) (fnd.map ak)) _=_
  rw [af];rfl
 have e:eLs (ib aN) (rL ns P H b x th due a7 fnd bk)=.val (ak []):=Eq.trans rfl rfl
 unfold asO apP
 rw [show pN0 9 (rL ns P H b x th due a7 fnd bk)=.val [] from rfl,ae,e,j6,ae,h2];rfl
end DL
namespace DL
open PySem L2 Ar
theorem law_val (ns:List Int) (hl:ns.length<=63):nH [.scr ns]=.val (.bl true):=by
 simp only [nH,qC]
 show fin (sq _ _ [some (.shr (.scr ns)),none,none,none,none,none,none,none,none,none,none,none])=_
 obtain ⟨sz,kn,g,hp⟩:=w9 ns 0
 have hp:dk [.scr ns,.int 0]=.val (PK sz kn):=hp
 have h:=qm g
 have hh:dA [PK sz kn]=.val (hlD (bI kn) (bz sz kn) (cV kn)):=yJ g _
 obtain ⟨cs,ms,r,hd⟩:=vA g ns 5
 have hd:bn [.scr ns,.int 5,PK sz kn]=.val (.tup [ak cs,aj ms]):=hd
 have n40:=h.na40
 have n6:=h.nb6
 have n1:=h.nb1
 have lc:=r.lc
 have lm:=r.lm
 obtain ⟨c4,h4⟩:=ic ns 4
 have h4:aA [.scr ns,.int 4]=.val (.int c4):=h4
 obtain ⟨c7,h7⟩:=ic ns 7
 have h7:aA [.scr ns,.int 7]=.val (.int c7):=h7
 obtain ⟨b,hb,eb⟩:=fj c4 (bz sz kn).length (by omega)
 have mb:bu c4 ((bz sz kn).length:Int)=.val (nD b):=by rw [dX (by omega),eb]
 have s1:asg 1 (cal 2 dk (aC (vr 0) (aC (kd (.int 0)) aN))) [some (.shr (.scr ns)),none,none,none,none,none,none,none,none,none,none,none]=.val (.nx [some (.shr (.scr ns)),some (.shr (PK sz kn)),none,none,none,none,none,none,none,none,none,none]):=fU (i_ rfl rfl hp)
 have s2:asg 2 (cal 1 dA (aC (vr 1) aN)) [some (.shr (.scr ns)),some (.shr (PK sz kn)),none,none,none,none,none,none,none,none,none,none]=.val (.nx [some (.shr (.scr ns)),some (.shr (PK sz kn)),some (.shr (hlD (bI kn) (bz sz kn) (cV kn))),none,none,none,none,none,none,none,none,none]):=fU (y6 rfl hh)
 have s3:asg 3 (bin (iI bu) (cal 2 aA (aC (vr 0) (aC (kd (.int 4)) aN))) (una aU (bin fix (vb 1) (kd (.int 1))))) [some (.shr (.scr ns)),some (.shr (PK sz kn)),some (.shr (hlD (bI kn) (bz sz kn) (cV kn))),none,none,none,none,none,none,none,none,none]=.val (.nx [some (.shr (.scr ns)),some (.shr (PK sz kn)),some (.shr (hlD (bI kn) (bz sz kn) (cV kn))),some (.shr (nD b)),none,none,none,none,none,none,none,none]):=by
  refine fU ?_
  have v:una aU (bin fix (vb 1) (kd (.int 1))) [some (.shr (.scr ns)),some (.shr (PK sz kn)),some (.shr (hlD (bI kn) (bz sz kn) (cV kn))),none,none,none,none,none,none,none,none,none]=.val (.int ((bz sz kn).length:Int)):=sg (bz sz kn)
  rw [bO,i_ rfl rfl h4,ae,v,ae,m_,mb]
 have s4:asg 4 (cal 3 bn (aC (vr 0) (aC (kd (.int 5)) (aC (vr 1) aN)))) [some (.shr (.scr ns)),some (.shr (PK sz kn)),some (.shr (hlD (bI kn) (bz sz kn) (cV kn))),some (.shr (nD b)),none,none,none,none,none,none,none,none]=.val (.nx [some (.shr (.scr ns)),some (.shr (PK sz kn)),some (.shr (hlD (bI kn) (bz sz kn) (cV kn))),some (.shr (nD b)),some (.shr (.tup [ak cs,aj ms])),none,none,none,none,none,none,none]):=fU (qJ rfl rfl rfl hd)
 rw [bY s1,bY s2,bY s3,bY s4]
 have fb:=dg (r:=cs) (i:=b) (by omega)
 have tb0:tst (bin feq (bin fix (bin fix (vb 4) (kd (.int 0))) (vb 3)) (kd (.int 0))) [some (.shr (.scr ns)),some (.shr (PK sz kn)),some (.shr (hlD (bI kn) (bz sz kn) (cV kn))),some (.shr (nD b)),some (.shr (.tup [ak cs,aj ms])),none,none,none,none,none,none,none]=.val (decide (cs.getD b (-1)=0)):=by
  have v:bin fix (bin fix (vb 4) (kd (.int 0))) (vb 3) [some (.shr (.scr ns)),some (.shr (PK sz kn)),some (.shr (hlD (bI kn) (bz sz kn) (cV kn))),some (.shr (nD b)),some (.shr (.tup [ak cs,aj ms])),none,none,none,none,none,none,none]=.val (.int (cs.getD b (-1))):=fb
  rw [dq,bO,v,ae,lh,ae,tu];rfl
 by_cases z0:cs.getD b (-1)=0
 ·rw [aX,cD,tb0,ae,if_pos (decide_eq_true z0)];rfl
 ·have e0:DL.iff (tst (bin feq (bin fix (bin fix (vb 4) (kd (.int 0))) (vb 3)) (kd (.int 0)))) (ret (kd (.bl true))) nxt [some (.shr (.scr ns)),some (.shr (PK sz kn)),some (.shr (hlD (bI kn) (bz sz kn) (cV kn))),some (.shr (nD b)),some (.shr (.tup [ak cs,aj ms])),none,none,none,none,none,none,none]=.val (.nx [some (.shr (.scr ns)),some (.shr (PK sz kn)),some (.shr (hlD (bI kn) (bz sz kn) (cV kn))),some (.shr (nD b)),some (.shr (.tup [ak cs,aj ms])),none,none,none,none,none,none,none]):=fv (by rw [tb0,decide_eq_false z0])
  rw [bY e0]
  have cp:=r.cb b hb
  obtain ⟨th,ht,et⟩:=fj c7 (cs.getD b (-1)).toNat (by omega)
  rw [Int.toNat_of_nonneg cp.1] at et
  have ht:(th:Int) < cs.getD b (-1):=by omega
  have mt:bu c7 (cs.getD b (-1))=.val (nD th):=by rw [dX (by omega),et]
  have s5:asg 5 (bin (iI bu) (cal 2 aA (aC (vr 0) (aC (kd (.int 7)) aN))) (bin fix (bin fix (vb 4) (kd (.int 0))) (vb 3))) [some (.shr (.scr ns)),some (.shr (PK sz kn)),some (.shr (hlD (bI kn) (bz sz kn) (cV kn))),some (.shr (nD b)),some (.shr (.tup [ak cs,aj ms])),none,none,none,none,none,none,none]=.val (.nx [some (.shr (.scr ns)),some (.shr (PK sz kn)),some (.shr (hlD (bI kn) (bz sz kn) (cV kn))),some (.shr (nD b)),some (.shr (.tup [ak cs,aj ms])),some (.shr (nD th)),none,none,none,none,none,none]):=by
   refine fU ?_
   have v:bin fix (bin fix (vb 4) (kd (.int 0))) (vb 3) [some (.shr (.scr ns)),some (.shr (PK sz kn)),some (.shr (hlD (bI kn) (bz sz kn) (cV kn))),some (.shr (nD b)),some (.shr (.tup [ak cs,aj ms])),none,none,none,none,none,none,none]=.val (.int (cs.getD b (-1))):=fb
   rw [bO,i_ rfl rfl h7,ae,v,ae,m_,mt]
  have s6:own 6 (ib aN) [some (.shr (.scr ns)),some (.shr (PK sz kn)),some (.shr (hlD (bI kn) (bz sz kn) (cV kn))),some (.shr (nD b)),some (.shr (.tup [ak cs,aj ms])),some (.shr (nD th)),none,none,none,none,none,none]=.val (.nx [some (.shr (.scr ns)),some (.shr (PK sz kn)),some (.shr (hlD (bI kn) (bz sz kn) (cV kn))),some (.shr (nD b)),some (.shr (.tup [ak cs,aj ms])),some (.shr (nD th)),some (.own []),none,none,none,none,none]):=Eq.trans rfl rfl
  rw [bY s5,bY s6]
  obtain ⟨ρ',e,a7,rfl⟩:=gT (i:=7) (n:=(bz sz kn).length) (F:=app 6 (eLs (bq (fIt (cal 3 bc (aC (vr 1) (aC (vr 3) (aC (vr 7) aN))))) 1 (tgN 12) tT (bin fix (bin fix (bin fix (vb 4) (kd (.int 1))) (vb 12)) (vb 5))))) (fun k ρ=>∃ a7:Option Slt,ρ=[some (.shr (.scr ns)),some (.shr (PK sz kn)),some (.shr (hlD (bI kn) (bz sz kn) (cV kn))),some (.shr (nD b)),some (.shr (.tup [ak cs,aj ms])),some (.shr (nD th)),some (.own (((List.range k).map fun o=>led (bI kn) ms b o th).map ak)),a7,none,none,none,none]) (fun k ρ hk hI=>by
   obtain ⟨a7,rfl⟩:=hI
   generalize hw:((List.range k).map fun o=>led (bI kn) ms b o th).map ak=acc
   have al:acc.length=k:=by rw [<- hw];simp
   have e1:cal 3 bc (aC (vr 1) (aC (vr 3) (aC (vr 7) aN))) [some (.shr (.scr ns)),some (.shr (PK sz kn)),some (.shr (hlD (bI kn) (bz sz kn) (cV kn))),some (.shr (nD b)),some (.shr (.tup [ak cs,aj ms])),some (.shr (nD th)),some (.own acc),some (.shr (nD k)),none,none,none,none]=.val (aP (btw (bI kn) b k)):=qJ (a:=PK sz kn) rfl rfl rfl (ll h b k)
   have z2:=fL (src:=fIt (cal 3 bc (aC (vr 1) (aC (vr 3) (aC (vr 7) aN))))) (n:=1) (i:=12) (e:=bin fix (bin fix (bin fix (vb 4) (kd (.int 1))) (vb 12)) (vb 5)) (f:=nD) (g:=fun a=>(ms.getD a []).getD th (-1)) (l:=btw (bI kn) b k) (ρ:=[some (.shr (.scr ns)),some (.shr (PK sz kn)),some (.shr (hlD (bI kn) (bz sz kn) (cV kn))),some (.shr (nD b)),some (.shr (.tup [ak cs,aj ms])),some (.shr (nD th)),some (.own acc),some (.shr (nD k)),none,none,none,none]) (by rw [tw,e1];rfl) (by have:=eK (en:=bI kn) b k;omega) (fun a ha=>by
    obtain ⟨a1,a2⟩:=pM r ha ht
    have f1:=cB (tb:=ms) (i:=a) (by omega)
    have f2:=dg (r:=ms.getD a []) a2
    simp [-List.getD_eq_getElem?_getD,f1,f2])
   have s3:=jb (i:=6) (xs:=acc) (ρ:=[some (.shr (.scr ns)),some (.shr (PK sz kn)),some (.shr (hlD (bI kn) (bz sz kn) (cV kn))),some (.shr (nD b)),some (.shr (.tup [ak cs,aj ms])),some (.shr (nD th)),some (.own acc),some (.shr (nD k)),none,none,none,none]) rfl z2 (by omega)
   exact ⟨_,s3,some (.shr (nD k)),by rw [List.range_succ,List.map_append,List.map_append,hw];rfl⟩) (ρ:=[some (.shr (.scr ns)),some (.shr (PK sz kn)),some (.shr (hlD (bI kn) (bz sz kn) (cV kn))),some (.shr (nD b)),some (.shr (.tup [ak cs,aj ms])),some (.shr (nD th)),some (.own []),none,none,none,none,none]) ⟨none,rfl⟩
  have sr:dh (aC (una aU (bin fix (vb 1) (kd (.int 1)))) aN) [some (.shr (.scr ns)),some (.shr (PK sz kn)),some (.shr (hlD (bI kn) (bz sz kn) (cV kn))),some (.shr (nD b)),some (.shr (.tup [ak cs,aj ms])),some (.shr (nD th)),some (.own []),none,none,none,none,none]=.val (rng 0 (bz sz kn).length):=by
   rw [jX]
   exact fY (sg (bz sz kn)) (by omega)
  rw [aX,eI,sr,ae,e,ae]
  dsimp only
  clear s1 s2 s3 s4 s5 e e0 tb0 sr
  have co:=qu h r hb ht
  have tho:=sk h r hb ht
  have cl:(chg (bI kn) (bz sz kn) ms b th).length=(bz sz kn).length:=gd
  have cr:∀ l ∈ chg (bI kn) (bz sz kn) ms b th,l.length<=40:=by
   intro l hl
   unfold chg at hl
   obtain ⟨o,_,rfl⟩:=List.mem_map.mp hl
   rw [jo]
   exact Nat.le_trans (eK (en:=bI kn) b o) n40
  have lk:=yH (ms:=chg (bI kn) (bz sz kn) ms b th) (by omega) (fun l hl=>Nat.le_trans (cr l hl) (by decide))
  have cc:=uD (ms:=chg (bI kn) (bz sz kn) ms b th) (by omega)
  have cm:=uD (ms:=ms) (by omega)
  have hch:((List.range (bz sz kn).length).map fun o=>led (bI kn) ms b o th)=chg (bI kn) (bz sz kn) ms b th:=rfl
  rw [hch]
  generalize chg (bI kn) (bz sz kn) ms b th=ch at co tho cl cr lk cc ⊢
  generalize hlD (bI kn) (bz sz kn) (cV kn)=H at co tho ⊢
  generalize PK sz kn=P
  have px:pln 9 (.tup [ak cs,aj ms])=true:=lV (by simp [gB,t8])
  have s8:asg 8 (eT (aC (eLs (fIt (bin fix (vb 4) (kd (.int 0))))) (aC (cal 1 cN (aC (bin fix (vb 4) (kd (.int 1))) aN)) aN))) [some (.shr (.scr ns)),some (.shr P),some (.shr H),some (.shr (nD b)),some (.shr (.tup [ak cs,aj ms])),some (.shr (nD th)),some (.own (ch.map ak)),a7,none,none,none,none]=.val (.nx [some (.shr (.scr ns)),some (.shr P),some (.shr H),some (.shr (nD b)),some (.shr (.tup [ak cs,aj ms])),some (.shr (nD th)),some (.own (ch.map ak)),a7,some (.shr (.tup [ak cs,aj ms])),none,none,none]):=by
   refine fU ?_
   have e1:cal 1 cN (aC (bin fix (vb 4) (kd (.int 1))) aN) [some (.shr (.scr ns)),some (.shr P),some (.shr H),some (.shr (nD b)),some (.shr (.tup [ak cs,aj ms])),some (.shr (nD th)),some (.own (ch.map ak)),a7,none,none,none,none]=.val (aj ms):=y6 (a:=aj ms) rfl cm
   rw [kl,e7,e7,e1];rfl
  have s9:trS 9 (.l (.l .s)) (cal 4 cM (aC (vr 2) (aC (vr 3) (aC (vr 8) (aC (vr 5) aN))))) [some (.shr (.scr ns)),some (.shr P),some (.shr H),some (.shr (nD b)),some (.shr (.tup [ak cs,aj ms])),some (.shr (nD th)),some (.own (ch.map ak)),a7,some (.shr (.tup [ak cs,aj ms])),none,none,none]=.val (.nx [some (.shr (.scr ns)),some (.shr P),some (.shr H),some (.shr (nD b)),some (.shr (.tup [ak cs,aj ms])),some (.shr (nD th)),some (.own (ch.map ak)),a7,some (.shr (.tup [ak cs,aj ms])),some (.tre (.l (.l .s)) (aj ch)),none,none]):=by
   unfold trS
   rw [yZ (a:=H) (b:=nD b) (c:=.tup [ak cs,aj ms]) (e:=nD th) rfl rfl rfl rfl co];rfl
  have s10:DL.iff (orB (ez (tst (flF (cal 2 bv (aC (va 9) (aC (vb 6) aN)))))) (tst (bin fne (vb 8) (vb 4)))) (ret (kd (.bl false))) nxt [some (.shr (.scr ns)),some (.shr P),some (.shr H),some (.shr (nD b)),some (.shr (.tup [ak cs,aj ms])),some (.shr (nD th)),some (.own (ch.map ak)),a7,some (.shr (.tup [ak cs,aj ms])),some (.tre (.l (.l .s)) (aj ch)),none,none]=.val (.nx [some (.shr (.scr ns)),some (.shr P),some (.shr H),some (.shr (nD b)),some (.shr (.tup [ak cs,aj ms])),some (.shr (nD th)),some (.own (ch.map ak)),a7,some (.shr (.tup [ak cs,aj ms])),some (.tre (.l (.l .s)) (aj ch)),none,none]):=by
   refine fv ?_
   have t1:tst (flF (cal 2 bv (aC (va 9) (aC (vb 6) aN)))) [some (.shr (.scr ns)),some (.shr P),some (.shr H),some (.shr (nD b)),some (.shr (.tup [ak cs,aj ms])),some (.shr (nD th)),some (.own (ch.map ak)),a7,some (.shr (.tup [ak cs,aj ms])),some (.tre (.l (.l .s)) (aj ch)),none,none]=.val true:=by
    rw [dq]
    unfold flF
    rw [i_ (a:=aj ch) (b:=aj ch) rfl rfl lk];rfl
   have t2:tst (bin fne (vb 8) (vb 4)) [some (.shr (.scr ns)),some (.shr P),some (.shr H),some (.shr (nD b)),some (.shr (.tup [ak cs,aj ms])),some (.shr (nD th)),some (.own (ch.map ak)),a7,some (.shr (.tup [ak cs,aj ms])),some (.tre (.l (.l .s)) (aj ch)),none,none]=.val false:=by
    rw [dq,bO]
    show R.bind (fne (.tup [ak cs,aj ms]) (.tup [ak cs,aj ms])) asB=_
    rw [fJ px];rfl
   rw [hV,fD,t1,ae,ae,if_neg (by decide),t2]
  have fr:frz 6 [some (.shr (.scr ns)),some (.shr P),some (.shr H),some (.shr (nD b)),some (.shr (.tup [ak cs,aj ms])),some (.shr (nD th)),some (.own (ch.map ak)),a7,some (.shr (.tup [ak cs,aj ms])),some (.tre (.l (.l .s)) (aj ch)),none,none]=[some (.shr (.scr ns)),some (.shr P),some (.shr H),some (.shr (nD b)),some (.shr (.tup [ak cs,aj ms])),some (.shr (nD th)),some (.shr (aj ch)),a7,some (.shr (.tup [ak cs,aj ms])),some (.tre (.l (.l .s)) (aj ch)),none,none]:=rfl
  rw [bY s8,bY s9,bY s10,oY,fr]
  have s11:asg 10 (cal 1 cN (aC (vr 6) aN)) [some (.shr (.scr ns)),some (.shr P),some (.shr H),some (.shr (nD b)),some (.shr (.tup [ak cs,aj ms])),some (.shr (nD th)),some (.shr (aj ch)),a7,some (.shr (.tup [ak cs,aj ms])),some (.tre (.l (.l .s)) (aj ch)),none,none]=.val (.nx [some (.shr (.scr ns)),some (.shr P),some (.shr H),some (.shr (nD b)),some (.shr (.tup [ak cs,aj ms])),some (.shr (nD th)),some (.shr (aj ch)),a7,some (.shr (.tup [ak cs,aj ms])),some (.tre (.l (.l .s)) (aj ch)),some (.shr (aj ch)),none]):=fU (y6 (a:=aj ch) rfl cc)
  have s12:asg 11 (cal 4 dY (aC (vr 2) (aC (vr 3) (aC (vr 8) (aC (vr 10) aN))))) [some (.shr (.scr ns)),some (.shr P),some (.shr H),some (.shr (nD b)),some (.shr (.tup [ak cs,aj ms])),some (.shr (nD th)),some (.shr (aj ch)),a7,some (.shr (.tup [ak cs,aj ms])),some (.tre (.l (.l .s)) (aj ch)),some (.shr (aj ch)),none]=.val (.nx (rL ns P H b (.tup [ak cs,aj ms]) th ch a7 ch (nD th))):=fU (yZ (a:=H) (b:=nD b) (c:=.tup [ak cs,aj ms]) (e:=aj ch) rfl rfl rfl rfl tho)
  rw [bY s11,bY s12]
  have s13:DL.iff (orB (ez (tst (cal 1 di (aC (vr 11) aN)))) (orB (tst (bin fne (vb 11) (vb 5))) (orB (tst (bin fne (vb 8) (vb 4))) (tst (bin fne (vb 10) (vb 6)))))) (ret (kd (.bl false))) nxt (rL ns P H b (.tup [ak cs,aj ms]) th ch a7 ch (nD th))=.val (.nx (rL ns P H b (.tup [ak cs,aj ms]) th ch a7 ch (nD th))):=by
   refine fv ?_
   have t1:tst (cal 1 di (aC (vr 11) aN)) (rL ns P H b (.tup [ak cs,aj ms]) th ch a7 ch (nD th))=.val true:=by
    rw [dq,y6 (a:=nD th) rfl (w5 _)];rfl
   have t2:tst (bin fne (vb 11) (vb 5)) (rL ns P H b (.tup [ak cs,aj ms]) th ch a7 ch (nD th))=.val false:=by
    rw [dq,bO]
    show R.bind (fne (nD th) (nD th)) asB=_
    rw [fJ (t9 _)];rfl
   have t3:tst (bin fne (vb 8) (vb 4)) (rL ns P H b (.tup [ak cs,aj ms]) th ch a7 ch (nD th))=.val false:=by
    rw [dq,bO]
    show R.bind (fne (.tup [ak cs,aj ms]) (.tup [ak cs,aj ms])) asB=_
    rw [fJ px];rfl
   have t4:tst (bin fne (vb 10) (vb 6)) (rL ns P H b (.tup [ak cs,aj ms]) th ch a7 ch (nD th))=.val false:=by
    rw [dq,bO]
    show R.bind (fne (aj ch) (aj ch)) asB=_
    rw [fJ (t8 _)];rfl
   rw [hV,fD,t1,ae,ae,if_neg (by decide),hV,t2,ae,if_neg (by decide),hV,t3,ae,if_neg (by decide),t4]
  have a1:=B8 (ns:=ns) (P:=P) (H:=H) (x:=.tup [ak cs,aj ms]) (bk:=nD th) (b:=b) (th:=th) (due:=ch) (fnd:=ch) (a7:=a7) (by omega) (by rw [aG (by omega)];exact Nat.le_trans (cr _ (List.getElem_mem _)) (by decide))
  have a2:=A5 (ns:=ns) (P:=P) (H:=H) (x:=.tup [ak cs,aj ms]) (bk:=nD th) (b:=b) (th:=th) (due:=ch) (fnd:=ch.set b (ch.getD b [] ++ [0])) (a7:=a7) (by rw [List.length_set];omega)
  rw [bY s13,bY a1,bY a2,oY]
  generalize ch.set b (ch.getD b [] ++ [0]) ++ [[]]=fd
  rw [show frz 6 (rL ns P H b (.tup [ak cs,aj ms]) th ch a7 fd (nD th))=rL ns P H b (.tup [ak cs,aj ms]) th ch a7 fd (nD th) from rfl]
  have l1:cal 4 cM (aC (vr 2) (aC (vr 3) (aC (vr 8) (aC (vr 5) aN)))) (rL ns P H b (.tup [ak cs,aj ms]) th ch a7 fd (nD th))=.val (aj ch):=yZ (a:=H) (b:=nD b) (c:=.tup [ak cs,aj ms]) (e:=nD th) rfl rfl rfl rfl co
  rw [dM,i_ (a:=aj ch) (b:=aj ch) l1 rfl lk];rfl
end DL
namespace DL
open PySem PySem.Spec PyProof.Rows L2
theorem wH {n:Nat} {us:List Value} (h:us.length=n + 1):∃ y l,us=y :: l/\l.length=n:=by
 cases us with
 | nil=>cases h
 | cons y l=>exact ⟨y,l,rfl,Nat.succ.inj h⟩
theorem qe {us:List Value} (h:us.length=1):∃ y0,us=[y0]:=by
 obtain ⟨y,l,e,h⟩:=wH h
 exact ⟨y,by rw [e,List.eq_nil_of_length_eq_zero h]⟩
theorem h9 {us:List Value} (h:us.length=2):∃ y0 y1,us=[y0,y1]:=by
 obtain ⟨y,l,rfl,g⟩:=wH h
 obtain ⟨y1,rfl⟩:=qe g
 exact ⟨y,y1,rfl⟩
theorem m6 {us:List Value} (h:us.length=3):∃ y0 y1 y2,us=[y0,y1,y2]:=by
 obtain ⟨y,l,rfl,g⟩:=wH h
 obtain ⟨y1,y2,rfl⟩:=h9 g
 exact ⟨y,y1,y2,rfl⟩
theorem tm {us:List Value} (h:us.length=4):∃ y0 y1 y2 y3,us=[y0,y1,y2,y3]:=by
 obtain ⟨y,l,rfl,g⟩:=wH h
 obtain ⟨y1,y2,y3,rfl⟩:=m6 g
 exact ⟨y,y1,y2,y3,rfl⟩
theorem Cz {us:List Value} (h:us.length=5):∃ y0 y1 y2 y3 y4,us=[y0,y1,y2,y3,y4]:=by
 obtain ⟨y,l,rfl,g⟩:=wH h
 obtain ⟨y1,y2,y3,y4,rfl⟩:=tm g
 exact ⟨y,y1,y2,y3,y4,rfl⟩
noncomputable def tQ (K:PySem.W.Frag):Sp:=fun vs H Q _=>∃ (a:Addr) (ns:List Int),vs=[.ref a]/\SqL K H a (ns.map V.int)/\ns.length<=63/\∀ H',Q (.bl true) H'
theorem ym {P:Program} {w:World} {K:PySem.W.Frag} {mg:Str->Option Value} {base:Heap} {C:Addr} {k:Nat} {f:Addr} {fd:FuncData} (hval:∀ ns:List Int,ns.length<=63->nH [.scr ns]=.val (.bl true)) (F:FnOk P w K mg base CX0 k f fd ["script"] (spD K C 1 nH)):FnOk P w K mg base CX0 k f fd ["script"] (tQ K) :=
 F.imp fun vs H Q E ⟨a,ns,e,hS,hl,q⟩=>by
  subst e
  refine ⟨rfl,[.scr ns],.cons (.scr hS) .nil,?_⟩
  rw [hval ns hl]
  intro v H' _ hv
  cases hv
  exact q H'
theorem all_mk {l : PySem.W.OpenLaw} {w : World} {K : PySem.W.Frag} {h : Heap} {mg : Str -> Option Value} {fa C f1 f2 f3 f4 f5 f6 f7 f8 f9 f10 f11 f12 f13 f14 f15 f16 f17 f18 f19 f20 f21 f22 f23 f24 f25 f26 f27 f28 f29 f30 f31 f32 f33 f34 f35 f36 f37 f38 f39 f40 f41 f42 f43 : Addr} {tb ta tMOST_THINGS : Tok} (hval : ∀ ns : List Int, ns.length <= 63 -> nH [.scr ns] = .val (.bl true)) (X : K.In h) (G : h.Ns mainGlobals mg) (hfa : mg "law" = some (.ref fa))
    {od1 od2 od3 od4 od5 od6 od7 od8 od9 od10 od11 od12 od13 od14 od15 od16 od17 od18 od19 od20 od21 od22 od23 od24 od25 od26 od27 od28 od29 od30 od31 od32 od33 od34 od35 od36 od37 od38 od39 od40 od41 od42 od43 an1 an2 an3 an4 an5 an6 an7 an8 an9 an10 an11 an12 an13 an14 an15 an16 an17 an18 an19 an20 an21 an22 an23 an24 an25 an26 an27 an28 an29 an30 an31 an32 an33 an34 an35 an36 an37 an38 an39 an40 an41 an42 an43 : Option Addr} {sl1 sl2 sl3 sl4 sl5 sl6 sl7 sl8 sl9 sl10 sl11 sl12 sl13 sl14 sl15 sl16 sl17 sl18 sl19 sl20 sl21 sl22 sl23 sl24 sl25 sl26 sl27 sl28 sl29 sl30 sl31 sl32 sl33 sl34 sl35 sl36 sl37 sl38 sl39 sl40 sl41 sl42 sl43 : Array (Option Value)} {oc1 oc2 oc3 oc4 oc5 oc6 oc7 oc8 oc9 oc10 oc11 oc12 oc13 oc14 oc15 oc16 oc17 oc18 oc19 oc20 oc21 oc22 oc23 oc24 oc25 oc26 oc27 oc28 oc29 oc30 oc31 oc32 oc33 oc34 oc35 oc36 oc37 oc38 oc39 oc40 oc41 oc42 oc43 kV1 kV2 kV3 kV4 kV5 kV6 kV7 kV8 kV9 kV10 kV11 kV12 kV13 kV14 kV15 kV16 kV17 kV18 kV19 kV20 kV21 kV22 kV23 kV24 kV25 kV26 kV27 kV28 kV29 kV30 kV31 kV32 kV33 kV34 kV35 kV36 kV37 kV38 kV39 kV40 kV41 kV42 kV43 dc1 dc2 dc3 dc4 dc5 dc6 dc7 dc8 dc9 dc10 dc11 dc12 dc13 dc14 dc15 dc16 dc17 dc18 dc19 dc20 dc21 dc22 dc23 dc24 dc25 dc26 dc27 dc28 dc29 dc30 dc31 dc32 dc33 dc34 dc35 dc36 dc37 dc38 dc39 dc40 dc41 dc42 dc43 pm1 pm2 pm3 pm4 pm5 pm6 pm7 pm8 pm9 pm10 pm11 pm12 pm13 pm14 pm15 pm16 pm17 pm18 pm19 pm20 pm21 pm22 pm23 pm24 pm25 pm26 pm27 pm28 pm29 pm30 pm31 pm32 pm33 pm34 pm35 pm36 pm37 pm38 pm39 pm40 pm41 pm42 pm43 cd1 cd2 cd3 cd4 cd5 cd6 cd7 cd8 cd9 cd10 cd11 cd12 cd13 cd14 cd15 cd16 cd17 cd18 cd19 cd20 cd21 cd22 cd23 cd24 cd25 cd26 cd27 cd28 cd29 cd30 cd31 cd32 cd33 cd34 cd35 cd36 cd37 cd38 cd39 cd40 cd41 cd42 cd43 ct1 ct2 ct3 ct4 ct5 ct6 ct7 ct8 ct9 ct10 ct11 ct12 ct13 ct14 ct15 ct16 ct17 ct18 ct19 ct20 ct21 ct22 ct23 ct24 ct25 ct26 ct27 ct28 ct29 ct30 ct31 ct32 ct33 ct34 ct35 ct36 ct37 ct38 ct39 ct40 ct41 ct42 ct43 : Value}
    (aC : PySem.W.nsIn K mainGlobals "Hall" = some (some (.ref C)))
    (a1 : PySem.W.nsIn K mainGlobals "_law_cell" = some (some (.ref f1))) (l1 : K.lookup f1 = some ⟨oc1, od1, .func (PySem.W.fnOf "_law_cell" "_law_cell" (aL dH) (aw dH) (ac dH) .none kV1 dc1 pm1 an1 cd1 ct1), sl1⟩) (c1 : PySem.W.codeIn K cd1 "_law_cell" = true) (k1 : PySem.W.keepIn K (.ref f1) = true)
    (a2 : PySem.W.nsIn K mainGlobals "_law_sizes" = some (some (.ref f2))) (l2 : K.lookup f2 = some ⟨oc2, od2, .func (PySem.W.fnOf "_law_sizes" "_law_sizes" (aL cZ) (aw cZ) (ac cZ) .none kV2 dc2 pm2 an2 cd2 ct2), sl2⟩) (c2 : PySem.W.codeIn K cd2 "_law_sizes" = true) (k2 : PySem.W.keepIn K (.ref f2) = true)
    (a3 : PySem.W.nsIn K mainGlobals "_law_next" = some (some (.ref f3))) (l3 : K.lookup f3 = some ⟨oc3, od3, .func (PySem.W.fnOf "_law_next" "_law_next" (aL dD) (aw dD) (ac dD) .none kV3 dc3 pm3 an3 cd3 ct3), sl3⟩) (c3 : PySem.W.codeIn K cd3 "_law_next" = true) (k3 : PySem.W.keepIn K (.ref f3) = true)
    (a4 : PySem.W.nsIn K mainGlobals "_law_closed" = some (some (.ref f4))) (l4 : K.lookup f4 = some ⟨oc4, od4, .func (PySem.W.fnOf "_law_closed" "_law_closed" (aL cG) (aw cG) (ac cG) .none kV4 dc4 pm4 an4 cd4 ct4), sl4⟩) (c4 : PySem.W.codeIn K cd4 "_law_closed" = true) (k4 : PySem.W.keepIn K (.ref f4) = true)
    (a5 : PySem.W.nsIn K mainGlobals "_law_arrows" = some (some (.ref f5))) (l5 : K.lookup f5 = some ⟨oc5, od5, .func (PySem.W.fnOf "_law_arrows" "_law_arrows" (aL cI) (aw cI) (ac cI) .none kV5 dc5 pm5 an5 cd5 ct5), sl5⟩) (c5 : PySem.W.codeIn K cd5 "_law_arrows" = true) (k5 : PySem.W.keepIn K (.ref f5) = true)
    (a6 : PySem.W.nsIn K mainGlobals "_law_parts" = some (some (.ref f6))) (l6 : K.lookup f6 = some ⟨oc6, od6, .func (PySem.W.fnOf "_law_parts" "_law_parts" (aL c_) (aw c_) (ac c_) .none kV6 dc6 pm6 an6 cd6 ct6), sl6⟩) (c6 : PySem.W.codeIn K cd6 "_law_parts" = true) (k6 : PySem.W.keepIn K (.ref f6) = true)
    (a7 : PySem.W.nsIn K mainGlobals "check_counts" = some (some (.ref f7))) (l7 : K.lookup f7 = some ⟨oc7, od7, .func (PySem.W.fnOf "check_counts" "check_counts" (aL bR) (aw bR) (ac bR) .none kV7 dc7 pm7 an7 cd7 ct7), sl7⟩) (c7 : PySem.W.codeIn K cd7 "check_counts" = true) (k7 : PySem.W.keepIn K (.ref f7) = true)
    (a8 : PySem.W.nsIn K mainGlobals "is_below" = some (some (.ref f8))) (l8 : K.lookup f8 = some ⟨oc8, od8, .func (PySem.W.fnOf "is_below" "is_below" (aL dI) (aw dI) (ac dI) .none kV8 dc8 pm8 an8 cd8 ct8), sl8⟩) (c8 : PySem.W.codeIn K cd8 "is_below" = true) (k8 : PySem.W.keepIn K (.ref f8) = true)
    (a9 : PySem.W.nsIn K mainGlobals "check_ends" = some (some (.ref f9))) (l9 : K.lookup f9 = some ⟨oc9, od9, .func (PySem.W.fnOf "check_ends" "check_ends" (aL cL) (aw cL) (ac cL) .none kV9 dc9 pm9 an9 cd9 ct9), sl9⟩) (c9 : PySem.W.codeIn K cd9 "check_ends" = true) (k9 : PySem.W.keepIn K (.ref f9) = true)
    (a10 : PySem.W.nsIn K mainGlobals "check_rests" = some (some (.ref f10))) (l10 : K.lookup f10 = some ⟨oc10, od10, .func (PySem.W.fnOf "check_rests" "check_rests" (aL ci) (aw ci) (ac ci) .none kV10 dc10 pm10 an10 cd10 ct10), sl10⟩) (c10 : PySem.W.codeIn K cd10 "check_rests" = true) (k10 : PySem.W.keepIn K (.ref f10) = true)
    (a11 : PySem.W.nsIn K mainGlobals "check_form" = some (some (.ref f11))) (l11 : K.lookup f11 = some ⟨oc11, od11, .func (PySem.W.fnOf "check_form" "check_form" (aL cK) (aw cK) (ac cK) .none kV11 dc11 pm11 an11 cd11 ct11), sl11⟩) (c11 : PySem.W.codeIn K cd11 "check_form" = true) (k11 : PySem.W.keepIn K (.ref f11) = true)
    (a12 : PySem.W.nsIn K mainGlobals "check_entry" = some (some (.ref f12))) (l12 : K.lookup f12 = some ⟨oc12, od12, .func (PySem.W.fnOf "check_entry" "check_entry" (aL cj) (aw cj) (ac cj) .none kV12 dc12 pm12 an12 cd12 ct12), sl12⟩) (c12 : PySem.W.codeIn K cd12 "check_entry" = true) (k12 : PySem.W.keepIn K (.ref f12) = true)
    (a13 : PySem.W.nsIn K mainGlobals "check_table" = some (some (.ref f13))) (l13 : K.lookup f13 = some ⟨oc13, od13, .func (PySem.W.fnOf "check_table" "check_table" (aL cg) (aw cg) (ac cg) .none kV13 dc13 pm13 an13 cd13 ct13), sl13⟩) (c13 : PySem.W.codeIn K cd13 "check_table" = true) (k13 : PySem.W.keepIn K (.ref f13) = true)
    (a14 : PySem.W.nsIn K mainGlobals "check_beside_rests" = some (some (.ref f14))) (l14 : K.lookup f14 = some ⟨oc14, od14, .func (PySem.W.fnOf "check_beside_rests" "check_beside_rests" (aL bb) (aw bb) (ac bb) .none kV14 dc14 pm14 an14 cd14 ct14), sl14⟩) (c14 : PySem.W.codeIn K cd14 "check_beside_rests" = true) (k14 : PySem.W.keepIn K (.ref f14) = true)
    (a15 : PySem.W.nsIn K mainGlobals "check_thirds" = some (some (.ref f15))) (l15 : K.lookup f15 = some ⟨oc15, od15, .func (PySem.W.fnOf "check_thirds" "check_thirds" (aL bQ) (aw bQ) (ac bQ) .none kV15 dc15 pm15 an15 cd15 ct15), sl15⟩) (c15 : PySem.W.codeIn K cd15 "check_thirds" = true) (k15 : PySem.W.keepIn K (.ref f15) = true)
    (a16 : PySem.W.nsIn K mainGlobals "check_threes" = some (some (.ref f16))) (l16 : K.lookup f16 = some ⟨oc16, od16, .func (PySem.W.fnOf "check_threes" "check_threes" (aL bP) (aw bP) (ac bP) .none kV16 dc16 pm16 an16 cd16 ct16), sl16⟩) (c16 : PySem.W.codeIn K cd16 "check_threes" = true) (k16 : PySem.W.keepIn K (.ref f16) = true)
    (a17 : PySem.W.findIn K (.ref C) "__init__" = some (some (.ref f17))) (i17 : PySem.W.isFn K (.ref f17) = true) (l17 : K.lookup f17 = some ⟨oc17, od17, .func (PySem.W.fnOf "__init__" "Hall.__init__" (aL bL) (aw bL) (ac bL) .none kV17 dc17 pm17 an17 cd17 ct17), sl17⟩) (c17 : PySem.W.codeIn K cd17 "Hall.__init__" = true) (k17 : PySem.W.keepIn K (.ref f17) = true)
    (a18 : PySem.W.nsIn K mainGlobals "_law_hall" = some (some (.ref f18))) (l18 : K.lookup f18 = some ⟨oc18, od18, .func (PySem.W.fnOf "_law_hall" "_law_hall" (aL dF) (aw dF) (ac dF) .none kV18 dc18 pm18 an18 cd18 ct18), sl18⟩) (c18 : PySem.W.codeIn K cd18 "_law_hall" = true) (k18 : PySem.W.keepIn K (.ref f18) = true)
    (a19 : PySem.W.nsIn K mainGlobals "_law_reading_of" = some (some (.ref f19))) (l19 : K.lookup f19 = some ⟨oc19, od19, .func (PySem.W.fnOf "_law_reading_of" "_law_reading_of" (aL bE) (aw bE) (ac bE) .none kV19 dc19 pm19 an19 cd19 ct19), sl19⟩) (c19 : PySem.W.codeIn K cd19 "_law_reading_of" = true) (k19 : PySem.W.keepIn K (.ref f19) = true)
    (a20 : PySem.W.nsIn K mainGlobals "_law_beside" = some (some (.ref f20))) (l20 : K.lookup f20 = some ⟨oc20, od20, .func (PySem.W.fnOf "_law_beside" "_law_beside" (aL cH) (aw cH) (ac cH) .none kV20 dc20 pm20 an20 cd20 ct20), sl20⟩) (c20 : PySem.W.codeIn K cd20 "_law_beside" = true) (k20 : PySem.W.keepIn K (.ref f20) = true)
    (a21 : PySem.W.nsIn K mainGlobals "_law_between" = some (some (.ref f21))) (l21 : K.lookup f21 = some ⟨oc21, od21, .func (PySem.W.fnOf "_law_between" "_law_between" (aL ca) (aw ca) (ac ca) .none kV21 dc21 pm21 an21 cd21 ct21), sl21⟩) (c21 : PySem.W.codeIn K cd21 "_law_between" = true) (k21 : PySem.W.keepIn K (.ref f21) = true)
    (a22 : PySem.W.nsIn K mainGlobals "_law_out" = some (some (.ref f22))) (l22 : K.lookup f22 = some ⟨oc22, od22, .func (PySem.W.fnOf "_law_out" "_law_out" (aL d6) (aw d6) (ac d6) .none kV22 dc22 pm22 an22 cd22 ct22), sl22⟩) (c22 : PySem.W.codeIn K cd22 "_law_out" = true) (k22 : PySem.W.keepIn K (.ref f22) = true)
    (a23 : PySem.W.nsIn K mainGlobals "_law_drawn_reading" = some (some (.ref f23))) (l23 : K.lookup f23 = some ⟨oc23, od23, .func (PySem.W.fnOf "_law_drawn_reading" "_law_drawn_reading" (aL bh) (aw bh) (ac bh) .none kV23 dc23 pm23 an23 cd23 ct23), sl23⟩) (c23 : PySem.W.codeIn K cd23 "_law_drawn_reading" = true) (k23 : PySem.W.keepIn K (.ref f23) = true)
    (a24 : PySem.W.nsIn K mainGlobals "check_box" = some (some (.ref f24))) (l24 : K.lookup f24 = some ⟨oc24, od24, .func (PySem.W.fnOf "check_box" "check_box" (aL db) (aw db) (ac db) .none kV24 dc24 pm24 an24 cd24 ct24), sl24⟩) (c24 : PySem.W.codeIn K cd24 "check_box" = true) (k24 : PySem.W.keepIn K (.ref f24) = true)
    (a25 : PySem.W.nsIn K mainGlobals "are_below" = some (some (.ref f25))) (l25 : K.lookup f25 = some ⟨oc25, od25, .func (PySem.W.fnOf "are_below" "are_below" (aL dd) (aw dd) (ac dd) .none kV25 dc25 pm25 an25 cd25 ct25), sl25⟩) (c25 : PySem.W.codeIn K cd25 "are_below" = true) (k25 : PySem.W.keepIn K (.ref f25) = true)
    (a26 : PySem.W.nsIn K mainGlobals "has_form" = some (some (.ref f26))) (l26 : K.lookup f26 = some ⟨oc26, od26, .func (PySem.W.fnOf "has_form" "has_form" (aL dJ) (aw dJ) (ac dJ) .none kV26 dc26 pm26 an26 cd26 ct26), sl26⟩) (c26 : PySem.W.codeIn K cd26 "has_form" = true) (k26 : PySem.W.keepIn K (.ref f26) = true)
    (a27 : PySem.W.nsIn K mainGlobals "keeps_rests" = some (some (.ref f27))) (l27 : K.lookup f27 = some ⟨oc27, od27, .func (PySem.W.fnOf "keeps_rests" "keeps_rests" (aL cf) (aw cf) (ac cf) .none kV27 dc27 pm27 an27 cd27 ct27), sl27⟩) (c27 : PySem.W.codeIn K cd27 "keeps_rests" = true) (k27 : PySem.W.keepIn K (.ref f27) = true)
    (a28 : PySem.W.nsIn K mainGlobals "followed" = some (some (.ref f28))) (l28 : K.lookup f28 = some ⟨oc28, od28, .func (PySem.W.fnOf "followed" "followed" (aL dL) (aw dL) (ac dL) .none kV28 dc28 pm28 an28 cd28 ct28), sl28⟩) (c28 : PySem.W.codeIn K cd28 "followed" = true) (k28 : PySem.W.keepIn K (.ref f28) = true)
    (a29 : PySem.W.nsIn K mainGlobals "keeps_table" = some (some (.ref f29))) (l29 : K.lookup f29 = some ⟨oc29, od29, .func (PySem.W.fnOf "keeps_table" "keeps_table" (aL ce) (aw ce) (ac ce) .none kV29 dc29 pm29 an29 cd29 ct29), sl29⟩) (c29 : PySem.W.codeIn K cd29 "keeps_table" = true) (k29 : PySem.W.keepIn K (.ref f29) = true)
    (a30 : PySem.W.nsIn K mainGlobals "is_reading" = some (some (.ref f30))) (l30 : K.lookup f30 = some ⟨oc30, od30, .func (PySem.W.fnOf "is_reading" "is_reading" (aL cJ) (aw cJ) (ac cJ) .none kV30 dc30 pm30 an30 cd30 ct30), sl30⟩) (c30 : PySem.W.codeIn K cd30 "is_reading" = true) (k30 : PySem.W.keepIn K (.ref f30) = true)
    (a31 : PySem.W.nsIn K mainGlobals "check_reading" = some (some (.ref f31))) (l31 : K.lookup f31 = some ⟨oc31, od31, .func (PySem.W.fnOf "check_reading" "check_reading" (aL bN) (aw bN) (ac bN) .none kV31 dc31 pm31 an31 cd31 ct31), sl31⟩) (c31 : PySem.W.codeIn K cd31 "check_reading" = true) (k31 : PySem.W.keepIn K (.ref f31) = true)
    (a32 : PySem.W.nsIn K mainGlobals "between" = some (some (.ref f32))) (l32 : K.lookup f32 = some ⟨oc32, od32, .func (PySem.W.fnOf "between" "between" (aL d7) (aw d7) (ac d7) .none kV32 dc32 pm32 an32 cd32 ct32), sl32⟩) (c32 : PySem.W.codeIn K cd32 "between" = true) (k32 : PySem.W.keepIn K (.ref f32) = true)
    (a33 : PySem.W.nsIn K mainGlobals "led_to" = some (some (.ref f33))) (l33 : K.lookup f33 = some ⟨oc33, od33, .func (PySem.W.fnOf "led_to" "led_to" (aL fg) (aw fg) (ac fg) .none kV33 dc33 pm33 an33 cd33 ct33), sl33⟩) (c33 : PySem.W.codeIn K cd33 "led_to" = true) (k33 : PySem.W.keepIn K (.ref f33) = true)
    (a34 : PySem.W.nsIn K mainGlobals "change_of" = some (some (.ref f34))) (l34 : K.lookup f34 = some ⟨oc34, od34, .func (PySem.W.fnOf "change_of" "change_of" (aL dc) (aw dc) (ac dc) .none kV34 dc34 pm34 an34 cd34 ct34), sl34⟩) (c34 : PySem.W.codeIn K cd34 "change_of" = true) (k34 : PySem.W.keepIn K (.ref f34) = true)
    (a35 : PySem.W.nsIn K mainGlobals "_law_copy" = some (some (.ref f35))) (l35 : K.lookup f35 = some ⟨oc35, od35, .func (PySem.W.fnOf "_law_copy" "_law_copy" (aL dG) (aw dG) (ac dG) .none kV35 dc35 pm35 an35 cd35 ct35), sl35⟩) (c35 : PySem.W.codeIn K cd35 "_law_copy" = true) (k35 : PySem.W.keepIn K (.ref f35) = true)
    (a36 : PySem.W.nsIn K mainGlobals "is_change" = some (some (.ref f36))) (l36 : K.lookup f36 = some ⟨oc36, od36, .func (PySem.W.fnOf "is_change" "is_change" (aL da) (aw da) (ac da) .none kV36 dc36 pm36 an36 cd36 ct36), sl36⟩) (c36 : PySem.W.codeIn K cd36 "is_change" = true) (k36 : PySem.W.keepIn K (.ref f36) = true)
    (a37 : PySem.W.nsIn K mainGlobals "led_behind" = some (some (.ref f37))) (l37 : K.lookup f37 = some ⟨oc37, od37, .func (PySem.W.fnOf "led_behind" "led_behind" (aL cF) (aw cF) (ac cF) .none kV37 dc37 pm37 an37 cd37 ct37), sl37⟩) (c37 : PySem.W.codeIn K cd37 "led_behind" = true) (k37 : PySem.W.keepIn K (.ref f37) = true)
    (a38 : PySem.W.nsIn K mainGlobals "out_of" = some (some (.ref f38))) (l38 : K.lookup f38 = some ⟨oc38, od38, .func (PySem.W.fnOf "out_of" "out_of" (aL ff) (aw ff) (ac ff) .none kV38 dc38 pm38 an38 cd38 ct38), sl38⟩) (c38 : PySem.W.codeIn K cd38 "out_of" = true) (k38 : PySem.W.keepIn K (.ref f38) = true)
    (a39 : PySem.W.nsIn K mainGlobals "thing_of" = some (some (.ref f39))) (l39 : K.lookup f39 = some ⟨oc39, od39, .func (PySem.W.fnOf "thing_of" "thing_of" (aL dC) (aw dC) (ac dC) .none kV39 dc39 pm39 an39 cd39 ct39), sl39⟩) (c39 : PySem.W.codeIn K cd39 "thing_of" = true) (k39 : PySem.W.keepIn K (.ref f39) = true)
    (a40 : PySem.W.nsIn K mainGlobals "_law_ints" = some (some (.ref f40))) (l40 : K.lookup f40 = some ⟨oc40, od40, .func (PySem.W.fnOf "_law_ints" "_law_ints" (aL dE) (aw dE) (ac dE) .none kV40 dc40 pm40 an40 cd40 ct40), sl40⟩) (c40 : PySem.W.codeIn K cd40 "_law_ints" = true) (k40 : PySem.W.keepIn K (.ref f40) = true)
    (a41 : PySem.W.nsIn K mainGlobals "_law_lists_like" = some (some (.ref f41))) (l41 : K.lookup f41 = some ⟨oc41, od41, .func (PySem.W.fnOf "_law_lists_like" "_law_lists_like" (aL bF) (aw bF) (ac bF) .none kV41 dc41 pm41 an41 cd41 ct41), sl41⟩) (c41 : PySem.W.codeIn K cd41 "_law_lists_like" = true) (k41 : PySem.W.keepIn K (.ref f41) = true)
    (a42 : PySem.W.nsIn K mainGlobals "_law_whole" = some (some (.ref f42))) (l42 : K.lookup f42 = some ⟨oc42, od42, .func (PySem.W.fnOf "_law_whole" "_law_whole" (aL cY) (aw cY) (ac cY) .none kV42 dc42 pm42 an42 cd42 ct42), sl42⟩) (c42 : PySem.W.codeIn K cd42 "_law_whole" = true) (k42 : PySem.W.keepIn K (.ref f42) = true)
    (a43 : PySem.W.nsIn K mainGlobals "law" = some (some (.ref f43))) (l43 : K.lookup f43 = some ⟨oc43, od43, .func (PySem.W.fnOf "law" "law" (aL iM) (aw iM) (ac iM) .none kV43 dc43 pm43 an43 cd43 ct43), sl43⟩) (c43 : PySem.W.codeIn K cd43 "law" = true) (k43 : PySem.W.keepIn K (.ref f43) = true)
    (pg : PySem.W.plainGet K C Str.empty = true) (hd : PySem.W.hasDictIn K C = true) (po : PySem.W.plainOver K C = true) (sa : PySem.W.findIn K (.ref C) "__setattr__" = some (some (.builtin "object.__setattr__"))) (mk : PySem.W.makesIn K C = true) (kc : PySem.W.keepIn K (.ref C) = true)
    (nE : PySem.W.findIn K (.ref C) "ends" = some none) (nR : PySem.W.findIn K (.ref C) "rests" = some none) (nT : PySem.W.findIn K (.ref C) "table" = some none)
    (z_len : PySem.W.nsIn K mainGlobals "len" = some none)
    (z_list : PySem.W.nsIn K mainGlobals "list" = some none)
    (z_tuple : PySem.W.nsIn K mainGlobals "tuple" = some none)
    (z_range : PySem.W.nsIn K mainGlobals "range" = some none)
    (z_enumerate : PySem.W.nsIn K mainGlobals "enumerate" = some none)
    (z_max : PySem.W.nsIn K mainGlobals "max" = some none)
    (z_isinstance : PySem.W.nsIn K mainGlobals "isinstance" = some none)
    (z_all : PySem.W.nsIn K mainGlobals "all" = some none)
    (z_zip : PySem.W.nsIn K mainGlobals "zip" = some none)
    (z_int : PySem.W.nsIn K mainGlobals "int" = some none)
    (z_bool : PySem.W.nsIn K mainGlobals "bool" = some none)
    (mb : PySem.W.nsIn K mainGlobals "MOST_BOXES" = some (some (.int 6 tb))) (ma : PySem.W.nsIn K mainGlobals "MOST_ARROWS" = some (some (.int 40 ta))) (mMOST_THINGS : PySem.W.nsIn K mainGlobals "MOST_THINGS" = some (some (.int 40 tMOST_THINGS)))
    (ih1 : PySem.W.findIn K (.ref C) "__class__" = some (some (.builtin "object.__class__"))) (ih2 : PySem.W.specialIn K (.builtin "object.__class__") "__get__" = some (some (.builtin "getset_descriptor.__get__"))) (ih3 : PySem.W.takesIn K (.builtin "object.__class__") = some true)
    (ih4 : PySem.W.mroIn K C (.type "object") = some true)
    (kii : PySem.W.kitOne K (.type "int") (.type "int") = some true)
    (kbi : PySem.W.kitOne K (.type "bool") (.type "int") = some true)
    (kNi : PySem.W.kitOne K (.type "NoneType") (.type "int") = some false)
    (kli : PySem.W.kitOne K (.type "list") (.type "int") = some false)
    (kti : PySem.W.kitOne K (.type "tuple") (.type "int") = some false)
    (kib : PySem.W.kitOne K (.type "int") (.type "bool") = some false)
    (kbb : PySem.W.kitOne K (.type "bool") (.type "bool") = some true)
    (kNb : PySem.W.kitOne K (.type "NoneType") (.type "bool") = some false)
    (klb : PySem.W.kitOne K (.type "list") (.type "bool") = some false)
    (ktb : PySem.W.kitOne K (.type "tuple") (.type "bool") = some false)
    (kil : PySem.W.kitOne K (.type "int") (.type "list") = some false)
    (kbl : PySem.W.kitOne K (.type "bool") (.type "list") = some false)
    (kNl : PySem.W.kitOne K (.type "NoneType") (.type "list") = some false)
    (kll : PySem.W.kitOne K (.type "list") (.type "list") = some true)
    (ktl : PySem.W.kitOne K (.type "tuple") (.type "list") = some false)
 :
    ∃ fd : FuncData, (∀ (s : Shared) (v : Value), BindsTo s fd ⟨[v], []⟩ [("script", v)]) /\ ∀ base : Heap, K.In base -> base.Ns mainGlobals mg -> FnOk l.prog w K mg base CX0 7 fa fd ["script"] (tQ K) := by
  have e := hfa.symm.trans (PySem.W.mg_of X G a43)
  cases e
  have cl : Cls K C := ⟨pg, hd, po, sa⟩
  have T : Txt K mg C := ⟨cl, nE, nR, nT, PySem.W.mg_none_of X G z_len, PySem.W.mg_none_of X G z_list, PySem.W.mg_none_of X G z_tuple, PySem.W.mg_none_of X G z_range, PySem.W.mg_none_of X G z_enumerate, PySem.W.mg_none_of X G z_max, PySem.W.mg_none_of X G z_isinstance, PySem.W.mg_none_of X G z_all, PySem.W.mg_none_of X G z_zip, PySem.W.mg_none_of X G z_int, PySem.W.mg_none_of X G z_bool, ⟨cl, ih1, ih2, ih3, ih4⟩, PySem.W.mg_of X G aC, ⟨tb, PySem.W.mg_of X G mb⟩, ⟨ta, PySem.W.mg_of X G ma⟩, ⟨tMOST_THINGS, PySem.W.mg_of X G mMOST_THINGS⟩, ⟨kii, kbi, kNi, kli, kti⟩, ⟨kib, kbb, kNb, klb, ktb⟩, ⟨kil, kbl, kNl, kll, ktl⟩⟩
  have F1 := be (st := dH) l1 c1 k1
  have b1 := F1.binds (ps := ["script", "k"]) fun _ _ _ _ _ _ us hl => by obtain ⟨y0, y1, rfl⟩ := h9 hl; rfl
  have F2 := be (st := cZ) l2 c2 k2
  have b2 := F2.binds (ps := ["script", "k"]) fun _ _ _ _ _ _ us hl => by obtain ⟨y0, y1, rfl⟩ := h9 hl; rfl
  have F3 := be (st := dD) l3 c3 k3
  have b3 := F3.binds (ps := ["step"]) fun _ _ _ _ _ _ us hl => by obtain ⟨y0, rfl⟩ := qe hl; rfl
  have F4 := be (st := cG) l4 c4 k4
  have b4 := F4.binds (ps := ["known"]) fun _ _ _ _ _ _ us hl => by obtain ⟨y0, rfl⟩ := qe hl; rfl
  have F5 := be (st := cI) l5 c5 k5
  have b5 := F5.binds (ps := ["script", "k", "sizes"]) fun _ _ _ _ _ _ us hl => by obtain ⟨y0, y1, y2, rfl⟩ := m6 hl; rfl
  have F6 := be (st := c_) l6 c6 k6
  have b6 := F6.binds (ps := ["script", "k"]) fun _ _ _ _ _ _ us hl => by obtain ⟨y0, y1, rfl⟩ := h9 hl; rfl
  have F7 := be (st := bR) l7 c7 k7
  have b7 := F7.binds (ps := ["ends", "rests"]) fun _ _ _ _ _ _ us hl => by obtain ⟨y0, y1, rfl⟩ := h9 hl; rfl
  have F8 := be (st := dI) l8 c8 k8
  have b8 := F8.binds (ps := ["number", "count"]) fun _ _ _ _ _ _ us hl => by obtain ⟨y0, y1, rfl⟩ := h9 hl; rfl
  have F9 := be (st := cL) l9 c9 k9
  have b9 := F9.binds (ps := ["ends", "boxes"]) fun _ _ _ _ _ _ us hl => by obtain ⟨y0, y1, rfl⟩ := h9 hl; rfl
  have F10 := be (st := ci) l10 c10 k10
  have b10 := F10.binds (ps := ["ends", "rests"]) fun _ _ _ _ _ _ us hl => by obtain ⟨y0, y1, rfl⟩ := h9 hl; rfl
  have F11 := be (st := cK) l11 c11 k11
  have b11 := F11.binds (ps := ["table", "arrows"]) fun _ _ _ _ _ _ us hl => by obtain ⟨y0, y1, rfl⟩ := h9 hl; rfl
  have F12 := be (st := cj) l12 c12 k12
  have b12 := F12.binds (ps := ["ends", "one", "other", "made"]) fun _ _ _ _ _ _ us hl => by obtain ⟨y0, y1, y2, y3, rfl⟩ := tm hl; rfl
  have F13 := be (st := cg) l13 c13 k13
  have b13 := F13.binds (ps := ["ends", "table"]) fun _ _ _ _ _ _ us hl => by obtain ⟨y0, y1, rfl⟩ := h9 hl; rfl
  have F14 := be (st := bb) l14 c14 k14
  have b14 := F14.binds (ps := ["ends", "rests", "table"]) fun _ _ _ _ _ _ us hl => by obtain ⟨y0, y1, y2, rfl⟩ := m6 hl; rfl
  have F15 := be (st := bQ) l15 c15 k15
  have b15 := F15.binds (ps := ["table", "one", "other", "made"]) fun _ _ _ _ _ _ us hl => by obtain ⟨y0, y1, y2, y3, rfl⟩ := tm hl; rfl
  have F16 := be (st := bP) l16 c16 k16
  have b16 := F16.binds (ps := ["table"]) fun _ _ _ _ _ _ us hl => by obtain ⟨y0, rfl⟩ := qe hl; rfl
  have F17 := be (st := bL) l17 c17 k17
  have b17 := F17.binds (ps := ["self", "ends", "rests", "table"]) fun _ _ _ _ _ _ us hl => by obtain ⟨y0, y1, y2, y3, rfl⟩ := tm hl; rfl
  have F18 := be (st := dF) l18 c18 k18
  have b18 := F18.binds (ps := ["parts"]) fun _ _ _ _ _ _ us hl => by obtain ⟨y0, rfl⟩ := qe hl; rfl
  have F19 := be (st := bE) l19 c19 k19
  have b19 := F19.binds (ps := ["parts"]) fun _ _ _ _ _ _ us hl => by obtain ⟨y0, rfl⟩ := qe hl; rfl
  have F20 := be (st := cH) l20 c20 k20
  have b20 := F20.binds (ps := ["parts", "one", "other"]) fun _ _ _ _ _ _ us hl => by obtain ⟨y0, y1, y2, rfl⟩ := m6 hl; rfl
  have F21 := be (st := ca) l21 c21 k21
  have b21 := F21.binds (ps := ["parts", "box", "other"]) fun _ _ _ _ _ _ us hl => by obtain ⟨y0, y1, y2, rfl⟩ := m6 hl; rfl
  have F22 := be (st := d6) l22 c22 k22
  have b22 := F22.binds (ps := ["parts", "box"]) fun _ _ _ _ _ _ us hl => by obtain ⟨y0, y1, rfl⟩ := h9 hl; rfl
  have F23 := be (st := bh) l23 c23 k23
  have b23 := F23.binds (ps := ["script", "k", "parts"]) fun _ _ _ _ _ _ us hl => by obtain ⟨y0, y1, y2, rfl⟩ := m6 hl; rfl
  have F24 := be (st := db) l24 c24 k24
  have b24 := F24.binds (ps := ["hall", "box"]) fun _ _ _ _ _ _ us hl => by obtain ⟨y0, y1, rfl⟩ := h9 hl; rfl
  have F25 := be (st := dd) l25 c25 k25
  have b25 := F25.binds (ps := ["numbers", "count"]) fun _ _ _ _ _ _ us hl => by obtain ⟨y0, y1, rfl⟩ := h9 hl; rfl
  have F26 := be (st := dJ) l26 c26 k26
  have b26 := F26.binds (ps := ["hall", "counts", "maps"]) fun _ _ _ _ _ _ us hl => by obtain ⟨y0, y1, y2, rfl⟩ := m6 hl; rfl
  have F27 := be (st := cf) l27 c27 k27
  have b27 := F27.binds (ps := ["hall", "counts", "maps"]) fun _ _ _ _ _ _ us hl => by obtain ⟨y0, y1, y2, rfl⟩ := m6 hl; rfl
  have F28 := be (st := dL) l28 c28 k28
  have b28 := F28.binds (ps := ["first", "second"]) fun _ _ _ _ _ _ us hl => by obtain ⟨y0, y1, rfl⟩ := h9 hl; rfl
  have F29 := be (st := ce) l29 c29 k29
  have b29 := F29.binds (ps := ["hall", "maps"]) fun _ _ _ _ _ _ us hl => by obtain ⟨y0, y1, rfl⟩ := h9 hl; rfl
  have F30 := be (st := cJ) l30 c30 k30
  have b30 := F30.binds (ps := ["hall", "counts", "maps"]) fun _ _ _ _ _ _ us hl => by obtain ⟨y0, y1, y2, rfl⟩ := m6 hl; rfl
  have F31 := be (st := bN) l31 c31 k31
  have b31 := F31.binds (ps := ["hall", "reading"]) fun _ _ _ _ _ _ us hl => by obtain ⟨y0, y1, rfl⟩ := h9 hl; rfl
  have F32 := be (st := d7) l32 c32 k32
  have b32 := F32.binds (ps := ["hall", "box", "other"]) fun _ _ _ _ _ _ us hl => by obtain ⟨y0, y1, y2, rfl⟩ := m6 hl; rfl
  have F33 := be (st := fg) l33 c33 k33
  have b33 := F33.binds (ps := ["hall", "box", "other", "maps", "thing"]) fun _ _ _ _ _ _ us hl => by obtain ⟨y0, y1, y2, y3, y4, rfl⟩ := Cz hl; rfl
  have F34 := be (st := dc) l34 c34 k34
  have b34 := F34.binds (ps := ["hall", "box", "reading", "thing"]) fun _ _ _ _ _ _ us hl => by obtain ⟨y0, y1, y2, y3, rfl⟩ := tm hl; rfl
  have F35 := be (st := dG) l35 c35 k35
  have b35 := F35.binds (ps := ["rows"]) fun _ _ _ _ _ _ us hl => by obtain ⟨y0, rfl⟩ := qe hl; rfl
  have F36 := be (st := da) l36 c36 k36
  have b36 := F36.binds (ps := ["hall", "one", "other", "change"]) fun _ _ _ _ _ _ us hl => by obtain ⟨y0, y1, y2, y3, rfl⟩ := tm hl; rfl
  have F37 := be (st := cF) l37 c37 k37
  have b37 := F37.binds (ps := ["hall", "things", "arrow"]) fun _ _ _ _ _ _ us hl => by obtain ⟨y0, y1, y2, rfl⟩ := m6 hl; rfl
  have F38 := be (st := ff) l38 c38 k38
  have b38 := F38.binds (ps := ["hall", "box"]) fun _ _ _ _ _ _ us hl => by obtain ⟨y0, y1, rfl⟩ := h9 hl; rfl
  have F39 := be (st := dC) l39 c39 k39
  have b39 := F39.binds (ps := ["hall", "box", "reading", "change"]) fun _ _ _ _ _ _ us hl => by obtain ⟨y0, y1, y2, y3, rfl⟩ := tm hl; rfl
  have F40 := be (st := dE) l40 c40 k40
  have b40 := F40.binds (ps := ["found", "due"]) fun _ _ _ _ _ _ us hl => by obtain ⟨y0, y1, rfl⟩ := h9 hl; rfl
  have F41 := be (st := bF) l41 c41 k41
  have b41 := F41.binds (ps := ["found", "due"]) fun _ _ _ _ _ _ us hl => by obtain ⟨y0, y1, rfl⟩ := h9 hl; rfl
  have F42 := be (st := cY) l42 c42 k42
  have b42 := F42.binds (ps := ["found"]) fun _ _ _ _ _ _ us hl => by obtain ⟨y0, rfl⟩ := qe hl; rfl
  have F43 := be (st := iM) l43 c43 k43
  have b43 := F43.binds (ps := ["script"]) fun _ _ _ _ _ _ us hl => by obtain ⟨y0, rfl⟩ := qe hl; rfl
  refine ⟨PySem.W.fnOf "law" "law" (aL iM) (aw iM) (ac iM) .none kV43 dc43 pm43 an43 cd43 ct43, fun s v => .of_eq rfl, fun base _ _ => ?_⟩
  have r1 : Fn l.prog w K mg base C 1 "_law_cell" 2 aA := rK  T F1 (PySem.W.mg_of X G a1) b1
  have r2 : Fn l.prog w K mg base C 2 "_law_sizes" 2 dj := p4 r1 T F2 (PySem.W.mg_of X G a2) b2
  have r3 : Fn l.prog w K mg base C 1 "_law_next" 1 aR := rF  T F3 (PySem.W.mg_of X G a3) b3
  have r4 : Mv l.prog w K mg base C 1 "_law_closed" cv := og  T F4 (PySem.W.mg_of X G a4) b4
  have r5 : Fn l.prog w K mg base C 2 "_law_arrows" 3 cq := oi r1 r4 r3 T F5 (PySem.W.mg_of X G a5) b5
  have r6 : Fn l.prog w K mg base C 3 "_law_parts" 2 dk := p5 r5 r2 T F6 (PySem.W.mg_of X G a6) b6
  have r7 : Fn l.prog w K mg base C 1 "check_counts" 2 bV := lA  T F7 (PySem.W.mg_of X G a7) b7
  have r8 : Fn l.prog w K mg base C 1 "is_below" 2 aK := rM  T F8 (PySem.W.mg_of X G a8) b8
  have r9 : Fn l.prog w K mg base C 2 "check_ends" 2 cQ := oo r8 T F9 (PySem.W.mg_of X G a9) b9
  have r10 : Fn l.prog w K mg base C 2 "check_rests" 2 cy := mW r8 T F10 (PySem.W.mg_of X G a10) b10
  have r11 : Fn l.prog w K mg base C 1 "check_form" 2 cP := om  T F11 (PySem.W.mg_of X G a11) b11
  have r12 : Fn l.prog w K mg base C 2 "check_entry" 4 cz := mX r8 T F12 (PySem.W.mg_of X G a12) b12
  have r13 : Fn l.prog w K mg base C 3 "check_table" 2 cx := mV r12 T F13 (PySem.W.mg_of X G a13) b13
  have r14 : Fn l.prog w K mg base C 1 "check_beside_rests" 3 bg := iF  T F14 (PySem.W.mg_of X G a14) b14
  have r15 : Fn l.prog w K mg base C 1 "check_thirds" 4 bU := lz  T F15 (PySem.W.mg_of X G a15) b15
  have r16 : Fn l.prog w K mg base C 2 "check_threes" 1 bT := ly r15 T F16 (PySem.W.mg_of X G a16) b16
  have r17 : FnH l.prog w K mg base C 4 gt := mY r14 r7 r9 r11 r10 r13 r16 T F17 ⟨mk, a17, i17, kc⟩ b17
  have r18 : Fn l.prog w K mg base C 6 "_law_hall" 1 dA := rH r17 T F18 (PySem.W.mg_of X G a18) b18
  have r19 : Fn l.prog w K mg base C 1 "_law_reading_of" 1 bJ := j9  T F19 (PySem.W.mg_of X G a19) b19
  have r20 : Fn l.prog w K mg base C 1 "_law_beside" 3 cO := oh  T F20 (PySem.W.mg_of X G a20) b20
  have r21 : Fn l.prog w K mg base C 1 "_law_between" 3 bc := mS  T F21 (PySem.W.mg_of X G a21) b21
  have r22 : Fn l.prog w K mg base C 2 "_law_out" 2 dn := sZ r21 T F22 (PySem.W.mg_of X G a22) b22
  have r23 : Fn l.prog w K mg base C 3 "_law_drawn_reading" 3 bn := iT r20 r1 r22 r19 T F23 (PySem.W.mg_of X G a23) b23
  have r24 : Fn l.prog w K mg base C 2 "check_box" 2 aY := p8 r8 T F24 (PySem.W.mg_of X G a24) b24
  have r25 : Fn l.prog w K mg base C 2 "are_below" 2 bp := p_ r8 T F25 (PySem.W.mg_of X G a25) b25
  have r26 : Fn l.prog w K mg base C 3 "has_form" 3 dZ := rN r25 T F26 (PySem.W.mg_of X G a26) b26
  have r27 : Fn l.prog w K mg base C 1 "keeps_rests" 3 cU := mU  T F27 (PySem.W.mg_of X G a27) b27
  have r28 : Fn l.prog w K mg base C 1 "followed" 2 bA := rO  T F28 (PySem.W.mg_of X G a28) b28
  have r29 : Fn l.prog w K mg base C 2 "keeps_table" 2 cT := mT r28 T F29 (PySem.W.mg_of X G a29) b29
  have r30 : Fn l.prog w K mg base C 4 "is_reading" 3 cu := oj r26 r27 r29 T F30 (PySem.W.mg_of X G a30) b30
  have r31 : Fn l.prog w K mg base C 5 "check_reading" 2 ba := kL r30 T F31 (PySem.W.mg_of X G a31) b31
  have r32 : Fn l.prog w K mg base C 3 "between" 3 bB := s_ r24 T F32 (PySem.W.mg_of X G a32) b32
  have r33 : FnK l.prog w K mg base C 4 "led_to" 5 (.l .s) eX := vn r32 T F33 (PySem.W.mg_of X G a33) b33
  have r34 : FnK l.prog w K mg base C 6 "change_of" 4 (.l (.l .s)) cM := p9 r24 r31 r8 r33 T F34 (PySem.W.mg_of X G a34) b34
  have r35 : FnK l.prog w K mg base C 1 "_law_copy" 1 (.l (.l .s)) cN := rJ  T F35 (PySem.W.mg_of X G a35) b35
  have r36 : Fn l.prog w K mg base C 3 "is_change" 4 dl := p7 r25 r28 T F36 (PySem.W.mg_of X G a36) b36
  have r37 : Fn l.prog w K mg base C 1 "led_behind" 3 cn := oa  T F37 (PySem.W.mg_of X G a37) b37
  have r38 : Fn l.prog w K mg base C 4 "out_of" 2 d8 := vm r32 r37 T F38 (PySem.W.mg_of X G a38) b38
  have r39 : Fn l.prog w K mg base C 6 "thing_of" 4 dY := rE r32 r24 r31 r36 r38 T F39 (PySem.W.mg_of X G a39) b39
  have r40 : Fn l.prog w K mg base C 1 "_law_ints" 2 dz := rG  T F40 (PySem.W.mg_of X G a40) b40
  have r41 : Fn l.prog w K mg base C 2 "_law_lists_like" 2 bv := j_ r40 T F41 (PySem.W.mg_of X G a41) b41
  have r42 : Fn l.prog w K mg base C 1 "_law_whole" 1 di := pZ  T F42 (PySem.W.mg_of X G a42) b42
  exact ym hval (bt (C := C) F43 sc_law (fun cdv A outer s H E hr => xv r21 r1 r35 r23 r18 r41 r6 r42 r34 r39 T cdv A outer s H E hr))
theorem walk {l:PySem.W.OpenLaw} {q:Program} {loose:List Str} {XP:(Str->Option Value)->Heap->Prop} {YP:World->Heap->Prop} {d:DefRec} {K:Params->PySem.W.Frag} (hn:l.most=some 63) (hdf:d.params.defaults=[])
  (hY:∀ (w:World) (h:Heap),YP w h->(K w.params).In h)
  (F:∀ (w:World) (mg:Str->Option Value) (fa:Addr) (h:Heap),(K w.params).In h->h.Ns mainGlobals mg->mg d.name=some (.ref fa) ->
   ∃ fd:FuncData,(∀ (s:Shared) (u:Value),BindsTo s fd ⟨[u],[]⟩ [("script",u)])/\∀ base:Heap,(K w.params).In base->base.Ns mainGlobals mg->FnOk l.prog w (K w.params) mg base CX0 7 fa fd ["script"] (tQ (K w.params))) :
  PySem.W.WalkO q loose XP YP l.row.toRowW d [] (fun f vs=>PySem.call f vs) :=
 L2.walk_of (n:=63) (k:=7) (x:="script") (CX:=fun _=>CX0) (sp:=fun w=>tQ (K w.params)) hn (by decide) hdf ⟨rfl,by decide,by decide⟩ hY F (fun _ _ a ns hl _ hS=>⟨a,ns,rfl,hS,hl,fun _=>rfl⟩) fun _ _ _ _ _ z=>z
end DL
namespace PySem.W.Fast
def tw14557940364122583168:=0
def tw16392215263345270976:=0
def tw14588247485966113056:=0
def tw11660613214564165952:=0
def tw15928896007143138688:=0
def tw8431213613091333536:=0
def tw12706852469747106240:=0
def tw18335856828117922304:=0
def tw8532076405877242400:=0
def tw2592763228291663456:=0
def tw1905630835884158656:=0
def tw12504177555491566304:=0
def tw8574455007112697600:=0
def tw2240781796344050432:=0
def tw16270991079945994080:=0
def tw13869666998930858944:=0
def tw9582489663718136897:=0
def tw2743884109346245761:=0
def tw11809941127131552929:=0
def tw15767906784249175361:=0
def tw17660537534649392481:=0
def tw2511408900064177793:=0
def tw2609247069966133889:=0
def tw8797308819637469921:=0
def tw3827100704058485633:=0
def tw8361319114025872353:=0
def tw18320756476920566850:=0
def tw619153168508930146:=0
def tw14194139832016120034:=0
def tw14754227767531896194:=0
def tw2409086219449996706:=0
def tw11898436652079731330:=0
def tw4002788178493444834:=0
def tw6737672855769508834:=0
def tw2904911634064834723:=0
def tw7292791581841652931:=0
def tw8648687336096075043:=0
def tw7952219065859387715:=0
def tw9794251002977082787:=0
def tw4581069872429911459:=0
def tw16843322235617436131:=0
def tw816571690797259299:=0
def tw13074245788618298915:=0
def tw12237671116957221475:=0
def tw5479942823582704259:=0
def tw2258475660285048451:=0
def tw15630207828491147971:=0
def tw18299450374456192707:=0
def tw4236747820106785603:=0
def tw5017188235683868804:=0
def tw14150267867901519044:=0
def tw2856838219588295876:=0
def tw13634288924760834340:=0
def tw16542694156772201828:=0
def tw15347310762841154084:=0
def tw7859097146360428324:=0
def tw10287235198837565284:=0
def tw2608240527843218372:=0
def tw8459517092575672292:=0
def tw7093752180078929925:=0
def tw8920048264594774181:=0
def tw5644347155504737669:=0
def tw6419470628151837189:=0
def tw6689771575400135205:=0
def tw1333060139185944165:=0
def tw12176732662360828837:=0
def tw14030491124320703397:=0
def tw17303026075975130085:=0
def tw9750775053601426405:=0
def tw10630820318816119878:=0
def tw796465804481906918:=0
def tw15712383365046495622:=0
def tw811485618880822758:=0
def tw4652780971914980966:=0
def tw6198052754807538502:=0
def tw15118981418604338022:=0
def tw13827807748300385351:=0
def tw11663338238479275175:=0
def tw9706916974271036647:=0
def tw12835861255287691623:=0
def tw6456180727873101287:=0
def tw2000287815228233223:=0
def tw3526495732691155463:=0
def tw13203461998665230951:=0
def tw7945466744298209031:=0
def tw11259387019647577927:=0
def tw14685584655897534343:=0
def tw10143668781666577416:=0
def tw3689300584656485416:=0
def tw108996864202201128:=0
def tw11386502283791182024:=0
def tw12421845704100435208:=0
def tw32132653672875304:=0
def tw7433726963605630376:=0
def tw5166872110265237000:=0
def tw8943205082055678600:=0
def tw9158746250581442248:=0
def tw10826152091942323976:=0
def tw7411989918370617096:=0
def tw15607431911117934440:=0
def tw11440630523398120328:=0
def tw11388900003745816488:=0
def tw11619206690201079752:=0
def tw478018581864301641:=0
def tw1753587491756273865:=0
def tw9179085456253729065:=0
def tw14730819763160166729:=0
def tw7342963676910935465:=0
def tw9523088106783198633:=0
def tw4136669337873034857:=0
def tw15660523076633137769:=0
def tw8559157295749674633:=0
def tw16706944360521649961:=0
def tw1998391047530675145:=0
def tw1489716885227302889:=0
def tw16988601543668893802:=0
def tw11532682624630798442:=0
def tw12983303393210812650:=0
def tw15767042915335909642:=0
def tw2673476734311883050:=0
def tw4291681525037209930:=0
def tw14730488837617212746:=0
def tw13856157106793543050:=0
def tw4690187547794691754:=0
def tw15357431401611069226:=0
def tw8676521987145174858:=0
def tw13837059348639068010:=0
def tw9120182056737060810:=0
def tw13039377174014655563:=0
def tw16337980513115037803:=0
def tw12806357059496103115:=0
def tw16815292411810438347:=0
def tw17165843979151138155:=0
def tw18154285656585087467:=0
def tw5986571852350492203:=0
def tw11372750154757165771:=0
def tw5234537704115797771:=0
def tw14340521830968834859:=0
def tw5227375758871233580:=0
def tw7577424789646166124:=0
def tw7605673346542396556:=0
def tw11590031424776599948:=0
def tw2511049377832863308:=0
def tw16553639009140755052:=0
def tw5166279282696506988:=0
def tw2826745314984852076:=0
def tw9014562332029706924:=0
def tw6494335673657129644:=0
def tw18053530428562862796:=0
def tw1169750514098362092:=0
def tw17646082338588952524:=0
def tw5273500317311137069:=0
def tw12941502505115051405:=0
def tw7387515384487961229:=0
def tw2586184489084549773:=0
def tw10163774420339670733:=0
def tw9754675968768627437:=0
def tw8147757913879950093:=0
def tw2064349083018761262:=0
def tw579196358124804142:=0
def tw3984470072770033774:=0
def tw16200136418497533294:=0
def tw10960395256936016366:=0
def tw1492301999180077614:=0
def tw7837478697153055374:=0
def tw2815881871500866318:=0
def tw389677580396873550:=0
def tw9555013647935810414:=0
def tw2528055634351914862:=0
def tw5601224177807057967:=0
def tw1516361676089655375:=0
def tw3418001113251171407:=0
def tw17666031201270739119:=0
def tw9138112811201907983:=0
def tw12521785680023965071:=0
def tw4314153171215271471:=0
def tw8499365872068227663:=0
def tw361387074450173711:=0
def tw102791136408157967:=0
def tw4306156798018657071:=0
def tw7832141615658155919:=0
def tw439559776317726800:=0
def tw2680344595020227696:=0
def tw3030938514863019152:=0
def tw18427695914339088528:=0
def tw9486701135852761360:=0
def tw15932982355850857840:=0
def tw6273743615814583664:=0
def tw14277986212760311216:=0
def tw12041689137609159152:=0
def tw6768500265833062096:=0
def tw9045078613945969392:=0
def tw11866214990950222704:=0
def tw8909792612858056560:=0
def tw16939152562733738960:=0
def tw3983617413721337840:=0
def tw8324739849124904977:=0
def tw5353420893263031313:=0
def tw10276356464043202705:=0
def tw3183967764537319569:=0
def tw13737822141648543921:=0
def tw13791942063650225329:=0
def tw11635675884334233905:=0
def tw3441497313191508337:=0
def tw17275236457133362577:=0
def tw11214580951897323057:=0
def tw5466660261825386033:=0
def tw7914606339633016433:=0
def tw6450163964857762449:=0
def tw4304397990653415089:=0
def tw381451212770484081:=0
def tw13315834540138121073:=0
def tw4824452500518712177:=0
def tw17662839274298858385:=0
def tw5029410119838535569:=0
def tw15340340621696443345:=0
def tw1310441513421178865:=0
def tw10390943749504883730:=0
def tw13885966823231632434:=0
def tw7863110882698335346:=0
def tw626879991356978322:=0
def tw9611215900467163346:=0
def tw7106854415958082802:=0
def tw18182598504397998354:=0
def tw7986319898367675826:=0
def tw3746592395464056338:=0
def tw11708415651358417458:=0
def tw14112326312081250898:=0
def tw10295629652134501970:=0
def tw11320703682795205266:=0
def tw14145984110686222994:=0
def tw13478748736598556370:=0
def tw9318590635291017138:=0
def tw15313146662839733234:=0
def tw11873677641365956627:=0
def tw12760780472657670259:=0
def tw2520102590815761523:=0
def tw17144907075655603443:=0
def tw10004948060580402547:=0
def tw5575080867598431635:=0
def tw12507062292568782579:=0
def tw15696619610451945235:=0
def tw16018206956343304979:=0
def tw3955081214433859347:=0
def tw4955562527331574707:=0
def tw7696576331632974900:=0
def tw11552993689574504532:=0
def tw3052268847175714996:=0
def tw15125457145188666772:=0
def tw5262537161151032756:=0
def tw2442701070083482100:=0
def tw4084120745654239732:=0
def tw366329087782629908:=0
def tw11187329241005405716:=0
def tw1100069218240032372:=0
def tw4707884939274759060:=0
def tw11737822157924274164:=0
def tw4043094887176663028:=0
def tw8424009018456493141:=0
def tw746609340199075093:=0
def tw8218620154844445077:=0
def tw18209025597816347061:=0
def tw5400310270931239829:=0
def tw4163508646077438070:=0
def tw11192882432242553078:=0
def tw4569664633792148758:=0
def tw1929850854283099606:=0
def tw12724478306673416758:=0
def tw15349195396468918902:=0
def tw1903310591701877398:=0
def tw1356521205615997590:=0
def tw14726005971247304406:=0
def tw1407788506115172054:=0
def tw3927102107984535478:=0
def tw3979987152556562455:=0
def tw12053073999598400567:=0
def tw16440759698585090167:=0
def tw8176708491384207511:=0
def tw6193743503380030647:=0
def tw9052153018255878359:=0
def tw14189939388977348855:=0
def tw17045787997049220471:=0
def tw5031040489873600919:=0
def tw15520067670719221303:=0
def tw6133369727342010999:=0
def tw8555260939356201655:=0
def tw13518453114017453751:=0
def tw13717953588312147703:=0
def tw7463969577174611703:=0
def tw11067384973010964247:=0
def tw4125795054941469495:=0
def tw11789433086362403703:=0
def tw15121434627196212151:=0
def tw10794492299540819895:=0
def tw429878819037500407:=0
def tw7581280136780828696:=0
def tw10513867024393081912:=0
def tw2372644115609500792:=0
def tw4145944103203187224:=0
def tw4950067339263965816:=0
def tw17421326265813113528:=0
def tw14707119275581550392:=0
def tw8789092706205632344:=0
def tw2664247129137997688:=0
def tw16898956307930667896:=0
def tw4635899068764601240:=0
def tw15323608070352309208:=0
def tw172373954184748024:=0
def tw11810335168283488345:=0
def tw13173955658726068441:=0
def tw12894428380126339353:=0
def tw4264305510888875385:=0
def tw4578266044418873753:=0
def tw20212269256572409:=0
def tw4710165461511725625:=0
def tw15509243411543533273:=0
def tw8886502575420503865:=0
def tw11197261840876151673:=0
def tw12355825858461028249:=0
def tw17565317176523820953:=0
def tw6605080527401710810:=0
def tw3587298081149153658:=0
def tw1123413774878719418:=0
def tw353795895263269466:=0
def tw5871768238672074490:=0
def tw17391512916707950362:=0
def tw9387510434619732922:=0
def tw17725536826439621755:=0
def tw1708432827669689531:=0
def tw3566252260260560379:=0
def tw17867911402702154299:=0
def tw9606341317295459035:=0
def tw16569911855715396507:=0
def tw7966538885196746651:=0
def tw3662981836586480764:=0
def tw3370425745328743708:=0
def tw4990576537216739708:=0
def tw11554425202969716220:=0
def tw2264533423096545852:=0
def tw16000870540813897308:=0
def tw12157256211281448572:=0
def tw4597460097240123036:=0
def tw5158622795904888508:=0
def tw7148187223045181244:=0
def tw14135977867101687708:=0
def tw7375676034664980412:=0
def tw14977907106452123644:=0
def tw7485861849604814973:=0
def tw5132370244247947421:=0
def tw8813233027412683997:=0
def tw7485474982627116413:=0
def tw17649348081333582205:=0
def tw4485195235376107901:=0
def tw16804785030654741053:=0
def tw8023122641627419197:=0
def tw8606896162734587517:=0
def tw380610006487912093:=0
def tw9238838134143855325:=0
def tw17852204735100794589:=0
def tw17518665752381518717:=0
def tw4333758998816146333:=0
def tw10658115860802326461:=0
def tw15443437382847177725:=0
def tw2036693561896003581:=0
def tw10592513516912179197:=0
def tw4130720755810448574:=0
def tw13814781266617429342:=0
def tw9554235574916194718:=0
def tw4869795638224850526:=0
def tw3725251981917212254:=0
def tw11827457146919206590:=0
def tw9462955929134319582:=0
def tw13967101040480929951:=0
def tw6001817492769111295:=0
def tw9357717536541028639:=0
def tw1420135572714027391:=0
def tw17312312999580710527:=0
def tw30107112544093823:=0
def tw16230350201045543871:=0
def tw12456646977189286847:=0
def tw8230544701245324255:=0
def tw9590137872433755135:=0
end PySem.W.Fast
open PySem PySem.W PyProof.Rows
set_option maxRecDepth 100000 in
set_option maxHeartbeats 0 in
theorem PySem.Challenge.cw_arrowhall_k13_rests_and_things_holds : PySem.Challenge.rw_arrowhall_k13_rests_and_things.Holds := by
 w_on;o_law;k_head;(case hw=>w_witness2)
 k_fill
 refine DL.walk (l:=PySem.Challenge.rw_arrowhall_k13_rests_and_things) rfl rfl (fun w h Y=>PySem.W.kIn_of Y) ?F
 case F =>
  intro w mg fa h KX G hmg
  refine' DL.all_mk DL.law_val KX G hmg ?aC ?a1 ?l1 ?c1 ?k1 ?a2 ?l2 ?c2 ?k2 ?a3 ?l3 ?c3 ?k3 ?a4 ?l4 ?c4 ?k4 ?a5 ?l5 ?c5 ?k5 ?a6 ?l6 ?c6 ?k6 ?a7 ?l7 ?c7 ?k7 ?a8 ?l8 ?c8 ?k8 ?a9 ?l9 ?c9 ?k9 ?a10 ?l10 ?c10 ?k10 ?a11 ?l11 ?c11 ?k11 ?a12 ?l12 ?c12 ?k12 ?a13 ?l13 ?c13 ?k13 ?a14 ?l14 ?c14 ?k14 ?a15 ?l15 ?c15 ?k15 ?a16 ?l16 ?c16 ?k16 ?a17 ?i17 ?l17 ?c17 ?k17 ?a18 ?l18 ?c18 ?k18 ?a19 ?l19 ?c19 ?k19 ?a20 ?l20 ?c20 ?k20 ?a21 ?l21 ?c21 ?k21 ?a22 ?l22 ?c22 ?k22 ?a23 ?l23 ?c23 ?k23 ?a24 ?l24 ?c24 ?k24 ?a25 ?l25 ?c25 ?k25 ?a26 ?l26 ?c26 ?k26 ?a27 ?l27 ?c27 ?k27 ?a28 ?l28 ?c28 ?k28 ?a29 ?l29 ?c29 ?k29 ?a30 ?l30 ?c30 ?k30 ?a31 ?l31 ?c31 ?k31 ?a32 ?l32 ?c32 ?k32 ?a33 ?l33 ?c33 ?k33 ?a34 ?l34 ?c34 ?k34 ?a35 ?l35 ?c35 ?k35 ?a36 ?l36 ?c36 ?k36 ?a37 ?l37 ?c37 ?k37 ?a38 ?l38 ?c38 ?k38 ?a39 ?l39 ?c39 ?k39 ?a40 ?l40 ?c40 ?k40 ?a41 ?l41 ?c41 ?k41 ?a42 ?l42 ?c42 ?k42 ?a43 ?l43 ?c43 ?k43 ?pg ?hd ?po ?sa ?mk ?kc ?nE ?nR ?nT ?z_len ?z_list ?z_tuple ?z_range ?z_enumerate ?z_max ?z_isinstance ?z_all ?z_zip ?z_int ?z_bool ?mb ?ma ?mMOST_THINGS ?ih1 ?ih2 ?ih3 ?ih4 ?kii ?kbi ?kNi ?kli ?kti ?kib ?kbb ?kNb ?klb ?ktb ?kil ?kbl ?kNl ?kll ?ktl
  (case aC=>k_is)
  (case a1=>k_is)
  (case l1=>k_is)
  (case c1=>k_is)
  (case k1=>k_is)
  (case a2=>k_is)
  (case l2=>k_is)
  (case c2=>k_is)
  (case k2=>k_is)
  (case a3=>k_is)
  (case l3=>k_is)
  (case c3=>k_is)
  (case k3=>k_is)
  (case a4=>k_is)
  (case l4=>k_is)
  (case c4=>k_is)
  (case k4=>k_is)
  (case a5=>k_is)
  (case l5=>k_is)
  (case c5=>k_is)
  (case k5=>k_is)
  (case a6=>k_is)
  (case l6=>k_is)
  (case c6=>k_is)
  (case k6=>k_is)
  (case a7=>k_is)
  (case l7=>k_is)
  (case c7=>k_is)
  (case k7=>k_is)
  (case a8=>k_is)
  (case l8=>k_is)
  (case c8=>k_is)
  (case k8=>k_is)
  (case a9=>k_is)
  (case l9=>k_is)
  (case c9=>k_is)
  (case k9=>k_is)
  (case a10=>k_is)
  (case l10=>k_is)
  (case c10=>k_is)
  (case k10=>k_is)
  (case a11=>k_is)
  (case l11=>k_is)
  (case c11=>k_is)
  (case k11=>k_is)
  (case a12=>k_is)
  (case l12=>k_is)
  (case c12=>k_is)
  (case k12=>k_is)
  (case a13=>k_is)
  (case l13=>k_is)
  (case c13=>k_is)
  (case k13=>k_is)
  (case a14=>k_is)
  (case l14=>k_is)
  (case c14=>k_is)
  (case k14=>k_is)
  (case a15=>k_is)
  (case l15=>k_is)
  (case c15=>k_is)
  (case k15=>k_is)
  (case a16=>k_is)
  (case l16=>k_is)
  (case c16=>k_is)
  (case k16=>k_is)
  (case a17=>k_is)
  (case i17=>k_is)
  (case l17=>k_is)
  (case c17=>k_is)
  (case k17=>k_is)
  (case a18=>k_is)
  (case l18=>k_is)
  (case c18=>k_is)
  (case k18=>k_is)
  (case a19=>k_is)
  (case l19=>k_is)
  (case c19=>k_is)
  (case k19=>k_is)
  (case a20=>k_is)
  (case l20=>k_is)
  (case c20=>k_is)
  (case k20=>k_is)
  (case a21=>k_is)
  (case l21=>k_is)
  (case c21=>k_is)
  (case k21=>k_is)
  (case a22=>k_is)
  (case l22=>k_is)
  (case c22=>k_is)
  (case k22=>k_is)
  (case a23=>k_is)
  (case l23=>k_is)
  (case c23=>k_is)
  (case k23=>k_is)
  (case a24=>k_is)
  (case l24=>k_is)
  (case c24=>k_is)
  (case k24=>k_is)
  (case a25=>k_is)
  (case l25=>k_is)
  (case c25=>k_is)
  (case k25=>k_is)
  (case a26=>k_is)
  (case l26=>k_is)
  (case c26=>k_is)
  (case k26=>k_is)
  (case a27=>k_is)
  (case l27=>k_is)
  (case c27=>k_is)
  (case k27=>k_is)
  (case a28=>k_is)
  (case l28=>k_is)
  (case c28=>k_is)
  (case k28=>k_is)
  (case a29=>k_is)
  (case l29=>k_is)
  (case c29=>k_is)
  (case k29=>k_is)
  (case a30=>k_is)
  (case l30=>k_is)
  (case c30=>k_is)
  (case k30=>k_is)
  (case a31=>k_is)
  (case l31=>k_is)
  (case c31=>k_is)
  (case k31=>k_is)
  (case a32=>k_is)
  (case l32=>k_is)
  (case c32=>k_is)
  (case k32=>k_is)
  (case a33=>k_is)
  (case l33=>k_is)
  (case c33=>k_is)
  (case k33=>k_is)
  (case a34=>k_is)
  (case l34=>k_is)
  (case c34=>k_is)
  (case k34=>k_is)
  (case a35=>k_is)
  (case l35=>k_is)
  (case c35=>k_is)
  (case k35=>k_is)
  (case a36=>k_is)
  (case l36=>k_is)
  (case c36=>k_is)
  (case k36=>k_is)
  (case a37=>k_is)
  (case l37=>k_is)
  (case c37=>k_is)
  (case k37=>k_is)
  (case a38=>k_is)
  (case l38=>k_is)
  (case c38=>k_is)
  (case k38=>k_is)
  (case a39=>k_is)
  (case l39=>k_is)
  (case c39=>k_is)
  (case k39=>k_is)
  (case a40=>k_is)
  (case l40=>k_is)
  (case c40=>k_is)
  (case k40=>k_is)
  (case a41=>k_is)
  (case l41=>k_is)
  (case c41=>k_is)
  (case k41=>k_is)
  (case a42=>k_is)
  (case l42=>k_is)
  (case c42=>k_is)
  (case k42=>k_is)
  (case a43=>k_is)
  (case l43=>k_is)
  (case c43=>k_is)
  (case k43=>k_is)
  (case pg=>k_is)
  (case hd=>k_is)
  (case po=>k_is)
  (case sa=>k_is)
  (case mk=>k_is)
  (case kc=>k_is)
  (case nE=>k_is)
  (case nR=>k_is)
  (case nT=>k_is)
  (case z_len=>k_is)
  (case z_list=>k_is)
  (case z_tuple=>k_is)
  (case z_range=>k_is)
  (case z_enumerate=>k_is)
  (case z_max=>k_is)
  (case z_isinstance=>k_is)
  (case z_all=>k_is)
  (case z_zip=>k_is)
  (case z_int=>k_is)
  (case z_bool=>k_is)
  (case mb=>k_is)
  (case ma=>k_is)
  (case mMOST_THINGS=>k_is)
  (case ih1=>k_is)
  (case ih2=>k_is)
  (case ih3=>k_is)
  (case ih4=>k_is)
  (case kii=>kit_is)
  (case kbi=>kit_is)
  (case kNi=>kit_is)
  (case kli=>kit_is)
  (case kti=>kit_is)
  (case kib=>kit_is)
  (case kbb=>kit_is)
  (case kNb=>kit_is)
  (case klb=>kit_is)
  (case ktb=>kit_is)
  (case kil=>kit_is)
  (case kbl=>kit_is)
  (case kNl=>kit_is)
  (case kll=>kit_is)
  (case ktl=>kit_is)
