import PyProof.Rows.All
import Wide.All
import OpenK.AllK
import Wide.FinOn
import Lean
import PyProof.EqAt
import PyProof.EqKinds
import PyProof.TupleCall
import PyProof.NeKinds
import PyProof.ListRange
import PyProof.TupleOfGen
import PyProof.DictRoadsH
import PyProof.Rows.FStr
import PyProof.ExcBaseAll.ValueError
import PyProof.ExcClass2
import PyProof.ExcArgsOwn
import PyProof.ExcAttrAll.ValueError
import KE.KIsAll
import PyProof.RulesAs
import PyProof.NsDelKeeps
import PyProof.ConsumeWalk
import PyProof.ZipIter
import PyProof.Rows.ZipGen
import PyProof.Rows.SeqGen
import PyProof.Rows.FactsT2
import PyProof.WalkInts
import PyProof.Rows.MinMaxN
import KE.KSortAsk
import PyProof.Rows.FactsT3
import PySem.Challenge.RW_arrowhall_k08_whole_just_one_arrow
set_option Elab.async false
set_option linter.all false
set_option maxRecDepth 100000
set_option maxHeartbeats 4000000
open PySem.W (instObj Frag plainGet hasDictIn findIn emptyDict kitOne kia_one keepIn fnOf codeIn nsIn callWith_K mg_of mg_none_of)
noncomputable section
namespace L2
open PySem PySem.Spec PyProof.Rows
abbrev Key:=Sum Int Str
def B2:Key->Value->Bool
 | .inl k,v=>Value.isInt k v
 | .inr x,v=>Value.isStrOf x v
def FS (w:World):Key->Int
 | .inl k=>hashInt k
 | .inr x=>hashStr w x
theorem cy:∀ {k:Key} {v:Value},B2 k v=true->(∃ i t,k=Sum.inl i/\v=Value.int i t)\/(∃ x t,k=Sum.inr x/\v=Value.str x t)
 | .inl i,v,h=>by
  obtain ⟨t,e⟩:=Value.isInt_shape (k:=i) (v:=v) h
  exact .inl ⟨i,t,rfl,e⟩
 | .inr x,v,h=>by
  obtain ⟨t,e⟩:=Value.isStrOf_shape (x:=x) (v:=v) h
  exact .inr ⟨x,t,rfl,e⟩
theorem DD (a b:Int):decide ((Sum.inl a:Key)=Sum.inl b)=(a == b):=by
 by_cases e:a=b
 ·subst e;simp
 ·have h:¬ (Sum.inl a:Key)=Sum.inl b:=fun q=>e (Sum.inl.inj q)
  rw [decide_eq_false h]
  exact (beq_eq_false_iff_ne.mpr e).symm
theorem DA (a b:Str):decide ((Sum.inr a:Key)=Sum.inr b)=decide (a=b):=by
 by_cases e:a=b
 ·subst e;simp
 ·have h:¬ (Sum.inr a:Key)=Sum.inr b:=fun q=>e (Sum.inr.inj q)
  rw [decide_eq_false h,decide_eq_false e]
theorem DC (a:Int) (b:Str):decide ((Sum.inl a:Key)=Sum.inr b)=false:=decide_eq_false (fun q=>nomatch q)
theorem DB (a:Str) (b:Int):decide ((Sum.inr a:Key)=Sum.inl b)=false:=decide_eq_false (fun q=>nomatch q)
def vP (prog:Program) (w:World):PySem.KeyKind prog w Key where
 is:=B2
 hash:=FS w
 inj:=fun v a b ha hb=>by
  rcases cy ha with ⟨i,t,rfl,rfl⟩ | ⟨x,t,rfl,rfl⟩
  ·rcases cy hb with ⟨j,u,rfl,e⟩ | ⟨y,u,rfl,e⟩
   ·injection e with e1 _;rw [e1]
   ·exact nomatch e
  ·rcases cy hb with ⟨j,u,rfl,e⟩ | ⟨y,u,rfl,e⟩
   ·exact nomatch e
   ·injection e with e1 _;rw [e1]
 byValue:=fun k v h=>by
  rcases cy h with ⟨i,t,rfl,rfl⟩ | ⟨x,t,rfl,rfl⟩ <;> rfl
 pyHash:=fun hv h=>by
  rcases cy hv with ⟨i,t,rfl,rfl⟩ | ⟨x,t,rfl,rfl⟩
  ·exact wpAny_pyHash_int h
  ·exact wpAny_pyHash_str h
 eqBool:=fun hu hv h=>by
  rcases cy hu with ⟨i,t,rfl,rfl⟩ | ⟨x,t,rfl,rfl⟩
  ·rcases cy hv with ⟨j,u,rfl,rfl⟩ | ⟨y,u,rfl,rfl⟩
   ·rw [DD] at h;exact wpAny_eqBool_int h
   ·rw [DC] at h;exact SeqAt.EqAt.int_str i t y u _ _ _ _ h
  ·rcases cy hv with ⟨j,u,rfl,rfl⟩ | ⟨y,u,rfl,rfl⟩
   ·rw [DB] at h;exact SeqAt.EqAt.str_int x t j u _ _ _ _ h
   ·rw [DA] at h;exact wpAny_eqBool_str h
 «strs»:=fun k x t v h=>by
  rcases cy h with ⟨i,u,rfl,e⟩ | ⟨y,u,rfl,e⟩
  ·exact nomatch e
  ·injection e with e1 _
   subst e1
   cases v <;> rfl
end L2
namespace L2
open PySem PySem.Spec PyProof.Rows
inductive V where
 | non | bl (b:Bool) | int (i:Int) | str (x:Str) | byt (b:Array UInt8) | flt (b:UInt64) | ref (a:Addr) | ty (n:String)
 deriving DecidableEq
def RelV:V->Value->Prop
 | .non,u=>u=Value.none
 | .bl b,u=>u=Value.bool b
 | .int i,u=>∃ t,u=Value.int i t
 | .str x,u=>∃ t,u=Value.str x t
 | .byt b,u=>∃ t,u=Value.bytes b t
 | .flt b,u=>∃ t,u=Value.float b t
 | .ref a,u=>u=Value.ref a
 | .ty n,u=>u=Value.type n
abbrev Vals:List V->List Value->Prop:=Paired RelV
theorem Vals.length {xs:List V} {us:List Value} (r:Vals xs us):xs.length=us.length:=Paired.length r
theorem Vals.get:∀ {xs:List V} {us:List Value} {i:Nat} {x:V},Vals xs us->xs[i]?=some x->∃ u,us[i]?=some u/\RelV x u
 | _,_,_,_,.nil,e=>by simp at e
 | _,_,0,_,.cons r _,e=>by simp at e;subst e;exact ⟨_,rfl,r⟩
 | _,_,i + 1,x,.cons _ t,e=>by
  obtain ⟨u,h1,h2⟩:=Vals.get (i:=i) (x:=x) t (by simpa using e)
  exact ⟨u,by simpa using h1,h2⟩
theorem Vals.set {x:V} {u:Value} (r:RelV x u):∀ {xs:List V} {us:List Value} (i:Nat),Vals xs us->Vals (xs.set i x) (us.set i u)
 | _,_,_,.nil=>.nil
 | _,_,0,.cons _ t=>.cons r t
 | _,_,i + 1,.cons q t=>.cons q (Vals.set r i t)
theorem Vals.append:∀ {xs ys:List V} {us ws:List Value},Vals xs us->Vals ys ws->Vals (xs ++ ys) (us ++ ws)
 | _,_,_,_,.nil,s=>s
 | _,_,_,_,.cons r t,s=>.cons r (Vals.append t s)
theorem Vals.take:∀ {xs:List V} {us:List Value} (n:Nat),Vals xs us->Vals (xs.take n) (us.take n)
 | _,_,0,_=>.nil
 | _,_,_ + 1,.nil=>.nil
 | _,_,n + 1,.cons r t=>.cons r (Vals.take n t)
theorem Vals.drop:∀ {xs:List V} {us:List Value} (n:Nat),Vals xs us->Vals (xs.drop n) (us.drop n)
 | _,_,0,r=>r
 | _,_,_ + 1,.nil=>.nil
 | _,_,n + 1,.cons _ t=>Vals.drop n t
def RelO:Option V->Option Value->Prop
 | some v,some u=>RelV v u
 | none,none=>True
 | _,_=>False
def KV {κ:Type}:List (κ × V)->List (κ × Value)->Prop:=Paired fun (p:κ × V) (q:κ × Value)=>p.1=q.1/\RelV p.2 q.2
def kV:Key->V
 | .inl i=>.int i
 | .inr x=>.str x
inductive HO where
  | lst (xs:List V)
  | tup (xs:List V)
  | dK (kvs:List (Key × V)) | dT (kvs:List (List Key × V))
  | set (S:Int->Bool) (n:Nat)
  | ins (C dx:Addr) (fs:List (Str × V))
  | own (x:Addr)
  | xd (fs:List (Str × V))
  | met (f x:Addr)
  | rng (lo hi:Int)
  | frz (o:Obj) (u:HO)
  | tbl (ps:Array Value)
  | ext (φ:Heap->Prop)
abbrev Hp:=Addr->Option HO
def upd (H:Hp) (a:Addr) (o:HO):Hp:=fun b=>if b=a then some o else H b
theorem ba {H:Hp} {a:Addr} {o:HO}:upd H a o a=some o:=by unfold upd;rw [if_pos rfl]
theorem aH {H:Hp} {a b:Addr} {o:HO} (h:b ≠ a):upd H a o b=H b:=by unfold upd;rw [if_neg h]
theorem bG {H:Hp} {a b:Addr} {o:HO} (h:H a=some o) (h':H b=none):a ≠ b:=by
 intro e;subst e;rw [h] at h';cases h'
section
variable (P:Program) (w:World)
def ObjOk (H:Hp) (h:Heap) (a:Addr):HO->Prop
 | .lst xs=>xs.length<=sizeLine/\∃ (its:List Value) (n:Nat),Vals xs its/\h.get? a=some { cls:=.type "list",data:=.seq its.toArray n }
 | .tup xs=>xs.length<=sizeLine/\∃ its:List Value,Vals xs its/\IsTup h a its.toArray
 | .dK kvs=>kvs.length<=sizeLine/\(a == sysModules)=false/\∃ vs,KV kvs vs/\h.DictOf (vP P w) a vs
 | .dT kvs=>kvs.length<=sizeLine/\(a == sysModules)=false/\∃ xs:List (List Key × Addr × Value),
   Paired (fun (p:List Key × V) (q:List Key × Addr × Value)=>p.1=q.1/\H q.2.1=some (.tup (p.1.map kV))/\RelV p.2 q.2.2) kvs xs /\
   ∃ o es ep,h.get? a=some o/\o.ExactDict/\o.data=.dict es ep/\es.toList=xs.map (entryOfKey (tupleKind (vP P w)))/\(xs.map (·.1)).Nodup
 | .set S n=>h.SetOf (intKind P w) a S n
 | .ins C dx fs=>H dx=some (.own a)/\fs.length<=1000/\dx ≠ a/\h.get? a=some (instObj C dx) /\
   ∃ mA,h.Ns1 dx mA/\(∀ f,RelO (fs.lookup f) (mA f))/\PySem.Within mA (fs.map (·.1))
 | .own _=>∃ o,h.get? a=some o
 | .xd fs=>∃ mA,h.Ns1 a mA/\∀ f,RelO (fs.lookup f) (mA f)
 | .rng lo hi=>∃ t u v,h.get? a=some { cls:=.type "range",data:=.fields #[.int lo t,.int hi u,.int 1 v] }
 | .frz o u=>h.get? a=some o/\ObjOk H h a u
 | .tbl ps=>h.get? a=some { cls:=.none,data:=.fields ps }
 | .met f x=>h.get? a=some (PySem.W.methodObj (.ref f) (.ref x))
 | .ext φ=>φ h/\(∃ o,h.get? a=some o)/\∀ h1 h2:Heap,φ h1->(∀ o,h1.get? a=some o->h2.get? a=some o)->φ h2
def HOk (H:Hp) (h:Heap):Prop:=∀ a o,H a=some o->ObjOk P w H h a o
end
section
variable {P:Program} {w:World} {H H':Hp} {h h':Heap} {a:Addr} {o:HO}
theorem ObjOk.lt (x:ObjOk P w H h a o):a < h.objs.size:=by
 cases o with
 | lst xs=>obtain ⟨_,_,_,_,e⟩:=x;exact Heap.lt_size e
 | tup xs=>obtain ⟨_,_,_,p⟩:=x;exact p.lt
 | dK kvs=>obtain ⟨_,_,_,_,o,_,_,e,_⟩:=x;exact Heap.lt_size e
 | dT kvs=>obtain ⟨_,_,_,_,o,_,_,e,_⟩:=x;exact Heap.lt_size e
 | set S n=>obtain ⟨o,_,_,_,e,_⟩:=x;exact Heap.lt_size e
 | ins C dx fs=>obtain ⟨_,_,_,e,_⟩:=x;exact Heap.lt_size e
 | own y=>obtain ⟨_,e⟩:=x;exact Heap.lt_size e
 | xd fs=>obtain ⟨_,⟨_,_,_,e,_⟩,_⟩:=x;exact Heap.lt_size e
 | rng lo hi=>obtain ⟨_,_,_,e⟩:=x;exact Heap.lt_size e
 | frz ob u=>obtain ⟨e,_⟩:=x;exact Heap.lt_size e
 | tbl ps=>exact Heap.lt_size (show h.get? a=some _ from x)
 | met f y=>exact Heap.lt_size (show h.get? a=some _ from x)
 | ext φ=>obtain ⟨_,⟨_,e⟩,_⟩:=x;exact Heap.lt_size e
theorem Paired.mapP {α β:Type} {F G:α->β->Prop}:∀ {l₁:List α} {l₂:List β},Paired F l₁ l₂->(∀ a b,F a b->G a b)->Paired G l₁ l₂
 | _,_,.nil,_=>.nil
 | _,_,.cons r t,f=>.cons (f _ _ r) (Paired.mapP t f)
theorem ObjOk.stay (x:ObjOk P w H h a o) (k:∀ b u,(b=a\/H b=some (.own a))->h.get? b=some u->h'.get? b=some u)
  (ho:∀ b,H b=some (.own a)->H' b=some (.own a)) (ht:∀ b xs,H b=some (.tup xs)->H' b=some (.tup xs)):ObjOk P w H' h' a o:=by
 induction o with
 | lst xs=>obtain ⟨z,its,n,r,e⟩:=x;exact ⟨z,its,n,r,k _ _ (.inl rfl) e⟩
 | tup xs=>obtain ⟨z,its,r,ob,e,c⟩:=x;exact ⟨z,its,r,ob,k _ _ (.inl rfl) e,c⟩
 | dK kvs=>obtain ⟨z,y,vs,r,ob,es,ep,e,c⟩:=x;exact ⟨z,y,vs,r,ob,es,ep,k _ _ (.inl rfl) e,c⟩
 | dT kvs =>
  obtain ⟨z,y,xs,r,ob,es,ep,e,c⟩:=x
  exact ⟨z,y,xs,Paired.mapP r fun p q z=>⟨z.1,ht _ _ z.2.1,z.2.2⟩,ob,es,ep,k _ _ (.inl rfl) e,c⟩
 | set S n=>obtain ⟨ob,es,ep,t,e,c⟩:=x;exact ⟨ob,es,ep,t,k _ _ (.inl rfl) e,c⟩
 | ins C dx fs =>
  obtain ⟨d,z,ne,e,mA,⟨od,es,ep,e2,c⟩,r⟩:=x
  exact ⟨ho _ d,z,ne,k _ _ (.inl rfl) e,mA,⟨od,es,ep,k _ _ (.inr d) e2,c⟩,r⟩
 | own y=>obtain ⟨ob,e⟩:=x;exact ⟨ob,k _ _ (.inl rfl) e⟩
 | xd fs=>obtain ⟨mA,⟨od,es,ep,e,c⟩,r⟩:=x;exact ⟨mA,⟨od,es,ep,k _ _ (.inl rfl) e,c⟩,r⟩
 | rng lo hi=>obtain ⟨t,u,v,e⟩:=x;exact ⟨t,u,v,k _ _ (.inl rfl) e⟩
 | frz ob u ih=>obtain ⟨e,q⟩:=x;exact ⟨k _ _ (.inl rfl) e,ih q⟩
 | tbl ps =>
  have e:h.get? a=some { cls:=.none,data:=.fields ps }:=x
  show h'.get? a=some { cls:=.none,data:=.fields ps }
  exact k a _ (.inl rfl) e
 | met f y =>
  have e:h.get? a=some (PySem.W.methodObj (.ref f) (.ref y)):=x
  show h'.get? a=some (PySem.W.methodObj (.ref f) (.ref y))
  exact k a _ (.inl rfl) e
 | ext φ=>obtain ⟨p,⟨o,e⟩,st⟩:=x;exact ⟨st _ _ p fun o q=>k _ _ (.inl rfl) q,⟨o,k _ _ (.inl rfl) e⟩,st⟩
theorem HOk.lt (x:HOk P w H h) (e:H a=some o):a < h.objs.size:=(x a o e).lt
theorem HOk.fresh (x:HOk P w H h) (e:h.objs.size<=a):H a=none:=by
 cases q:H a with
 | none=>rfl
 | some u=>exact absurd (Nat.lt_of_lt_of_le (x.lt q) e) (Nat.lt_irrefl _)
theorem HOk.kept (x:HOk P w H h) (k:∀ b u,h.get? b=some u->h'.get? b=some u):HOk P w H h':=fun a o e =>
 (x a o e).stay (fun b u _ q=>k b u q) (fun _ q=>q) fun _ _ q=>q
theorem HOk.laid (x:HOk P w H h) (k:∀ b u,h.get? b=some u->h'.get? b=some u) (hp:h.objs.size<=a) (new:ObjOk P w (upd H a o) h' a o):HOk P w (upd H a o) h':=fun b u e=>by
 have hn:=x.fresh hp
 by_cases hb:b=a
 ·subst hb;rw [ba] at e;cases e;exact new
 ·rw [aH hb] at e
  exact (x b u e).stay (fun c v _ q=>k c v q) (fun c q=>by rw [aH (bG q hn)];exact q) fun c xs q=>by rw [aH (bG q hn)];exact q
end
def Rd (H:Hp) (a:Addr) (u:HO):Prop:=H a=some u\/∃ o,H a=some (.frz o u)
theorem Rd.ok {P:Program} {w:World} {H:Hp} {h:Heap} {a:Addr} {u:HO} (r:Rd H a u) (x:HOk P w H h):ObjOk P w H h a u:=by
 rcases r with r | ⟨o,r⟩
 ·exact x a u r
 ·obtain ⟨_,q⟩:=x a _ r
  exact q
def Mut:Option HO->Prop
 | some (.lst _)=>True
 | some (.dK _)=>True
 | some (.dT _)=>True
 | some (.set _ _)=>True
 | some (.ins _ _ _)=>True
 | some (.ext _)=>True
 | _=>False
section
variable {P:Program} {w:World} {H:Hp} {h h':Heap} {x e:Addr} {o':HO}
theorem HOk.write (ok:HOk P w H h) (mu:Mut (H x)) (he:e=x\/H e=some (.own x)) (k:∀ b u,b ≠ e->h.get? b=some u->h'.get? b=some u) (heo:∃ u,h'.get? e=some u)
  (new:ObjOk P w (upd H x o') h' x o'):HOk P w (upd H x o') h':=fun b u q=>by
 have nown:∀ c y,H c=some (.own y)->c ≠ x:=fun c y r z=>by subst z;rw [r] at mu;exact mu
 have ntup:∀ c xs,H c=some (.tup xs)->c ≠ x:=fun c xs r z=>by subst z;rw [r] at mu;exact mu
 by_cases hb:b=x
 ·subst hb;rw [ba] at q;cases q;exact new
 ·rw [aH hb] at q
  by_cases hbe:b=e
  ·have q':H b=some (.own x):=by
    rcases he with z | z
    ·exact absurd (hbe.trans z) hb
    ·rw [hbe];exact z
   rw [q] at q';cases q'
   obtain ⟨v,hv⟩:=heo
   exact ⟨v,by rw [hbe];exact hv⟩
  ·refine (ok b u q).stay (fun c v hc r=>k c v ?_ r) (fun c r=>by rw [aH (nown c b r)];exact r) fun c xs r=>by rw [aH (ntup c xs r)];exact r
   rcases hc with rfl | hc
   ·exact hbe
   ·rintro rfl
    rcases he with z | z
    ·exact nown c b hc z
    ·rw [hc] at z;cases z;exact hb rfl
end
structure Un (fs ex:List Addr) (H H':Hp) (h h':Heap):Prop where
 keep:∀ b o,h.get? b=some o->H b=none->b ∉ fs->b ∉ ex->h'.get? b=some o
 slot:∀ b o,h.get? b=some o->H b=none->b ∈ fs->b ∉ ex->∃ sl,h'.get? b=some { o with slots:=sl }
 free:∀ b o,h.get? b=some o->H b=none->b ∉ ex->H' b=none
 there:∀ b o,h.get? b=some o->b ∉ ex->∃ o',h'.get? b=some o'
 tups:∀ b xs,H b=some (.tup xs)->H' b=some (.tup xs)
 frzs:∀ b o u,H b=some (.frz o u)->H' b=some (.frz o u)
 tbls:∀ b ps,H b=some (.tbl ps)->∃ more,H' b=some (.tbl (ps ++ more))
section
variable {fs fs' ex ex':List Addr} {H H1 H2:Hp} {h h1 h2 h':Heap} {a x e:Addr} {o:HO}
theorem Un.any (u:Un fs ex H H1 h h1) {b:Addr} {ob:Obj} (q:h.get? b=some ob) (n:H b=none) (hx:b ∉ ex):∃ sl,h1.get? b=some { ob with slots:=sl }:=by
 by_cases hb:b ∈ fs
 ·exact u.slot b ob q n hb hx
 ·exact ⟨ob.slots,u.keep b ob q n hb hx⟩
theorem Un.kept (k:∀ b u,h.get? b=some u->h'.get? b=some u):Un fs ex H H h h' :=
 ⟨fun b ob q _ _ _=>k b ob q,fun b ob q _ _ _=>⟨ob.slots,k b ob q⟩,fun _ _ _ n _=>n,fun b ob q _=>⟨ob,k b ob q⟩,fun _ _ q=>q,fun _ _ _ q=>q,fun _ ps q=>⟨#[],by rw [q];simp⟩⟩
theorem Un.refl:Un fs ex H H h h:=Un.kept fun _ _ q=>q
theorem Un.laid (k:∀ b u,h.get? b=some u->h'.get? b=some u) (hp:h.objs.size<=a) (hn:H a=none):Un fs ex H (upd H a o) h h' where
 keep:=fun b u q _ _ _=>k b u q
 slot:=fun b u q _ _ _=>⟨u.slots,k b u q⟩
 free:=fun b u q n _=>by rw [aH (Nat.ne_of_lt (Nat.lt_of_lt_of_le (Heap.lt_size q) hp))];exact n
 there:=fun b u q _=>⟨u,k b u q⟩
 tups:=fun b xs q=>by rw [aH (bG q hn)];exact q
 frzs:=fun b u xs q=>by rw [aH (bG q hn)];exact q
 tbls:=fun b ps q=>⟨#[],by rw [aH (bG q hn),q];simp⟩
theorem Un.write (mu:Mut (H x)) (he:e=x\/H e=some (.own x)) (k:∀ b u,b ≠ e->h.get? b=some u->h'.get? b=some u) (heo:∃ u,h'.get? e=some u):Un fs ex H (upd H x o) h h':=by
 have hx:∀ b,H b=none->b ≠ x:=fun b n z=>by subst z;rw [n] at mu;exact mu
 have hb:∀ b,H b=none->b ≠ e:=fun b n z=>by
  subst z
  rcases he with r | r
  ·exact hx b n r
  ·rw [n] at r;cases r
 have hm:∀ b u,H b=some u->¬ Mut (some u)->b ≠ x:=fun b u q nm z=>by subst z;rw [q] at mu;exact nm mu
 refine ⟨fun b u q n _ _=>k b u (hb b n) q,fun b u q n _ _=>⟨u.slots,k b u (hb b n) q⟩,fun b u q n _=>by rw [aH (hx b n)];exact n,fun b u q _=>?_,
  fun b xs q=>by rw [aH (hm b _ q fun z=>z)];exact q,fun b u xs q=>by rw [aH (hm b _ q fun z=>z)];exact q,fun b ps q=>⟨#[],by rw [aH (hm b _ q fun z=>z),q];simp⟩⟩
 by_cases hbe:b=e
 ·subst hbe;exact heo
 ·exact ⟨u,k b u hbe q⟩
end
def trk (h:Heap) (H:Hp):List Addr:=(List.range h.objs.size).filter fun a=>(H a).isSome
def rH (h:Heap) (H:Hp):Heap:=PySem.W.hideAll h (trk h H)
theorem w6 (h:Heap) (H:Hp):(rH h H).objs.size=h.objs.size:=PySem.W.hideAll_size _ _
theorem yY {h:Heap} {H:Hp} {b:Addr} {o:Obj} (e:h.get? b=some o) (n:H b=none):(rH h H).get? b=some o :=
 PySem.W.hideAll_get _ e fun hm=>by
  have q:(H b).isSome=true:=(List.mem_filter.mp hm).2
  rw [n] at q;simp at q
theorem AW {h:Heap} {H:Hp} {b:Addr} {o:Obj} (e:(rH h H).get? b=some o):h.get? b=some o/\H b=none:=by
 have e':h.get? b=some o:=PySem.W.of_hideAll (trk h H) e
 refine ⟨e',?_⟩
 cases q:H b with
 | none=>rfl
 | some x =>
  have hm:b ∈ trk h H:=List.mem_filter.mpr ⟨List.mem_range.mpr (Heap.lt_size e'),by simp [q]⟩
  have z:(rH h H).get? b=none:=PySem.W.hideAll_none (trk h H) hm
  rw [z] at e;cases e
end L2
namespace L2
open PySem PySem.Spec PyProof.Rows
structure Mod (K:Frag) (mg:Str->Option Value) (base:Heap):Prop where
 kin:K.In base
 glob:base.Ns mainGlobals mg
 blt:∃ mb,base.Ns builtinsNs mb/\∀ x:Str,x ≠ "__name__"->mb x=bootBuiltins x
 nolimit:base.NoLimit
structure Cx where
 prog:Program
 w:World
 K:Frag
 mg:Str->Option Value
 base:Heap
 A:Around
 N:List Str
 s₀:Shared
 H₀:Hp
 env:Env
 outer:List Env
 stack:List Env
 ex:List Addr
 fn:Str->Bool
 calm:Bool
 pn:List (Addr × Obj)
 xe:Value->Shared->Prop
def frs (l:List Env):List Addr:=l.filterMap (·.frame)
abbrev Cx.fs (X:Cx):List Addr:=frs X.outer
def Vis (sc:Scope) (x:Str):Prop:=sc.names.lookup x=some .local\/sc.names.lookup x=some .cell\/sc.names.lookup x=some .free
def Loc (sc:Scope) (x:Str):Prop:=sc.names.lookup x=some .local\/sc.names.lookup x=some .cell
def Gh (env:Env) (h:Heap) (m:Str->Option Value) (x:Str) (u:Value):Prop :=
 (env.kindOf x=some .local/\m x=some u)\/((env.kindOf x=some .cell\/env.kindOf x=some .free)/\∃ c,env.cells.lookup x=some c/\h.IsCell c (some u))
structure Cx.Ok (X:Cx):Prop where
 mod:Mod X.K X.mg X.base
 kind:X.env.scope.kind=.function
 glob:X.env.globals=mainGlobals
 blt:X.env.builtins=builtinsNs
 above:X.s₀.heap.objs.size<=X.env.locals
 inj:∀ x y c,X.env.cells.lookup x=some c->X.env.cells.lookup y=some c->x=y
 has:∀ x,(X.env.kindOf x=some .cell\/X.env.kindOf x=some .free)->∃ c,X.env.cells.lookup x=some c
 cab:∀ x c,X.fn x=true->X.env.cells.lookup x=some c->X.s₀.heap.objs.size<=c
 hd:X.calm=true->X.A.handled=none
 frames:X.A.frames=some X.stack
 stk:X.stack=X.outer\/(X.stack=X.env :: X.outer/\X.env.frame=some X.env.locals)
 exf:∀ b ∈ X.ex,b ≠ X.env.locals/\∀ x c,X.env.cells.lookup x=some c->c ≠ b
 bs:∀ b o,X.base.get? b=some o->X.s₀.heap.get? b=some o/\X.H₀ b=none
 bsz:X.base.objs.size<=X.s₀.heap.objs.size
 noex:∀ b o,X.base.get? b=some o->b ∉ X.ex
 exfs:∀ b ∈ X.ex,b ∉ X.fs
 funs:X.s₀.heap.FunFrames X.base X.outer
 frf:∀ b ∈ X.fs,X.H₀ b=none
structure Inv (X:Cx) (pins:List (Addr × Obj)) (σ:List (Option V)) (H:Hp) (s:Shared):Prop where
 ok:X.Ok
 os:s.os=X.s₀.os
 bare:AllBare s.gens
 base:Un X.fs X.ex X.H₀ H X.s₀.heap s.heap
 loc:∃ m,s.heap.Ns X.env.locals m/\∀ (i:Nat) (x:Str) (v:V),X.N[i]?=some x->σ[i]?=some (some v)->Vis X.env.scope x->∃ u,RelV v u/\Gh X.env s.heap m x u
 cell:∀ x c,X.env.cells.lookup x=some c->∃ v,s.heap.IsCell c v
 free:H X.env.locals=none
 freeC:∀ x c,X.env.cells.lookup x=some c->H c=none
 pin:∀ p ∈ X.pn ++ pins,s.heap.get? p.1=some p.2/\H p.1=none/\p.1 ≠ X.env.locals/\p.1 ∉ X.fs/\∀ v,p.2.data ≠ .cell v
 hok:HOk X.prog X.w H s.heap
 len:σ.length=X.N.length
section
variable {X:Cx} {pins:List (Addr × Obj)} {σ:List (Option V)} {H H':Hp} {s:Shared} {h':Heap}
theorem Cx.Ok.nofr (ok:X.Ok) {b:Addr} {o:Obj} (e:X.base.get? b=some o):b ∉ X.fs:=fun hb=>by
 have:=(ok.funs.mem hb).1
 rw [e] at this;cases this
theorem Inv.bs (I:Inv X pins σ H s):∀ b o,X.base.get? b=some o->s.heap.get? b=some o/\H b=none:=fun b o e =>
 ⟨I.base.keep b o (I.ok.bs b o e).1 (I.ok.bs b o e).2 (I.ok.nofr e) (I.ok.noex b o e),I.base.free b o (I.ok.bs b o e).1 (I.ok.bs b o e).2 (I.ok.noex b o e)⟩
theorem Inv.bk (I:Inv X pins σ H s):∀ b o,X.base.get? b=some o->s.heap.get? b=some o:=fun b o e=>(I.bs b o e).1
theorem Inv.mod (I:Inv X pins σ H s):Mod X.K X.mg X.base:=I.ok.mod
theorem Inv.kIn (I:Inv X pins σ H s):X.K.In s.heap:=I.ok.mod.kin.keeps I.bk
theorem Inv.lt (I:Inv X pins σ H s):X.env.locals < s.heap.objs.size:=let ⟨_,hn,_⟩:=I.loc;hn.lt
theorem Inv.sz (I:Inv X pins σ H s):X.s₀.heap.objs.size<=s.heap.objs.size:=Nat.le_trans I.ok.above (Nat.le_of_lt I.lt)
theorem Inv.nofs (I:Inv X pins σ H s) {a:Addr} (h:s.heap.objs.size<=a):a ∉ X.fs:=fun hb=>by
 obtain ⟨_,o,ho,_⟩:=I.ok.funs.mem hb
 exact absurd (Nat.lt_of_lt_of_le (Heap.lt_size ho) (Nat.le_trans I.sz h)) (Nat.lt_irrefl _)
theorem Inv.cne (I:Inv X pins σ H s):∀ x c,X.env.cells.lookup x=some c->c ≠ X.env.locals:=fun x c e z=>by
 obtain ⟨v,o,ho,hd⟩:=I.cell x c e
 obtain ⟨m,⟨o',es,ep,ho',hd',_⟩,_⟩:=I.loc
 rw [z,ho'] at ho;cases ho;rw [hd'] at hd;cases hd
theorem Inv.funs (I:Inv X pins σ H s):s.heap.FunFrames X.base X.outer:=by
 have all:∀ (l:List Env),(∀ b ∈ frs l,b ∈ X.fs)->X.s₀.heap.FunFrames X.base l->s.heap.FunFrames X.base l:=by
  intro l
  induction l with
  | nil=>intro _ _;trivial
  | cons env r ih =>
   intro hs hl
   obtain ⟨hk,⟨L,o,hf,hn,ho,hd⟩,hr⟩:=hl
   have hL:L ∈ X.fs:=hs L (by unfold frs;rw [List.filterMap_cons,hf];exact List.mem_cons_self)
   obtain ⟨sl,e⟩:=I.base.slot L o ho (I.ok.frf L hL) hL fun z=>I.ok.exfs L z hL
   exact ⟨hk,⟨L,_,hf,hn,e,hd⟩,ih (fun b hb=>hs b (by unfold frs;rw [List.filterMap_cons,hf];exact List.mem_cons_of_mem _ hb)) hr⟩
 exact all X.outer (fun _ hb=>hb) I.ok.funs
theorem Inv.stack (I:Inv X pins σ H s):s.heap.FunFrames X.base X.stack:=by
 rcases I.ok.stk with e | ⟨e,hf⟩
 ·rw [e];exact I.funs
 ·rw [e]
  obtain ⟨m,hn,_⟩:=I.loc
  refine .cons (by rw [I.ok.kind];decide) hf hn ?_ I.funs
  exact Heap.get?_none_of_le (Nat.le_trans I.ok.bsz I.ok.above)
theorem Inv.stkSub (I:Inv X pins σ H s):∀ b ∈ frs X.stack,b ∈ X.env.locals :: X.fs:=fun b hb=>by
 rcases I.ok.stk with e | ⟨e,hf⟩
 ·rw [e] at hb;exact List.mem_cons_of_mem _ hb
 ·rw [e] at hb
  unfold frs at hb
  rw [List.filterMap_cons,hf] at hb
  exact hb
theorem Inv.stkFree (I:Inv X pins σ H s):∀ b ∈ frs X.stack,H b=none:=fun b hb=>by
 rcases List.mem_cons.mp (I.stkSub b hb) with e | hb
 ·rw [e];exact I.free
 ·obtain ⟨_,o,ho,_⟩:=I.ok.funs.mem hb
  exact I.base.free b o ho (I.ok.frf b hb) fun z=>I.ok.exfs b z hb
theorem Inv.step {g':Array GenState} {t':Nat} {d':Drawn} {ch:List Addr} (I:Inv X pins σ H s)
  (hch:∀ b ∈ ch,(b ∈ X.ex\/X.s₀.heap.objs.size<=b)/\b ≠ X.env.locals/\(∀ x c,X.env.cells.lookup x=some c->c ≠ b)/\∀ p ∈ X.pn ++ pins,p.1 ≠ b)
  (keep:∀ b o,b ≠ X.env.locals->b ∉ X.fs->b ∉ ch->s.heap.get? b=some o->H b=none->h'.get? b=some o)
  (slot:∀ b o,b ≠ X.env.locals->b ∈ X.fs->b ∉ ch->s.heap.get? b=some o->H b=none->∃ sl,h'.get? b=some { o with slots:=sl }) (free:∀ b o,b ∉ ch->s.heap.get? b=some o->H b=none->H' b=none)
  (there:∀ b o,b ∉ ch->s.heap.get? b=some o->∃ o',h'.get? b=some o')
  (tups:∀ b xs,H b=some (.tup xs)->H' b=some (.tup xs)) (frzs:∀ b o u,H b=some (.frz o u)->H' b=some (.frz o u)) (tbls:∀ b ps,H b=some (.tbl ps)->∃ more,H' b=some (.tbl (ps ++ more)))
  (ns:∀ m,s.heap.Ns X.env.locals m->h'.Ns X.env.locals m) (hok:HOk X.prog X.w H' h') (hg:AllBare g') :
  Inv X pins σ H' { s with heap:=h',gens:=g',drawn:=d',toks:=t' }:=by
 have neL:∀ b o,X.s₀.heap.get? b=some o->b ≠ X.env.locals:=fun b o e=>Nat.ne_of_lt (Nat.lt_of_lt_of_le (Heap.lt_size e) I.ok.above)
 have neC:∀ b o,X.s₀.heap.get? b=some o->b ∉ X.ex->b ∉ ch:=fun b o e hx hb=>by
  rcases (hch b hb).1 with z | z
  ·exact hx z
  ·exact absurd (Nat.lt_of_lt_of_le (Heap.lt_size e) z) (Nat.lt_irrefl _)
 have cellK:∀ x c,X.env.cells.lookup x=some c->∀ v,s.heap.IsCell c v->h'.IsCell c v:=fun x c e v ⟨o,ho,hd⟩=>by
  have nch:c ∉ ch:=fun z=>(hch c z).2.2.1 x c e rfl
  by_cases hc:c ∈ X.fs
  ·obtain ⟨sl,q⟩:=slot c o (I.cne x c e) hc nch ho (I.freeC x c e)
   exact ⟨_,q,hd⟩
  ·exact ⟨o,keep c o (I.cne x c e) hc nch ho (I.freeC x c e),hd⟩
 refine ⟨I.ok,I.os,hg,⟨fun b o e n hb hx=>?_,fun b o e n hb hx=>?_,fun b o e n hx=>?_,fun b o e hx=>?_,fun b xs e=>tups b xs (I.base.tups b xs e),fun b o xs e=>frzs b o xs (I.base.frzs b o xs e),fun b ps e=>?_⟩,?_,fun x c e=>?_,?_,fun x c e=>?_,fun p hp=>?_,hok,I.len⟩
 ·exact keep b o (neL b o e) hb (neC b o e hx) (I.base.keep b o e n hb hx) (I.base.free b o e n hx)
 ·obtain ⟨sl,e1⟩:=I.base.slot b o e n hb hx
  obtain ⟨sl',e2⟩:=slot b _ (neL b o e) hb (neC b o e hx) e1 (I.base.free b o e n hx)
  exact ⟨sl',e2⟩
 ·obtain ⟨o',e1⟩:=I.base.there b o e hx
  exact free b o' (neC b o e hx) e1 (I.base.free b o e n hx)
 ·obtain ⟨o',e1⟩:=I.base.there b o e hx
  exact there b o' (neC b o e hx) e1
 ·obtain ⟨m1,e1⟩:=I.base.tbls b ps e
  obtain ⟨m2,e2⟩:=tbls b _ e1
  exact ⟨m1 ++ m2,by rw [e2,Array.append_assoc]⟩
 ·obtain ⟨m,hn,hl⟩:=I.loc
  refine ⟨m,ns m hn,fun i x v e1 e2 e3=>?_⟩
  obtain ⟨u,r,l⟩:=hl i x v e1 e2 e3
  refine ⟨u,r,?_⟩
  rcases l with l | ⟨k,c,e,z⟩
  ·exact .inl l
  ·exact .inr ⟨k,c,e,cellK x c e _ z⟩
 ·obtain ⟨v,z⟩:=I.cell x c e
  exact ⟨v,cellK x c e v z⟩
 ·obtain ⟨m,⟨o,_,_,ho,_⟩,_⟩:=I.loc
  exact free _ o (fun z=>(hch _ z).2.1 rfl) ho I.free
 ·obtain ⟨v,o,ho,hd⟩:=I.cell x c e
  exact free c o (fun z=>(hch c z).2.2.1 x c e rfl) ho (I.freeC x c e)
 ·obtain ⟨e,n,ne,nf,d⟩:=I.pin p hp
  have nch:p.1 ∉ ch:=fun z=>(hch p.1 z).2.2.2 p hp rfl
  exact ⟨keep p.1 p.2 ne nf nch e n,free p.1 p.2 nch e n,ne,nf,d⟩
theorem Inv.un {t':Nat} (I:Inv X pins σ H s) (u:Un X.fs [] H H' s.heap h') (hok:HOk X.prog X.w H' h'):Inv X pins σ H' { s with heap:=h',toks:=t' }:=by
 obtain ⟨m,⟨o,es,ep,ho,r⟩,_⟩:=id I.loc
 obtain ⟨sl,hL⟩:=u.any ho I.free (by simp)
 exact I.step (g':=s.gens) (d':=s.drawn) (ch:=[]) (fun _ z=>nomatch z) (fun b o _ hb _ e n=>u.keep b o e n hb (by simp)) (fun b o _ hb _ e n=>u.slot b o e n hb (by simp)) (fun b o _ e n=>u.free b o e n (by simp)) (fun b o _ e=>u.there b o e (by simp)) u.tups u.frzs u.tbls (fun m' hm=>by
  obtain ⟨o',es',ep',ho',r'⟩:=hm
  rw [ho] at ho';cases ho'
  exact ⟨_,es',ep',hL,r'⟩) hok I.bare
theorem Inv.call {g':Array GenState} {t':Nat} {d':Drawn} {ch:List Addr} (I:Inv X pins σ H s) (u:Un (frs X.stack) ch H H' s.heap h') (hok:HOk X.prog X.w H' h') (hg:AllBare g')
  (hch:∀ b ∈ ch,(b ∈ X.ex\/X.s₀.heap.objs.size<=b)/\b ≠ X.env.locals/\(∀ x c,X.env.cells.lookup x=some c->c ≠ b)/\∀ p ∈ X.pn ++ pins,p.1 ≠ b) :
  Inv X pins σ H' { s with heap:=h',gens:=g',drawn:=d',toks:=t' }:=by
 obtain ⟨m,⟨o,es,ep,ho,r⟩,_⟩:=id I.loc
 obtain ⟨sl,hL⟩:=u.any ho I.free fun z=>(hch _ z).2.1 rfl
 exact I.step (ch:=ch) hch (fun b o hL hb hc e n=>u.keep b o e n (fun z=>(List.mem_cons.mp (I.stkSub b z)).elim hL hb) hc) (fun b o _ _ hc e n=>u.any e n hc) (fun b o hc e n=>u.free b o e n hc) (fun b o hc e=>u.there b o e hc) u.tups u.frzs u.tbls (fun m' hm=>by
  obtain ⟨o',es',ep',ho',r'⟩:=hm
  rw [ho] at ho';cases ho'
  exact ⟨_,es',ep',hL,r'⟩) hok hg
theorem Inv.turned {t':Nat} {it:Addr} (I:Inv X pins σ H s) (k:∀ b o,b ≠ it->s.heap.get? b=some o->h'.get? b=some o) (hn:H it=none) (hL:it ≠ X.env.locals)
  (h1:it ∈ X.ex\/X.s₀.heap.objs.size<=it) (h2:∀ x c,X.env.cells.lookup x=some c->c ≠ it) (h3:∀ p ∈ X.pn ++ pins,p.1 ≠ it):Inv X pins σ H { s with heap:=h',toks:=t' }:=by
 have nit:∀ b u,H b=some u->b ≠ it:=fun b u e z=>by rw [z,hn] at e;cases e
 refine I.step (g':=s.gens) (d':=s.drawn) (ch:=[it]) (fun b hb=>?_) (fun b o _ _ hc e _=>k b o (fun z=>hc (by simp [z])) e) (fun b o _ _ hc e _=>⟨o.slots,k b o (fun z=>hc (by simp [z])) e⟩) (fun _ _ _ _ n=>n)
  (fun b o hc e=>⟨o,k b o (fun z=>hc (by simp [z])) e⟩) (fun _ _ e=>e) (fun _ _ _ e=>e) (fun b ps e=>⟨#[],by rw [e];simp⟩) (fun m hm=>?_) (fun b u e=>?_) I.bare
 ·have e:b=it:=by simpa using hb
  subst e
  exact ⟨h1,hL,h2,h3⟩
 ·obtain ⟨o,es,ep,ho,r⟩:=hm
  exact ⟨o,es,ep,k _ o (Ne.symm hL) ho,r⟩
 ·refine (I.hok b u e).stay (fun c v hc q=>k c v ?_ q) (fun _ q=>q) fun _ _ q=>q
  rcases hc with z | z
  ·rw [z];exact nit b u e
  ·exact nit c _ z
theorem Inv.tok (I:Inv X pins σ H s) (t:Nat):Inv X pins σ H { s with toks:=t }:=I.un (h':=s.heap) (t':=t) Un.refl I.hok
theorem Inv.kept {t':Nat} (I:Inv X pins σ H s) (k:∀ b u,s.heap.get? b=some u->h'.get? b=some u):Inv X pins σ H { s with heap:=h',toks:=t' }:=I.un (Un.kept k) (I.hok.kept k)
theorem Inv.laid {a:Addr} {o:HO} {t':Nat} (I:Inv X pins σ H s) (k:∀ b u,s.heap.get? b=some u->h'.get? b=some u) (hp:s.heap.objs.size<=a) (new:ObjOk X.prog X.w (upd H a o) h' a o) :
  Inv X pins σ (upd H a o) { s with heap:=h',toks:=t' }:=I.un (Un.laid k hp (I.hok.fresh hp)) (I.hok.laid k hp new)
theorem Inv.write {x e:Addr} {o:HO} {t':Nat} (I:Inv X pins σ H s) (mu:Mut (H x)) (he:e=x\/H e=some (.own x)) (k:∀ b u,b ≠ e->s.heap.get? b=some u->h'.get? b=some u) (heo:∃ u,h'.get? e=some u)
  (new:ObjOk X.prog X.w (upd H x o) h' x o):Inv X pins σ (upd H x o) { s with heap:=h',toks:=t' }:=I.un (Un.write mu he k heo) (I.hok.write mu he k heo new)
theorem Inv.pins_of {pins':List (Addr × Obj)} (I:Inv X pins σ H s) (h:∀ p ∈ pins',s.heap.get? p.1=some p.2/\H p.1=none/\p.1 ≠ X.env.locals/\p.1 ∉ X.fs/\∀ v,p.2.data ≠ .cell v):Inv X pins' σ H s :=
 ⟨I.ok,I.os,I.bare,I.base,I.loc,I.cell,I.free,I.freeC,fun p hp=>(List.mem_append.mp hp).elim (fun z=>I.pin p (List.mem_append_left _ z)) (h p),I.hok,I.len⟩
theorem sT {N:List Str} (hN:N.Nodup) {i j:Nat} {x:Str} (a:N[i]?=some x) (b:N[j]?=some x):i=j:=by
 obtain ⟨h1,e1⟩:=List.getElem?_eq_some_iff.mp a
 obtain ⟨h2,e2⟩:=List.getElem?_eq_some_iff.mp b
 exact (List.getElem_inj hN).mp (e1.trans e2.symm)
theorem wF {M:Model} {A:Around} {E:Value->Shared->Prop} {i:Nat} {x:Str} {v:V} {u:Value} {Q:Unit->Shared->Prop} (I:Inv X pins σ H s) (hN:X.N.Nodup) (hi:X.N[i]?=some x) (hx:Loc X.env.scope x) (r:RelV v u)
  (h:∀ s',Inv X pins (σ.set i (some v)) H s'->(∃ a,Heap.SameBut a s.heap s'.heap/\(a=X.env.locals\/X.env.cells.lookup x=some a))->Q () s') (hf:X.fn x=true\/X.env.scope.names.lookup x=some .local:=by first | exact .inl rfl | exact .inr rfl | assumption):wpAny M A (storeName X.env x u) Q E s:=by
 obtain ⟨m,hn,hl⟩:=id I.loc
 have hcls:(X.env.scope.kind == .class || (X.env.scope.kind == .module && X.env.locals != X.env.globals))=false:=by rw [I.ok.kind];rfl
 have hiσ:i < σ.length:=by rw [I.len];exact (List.getElem?_eq_some_iff.mp hi).1
 have cne:=I.cne
 have tracked:∀ {a:Addr} {h':Heap},(∃ o,s.heap.get? a=some o/\H a=none)->Heap.SameBut a s.heap h'->HOk X.prog X.w H h':=fun {a h'} ha hs b ob e=>by
  obtain ⟨_,_,hfree⟩:=ha
  refine (I.hok b ob e).stay (fun c w' hc q=>(hs.2 c ?_).trans q) (fun _ q=>q) fun _ _ q=>q
  rintro rfl
  rcases hc with rfl | hc
  ·rw [hfree] at e;cases e
  ·rw [hfree] at hc;cases hc
 rcases hx with hk | hk
 ·refine wpAny_storeName_local hk hn (fun h' hn' hs=>?_) hcls
  obtain ⟨oL,_,_,hoL,_⟩:=id hn
  refine h _ ⟨I.ok,I.os,I.bare,⟨fun b o e n hb hx=>?_,fun b o e n hb hx=>?_,I.base.free,fun b o e hx=>?_,I.base.tups,I.base.frzs,I.base.tbls⟩,⟨_,hn',fun j y v' e1 e2 e3=>?_⟩,fun y c e=>?_,I.free,I.freeC,fun p hp=>?_,tracked ⟨oL,hoL,I.free⟩ hs,by simpa using I.len⟩ ⟨_,hs,.inl rfl⟩
  ·exact (hs.2 b (Nat.ne_of_lt (Nat.lt_of_lt_of_le (Heap.lt_size e) I.ok.above))).trans (I.base.keep b o e n hb hx)
  ·obtain ⟨sl,e1⟩:=I.base.slot b o e n hb hx
   exact ⟨sl,(hs.2 b (Nat.ne_of_lt (Nat.lt_of_lt_of_le (Heap.lt_size e) I.ok.above))).trans e1⟩
  ·obtain ⟨o',e1⟩:=I.base.there b o e hx
   exact ⟨o',(hs.2 b (Nat.ne_of_lt (Nat.lt_of_lt_of_le (Heap.lt_size e) I.ok.above))).trans e1⟩
  ·by_cases hj:j=i
   ·subst hj
    rw [hi] at e1;cases e1
    rw [List.getElem?_set_self hiσ] at e2
    cases e2
    exact ⟨u,r,.inl ⟨hk,by simp⟩⟩
   ·rw [List.getElem?_set_ne (Ne.symm hj)] at e2
    obtain ⟨u',r',q⟩:=hl j y v' e1 e2 e3
    refine ⟨u',r',?_⟩
    rcases q with ⟨k,e⟩ | ⟨k,c,e,z⟩
    ·refine .inl ⟨k,?_⟩
     have:y ≠ x:=fun e=>hj (sT hN e1 (e ▸ hi))
     simp [this,e]
    ·exact .inr ⟨k,c,e,z.sameBut hs (cne y c e)⟩
  ·obtain ⟨w',z⟩:=I.cell y c e
   exact ⟨w',z.sameBut hs (cne y c e)⟩
  ·obtain ⟨e,n,ne,nf,d⟩:=I.pin p hp
   exact ⟨(hs.2 p.1 ne).trans e,n,ne,nf,d⟩
 ·have hfn:X.fn x=true:=by
   rcases hf with z | z
   ·exact z
   ·rw [z] at hk;cases hk
  obtain ⟨c,hc⟩:=I.ok.has x (.inl hk)
  obtain ⟨w',z⟩:=I.cell x c hc
  refine wpAny_storeName_cell I.ok.kind hk hc z (fun h' hc' hs=>?_)
  obtain ⟨oc,hoc,hocd⟩:=id z
  refine h { s with heap:=h' } ⟨I.ok,I.os,I.bare,⟨fun b o e n hb hx=>?_,fun b o e n hb hx=>?_,I.base.free,fun b o e hx=>?_,I.base.tups,I.base.frzs,I.base.tbls⟩,⟨m,hn.sameBut hs (Ne.symm (cne x c hc)),fun j y v' e1 e2 e3=>?_⟩,fun y c' e=>?_,I.free,I.freeC,fun p hp=>?_,tracked ⟨oc,hoc,I.freeC x c hc⟩ hs,by simpa using I.len⟩ ⟨c,hs,.inr hc⟩
  ·exact (hs.2 b (Nat.ne_of_lt (Nat.lt_of_lt_of_le (Heap.lt_size e) (I.ok.cab x c hfn hc)))).trans (I.base.keep b o e n hb hx)
  ·obtain ⟨sl,e1⟩:=I.base.slot b o e n hb hx
   exact ⟨sl,(hs.2 b (Nat.ne_of_lt (Nat.lt_of_lt_of_le (Heap.lt_size e) (I.ok.cab x c hfn hc)))).trans e1⟩
  ·obtain ⟨o',e1⟩:=I.base.there b o e hx
   exact ⟨o',(hs.2 b (Nat.ne_of_lt (Nat.lt_of_lt_of_le (Heap.lt_size e) (I.ok.cab x c hfn hc)))).trans e1⟩
  ·by_cases hj:j=i
   ·subst hj
    rw [hi] at e1;cases e1
    rw [List.getElem?_set_self hiσ] at e2
    cases e2
    exact ⟨u,r,.inr ⟨.inl hk,c,hc,hc'⟩⟩
   ·rw [List.getElem?_set_ne (Ne.symm hj)] at e2
    obtain ⟨u',r',q⟩:=hl j y v' e1 e2 e3
    refine ⟨u',r',?_⟩
    rcases q with q | ⟨k,c',e,z'⟩
    ·exact .inl q
    ·refine .inr ⟨k,c',e,z'.sameBut hs ?_⟩
     rintro rfl
     exact hj (sT hN e1 (I.ok.inj _ _ _ e hc ▸ hi))
  ·by_cases hcc:c'=c
   ·subst hcc;exact ⟨_,hc'⟩
   ·obtain ⟨w2,z2⟩:=I.cell y c' e
    exact ⟨w2,z2.sameBut hs hcc⟩
  ·obtain ⟨e,n,ne,nf,d⟩:=I.pin p hp
   refine ⟨(hs.2 p.1 ?_).trans e,n,ne,nf,d⟩
   intro q
   rw [q,hoc] at e
   have q':oc=p.2:=Option.some.inj e
   exact d w' (by rw [<- q'];exact hocd)
theorem sC {M:Model} {A:Around} {E:Value->Shared->Prop} {i:Nat} {x:Str} {v:V} {u:Value} {Q:Unit->Shared->Prop} (I:Inv X pins σ H s) (hN:X.N.Nodup) (hi:X.N[i]?=some x) (hx:Loc X.env.scope x) (r:RelV v u)
  (h:∀ s',Inv X pins (σ.set i (some v)) H s'->Q () s') (hf:X.fn x=true\/X.env.scope.names.lookup x=some .local:=by first | exact .inl rfl | exact .inr rfl | assumption):wpAny M A (storeName X.env x u) Q E s :=
 wF I hN hi hx r (fun s' I' _=>h s' I') hf
theorem Inv.call' {s':Shared} {ch:List Addr} (I:Inv X pins σ H s) (ho:s'.os=s.os) (u:Un (frs X.stack) ch H H' s.heap s'.heap) (hok:HOk X.prog X.w H' s'.heap) (hg:AllBare s'.gens)
  (hch:∀ b ∈ ch,(b ∈ X.ex\/X.s₀.heap.objs.size<=b)/\b ≠ X.env.locals/\(∀ x c,X.env.cells.lookup x=some c->c ≠ b)/\∀ p ∈ X.pn ++ pins,p.1 ≠ b):Inv X pins σ H' s':=by
 obtain ⟨h',g',d',t',o'⟩:=s'
 have e:o'=s.os:=ho
 subst e
 exact I.call (g':=g') (t':=t') (d':=d') u hok hg hch
end
abbrev XK:=Value->Option Addr->Hp->Prop
abbrev St:=List (Option V)
abbrev VK:=V->Hp->Prop
abbrev TE:=St->Hp->VK->Prop
abbrev TT:=St->Hp->(Bool->Hp->Prop)->Prop
abbrev TA:=St->Hp->(List V->Hp->Prop)->Prop
structure ld where
 nx:St->Hp->Prop
 rt:VK
 bk:St->Hp->Prop:=fun _ _=>False
 ct:St->Hp->Prop:=fun _ _=>False
abbrev TS:=ld->St->Hp->Prop
def EP (X:Cx) (pins:List (Addr × Obj)) (σ:St) (Q:VK) (u:Value) (s':Shared):Prop:=∃ v H',Inv X pins σ H' s'/\RelV v u/\Q v H'
def TP (X:Cx) (pins:List (Addr × Obj)) (σ:St) (Q:Bool->Hp->Prop) (b:Bool) (s':Shared):Prop:=∃ H',Inv X pins σ H' s'/\Q b H'
def AP (X:Cx) (pins:List (Addr × Obj)) (σ:St) (Q:List V->Hp->Prop) (us:List Value) (s':Shared):Prop:=∃ vs H',Inv X pins σ H' s'/\Vals vs us/\Q vs H'
def SP (X:Cx) (pins:List (Addr × Obj)) (D:ld) (f:Flow) (s':Shared):Prop :=
 match f with
 | .next=>∃ σ' H',Inv X pins σ' H' s'/\D.nx σ' H'
 | .brk=>∃ σ' H',Inv X pins σ' H' s'/\D.bk σ' H'
 | .cont=>∃ σ' H',Inv X pins σ' H' s'/\D.ct σ' H'
 | .ret u=>∃ v σ' H',Inv X pins σ' H' s'/\RelV v u/\D.rt v H'
def PE (X:Cx) (e:Expr) (t:TE):Prop :=
 ∀ (pins:List (Addr × Obj)) (s:Shared) (σ:St) (H:Hp) (Q:VK),Inv X pins σ H s->t σ H Q->wpAny (model X.prog X.w) X.A (eval e X.env) (EP X pins σ Q) X.xe s
def PT (X:Cx) (e:Expr) (t:TT):Prop :=
 ∀ (pins:List (Addr × Obj)) (s:Shared) (σ:St) (H:Hp) (Q:Bool->Hp->Prop),Inv X pins σ H s->t σ H Q->wpAny (model X.prog X.w) X.A (isTrue e X.env (eval e X.env)) (TP X pins σ Q) X.xe s
def PW (X:Cx) (e:Expr) (t:TT):Prop :=
 ∀ (whole:Sem Value) (pins:List (Addr × Obj)) (s:Shared) (σ:St) (H:Hp) (Q:Bool->Hp->Prop),Inv X pins σ H s->t σ H Q->wpAny (model X.prog X.w) X.A (isTrue e X.env whole) (TP X pins σ Q) X.xe s
theorem PW.pt {X:Cx} {e:Expr} {t:TT} (h:PW X e t):PT X e t:=h _
def PA (X:Cx) (es:List Expr) (t:TA):Prop :=
 ∀ (pos:Pos) (pins:List (Addr × Obj)) (s:Shared) (σ:St) (H:Hp) (Q:List V->Hp->Prop),Inv X pins σ H s->t σ H Q->wpAny (model X.prog X.w) X.A (spliced (backTo pos (starEach es X.env))) (AP X pins σ Q) X.xe s
def PS (X:Cx) (st:Stmt) (t:TS):Prop :=
 ∀ (pins:List (Addr × Obj)) (s:Shared) (σ:St) (H:Hp) (D:ld),Inv X pins σ H s->t D σ H->wpAny (model X.prog X.w) X.A (exec st X.env) (SP X pins D) X.xe s
def PSs (X:Cx) (st:List Stmt) (t:TS):Prop :=
 ∀ (pins:List (Addr × Obj)) (s:Shared) (σ:St) (H:Hp) (D:ld),Inv X pins σ H s->t D σ H->wpAny (model X.prog X.w) X.A (execs st X.env) (SP X pins D) X.xe s
theorem thn {α:Type} {t:Sem α} {Q Q':α->Shared->Prop} {M:Model} {A:Around} {E:Value->Shared->Prop} {s:Shared} (h:wpAny M A t Q E s) (hQ:∀ a s,Q a s->Q' a s):wpAny M A t Q' E s:=wpAny_mono h hQ fun _ _ x=>x
end L2
namespace L2
open PySem PySem.Spec PyProof.Rows
section
variable {X:Cx}
def fy (i:Nat):TE:=fun σ H Q=>∃ v,σ[i]?=some (some v)/\Q v H
def tC (v:V):TE:=fun _ H Q=>Q v H
theorem C4 {i:Nat} {x:Str} {pos:Pos} (hN:X.N[i]?=some x) (hv:Vis X.env.scope x) (hd:(x == ("__debug__":Str))=false:=by decide) (hcd:(x == ("__classdict__":Str))=false:=by decide):PE X (.Name x pos) (fy i):=by
 intro pins s σ H Q I h
 obtain ⟨v,e,h⟩:=h
 obtain ⟨m,hn,hl⟩:=I.loc
 obtain ⟨u,r,l⟩:=hl i x v hN e hv
 have fin:EP X pins σ Q u s:=⟨v,H,I,r,h⟩
 rcases l with ⟨hk,hm⟩ | ⟨hk,c,hc,hcell⟩
 ·exact wpAny_Name (wpAny_loadName_local I.ok.kind hk hn hm fin) hd
 ·rcases hk with hk | hk
  ·exact wpAny_Name (wpAny_loadName_cell I.ok.kind hk hc hcell fin) hd
  ·exact wpAny_Name (wpAny_loadName_free I.ok.kind hk hc hcell fin hcd) hd
theorem Da {i j pos}:PE X (.Constant (.int i) j pos) (tC (.int i)):=fun _ _ _ H _ I h=>wpAny_Constant_int ⟨.int i,H,I.tok _,⟨_,rfl⟩,h⟩
theorem B0 {b j pos}:PE X (.Constant (.bool b) j pos) (tC (.bl b)):=fun _ _ _ H _ I h=>Constant_bool ⟨.bl b,H,I,rfl,h⟩
theorem C9 {j pos}:PE X (.Constant .none j pos) (tC .non):=fun _ _ _ H _ I h=>Constant_none ⟨.non,H,I,rfl,h⟩
def Gl (X:Cx) (x:Str):Prop:=X.env.kindOf x=some .globalImplicit
theorem iL {E:Value->Shared->Prop} {pins:List (Addr × Obj)} {s:Shared} {σ:St} {H:Hp} {x:Str} {u:Value} {pos:Pos} {Q:Value->Shared->Prop} (I:Inv X pins σ H s) (hg:Gl X x) (hm:X.mg x=some u) (h:Q u s)
  (hd:(x == ("__debug__":Str))=false:=by decide):wpAny (model X.prog X.w) X.A (eval (.Name x pos) X.env) Q E s :=
 Calls.Name_function_global I.ok.kind hg (Calls.loadGlobal_global (by rw [I.ok.glob];exact I.mod.glob.keeps I.bk) hm h) hd
theorem j8 {E:Value->Shared->Prop} {pins:List (Addr × Obj)} {s:Shared} {σ:St} {H:Hp} {x:Str} {u:Value} {pos:Pos} {Q:Value->Shared->Prop} (I:Inv X pins σ H s) (hg:Gl X x) (hm:X.mg x=none) (hv:bootBuiltins x=some u) (h:Q u s)
  (hn:x ≠ "__name__":=by decide) (hd:(x == ("__debug__":Str))=false:=by decide):wpAny (model X.prog X.w) X.A (eval (.Name x pos) X.env) Q E s:=by
 obtain ⟨mb,h1,h2⟩:=I.mod.blt
 exact Calls.Name_function_global I.ok.kind hg (Calls.loadGlobal_builtin (by rw [I.ok.glob];exact I.mod.glob.keeps I.bk) hm (by rw [I.ok.blt];exact h1.keeps I.bk) ((h2 x hn).trans hv) h) hd
theorem AG {x:Str} {v:V} {u:Value} {pos:Pos} (hg:Gl X x) (hm:X.mg x=some u) (r:RelV v u) (hd:(x == ("__debug__":Str))=false:=by decide):PE X (.Name x pos) (tC v) :=
 fun _ _ _ H _ I h=>iL I hg hm ⟨v,H,I,r,h⟩ hd
variable {a b:Expr} {ta tb:TE} {pos:Pos}
def PC (X:Cx) (op:CmpOp) (a b:Expr) (t:TE):Prop :=
 ∀ (pins:List (Addr × Obj)) (s:Shared) (σ:St) (H:Hp) (Q:VK),Inv X pins σ H s->t σ H Q ->
  wpAny (model X.prog X.w) X.A (eval a X.env) (fun v s₁=>wpAny (model X.prog X.w) X.A (eval b X.env) (fun u s₂=>wpAny (model X.prog X.w) X.A (compareOp op v u) (EP X pins σ Q) X.xe s₂) X.xe s₁) X.xe s
theorem yE (b:Expr) {op:CmpOp} (h:op ≠ .In) (h2:op ≠ .NotIn):behindInMarks op b=false:=by
 have e1:(op == CmpOp.In)=false:=by cases op <;> first | rfl | exact absurd rfl h
 have e2:(op == CmpOp.NotIn)=false:=by cases op <;> first | rfl | exact absurd rfl h2
 cases b <;> simp [behindInMarks,e1,e2]
def FI (ta:TE):TE:=fun σ H Q=>ta σ H fun x H1=>Q (.bl (decide (x=.non))) H1
def Eo (ta:TE):TE:=fun σ H Q=>ta σ H fun x H1=>Q (.bl (!decide (x=.non))) H1
theorem RelV.none_iff {x:V} {v:Value} (r:RelV x v):(v == Value.none)=decide (x=.non):=by
 cases x with
 | non=>cases r;rfl
 | bl _=>cases r;rfl
 | int _=>obtain ⟨t,rfl⟩:=r;rfl
 | str _=>obtain ⟨t,rfl⟩:=r;rfl
 | byt _=>obtain ⟨t,rfl⟩:=r;rfl
 | flt _=>obtain ⟨t,rfl⟩:=r;rfl
 | ref _=>cases r;rfl
 | ty _=>cases r;rfl
theorem Dd {j pos'} (ha:PE X a ta):PC X .Is a (.Constant .none j pos') (FI ta):=by
 intro pins s σ H Q I h
 refine thn (ha pins s σ H _ I h) fun v s1 ⟨x,H1,I1,r1,q1⟩=>?_
 exact Constant_none (is_none_gen ⟨.bl _,H1,I1,by rw [r1.none_iff];rfl,q1⟩)
theorem AI {j pos'} (ha:PE X a ta):PC X .IsNot a (.Constant .none j pos') (Eo ta):=by
 intro pins s σ H Q I h
 refine thn (ha pins s σ H _ I h) fun v s1 ⟨x,H1,I1,r1,q1⟩=>?_
 exact Constant_none (isnot_none_gen ⟨.bl _,H1,I1,by rw [r1.none_iff];rfl,q1⟩)
def tB (t:TE):TT:=fun σ H Q=>t σ H fun x H1=>∃ c,x=.bl c/\Q c H1
theorem yg {op:CmpOp} {t:TE} (h:PC X op a b t) (h1:behindInMarks op b=false:=by first | exact yE _ (by decide) (by decide) | rfl):PT X (.Compare a [op] [b] pos) (tB t):=by
 intro pins s σ H Q I hw
 refine wpAny_isTrue_Compare1 (thn (h pins s σ H _ I hw) fun v s1 h1=>thn h1 fun u s2 h2=>thn h2 fun c s3 ⟨x,H1,I1,r1,q1⟩=>?_) h1
 obtain ⟨d,rfl,q⟩:=q1
 cases r1
 exact wpAny_truthy_bool ⟨H1,I1,q⟩
theorem CY {e:Expr} {t:TE} (h:PE X e t) (he:∀ whole,isTrue e X.env whole=(do let v <- whole;standAt e.pos;holding [v] (truthy v)):=by intro _;rfl):PT X e (tB t):=by
 intro pins s σ H Q I hw
 refine isTrue_plain (thn (h pins s σ H _ I hw) fun v s1 ⟨x,H1,I1,r1,q1⟩=>?_) (he _)
 obtain ⟨d,rfl,q⟩:=q1
 cases r1
 exact wpAny_truthy_bool ⟨H1,I1,q⟩
variable {tA tB':TT} {rest:List Expr}
def FL (t u:TT):TT:=fun σ H Q=>t σ H fun c H1=>if c=true then u σ H1 Q else Q false H1
def tOr (t u:TT):TT:=fun σ H Q=>t σ H fun c H1=>if c=true then Q true H1 else u σ H1 Q
def FF (t:TT):TT:=fun σ H Q=>t σ H fun c H1=>Q (!c) H1
theorem Au (ha:PT X a tA):PW X (.BoolOp .And [a] pos) tA:=by
 intro wh pins s σ H Q I h
 refine isTrue_and (thn (ha pins s σ H Q I h) fun c s1 e=>?_)
 cases c with
 | true=>exact isTrue_and_nil e
 | false=>exact e
theorem CM (ha:PT X a tA):PW X (.BoolOp .Or [a] pos) tA:=by
 intro wh pins s σ H Q I h
 refine isTrue_or (thn (ha pins s σ H Q I h) fun c s1 e=>?_)
 cases c with
 | false=>exact isTrue_or_nil e
 | true=>exact e
theorem CN (ha:PT X a tA) (hb:PW X (.BoolOp .And (b :: rest) pos) tB'):PW X (.BoolOp .And (a :: b :: rest) pos) (FL tA tB'):=by
 intro wh pins s σ H Q I h
 refine isTrue_and (thn (ha pins s σ H _ I h) fun c s1 ⟨H1,I1,q1⟩=>?_)
 cases c with
 | true=>exact hb wh pins s1 σ H1 Q I1 q1
 | false=>exact ⟨H1,I1,q1⟩
theorem EF (ha:PT X a tA) (hb:PW X (.BoolOp .Or (b :: rest) pos) tB'):PW X (.BoolOp .Or (a :: b :: rest) pos) (tOr tA tB'):=by
 intro wh pins s σ H Q I h
 refine isTrue_or (thn (ha pins s σ H _ I h) fun c s1 ⟨H1,I1,q1⟩=>?_)
 cases c with
 | true=>exact ⟨H1,I1,q1⟩
 | false=>exact hb wh pins s1 σ H1 Q I1 q1
theorem CZ (ha:PT X a tA):PT X (.UnaryOp .Not a pos) (FF tA):=by
 intro pins s σ H Q I h
 exact isTrue_not (ha pins s σ H (fun c H1=>Q (!c) H1) I h)
def Eu (ta tb:TE):TE:=fun σ H Q=>ta σ H fun x H1=>∃ c,x=.bl c/\if c=true then tb σ H1 Q else Q (.bl false) H1
def En (ta:TE):TE:=fun σ H Q=>ta σ H fun x H1=>∃ c,x=.bl c/\Q (.bl (!c)) H1
theorem C7 {op} {t:TE} (h:PE X a t):PE X (.BoolOp op [a] pos) t:=fun pins s σ H Q I hw=>BoolOp_one (h pins s σ H Q I hw)
theorem Dc (ha:PE X a ta) (hb:PE X (.BoolOp .And (b :: rest) pos) tb):PE X (.BoolOp .And (a :: b :: rest) pos) (Eu ta tb):=by
 intro pins s σ H Q I h
 refine BoolOp_and (thn (ha pins s σ H _ I h) fun v s1 ⟨x,H1,I1,r1,q1⟩=>?_)
 obtain ⟨c,rfl,q1⟩:=q1
 cases r1
 refine wpAny_truthy_bool ?_
 cases c with
 | true=>exact hb pins s1 σ H1 Q I1 q1
 | false=>exact ⟨.bl false,H1,I1,rfl,q1⟩
theorem C8 (ha:PE X a ta):PE X (.UnaryOp .Not a pos) (En ta):=by
 intro pins s σ H Q I h
 refine UnaryOp_ (thn (ha pins s σ H _ I h) fun v s1 ⟨x,H1,I1,r1,q1⟩=>?_)
 obtain ⟨c,rfl,q1⟩:=q1
 cases r1
 exact not_of (wpAny_truthy_bool ⟨.bl (!c),H1,I1,rfl,q1⟩)
end
end L2
namespace L2
open PySem PySem.Spec PyProof.Rows
def SqL (K:Frag) (H:Hp) (a:Addr) (xs:List V):Prop :=
 Rd H a (.lst xs) \/
  ∃ (o:Obj) (its:Array Value) (n:Nat),K.lookup a=some o/\o.cls=.type "list"/\o.dict=none/\o.data=.seq its n/\its.size<=sizeLine/\Vals xs its.toList
def SqT (K:Frag) (H:Hp) (a:Addr) (xs:List V):Prop :=
 Rd H a (.tup xs) \/
  ∃ (o:Obj) (its:Array Value) (n:Nat),K.lookup a=some o/\o.cls=.type "tuple"/\o.data=.seq its n/\its.size<=sizeLine/\Vals xs its.toList
def Gg:Value->Option V
 | .none=>some .non
 | .bool b=>some (.bl b)
 | .int i _=>some (.int i)
 | .str x _=>some (.str x)
 | .bytes b _=>some (.byt b)
 | .float b _=>some (.flt b)
 | .ref a=>some (.ref a)
 | .type n=>some (.ty n)
 | _=>none
theorem RelV.abs {x:V} {u:Value} (r:RelV x u):Gg u=some x:=by
 cases x with
 | non=>cases r;rfl
 | bl _=>cases r;rfl
 | int _=>obtain ⟨t,rfl⟩:=r;rfl
 | str _=>obtain ⟨t,rfl⟩:=r;rfl
 | byt _=>obtain ⟨t,rfl⟩:=r;rfl
 | flt _=>obtain ⟨t,rfl⟩:=r;rfl
 | ref _=>cases r;rfl
 | ty _=>cases r;rfl
theorem RelV.inj {x y:V} {u:Value} (r:RelV x u) (q:RelV y u):x=y:=Option.some.inj (r.abs.symm.trans q.abs)
theorem Vals.inj:∀ {xs ys:List V} {us:List Value},Vals xs us->Vals ys us->xs=ys
 | _,_,_,.nil,.nil=>rfl
 | _,_,_,.cons r t,.cons r' t'=>by rw [r.inj r',Vals.inj t t']
section
variable {X:Cx} {pins:List (Addr × Obj)} {σ:St} {H:Hp} {s:Shared} {a:Addr} {xs ys:List V}
theorem SqL.of {K:Frag} (h:H a=some (.lst xs)):SqL K H a xs:=.inl (.inl h)
theorem SqT.of {K:Frag} (h:H a=some (.tup xs)):SqT K H a xs:=.inl (.inl h)
theorem Inv.list (I:Inv X pins σ H s) (h:SqL X.K H a xs):∃ its:List Value,Vals xs its/\PlainL s.heap a its.toArray/\xs.length<=sizeLine:=by
 rcases h with h | ⟨o,its,n,hk,hc,hd,hs,hz,r⟩
 ·obtain ⟨z,its,n,r,e⟩:=h.ok I.hok
  exact ⟨its,r,⟨_,n,e,rfl,rfl,rfl⟩,z⟩
 ·refine ⟨its.toList,r,⟨o,n,I.kIn a o hk,hc,hd,by simpa using hs⟩,?_⟩
  have e:=r.length
  simp only [Array.length_toList] at e
  omega
theorem Inv.tuple (I:Inv X pins σ H s) (h:SqT X.K H a xs):∃ its:List Value,Vals xs its/\IsTup s.heap a its.toArray/\xs.length<=sizeLine:=by
 rcases h with h | ⟨o,its,n,hk,hc,hs,hz,r⟩
 ·obtain ⟨z,its,r,p⟩:=h.ok I.hok
  exact ⟨its,r,p,z⟩
 ·refine ⟨its.toList,r,⟨o,I.kIn a o hk,hc,n,by simpa using hs⟩,?_⟩
  have e:=r.length
  simp only [Array.length_toList] at e
  omega
theorem Inv.list_inj (I:Inv X pins σ H s) (h:SqL X.K H a xs) (h':SqL X.K H a ys):xs=ys:=by
 obtain ⟨its,r,⟨o,n,e,_,_,d⟩,_⟩:=I.list h
 obtain ⟨its',r',⟨o',n',e',_,_,d'⟩,_⟩:=I.list h'
 rw [e] at e';cases e'
 rw [d] at d'
 injection d' with d1 _
 have:its=its':=by simpa using congrArg Array.toList d1
 subst this
 exact r.inj r'
theorem Inv.tuple_inj (I:Inv X pins σ H s) (h:SqT X.K H a xs) (h':SqT X.K H a ys):xs=ys:=by
 obtain ⟨its,r,⟨o,e,_,n,d⟩,_⟩:=I.tuple h
 obtain ⟨its',r',⟨o',e',_,n',d'⟩,_⟩:=I.tuple h'
 rw [e] at e';cases e'
 rw [d] at d'
 injection d' with d1 _
 have:its=its':=by simpa using congrArg Array.toList d1
 subst this
 exact r.inj r'
end
abbrev Cx.wish (X:Cx) (E:Value->Shared->Prop):Cx:={ X with xe:=E }
abbrev Cx.nox (X:Cx):Cx:=X.wish fun _ _=>False
theorem Cx.Ok.wish {X:Cx} (ok:X.Ok) (E:Value->Shared->Prop):(X.wish E).Ok :=
 ⟨ok.mod,ok.kind,ok.glob,ok.blt,ok.above,ok.inj,ok.has,ok.cab,ok.hd,ok.frames,ok.stk,ok.exf,ok.bs,ok.bsz,ok.noex,ok.exfs,ok.funs,ok.frf⟩
theorem Cx.Ok.unwish {X:Cx} {E:Value->Shared->Prop} (ok:(X.wish E).Ok):X.Ok :=
 ⟨ok.mod,ok.kind,ok.glob,ok.blt,ok.above,ok.inj,ok.has,ok.cab,ok.hd,ok.frames,ok.stk,ok.exf,ok.bs,ok.bsz,ok.noex,ok.exfs,ok.funs,ok.frf⟩
section
variable {X:Cx} {pins:List (Addr × Obj)} {σ:St} {H:Hp} {s:Shared} {E:Value->Shared->Prop}
theorem Inv.wish (I:Inv X pins σ H s) (E:Value->Shared->Prop):Inv (X.wish E) pins σ H s:=⟨I.ok.wish E,I.os,I.bare,I.base,I.loc,I.cell,I.free,I.freeC,I.pin,I.hok,I.len⟩
theorem Inv.unwish (I:Inv (X.wish E) pins σ H s):Inv X pins σ H s:=⟨I.ok.unwish,I.os,I.bare,I.base,I.loc,I.cell,I.free,I.freeC,I.pin,I.hok,I.len⟩
theorem SP.unwish {D:ld} {f:Flow} {s':Shared} (h:SP (X.wish E) pins D f s'):SP X pins D f s':=by
 cases f with
 | next=>obtain ⟨σ',H',I,q⟩:=h;exact ⟨σ',H',I.unwish,q⟩
 | brk=>obtain ⟨σ',H',I,q⟩:=h;exact ⟨σ',H',I.unwish,q⟩
 | cont=>obtain ⟨σ',H',I,q⟩:=h;exact ⟨σ',H',I.unwish,q⟩
 | ret u=>obtain ⟨v,σ',H',I,r,q⟩:=h;exact ⟨v,σ',H',I.unwish,r,q⟩
theorem PSs.nox {st:List Stmt} {t:TS} (h:PSs X.nox st t):PSs X st t:=fun pins s σ H D I hw =>
 wpAny_mono (h pins s σ H D (I.wish _) hw) (fun _ _ q=>q.unwish) fun _ _ z=>False.elim z
end
section
variable {X:Cx} {st:Stmt} {rest:List Stmt} {t u:TS} {e:Expr} {te:TE} {pos:Pos}
def Ep:TS:=fun D σ H=>D.nx σ H
def Ac (t u:TS):TS:=fun D σ H=>t { D with nx:=u D } σ H
theorem Av:PSs X [] Ep:=fun _ _ σ H _ I h=>wpAny_execs_nil ⟨σ,H,I,h⟩
theorem jh (h1:PS X st t) (h2:PSs X rest u):PSs X (st :: rest) (Ac t u):=by
 intro pins s σ H D I h
 refine wpAny_execs_cons (thn (h1 pins s σ H { D with nx:=u D } I h) fun f s1 q=>?_)
 cases f with
 | next =>
  obtain ⟨σ',H',I',q⟩:=q
  exact h2 pins s1 σ' H' D I' q
 | ret v=>exact q
 | brk=>exact q
 | cont=>exact q
theorem m8 (h1:PS X st t):PSs X [st] t:=by
 intro pins s σ H D I h
 refine wpAny_execs_cons (thn (h1 pins s σ H D I h) fun f s1 q=>?_)
 cases f with
 | next=>exact wpAny_execs_nil q
 | ret v=>exact q
 | brk=>exact q
 | cont=>exact q
theorem Inv.quiet {pins:List (Addr × Obj)} {σ:St} {H:Hp} {s:Shared} (I:Inv X pins σ H s):interactive X.env=false:=by simp [interactive,I.ok.kind]
def nF (te:TE):TS:=fun D σ H=>te σ H fun _ H1=>D.nx σ H1
theorem kB (he:PE X e te) (hs:swapsWith e none pos.line X.env=pure false:=by rfl):PS X (.Expr e pos) (nF te):=by
 intro pins s σ H D I h
 exact wpAny_Expr_any (thn (he pins s σ H _ I h) fun v s1 ⟨x,H1,I1,r1,q1⟩=>⟨σ,H1,I1,q1⟩) I.quiet hs
def FE (te:TE):TS:=fun D σ H=>te σ H D.rt
theorem yk (he:PE X e te):PS X (.Return (some e) pos) (FE te):=by
 intro pins s σ H D I h
 exact wpAny_Return_some (thn (he pins s σ H _ I h) fun v s1 ⟨x,H1,I1,r1,q1⟩=>⟨x,σ,H1,I1,r1,q1⟩)
def FJ (c:TT) (t u:TS):TS:=fun D σ H=>c σ H fun b H1=>if b=true then t D σ H1 else u D σ H1
theorem EL {c:Expr} {a b:List Stmt} {tc:TT} (hc:PT X c tc) (ha:PSs X a t) (hb:PSs X b u):PS X (.If c a b pos) (FJ tc t u):=by
 intro pins s σ H D I h
 refine wpAny_If (thn (hc pins s σ H _ I h) fun d s1 ⟨H1,I1,q1⟩=>?_)
 cases d with
 | true=>exact ha pins s1 σ H1 D I1 q1
 | false=>exact hb pins s1 σ H1 D I1 q1
def CA:TS:=fun _ _ _=>False
theorem yl:PS X st CA:=fun _ _ _ _ _ _ h=>h.elim
end
abbrev TG:=V->St->Hp->(St->Hp->Prop)->Prop
abbrev TGs:=List V->St->Hp->(St->Hp->Prop)->Prop
def PG (X:Cx) (target:Expr) (t:TG):Prop :=
 ∀ (pins:List (Addr × Obj)) (s:Shared) (σ:St) (H:Hp) (v:V) (u:Value) (Q:St->Hp->Prop),Inv X pins σ H s->RelV v u->t v σ H Q ->
  wpAny (model X.prog X.w) X.A (assign target X.env u) (fun _ s'=>∃ σ' H',Inv X pins σ' H' s'/\Q σ' H') X.xe s
def PGs (X:Cx) (ts:List Expr) (t:TGs):Prop :=
 ∀ (pins:List (Addr × Obj)) (s:Shared) (σ:St) (H:Hp) (vs:List V) (us:List Value) (Q:St->Hp->Prop),Inv X pins σ H s->Vals vs us->t vs σ H Q ->
  wpAny (model X.prog X.w) X.A (assignInOrder ((assignEach ts X.env).map (·.2)) us) (fun _ s'=>∃ σ' H',Inv X pins σ' H' s'/\Q σ' H') X.xe s
abbrev BP:=V->V->V->Hp->(Hp->Prop)->Prop
def D7 (X:Cx) (t:BP):Prop :=
 ∀ (pins:List (Addr × Obj)) (s:Shared) (σ:St) (H:Hp) (o i v:V) (ov iv u:Value) (Q:Hp->Prop),Inv X pins σ H s->RelV o ov->RelV i iv->RelV v u->t o i v H Q ->
  wpAny (model X.prog X.w) X.A (setItem ov iv u) (fun _ s'=>∃ H',Inv X pins σ H' s'/\Q H') X.xe s
section
variable {X:Cx} {pos:Pos}
def i6 (i:Nat):TG:=fun v σ H Q=>Q (σ.set i (some v)) H
theorem aL {i:Nat} {x:Str} (hN:X.N.Nodup) (hi:X.N[i]?=some x) (hx:Loc X.env.scope x) (hf:X.fn x=true\/X.env.scope.names.lookup x=some .local:=by first | exact .inl rfl | exact .inr rfl | assumption):PG X (.Name x pos) (i6 i):=by
 intro pins s σ H v u Q I r h
 exact wpAny_assign_Name (sC I hN hi hx r (fun s' I'=>⟨_,H,I',h⟩) hf)
def FV:TGs:=fun vs σ H Q=>vs=[]/\Q σ H
def E6 (t:TG) (u:TGs):TGs:=fun vs σ H Q=>∃ v r,vs=v :: r/\t v σ H fun σ' H'=>u r σ' H' Q
theorem AE:PGs X [] FV:=by
 intro pins s σ H vs us Q I r h
 obtain ⟨e,h⟩:=h
 subst e
 cases r
 exact assignInOrder_nil ⟨σ,H,I,h⟩
theorem sP {e:Expr} {es:List Expr} {t:TG} {u:TGs} (h1:PG X e t) (h2:PGs X es u)
  (hs:(assignEach (e :: es) X.env).map (·.2)=assign e X.env :: (assignEach es X.env).map (·.2):=by rfl):PGs X (e :: es) (E6 t u):=by
 intro pins s σ H vs us Q I r h
 obtain ⟨v,vr,e1,h⟩:=h
 subst e1
 cases r with
 | cons r rr =>
  rw [hs]
  refine assignInOrder_cons (thn (h1 pins s σ H _ _ _ I r h) fun _ s1 ⟨σ1,H1,I1,q1⟩=>?_)
  exact h2 pins s1 σ1 H1 _ _ Q I1 rr q1
def FT (K:Frag) (n:Nat) (t:TGs):TG:=fun v σ H Q=>∃ a xs,v=.ref a/\SqT K H a xs/\xs.length=n/\t xs σ H Q
theorem C3 {es:List Expr} {k:Nat} {t:TGs} {n:Nat} (hc:X.calm=true) (h:PGs X es t)
  (hn:(assignEach es X.env).length=n:=by rfl) (hst:(assignEach es X.env).findIdx? (·.1)=none:=by rfl):PG X (.Tuple es k pos) (FT X.K n t):=by
 intro pins s σ H v u Q I r hw
 obtain ⟨a,xs,e1,hq,hl,hw⟩:=hw
 subst e1
 cases r
 obtain ⟨its,rv,ht,hz⟩:=I.tuple hq
 refine assign_Tuple_tuple (I.ok.hd hc) ht (by simp [hn,<- hl,rv.length]) hst fun h' hx=>?_
 have I1:Inv X pins σ H { s with heap:=h' }:=I.kept (t':=s.toks) fun b o e=>hx b o (Nat.ne_of_lt (Heap.lt_size e)) e
 exact h pins _ σ H xs _ Q I1 (by simpa using rv) hw
def FU (to ti:TE) (t:BP):TG:=fun v σ H Q=>to σ H fun o H1=>ti σ H1 fun i H2=>t o i v H2 fun H3=>Q σ H3
theorem uG {o i:Expr} {to ti:TE} {t:BP} (ho:PE X o to) (hi:PE X i ti) (hs:D7 X t)
  (ha:∀ v,assign (.Subscript o i pos) X.env v=(do
   let ov <- holding [v] (eval o X.env)
   let iv <- holding [v,ov] (eval i X.env)
   standAt pos
   holding [v,ov,iv] (setItem ov iv v)
   release [v,ov,iv] []):=by intro _;rfl):PG X (.Subscript o i pos) (FU to ti t):=by
 intro pins s σ H v u Q I r h
 rw [ha]
 refine wpAny_bind (wpAny_holding (thn (ho pins s σ H _ I h) fun ov s1 ⟨x,H1,I1,r1,q1⟩=>?_))
 refine wpAny_bind (wpAny_holding (thn (hi pins s1 σ H1 _ I1 q1) fun iv s2 ⟨y,H2,I2,r2,q2⟩=>?_))
 refine wpAny_bind (wpAny_standAt (wpAny_bind (wpAny_holding (thn (hs pins s2 σ H2 x y v ov iv u _ I2 r1 r2 r q2) fun _ s3 ⟨H3,I3,q3⟩=>?_))))
 exact wpAny_release ⟨σ,H3,I3,q3⟩
def uv (te:TE) (g:TG):TS:=fun D σ H=>te σ H fun x H1=>g x σ H1 D.nx
theorem qX {tg e:Expr} {te:TE} {g:TG} (he:PE X e te) (hg:PG X tg g) (hs:swapsWithSole [tg] e pos.line X.env=pure false:=by rfl) (hw:swappedStores [tg] e X.env=pure none:=by rfl)
  (h1:(assignEach [tg] X.env).map (·.2)=[assign tg X.env]:=by rfl):PS X (.Assign [tg] e pos) (uv te g):=by
 intro pins s σ H D I h
 refine wpAny_Assign_stores (thn (he pins s σ H _ I h) fun v s1 ⟨x,H1,I1,r1,q1⟩=>?_) hs hw
 rw [h1]
 exact thn (hg pins s1 σ H1 x v _ I1 r1 q1) fun _ s2 q=>q
theorem nS {i:Nat} {x:Str} {e:Expr} {te:TE} {pos':Pos} (hN:X.N.Nodup) (hi:X.N[i]?=some x) (hx:Loc X.env.scope x) (he:PE X e te) (hs:swapsWith e (some (.Name x pos')) pos.line X.env=pure false:=by rfl) (hf:X.fn x=true\/X.env.scope.names.lookup x=some .local:=by first | exact .inl rfl | exact .inr rfl | assumption) :
  PS X (.Assign [.Name x pos'] e pos) (uv te (i6 i)):=by
 intro pins s σ H D I h
 refine wpAny_Assign_Name (thn (he pins s σ H _ I h) fun v s1 ⟨y,H1,I1,r1,q1⟩=>?_) hs
 exact sC I1 hN hi hx r1 (fun s2 I2=>⟨_,H1,I2,q1⟩) hf
end
section
variable {X:Cx} {pos:Pos}
def Cz (c:TT) (tb:TS):TS:=fun D σ H=>∃ W:Nat->St->Hp->Prop,(∃ m,W m σ H)/\∀ m σ H,W m σ H ->
 c σ H fun b H1=>if b=true then ∃ N:St->Hp->Prop,(∀ σ' H',N σ' H'->∃ m',m' < m/\W m' σ' H')/\tb { D with nx:=N,ct:=N,bk:=D.nx } σ H1 else D.nx σ H1
theorem yi {c:Expr} {body:List Stmt} {tc:TT} {tb:TS} (hp:PassesOwn (model X.prog X.w) X.A X.env X.xe) (hc:PT X c tc) (hb:PSs X body tb):PS X (.While c body [] pos) (Cz tc tb):=by
 intro pins s σ H D I h
 obtain ⟨W,⟨m0,w0⟩,li⟩:=h
 refine wpAny_While (codeAny_whileLoop (fun n s'=>∃ σ' H',Inv X pins σ' H' s'/\W n σ' H') ?_ m0 ⟨σ,H,I,w0⟩)
 rintro n s1 ⟨σ1,H1,I1,w1⟩
 refine wpAny_passesOwn hp (thn (hc pins s1 σ1 H1 _ I1 (li n σ1 H1 w1)) fun b s2 ⟨H2,I2,q2⟩=>?_)
 cases b with
 | true =>
  obtain ⟨N,hN,q2⟩:=q2
  rw [if_pos rfl]
  refine wpAny_passesOwn hp (thn (hb pins s2 σ1 H2 _ I2 q2) fun f s3 q3=>?_)
  cases f with
  | next =>
   obtain ⟨σ3,H3,I3,n3⟩:=q3
   obtain ⟨m',hm,w3⟩:=hN σ3 H3 n3
   exact ⟨m',hm,σ3,H3,I3,w3⟩
  | cont =>
   obtain ⟨σ3,H3,I3,n3⟩:=q3
   obtain ⟨m',hm,w3⟩:=hN σ3 H3 n3
   exact ⟨m',hm,σ3,H3,I3,w3⟩
  | brk=>exact q3
  | ret v=>exact q3
 | false =>
  rw [if_neg Bool.false_ne_true]
  exact wpAny_execs_nil ⟨σ1,H2,I2,q2⟩
end
structure It where
 go:Nat->Hp->Prop
 yld:Nat->Hp->V->Hp->Prop
 stop:Nat->Hp->Prop
def p7 (X:Cx) (pins:List (Addr × Obj)) (H:Hp) (b:Addr):Prop :=
 H b=none/\b ≠ X.env.locals/\b ∉ X.fs/\(b ∈ X.ex\/X.s₀.heap.objs.size<=b)/\(∀ x c,X.env.cells.lookup x=some c->c ≠ b)/\∀ p ∈ X.pn ++ pins,p.1 ≠ b
theorem Inv.fpOk {X:Cx} {pins:List (Addr × Obj)} {σ:St} {H H':Hp} {s:Shared} {b:Addr} (I:Inv X pins σ H s) (hb:s.heap.objs.size<=b) (hn:H' b=none):p7 X pins H' b:=by
 refine ⟨hn,Nat.ne_of_gt (Nat.lt_of_lt_of_le I.lt hb),I.nofs hb,.inr (Nat.le_trans I.sz hb),fun x c e z=>?_,fun p hp z=>?_⟩
 ·obtain ⟨v,q⟩:=I.cell x c e
  exact absurd (Nat.lt_of_lt_of_le q.lt (by rw [z];exact hb)) (Nat.lt_irrefl _)
 ·exact absurd (Nat.lt_of_lt_of_le (Heap.lt_size (I.pin p hp).1) (by rw [z];exact hb)) (Nat.lt_irrefl _)
structure xA (P:Program) (w:World) (K:Frag) (tg:Expr) (J:It) (fp:List Addr) (it:Addr) (tn:Nat->Heap->Prop):Prop where
 mem:it ∈ fp
 obj:∀ i h,tn i h->∀ b ∈ fp,∃ o,h.get? b=some o/\∀ v,o.data ≠ .cell v
 keep:∀ i h h',tn i h->(∀ b ∈ fp,∀ o,h.get? b=some o->h'.get? b=some o)->tn i h'
 item:∀ (X:Cx),X.prog=P->X.w=w->X.K=K->X.calm=true->∀ (i:Nat) (pins:List (Addr × Obj)) (s:Shared) (σ:St) (H:Hp) (E:Value->Shared->Prop),Inv X pins σ H s->(∀ b ∈ fp,p7 X pins H b)->tn i s.heap->J.go i H ->
  wpAny (model P w) X.A (pyNext (.ref it)) (fun r s1=>∃ u,r=some u /\
   wpAny (model P w) X.A (letOwnedTupleGo tg (.ref it) u) (fun _ s2=>∃ x H',Inv X pins σ H' s2/\RelV x u/\J.yld i H x H'/\tn (i + 1) s2.heap/\∀ b ∈ fp,H' b=none) E s1) E s
 done:∀ (X:Cx),X.prog=P->X.w=w->X.K=K->X.calm=true->∀ (i:Nat) (pins:List (Addr × Obj)) (s:Shared) (σ:St) (H:Hp) (E:Value->Shared->Prop),Inv X pins σ H s->(∀ b ∈ fp,p7 X pins H b)->tn i s.heap->J.stop i H ->
  wpAny (model P w) X.A (pyNext (.ref it)) (fun r s1=>r=none/\Inv X pins σ H s1) E s
 self:∀ (A:Around) (i:Nat) (s:Shared) (Q:Value->Shared->Prop) (E:Value->Shared->Prop),tn i s.heap->Q (.ref it) s->wpAny (model P w) A (pyIter (.ref it)) Q E s
abbrev TI:=St->Hp->(It->Hp->Prop)->Prop
def PIE (X:Cx) (pins:List (Addr × Obj)) (σ:St) (tg:Expr) (R:It->Hp->Prop) (itv:Value) (s2:Shared):Prop :=
 ∃ (it:Addr) (fp:List Addr) (tn:Nat->Heap->Prop) (J:It) (H':Hp),itv=.ref it/\Inv X pins σ H' s2/\xA X.prog X.w X.K tg J fp it tn/\tn 0 s2.heap/\(∀ b ∈ fp,p7 X pins H' b)/\R J H'
def PI (X:Cx) (tg iter:Expr) (wi:TI):Prop :=
 ∀ (pins:List (Addr × Obj)) (s:Shared) (σ:St) (H:Hp) (R:It->Hp->Prop),Inv X pins σ H s->wi σ H R ->
  wpAny (model X.prog X.w) X.A (eval iter X.env) (fun v s1=>wpAny (model X.prog X.w) X.A (pyIter v) (PIE X pins σ tg R) X.xe s1) X.xe s
theorem y_ {M : Model} {A : Around} {E : Value -> Shared -> Prop} {s : Shared} {tg : Expr} {it : Addr} {u : Value} {o : Obj} {n : String} {vs : Array Value} {Q : Unit -> Shared -> Prop} (ho : s.heap.get? it = some o) (hc : o.cls = .type n) (hd : o.data = .fields vs)
    (hn : ["enumerate", "zip", "dict_itemiterator", "dict_reverseitemiterator", "odict_iterator", "itertools.zip_longest", "itertools.pairwise"].contains n = false) (hQ : Q () s) : wpAny M A (letOwnedTupleGo tg (.ref it) u) Q E s := by
  unfold letOwnedTupleGo
  cases tg <;> first
    | exact wpAny_pure hQ
    | (cases u <;> first
        | exact wpAny_pure hQ
        | (refine wpAny_bind (wpAny_load ho ?_)
           rw [hc, hd]
           show wpAny M A (if (["enumerate", "zip", "dict_itemiterator", "dict_reverseitemiterator", "odict_iterator", "itertools.zip_longest", "itertools.pairwise"].contains n && vs[0]? == some (rawInt _)) = true then _ else _) Q E s
           rw [if_neg (by intro h; rw [hn, Bool.false_and] at h; cases h)]
           exact wpAny_pure hQ))
def Itl (K:Frag) (a:Addr):It :=
 ⟨fun i H=>∃ xs x,SqL K H a xs/\xs[i]?=some x,fun i H x H'=>H'=H/\∀ xs,SqL K H a xs->xs[i]?=some x,fun i H=>∃ xs,SqL K H a xs/\xs.length<=i⟩
def Itt (K:Frag) (a:Addr):It :=
 ⟨fun i H=>∃ xs x,SqT K H a xs/\xs[i]?=some x,fun i H x H'=>H'=H/\∀ xs,SqT K H a xs->xs[i]?=some x,fun i H=>∃ xs,SqT K H a xs/\xs.length<=i⟩
def Itr (lo:Int) (n:Nat):It:=⟨fun i _=>i < n,fun i H x H'=>H'=H/\x=.int (lo + i),fun i _=>n<=i⟩
theorem p_ {P:Program} {w:World} {K:Frag} {tg:Expr} (a it:Addr):xA P w K tg (Itl K a) [it] it (fun i h=>h.IsListIter it a i) where
 mem:=by simp
 obj:=fun i h st b hb=>by
  have e:b=it:=by simpa using hb
  subst e
  obtain ⟨o,e,c,d⟩:=st
  exact ⟨o,e,fun v z=>by rw [d] at z;cases z⟩
 keep:=fun i h h' st k=>st.at fun o e=>k it (by simp) o e
 item:=by
  intro X hP hw hK hc i pins s σ H E I hf st hg
  subst hP hw hK
  obtain ⟨xs,x,hq,hx⟩:=hg
  obtain ⟨its,rv,p,hz⟩:=I.list hq
  obtain ⟨u,hu,ru⟩:=rv.get hx
  obtain ⟨f0,f1,f2,f3,f4,f5⟩:=hf it (by simp)
  refine wpAny_pyNext_list_item st p.isList (x:=u) (by simpa using hu) fun h' st' sb=>?_
  have I1:Inv X pins σ H { s with heap:=h' }:=I.turned (t':=s.toks) (fun b o hb e=>(sb.2 b hb).trans e) f0 f1 f3 f4 f5
  obtain ⟨o,e,c,d⟩:=id st'
  exact ⟨u,rfl,y_ (s:={ s with heap:=h' }) e c d (by decide) ⟨x,H,I1,ru,⟨rfl,fun ys hy=>by rw [I.list_inj hy hq];exact hx⟩,st',fun b hb=>(hf b hb).1⟩⟩
 done:=by
  intro X hP hw hK hc i pins s σ H E I hf st hg
  subst hP hw hK
  obtain ⟨xs,hq,hx⟩:=hg
  obtain ⟨its,rv,p,hz⟩:=I.list hq
  obtain ⟨f0,f1,f2,f3,f4,f5⟩:=hf it (by simp)
  have hl:=rv.length
  exact wpAny_pyNext_list_end (I.ok.hd hc) st p.isList (by simp;omega) fun h' eb=>⟨rfl,I.turned (t':=s.toks) (fun b o hb e=>eb b o hb e) f0 f1 f3 f4 f5⟩
 self:=fun _ _ _ _ _ st h=>wpAny_pyIter_listiter st h
theorem uk {P:Program} {w:World} {K:Frag} {tg:Expr} (a it:Addr):xA P w K tg (Itt K a) [it] it (fun i h=>h.IsTupleIter it a i) where
 mem:=by simp
 obj:=fun i h st b hb=>by
  have e:b=it:=by simpa using hb
  subst e
  obtain ⟨o,e,c,d⟩:=st
  exact ⟨o,e,fun v z=>by rw [d] at z;cases z⟩
 keep:=fun i h h' st k=>st.at fun o e=>k it (by simp) o e
 item:=by
  intro X hP hw hK hc i pins s σ H E I hf st hg
  subst hP hw hK
  obtain ⟨xs,x,hq,hx⟩:=hg
  obtain ⟨its,rv,p,hz⟩:=I.tuple hq
  obtain ⟨u,hu,ru⟩:=rv.get hx
  obtain ⟨f0,f1,f2,f3,f4,f5⟩:=hf it (by simp)
  refine wpAny_pyNext_tuple_item st (show s.heap.IsTuple a its.toArray from p) (x:=u) (by simpa using hu) fun h' st' sb=>?_
  have I1:Inv X pins σ H { s with heap:=h' }:=I.turned (t':=s.toks) (fun b o hb e=>(sb.2 b hb).trans e) f0 f1 f3 f4 f5
  obtain ⟨o,e,c,d⟩:=id st'
  exact ⟨u,rfl,y_ (s:={ s with heap:=h' }) e c d (by decide) ⟨x,H,I1,ru,⟨rfl,fun ys hy=>by rw [I.tuple_inj hy hq];exact hx⟩,st',fun b hb=>(hf b hb).1⟩⟩
 done:=by
  intro X hP hw hK hc i pins s σ H E I hf st hg
  subst hP hw hK
  obtain ⟨xs,hq,hx⟩:=hg
  obtain ⟨its,rv,p,hz⟩:=I.tuple hq
  obtain ⟨f0,f1,f2,f3,f4,f5⟩:=hf it (by simp)
  have hl:=rv.length
  exact wpAny_pyNext_tuple_end (I.ok.hd hc) st (show s.heap.IsTuple a its.toArray from p) (by simp;omega) fun h' eb=>⟨rfl,I.turned (t':=s.toks) (fun b o hb e=>eb b o hb e) f0 f1 f3 f4 f5⟩
 self:=fun _ _ _ _ _ st h=>wpAny_pyIter_tupleiter st h
theorem um {P:Program} {w:World} {K:Frag} {tg:Expr} (it:Addr) (lo:Int) (n:Nat):xA P w K tg (Itr lo n) [it] it (fun i h=>IsRangeIter h it (lo + (i:Nat) * 1) ((n:Int) - (i:Nat)) 1) where
 mem:=by simp
 obj:=fun i h st b hb=>by
  have e:b=it:=by simpa using hb
  subst e
  exact ⟨_,st,fun v z=>by
   have z':Data.fields _=Data.cell v:=z
   cases z'⟩
 keep:=fun i h h' st k=>k it (by simp) _ st
 item:=by
  intro X hP hw hK hc i pins s σ H E I hf st hg
  subst hP hw hK
  obtain ⟨f0,f1,f2,f3,f4,f5⟩:=hf it (by simp)
  have W:=Walks.range (prog:=X.prog) (w:=X.w) (I.ok.hd hc) it lo 1 n
  refine W.item i s _ _ hg st fun v h' tk hv st' kk=>?_
  obtain ⟨t,rfl⟩:=hv
  have I1:Inv X pins σ H { s with heap:=h',toks:=tk }:=I.turned (fun b o hb e=>kk b o (by simpa using hb) e) f0 f1 f3 f4 f5
  refine ⟨_,rfl,y_ (s:={ s with heap:=h',toks:=tk }) (n:="range_iterator") st' rfl rfl (by decide) ⟨.int (lo + i),H,I1,⟨t,?_⟩,⟨rfl,rfl⟩,st',fun b hb=>(hf b hb).1⟩⟩
  rw [Int.mul_one]
 done:=by
  intro X hP hw hK hc i pins s σ H E I hf st hg
  subst hP hw hK
  obtain ⟨f0,f1,f2,f3,f4,f5⟩:=hf it (by simp)
  exact wpAny_pyNext_range_end (I.ok.hd hc) st (by have:n<=i:=hg;omega) fun h' eb=>⟨rfl,I.turned (t':=s.toks) (fun b o hb e=>eb b o hb e) f0 f1 f3 f4 f5⟩
 self:=fun _ _ _ _ _ st h=>wpAny_pyIter_rangeiter st h
end L2
namespace L2
open PySem PySem.Spec PyProof.Rows
section
variable {X:Cx} {tg:Expr}
def E4 (K:Frag) (tl:TE):TI:=fun σ H R=>tl σ H fun x H1=>∃ a,x=.ref a/\(∃ xs,SqL K H1 a xs)/\R (Itl K a) H1
theorem AB {l:Expr} {tl:TE} (hl:PE X l tl):PI X tg l (E4 X.K tl):=by
 intro pins s σ H R I h
 refine thn (hl pins s σ H _ I h) fun v s1 ⟨x,H1,I1,r1,q1⟩=>?_
 obtain ⟨a,e,⟨xs,hq⟩,q⟩:=q1
 subst e
 cases r1
 obtain ⟨its,rv,p,hz⟩:=I1.list hq
 refine wpAny_pyIter_list p.isList ?_
 refine ⟨s1.heap.objs.size,[s1.heap.objs.size],_,_,H1,rfl,I1.kept (t':=s1.toks) fun b o e=>Heap.get?_push_of_some _ e,p_ a _,⟨_,Heap.get?_push_size _ rfl,rfl,rfl⟩,fun b hb=>?_,q⟩
 have e:b=s1.heap.objs.size:=by simpa using hb
 subst e
 exact I1.fpOk (Nat.le_refl _) (I1.hok.fresh (Nat.le_refl _))
theorem ye {pins:List (Addr × Obj)} {σ:St} {H:Hp} {s:Shared} {R:It->Hp->Prop} {E:Value->Shared->Prop} {lo hi:Int} {t u v:Tok} {tk:Nat} (I:Inv X pins σ H s) (h1:-(2 ^ 62)<=lo) (h2:lo < 2 ^ 62) (h3:-(2 ^ 62)<=hi) (h4:hi < 2 ^ 62)
  (q:R (Itr lo (hi - lo).toNat) H):wpAny (model X.prog X.w) X.A (pyIter (.ref s.heap.objs.size)) (PIE X pins σ tg R) E { s with heap:=s.heap.push { cls:=.type "range",data:=.fields #[.int lo t,.int hi u,.int 1 v] },toks:=tk }:=by
 refine wpAny_pyIter_range (IsRange.new ..) (small_one h1 h2 h3 h4) ?_
 have I1:Inv X pins σ H { s with heap:=s.heap.push { cls:=.type "range",data:=.fields #[.int lo t,.int hi u,.int 1 v] },toks:=tk }:=I.kept fun b o e=>Heap.get?_push_of_some _ e
 refine ⟨(s.heap.push { cls:=.type "range",data:=.fields #[.int lo t,.int hi u,.int 1 v] }).objs.size,[(s.heap.push { cls:=.type "range",data:=.fields #[.int lo t,.int hi u,.int 1 v] }).objs.size],_,_,H,rfl,
  I1.kept (t':=tk) fun b o e=>Heap.get?_push_of_some _ e,um _ lo (hi - lo).toNat,?_,fun b hb=>?_,q⟩
 ·have e1:lo + ((0:Nat):Int) * 1=lo:=by simp
  have e2:(((hi - lo).toNat:Nat):Int) - ((0:Nat):Int)=Builtin.Range.rangeSize lo hi 1:=by rw [rangeSize_one];split <;> omega
  show IsRangeIter _ _ (lo + ((0:Nat):Int) * 1) ((((hi - lo).toNat:Nat):Int) - ((0:Nat):Int)) 1
  rw [e1,e2]
  exact Heap.get?_push_size _ rfl
 ·have e:b=(s.heap.push { cls:=.type "range",data:=.fields #[.int lo t,.int hi u,.int 1 v] }).objs.size:=by simpa using hb
  subst e
  exact I1.fpOk (Nat.le_refl _) (I1.hok.fresh (Nat.le_refl _))
def E3 (ta:TA):TI:=fun σ H R=>ta σ H fun vs H1=>∃ j:Int,vs=[.int j]/\-(2 ^ 62)<=j/\j < 2 ^ 62/\R (Itr 0 j.toNat) H1
theorem wN {a:Expr} {ta:TA} {p pos:Pos} (hg:Gl X "range") (hm:X.mg "range"=none) (ha:PA X [a] ta) (hs:starEach [a] X.env=[(false,eval a X.env)]:=by rfl):PI X tg (.Call (.Name "range" p) [a] [] pos) (E3 ta):=by
 intro pins s σ H R I h
 refine Call_ (j8 I hg hm boot_range (PyProof.Rows.callWith_type1 (thn (ha pos pins s σ H _ I h) fun us s1 ⟨vs,H1,I1,r1,q1⟩=>?_) hs rfl))
 obtain ⟨j,e,q1,q2,q⟩:=q1
 subst e
 cases r1 with
 | cons r rr =>
  cases rr
  obtain ⟨t,rfl⟩:=r
  exact call_range_1 (ye I1 (by omega) (by omega) q1 q2 (by simpa using q))
def Er (wi:TI) (g:TG) (tb:TS):TS:=fun D σ H=>wi σ H fun J H1=>∃ W:Nat->Nat->St->Hp->Prop,(∃ m,W 0 m σ H1)/\∀ i m σ H,W i m σ H ->
 (J.stop i H/\D.nx σ H)\/(J.go i H/\∃ N:St->Hp->Prop,(∀ σ' H',N σ' H'->∃ m',m' < m/\W (i + 1) m' σ' H')/\∀ x H',J.yld i H x H'->g x σ H' fun σ2 H2=>tb { D with nx:=N,ct:=N,bk:=D.nx } σ2 H2)
def d8 (fp:List Addr) (h:Heap):List (Addr × Obj):=fp.filterMap fun b=>(h.get? b).map fun o=>(b,o)
theorem gz {fp:List Addr} {h:Heap} {b:Addr} {o:Obj} (hb:b ∈ fp) (e:h.get? b=some o):(b,o) ∈ d8 fp h:=List.mem_filterMap.mpr ⟨b,hb,by rw [e];rfl⟩
theorem jP {fp:List Addr} {h:Heap} {p:Addr × Obj} (hp:p ∈ d8 fp h):p.1 ∈ fp/\h.get? p.1=some p.2:=by
 obtain ⟨b,hb,e⟩:=List.mem_filterMap.mp hp
 cases q:h.get? b with
 | none=>rw [q] at e;cases e
 | some o =>
  rw [q] at e
  have e':(b,o)=p:=Option.some.inj e
  subst e'
  exact ⟨hb,q⟩
theorem Inv.pinned {pins:List (Addr × Obj)} {σ:St} {H:Hp} {s:Shared} {fp:List Addr} (I:Inv X pins σ H s) (hf:∀ b ∈ fp,p7 X pins H b) (ho:∀ b ∈ fp,∃ o,s.heap.get? b=some o/\∀ v,o.data ≠ .cell v):Inv X (pins ++ d8 fp s.heap) σ H s :=
 I.pins_of fun p hp=>(List.mem_append.mp hp).elim (fun z=>I.pin p (List.mem_append_right _ z)) fun z=>by
  obtain ⟨hb,e⟩:=jP z
  obtain ⟨f0,f1,f2,_⟩:=hf p.1 hb
  obtain ⟨o,e',d⟩:=ho p.1 hb
  rw [e] at e';cases e'
  exact ⟨e,f0,f1,f2,d⟩
theorem Inv.unpinned {pins pl:List (Addr × Obj)} {σ:St} {H:Hp} {s:Shared} (I:Inv X (pins ++ pl) σ H s):Inv X pins σ H s:=I.pins_of fun p hp=>I.pin p (List.mem_append_right _ (List.mem_append_left _ hp))
theorem ym {iter:Expr} {body:List Stmt} {wi:TI} {g:TG} {tb:TS} {pos:Pos} (hp:PassesOwn (model X.prog X.w) X.A X.env X.xe) (hc:X.calm=true) (hi:PI X tg iter wi) (hg:PG X tg g) (hb:PSs X body tb)
  (hs:∀ x,foldedSetIterable iter X.env x=pure x:=by intro _;rfl):PS X (.For tg iter body [] pos) (Er wi g tb):=by
 intro pins s σ H D I h
 refine wpAny_For (thn (hi pins s σ H _ I h) fun v s1 h1=>thn h1 fun itv s2 h2=>?_) hs
 obtain ⟨it,fp,tn,J,H2,e,I2,T,st2,f2,W,⟨m0,w0⟩,li⟩:=h2
 subst e
 have stat:∀ {H':Hp},(∀ b ∈ fp,H' b=none)->∀ b ∈ fp,p7 X pins H' b:=fun hn b hb=>⟨hn b hb,(f2 b hb).2⟩
 refine codeAny_forLoop_any (fun n s'=>∃ i σ' H',Inv X pins σ' H' s'/\tn i s'.heap/\(∀ b ∈ fp,H' b=none)/\W i n σ' H') ?_ m0 ⟨0,σ,H2,I2,st2,fun b hb=>(f2 b hb).1,w0⟩
 rintro n s3 ⟨i,σ3,H3,I3,st3,fr3,w3⟩
 rcases li i n σ3 H3 w3 with ⟨stop,qn⟩ | ⟨go,N,hN,step⟩
 ·refine wpAny_passesOwn hp (thn (T.done X rfl rfl rfl hc i pins s3 σ3 H3 X.xe I3 (stat fr3) st3 stop) fun r s4 ⟨hr,I4⟩=>?_)
  subst hr
  exact wpAny_execs_nil ⟨σ3,H3,I4,qn⟩
 ·refine wpAny_passesOwn hp (thn (T.item X rfl rfl rfl hc i pins s3 σ3 H3 X.xe I3 (stat fr3) st3 go) fun r s4 ⟨u,hr,h4⟩=>?_)
  subst hr
  refine wpAny_passesOwn hp (thn h4 fun _ s5 ⟨x,H5,I5,r5,y5,st5,fr5⟩=>?_)
  have I5':=I5.pinned (stat fr5) (T.obj _ _ st5)
  refine wpAny_passesOwn hp (thn (hg _ s5 σ3 H5 x u _ I5' r5 (step x H5 y5)) fun _ s6 ⟨σ6,H6,I6,q6⟩=>?_)
  refine wpAny_passesOwn hp (thn (hb _ s6 σ6 H6 _ I6 q6) fun f s7 q7=>?_)
  have again:∀ {σ7:St} {H7:Hp},Inv X (pins ++ d8 fp s5.heap) σ7 H7 s7->N σ7 H7->∃ m,m < n/\∃ i σ' H',Inv X pins σ' H' s7/\tn i s7.heap/\(∀ b ∈ fp,H' b=none)/\W i m σ' H':=fun {σ7 H7} I7 n7=>by
   obtain ⟨m',hm,w7⟩:=hN σ7 H7 n7
   refine ⟨m',hm,i + 1,σ7,H7,I7.unpinned,T.keep _ _ _ st5 fun b hb o e=>(I7.pin (b,o) (List.mem_append_right _ (List.mem_append_right _ (gz hb e)))).1,fun b hb=>?_,w7⟩
   obtain ⟨o,e,d⟩:=T.obj _ _ st5 b hb
   exact (I7.pin (b,o) (List.mem_append_right _ (List.mem_append_right _ (gz hb e)))).2.1
  cases f with
  | next=>obtain ⟨σ7,H7,I7,n7⟩:=q7;exact again I7 n7
  | cont=>obtain ⟨σ7,H7,I7,n7⟩:=q7;exact again I7 n7
  | brk=>obtain ⟨σ7,H7,I7,q7⟩:=q7;exact ⟨σ7,H7,I7.unpinned,q7⟩
  | ret v=>obtain ⟨x7,σ7,H7,I7,r7,q7⟩:=q7;exact ⟨x7,σ7,H7,I7.unpinned,r7,q7⟩
end
theorem zc {K:Frag} {a:Addr} {xs:List V} {g:TG} {tb:TS} {D:ld} {σ:St} {H:Hp} (Pv:Nat->St->Hp->Prop) (h0:Pv 0 σ H) (hl:∀ i σ H,i<=xs.length->Pv i σ H->SqL K H a xs)
  (hs:∀ i x σ H,xs[i]?=some x->Pv i σ H->g x σ H fun σ2 H2=>tb { D with nx:=Pv (i + 1),ct:=Pv (i + 1),bk:=D.nx } σ2 H2) (hd:∀ σ H,Pv xs.length σ H->D.nx σ H) :
  ∃ W:Nat->Nat->St->Hp->Prop,(∃ m,W 0 m σ H)/\∀ i m σ H,W i m σ H ->
   ((Itl K a).stop i H/\D.nx σ H)\/((Itl K a).go i H/\∃ N:St->Hp->Prop,(∀ σ' H',N σ' H'->∃ m',m' < m/\W (i + 1) m' σ' H')/\∀ x H',(Itl K a).yld i H x H'->g x σ H' fun σ2 H2=>tb { D with nx:=N,ct:=N,bk:=D.nx } σ2 H2):=by
 refine ⟨fun i m σ H=>m=xs.length - i/\i<=xs.length/\Pv i σ H,⟨xs.length,by simp,Nat.zero_le _,h0⟩,?_⟩
 rintro i m σ H ⟨rfl,hi,p⟩
 have q:=hl i σ H hi p
 by_cases hlt:i < xs.length
 ·refine .inr ⟨⟨xs,xs[i],q,by simp [hlt]⟩,Pv (i + 1),fun σ' H' p'=>⟨xs.length - (i + 1),by omega,rfl,hlt,p'⟩,fun x H' y=>?_⟩
  obtain ⟨e,y⟩:=y
  subst e
  exact hs i x σ _ (y xs q) p
 ·have e:i=xs.length:=by omega
  subst e
  exact .inl ⟨⟨xs,q,Nat.le_refl _⟩,hd σ H p⟩
end L2
namespace L2
open PySem PySem.Spec PyProof.Rows
abbrev R2:=V->V->Hp->VK->Prop
def OpR (X:Cx) (f:Value->Value->Sem Value) (r:R2):Prop :=
 ∀ (pins:List (Addr × Obj)) (s:Shared) (σ:St) (H:Hp) (x y:V) (v u:Value) (Q:VK),Inv X pins σ H s->RelV x v->RelV y u->r x y H Q ->
  wpAny (model X.prog X.w) X.A (f v u) (EP X pins σ Q) X.xe s
def UnR (X:Cx) (f:Value->Sem Value) (r:V->Hp->VK->Prop):Prop :=
 ∀ (pins:List (Addr × Obj)) (s:Shared) (σ:St) (H:Hp) (x:V) (v:Value) (Q:VK),Inv X pins σ H s->RelV x v->r x H Q ->
  wpAny (model X.prog X.w) X.A (f v) (EP X pins σ Q) X.xe s
def lg (X:Cx) (f:Value) (r:List V->Hp->VK->Prop):Prop :=
 ∀ (pins:List (Addr × Obj)) (s:Shared) (σ:St) (H:Hp) (xs:List V) (us:List Value) (Q:VK),Inv X pins σ H s->Vals xs us->r xs H Q ->
  wpAny (model X.prog X.w) X.A (call f us) (EP X pins σ Q) X.xe s
def tOp (r:R2) (ta tb:TE):TE:=fun σ H Q=>ta σ H fun x H1=>tb σ H1 fun y H2=>r x y H2 Q
def tUn (r:V->Hp->VK->Prop) (ta:TE):TE:=fun σ H Q=>ta σ H fun x H1=>r x H1 Q
def rI (C:Int->Int->Prop) (g:Int->Int->V):R2:=fun x y H Q=>∃ i j,x=.int i/\y=.int j/\C i j/\Q (g i j) H
def rI0 (g:Int->Int->V):R2:=fun x y H Q=>∃ i j,x=.int i/\y=.int j/\Q (g i j) H
def rU (g:Int->V):V->Hp->VK->Prop:=fun x H Q=>∃ i,x=.int i/\Q (g i) H
section
variable {X:Cx} {a b c:Expr} {ta tb tc:TE} {pos:Pos}
theorem D5 (ha:PE X a ta) (hb:PE X b tb) {pins:List (Addr × Obj)} {s:Shared} {σ:St} {H:Hp} {R:V->V->Hp->Prop} (I:Inv X pins σ H s)
  (h:ta σ H fun x H1=>tb σ H1 fun y H2=>R x y H2) {Q:Value->Shared->Prop} {f:Value->Value->Sem Value}
  (hf:∀ v u s2 x y H2,Inv X pins σ H2 s2->RelV x v->RelV y u->R x y H2->wpAny (model X.prog X.w) X.A (f v u) Q X.xe s2) :
  wpAny (model X.prog X.w) X.A (eval a X.env) (fun v s₁=>wpAny (model X.prog X.w) X.A (eval b X.env) (fun u s₂=>wpAny (model X.prog X.w) X.A (f v u) Q X.xe s₂) X.xe s₁) X.xe s:=by
 refine thn (ha pins s σ H _ I h) fun v s1 ⟨x,H1,I1,r1,q1⟩=>?_
 refine thn (hb pins s1 σ H1 _ I1 q1) fun u s2 ⟨y,H2,I2,r2,q2⟩=>?_
 exact hf v u s2 x y H2 I2 r1 r2 q2
theorem BY {op:Operator} {r:R2} (ho:OpR X (binaryOp op) r) (ha:PE X a ta) (hb:PE X b tb):PE X (.BinOp a op b pos) (tOp r ta tb):=by
 intro pins s σ H Q I h
 exact wpAny_BinOp (D5 ha hb I h fun v u s2 x y H2 I2 rx ry q=>ho pins s2 σ H2 x y v u Q I2 rx ry q)
theorem EN {op:UnaryOp} {r:V->Hp->VK->Prop} (ho:UnR X (unaryOp op) r) (ha:PE X a ta):PE X (.UnaryOp op a pos) (tUn r ta):=by
 intro pins s σ H Q I h
 exact UnaryOp_ (thn (ha pins s σ H _ I h) fun v s1 ⟨x,H1,I1,r1,q1⟩=>ho pins s1 σ H1 x v Q I1 r1 q1)
theorem opI {f:Value->Value->Sem Value} {C:Int->Int->Prop} {g:Int->Int->Int}
  (rule:∀ (i j:Int) (t u:Tok) (s:Shared) (Q:Value->Shared->Prop) (E:Value->Shared->Prop),C i j->Q (.int (g i j) s.toks) { s with toks:=s.toks + 1 }->wpAny (model X.prog X.w) X.A (f (.int i t) (.int j u)) Q E s) :
  OpR X f (rI C fun i j=>.int (g i j)):=by
 intro pins s σ H x y v u Q I rx ry h
 obtain ⟨i,j,rfl,rfl,hc,q⟩:=h
 obtain ⟨t,rfl⟩:=rx
 obtain ⟨t',rfl⟩:=ry
 exact rule i j t t' s _ _ hc ⟨.int (g i j),H,I.tok _,⟨_,rfl⟩,q⟩
theorem EQ {f:Value->Value->Sem Value} {g:Int->Int->Int}
  (rule:∀ (i j:Int) (t u:Tok) (s:Shared) (Q:Value->Shared->Prop) (E:Value->Shared->Prop),Q (.int (g i j) s.toks) { s with toks:=s.toks + 1 }->wpAny (model X.prog X.w) X.A (f (.int i t) (.int j u)) Q E s) :
  OpR X f (rI0 fun i j=>.int (g i j)):=by
 intro pins s σ H x y v u Q I rx ry h
 obtain ⟨i,j,rfl,rfl,q⟩:=h
 obtain ⟨t,rfl⟩:=rx
 obtain ⟨t',rfl⟩:=ry
 exact rule i j t t' s _ _ ⟨.int (g i j),H,I.tok _,⟨_,rfl⟩,q⟩
theorem Dq {f:Value->Value->Sem Value} {g:Int->Int->Bool}
  (rule:∀ (i j:Int) (t u:Tok) (s:Shared) (Q:Value->Shared->Prop) (E:Value->Shared->Prop),Q (.bool (g i j)) s->wpAny (model X.prog X.w) X.A (f (.int i t) (.int j u)) Q E s) :
  OpR X f (rI0 fun i j=>.bl (g i j)):=by
 intro pins s σ H x y v u Q I rx ry h
 obtain ⟨i,j,rfl,rfl,q⟩:=h
 obtain ⟨t,rfl⟩:=rx
 obtain ⟨t',rfl⟩:=ry
 exact rule i j t t' s _ _ ⟨.bl (g i j),H,I,rfl,q⟩
def Fq (i j:Int):Prop:=0 < j/\j < 1073741824
def Fp (i j:Int):Prop:=0<=j/\j<=1000000/\i.natAbs < 2 ^ 64
def CMul (i j:Int):Prop:=(-(2 ^ 64) < i/\i < 2 ^ 64)\/(-(2 ^ 64) < j/\j < 2 ^ 64)
theorem CMul.ok {i j:Int} (h:CMul i j):IntMulOk i j:=by
 rcases h with ⟨h1,h2⟩ | ⟨h1,h2⟩
 ·exact .of_left (intBits_le_64 h1 h2)
 ·exact .of_right (intBits_le_64 h1 h2)
theorem op_add:OpR X (binaryOp .Add) (rI0 fun i j=>.int (i + j)):=EQ fun _ _ _ _ _ _ _ q=>add_int q
theorem Dj:OpR X (binaryOp .Sub) (rI0 fun i j=>.int (i - j)):=EQ fun _ _ _ _ _ _ _ q=>sub_int q
theorem Dm:OpR X (binaryOp .Mult) (rI CMul fun i j=>.int (i * j)):=opI fun _ _ _ _ _ _ _ hc q=>mul_int q hc.ok
theorem AV:OpR X (binaryOp .FloorDiv) (rI Fq fun i j=>.int (i / j)):=opI fun i j _ _ _ _ _ hc q=>by
 have h1:(0:Int) < j:=hc.1
 have h2:j < 1073741824:=hc.2
 exact floordiv_int (by omega) (by rw [Int.fdiv_eq_ediv_of_nonneg i (by omega)];exact q) (.inl (PyProof.noPylong_small (by omega)))
theorem Do:OpR X (binaryOp .Mod) (rI (fun _ j=>0 < j) fun i j=>.int (i % j)):=opI fun i j _ _ _ _ _ hc q=>by
 have h1:(0:Int) < j:=hc
 exact mod_int' (by omega) (by rw [Int.fmod_eq_emod_of_nonneg i (by omega)];exact q)
theorem Dk:OpR X (binaryOp .Pow) (rI Fp fun i j=>.int (i ^ j.toNat)):=opI fun _ _ _ _ _ _ _ hc q=>pow_int_small hc.1 hc.2.1 hc.2.2 q
theorem unI {f:Value->Sem Value} {g:Int->Int}
  (rule:∀ (i:Int) (t:Tok) (s:Shared) (Q:Value->Shared->Prop) (E:Value->Shared->Prop),Q (.int (g i) s.toks) { s with toks:=s.toks + 1 }->wpAny (model X.prog X.w) X.A (f (.int i t)) Q E s) :
  UnR X f (rU fun i=>.int (g i)):=by
 intro pins s σ H x v Q I rx h
 obtain ⟨i,rfl,q⟩:=h
 obtain ⟨t,rfl⟩:=rx
 exact rule i t s _ _ ⟨.int (g i),H,I.tok _,⟨_,rfl⟩,q⟩
theorem Cw:UnR X (unaryOp .USub) (rU fun i=>.int (-i)):=unI fun _ _ _ _ _ q=>neg_int q
end
section
variable {X:Cx} {a b c:Expr} {ta tb tc:TE} {pos:Pos}
theorem B1:OpR X (compareOp .Lt) (rI0 fun i j=>.bl (decide (i < j))):=Dq fun _ _ _ _ _ _ _ q=>lt_int q
theorem sR:OpR X (compareOp .LtE) (rI0 fun i j=>.bl (decide (i<=j))):=Dq fun _ _ _ _ _ _ _ q=>le_int q
theorem EO:OpR X (compareOp .Gt) (rI0 fun i j=>.bl (decide (j < i))):=Dq fun _ _ _ _ _ _ _ q=>gt_int q
theorem OpR.or {f:Value->Value->Sem Value} {r r':R2} (h:OpR X f r) (h':OpR X f r'):OpR X f (fun x y H Q=>r x y H Q\/r' x y H Q):=by
 intro pins s σ H x y v u Q I rx ry q
 rcases q with q | q
 ·exact h pins s σ H x y v u Q I rx ry q
 ·exact h' pins s σ H x y v u Q I rx ry q
theorem nX (b:Expr) {op:CmpOp} (h:op ≠ .In:=by decide) (h2:op ≠ .NotIn:=by decide):behindInMarks op b=false:=by
 have e1:(op == CmpOp.In)=false:=by cases op <;> first | rfl | exact absurd rfl h
 have e2:(op == CmpOp.NotIn)=false:=by cases op <;> first | rfl | exact absurd rfl h2
 cases b <;> simp [behindInMarks,e1,e2]
theorem AH {op:CmpOp} {r:R2} (ho:OpR X (compareOp op) r) (ha:PE X a ta) (hb:PE X b tb) (hm:behindInMarks op b=false):PE X (.Compare a [op] [b] pos) (tOp r ta tb):=by
 intro pins s σ H Q I h
 exact wpAny_Compare1 (D5 ha hb I h fun v u s2 x y H2 I2 rx ry q=>ho pins s2 σ H2 x y v u Q I2 rx ry q) hm
def BT (t:TE):TT:=fun σ H Q=>t σ H fun x H'=>∃ k,x=.bl k/\Q k H'
theorem vF {op:CmpOp} {r:R2} (ho:OpR X (compareOp op) r) (ha:PE X a ta) (hb:PE X b tb) (hm:behindInMarks op b=false):PT X (.Compare a [op] [b] pos) (BT (tOp r ta tb)):=by
 intro pins s σ H Q I h
 refine wpAny_isTrue_Compare1 (thn (ha pins s σ H _ I h) fun v s1 ⟨x,H1,I1,r1,q1⟩=>thn (hb pins s1 σ H1 _ I1 q1) fun u s2 ⟨y,H2,I2,r2,q2⟩ =>
  thn (ho pins s2 σ H2 x y v u _ I2 r1 r2 q2) fun c s3 ⟨z,H3,I3,r3,k,e,q3⟩=>?_) hm
 subst e
 cases r3
 exact wpAny_truthy_bool ⟨H3,I3,q3⟩
def uu (r r':R2) (ta tb tc:TE):TE:=fun σ H Q=>ta σ H fun x H1=>tb σ H1 fun y H2=>r x y H2 fun z H3=>∃ k,z=.bl k /\
 (if k=true then tc σ H3 fun w' H4=>r' y w' H4 Q else Q (.bl false) H3)
theorem yw {op op':CmpOp} {r r':R2} (ho:OpR X (compareOp op) r) (ho':OpR X (compareOp op') r') (ha:PE X a ta) (hb:PE X b tb) (hc:PE X c tc)
  (hm:lastMarks [op,op'] [b,c]=false:=by with_unfolding_all rfl):PE X (.Compare a [op,op'] [b,c] pos) (uu r r' ta tb tc):=by
 intro pins s σ H Q I h
 refine Compare_chain (thn (ha pins s σ H _ I h) fun v s1 ⟨x,H1,I1,r1,q1⟩=>chain_link (thn (hb pins s1 σ H1 _ I1 q1) fun u s2 ⟨y,H2,I2,r2,q2⟩ =>
  thn (ho pins s2 σ H2 x y v u _ I2 r1 r2 q2) fun d s3 ⟨z,H3,I3,r3,k,e,q3⟩=>?_)) hm
 subst e
 cases r3
 refine wpAny_truthy_bool ?_
 cases k with
 | false=>exact ite_ff ⟨.bl false,H3,I3,rfl,q3⟩
 | true=>exact ite_tt (chain_last (thn (hc pins s3 σ H3 _ I3 q3) fun w' s4 ⟨z',H4,I4,r4,q4⟩=>ho' pins s4 σ H4 y z' u w' Q I4 r2 r4 q4))
theorem yh {op op':CmpOp} {r r':R2} (ho:OpR X (compareOp op) r) (ho':OpR X (compareOp op') r') (ha:PE X a ta) (hb:PE X b tb) (hc:PE X c tc)
  (hm:lastMarks [op,op'] [b,c]=false:=by with_unfolding_all rfl):PT X (.Compare a [op,op'] [b,c] pos) (BT (uu r r' ta tb tc)):=by
 intro pins s σ H Q I h
 refine isTrue_chain (thn (ha pins s σ H _ I h) fun v s1 ⟨x,H1,I1,r1,q1⟩=>test_link (thn (hb pins s1 σ H1 _ I1 q1) fun u s2 ⟨y,H2,I2,r2,q2⟩ =>
  thn (ho pins s2 σ H2 x y v u _ I2 r1 r2 q2) fun d s3 ⟨z,H3,I3,r3,k,e,q3⟩=>?_)) hm
 subst e
 cases r3
 refine wpAny_truthy_bool ?_
 cases k with
 | false =>
  obtain ⟨k',e',q'⟩:=q3
  cases e'
  exact ite_ff ⟨H3,I3,q'⟩
 | true =>
  refine ite_tt (test_last (thn (hc pins s3 σ H3 _ I3 q3) fun w' s4 ⟨z',H4,I4,r4,q4⟩=>thn (ho' pins s4 σ H4 y z' u w' _ I4 r2 r4 q4) fun d' s5 ⟨z2,H5,I5,r5,k2,e2,q5⟩=>?_))
  subst e2
  cases r5
  exact wpAny_truthy_bool ⟨H5,I5,q5⟩
theorem ou:(sizeLine:Nat) < 2 ^ 63:=by rw [sizeLine_eq];decide
theorem p9 {x:V} {us:List Value} (r:Vals [x] us):∃ u,us=[u]/\RelV x u:=by
 cases r with
 | cons r1 r2=>cases r2;exact ⟨_,rfl,r1⟩
theorem El {x y:V} {us:List Value} (r:Vals [x,y] us):∃ u w',us=[u,w']/\RelV x u/\RelV y w':=by
 cases r with
 | cons r1 r2 =>
  cases r2 with
  | cons r3 r4=>cases r4;exact ⟨_,_,rfl,r1,r3⟩
theorem lT (hc:X.calm=true):lg X (.builtin "max") (fun xs H Q=>∃ i j,xs=[.int i,.int j]/\Q (.int (if j > i then j else i)) H):=by
 intro pins s σ H xs us Q I r h
 obtain ⟨i,j,rfl,q⟩:=h
 obtain ⟨u,w',rfl,⟨t,rfl⟩,⟨t',rfl⟩⟩:=El r
 refine max_two_ints (I.ok.hd hc) fun h' tk k=>⟨_,H,I.kept k,?_,q⟩
 by_cases hj:j > i
 ·rw [if_pos hj,if_pos hj];exact ⟨_,rfl⟩
 ·rw [if_neg hj,if_neg hj];exact ⟨_,rfl⟩
end
end L2
namespace L2
open PySem PySem.Spec PyProof.Rows
structure ObjM (h:Heap) (x dx C:Addr) (mA:Str->Option Value):Prop where
 obj:h.get? x=some (instObj C dx)
 ns:h.Ns1 dx mA
 ne:dx ≠ x
theorem wW {h:Heap} {dx:Addr} {mA:Str->Option Value} (n:h.Ns1 dx mA):∃ od,h.get? dx=some od/\∀ name,PySem.W.lookIn name od=some (mA name):=by
 obtain ⟨o,es,ep,ho,hd,hk,_,hm⟩:=n
 refine ⟨o,ho,fun name=>?_⟩
 have e:=hm name
 unfold nsFind findBy at e
 rw [<- Array.find?_toList] at e
 unfold PySem.W.lookIn
 rw [hd]
 dsimp only
 split
 ·rename_i y q
  rw [q] at e
  exact congrArg some e
 ·rename_i q
  rw [q] at e
  have a:es.toList.any (·.refKey)=false:=by
   rw [List.any_eq_false]
   intro y hy
   obtain ⟨z,t,hkey⟩:=hk y (Array.mem_toList_iff.mp hy)
   simp [DictEntry.refKey,hkey]
  have a':¬ es.toList.any (·.refKey)=true:=by rw [a];exact Bool.false_ne_true
  rw [if_neg a']
  exact congrArg some e
theorem ObjM.look {h:Heap} {x dx C:Addr} {mA:Str->Option Value} (I:ObjM h x dx C mA):∃ od,PySem.W.InstAt h x (instObj C dx) C (some od)/\∀ name,PySem.W.lookIn name od=some (mA name) :=
 let ⟨od,ho,hl⟩:=wW I.ns
 ⟨od,⟨I.obj,rfl,rfl,ho⟩,hl⟩
section
variable {prog:Program} {w:World} {A:Around} {E:Value->Shared->Prop} {s:Shared} {K:Frag} {x dx C f:Addr} {mA:Str->Option Value} {name:Str} {v:Value}
theorem Bf {expr:Bool} {Q:Value->Shared->Prop} (X:K.In s.heap) (I:ObjM s.heap x dx C mA) (hg:plainGet K C name=true) (hh:hasDictIn K C=true)
  (ha:findIn K (.ref C) name=some none) (hv:mA name=some v) (hv':PySem.W.handedIn v=true) (h:Q v { s with toks:=s.toks + 1 }) :
  wpAny (model prog w) A (getAttr (.ref x) name expr) Q E s:=by
 obtain ⟨od,J,hl⟩:=I.look
 exact PySem.W.get_value X J (PySem.W.plainGet_of hg).1 (PySem.W.findObj_own hh ha rfl (by rw [hl,hv])) hv' h
theorem Ag {ns:List Str} {Q:Unit->Shared->Prop} (X:K.In s.heap) (I:ObjM s.heap x dx C mA)
  (hs:findIn K (.ref C) "__setattr__"=some (some (.builtin "object.__setattr__"))) (hp:PySem.W.plainOver K C=true) (ht:PySem.W.takerIn K C name=some none) (hh:hasDictIn K C=true)
  (hw:PySem.Within mA ns) (hsz:ns.length<=sizeLine)
  (h:∀ h',ObjM h' x dx C (fun y=>if y=name then some v else mA y)->Heap.SameBut dx s.heap h'->Q () { s with heap:=h',toks:=s.toks + 2 }) :
  wpAny (model prog w) A (setAttr (.ref x) name v) Q E s:=by
 obtain ⟨od,J,hl⟩:=I.look
 refine PySem.W.set_plain X J hs (PySem.W.osa_open (s:={ s with toks:=s.toks + 1 }) (r:=none) X J hp ht fun b=>?_)
 obtain ⟨cd,hc,hd'⟩:=PySem.W.any_some hh
 have hx:s.heap.get? x=some ⟨.ref C,some dx,.plain,#[]⟩:=I.obj
 refine wpAny_bind (wpAny_pure (wpAny_bind (wpAny_bind (wpAny_loadPart hx (wpAny_bind (PySem.W.Looks.here (s:={ s with toks:=s.toks + 1 }) (PySem.W.looks_clsIn X hc) ?_))))))
 rw [hd']
 refine wpAny_pure (a:=some dx) (wpAny_bind (wpAny_pure (wpAny_bind ?_)))
 refine wpAny_nsSet1 (s:={ s with toks:=s.toks + 1 }) I.ns fun h' hn2 hs2=>?_
 obtain ⟨oD,esD,epD,hoD,hdD,hcD⟩:=hn2.count (PySem.Within.cons name v hw)
 refine wpAny_bind (wpAny_lookBehind hoD (by rw [hdD];exact pastItsLine_dict (Nat.le_trans hcD (by rw [List.length_cons];omega))) ?_)
 exact wpAny_pure (h _ ⟨(hs2.2 _ (Ne.symm I.ne)).trans I.obj,hn2,I.ne⟩ hs2)
theorem yL {R:Result->Shared->Prop} {vs:List Value} {kw:List (Str × Value)} (X:K.In s.heap) (hm:PySem.W.makesIn K C=true)
  (hi:findIn K (.ref C) "__init__"=some (some (.ref f))) (hf:PySem.W.typeIn K (.ref f)=some (.type "function"))
  (h:codeAny (model prog w) (A.under (.builtin "type.__call__" ⟨.ref C :: vs,kw⟩)) (.call (.ref f) ⟨.ref (s.heap.objs.size + 1) :: vs,kw⟩) (PySem.W.InitBack (s.heap.objs.size + 1) R)
   {s with heap:=(s.heap.push emptyDict).push (instObj C s.heap.objs.size) }) :
  codeAny (model prog w) A (.call (.ref C) ⟨vs,kw⟩) R s:=by
 obtain ⟨hh,g,d,t,os⟩:=s
 exact PySem.W.make_core (PySem.W.makes_of X hm) (PySem.W.looks_findIn X hi) (fun self=>PySem.W.bind_fn X self hf) (.inl rfl) h
end
def iE (f:Str) (v:V):List (Str × V)->List (Str × V)
 | []=>[(f,v)]
 | (g,x) :: r=>if g=f then (g,v) :: r else (g,x) :: iE f v r
theorem mv (f g:Str) (v:V):∀ fs:List (Str × V),(iE f v fs).lookup g=if g=f then some v else fs.lookup g
 | []=>by
  show List.lookup g [(f,v)]=_
  by_cases h:g=f
  ·have hb:(g == f)=true:=beq_iff_eq.mpr h
   simp only [List.lookup,hb,if_pos h]
  ·have hb:(g == f)=false:=beq_eq_false_iff_ne.mpr h
   simp only [List.lookup,hb,if_neg h]
 | (k,x) :: r=>by
  have ih:=mv f g v r
  rw [show iE f v ((k,x) :: r)=(if k=f then (k,v) :: r else (k,x) :: iE f v r) from rfl]
  by_cases hk:k=f
  ·rw [if_pos hk]
   by_cases h:g=k
   ·have hb:(g == k)=true:=beq_iff_eq.mpr h
    simp only [List.lookup,hb,if_pos (h.trans hk)]
   ·have hb:(g == k)=false:=beq_eq_false_iff_ne.mpr h
    simp only [List.lookup,hb,if_neg (fun e:g=f=>h (e.trans hk.symm))]
  ·rw [if_neg hk]
   by_cases h:g=k
   ·have hb:(g == k)=true:=beq_iff_eq.mpr h
    simp only [List.lookup,hb,if_neg (fun e:g=f=>hk (h.symm.trans e))]
   ·have hb:(g == k)=false:=beq_eq_false_iff_ne.mpr h
    simp only [List.lookup,hb]
    exact ih
theorem lH (f:Str) (v:V):∀ fs:List (Str × V),f ∈ (iE f v fs).map (·.1)/\∀ g,g ∈ fs.map (·.1)->g ∈ (iE f v fs).map (·.1)
 | []=>⟨by simp [iE],fun g h=>by simp at h⟩
 | (k,x) :: r=>by
  obtain ⟨i1,i2⟩:=lH f v r
  rw [show iE f v ((k,x) :: r)=(if k=f then (k,v) :: r else (k,x) :: iE f v r) from rfl]
  by_cases hk:k=f
  ·rw [if_pos hk]
   subst hk
   exact ⟨by simp,fun g h=>by simpa using h⟩
  ·rw [if_neg hk]
   refine ⟨?_,fun g h=>?_⟩
   ·rw [List.map_cons]
    exact List.mem_cons_of_mem _ i1
   ·rw [List.map_cons] at h ⊢
    rcases List.mem_cons.mp h with e | e
    ·exact List.mem_cons.mpr (.inl e)
    ·exact List.mem_cons_of_mem _ (i2 g e)
theorem mw (f:Str) (v:V):∀ fs:List (Str × V),(iE f v fs).length<=fs.length + 1
 | []=>by simp [iE]
 | (k,x) :: r=>by
  have ih:=mw f v r
  rw [show iE f v ((k,x) :: r)=(if k=f then (k,v) :: r else (k,x) :: iE f v r) from rfl]
  by_cases hk:k=f
  ·rw [if_pos hk,List.length_cons,List.length_cons];omega
  ·rw [if_neg hk,List.length_cons,List.length_cons];omega
theorem RelO.some_of {v:V} {o:Option Value} (r:RelO (some v) o):∃ u,o=some u/\RelV v u:=by
 cases o with
 | none=>exact (show False from r).elim
 | some u=>exact ⟨u,rfl,r⟩
theorem w8 {v:V} {u:Value} (r:RelV v u):PySem.W.handedIn u=true:=by
 cases v with
 | non=>cases (show u=Value.none from r);rfl
 | bl b=>cases (show u=Value.bool b from r);rfl
 | int i=>obtain ⟨t,e⟩:=(show ∃ t,u=Value.int i t from r);cases e;rfl
 | str x=>obtain ⟨t,e⟩:=(show ∃ t,u=Value.str x t from r);cases e;rfl
 | byt b=>obtain ⟨t,e⟩:=(show ∃ t,u=Value.bytes b t from r);cases e;rfl
 | flt b=>obtain ⟨t,e⟩:=(show ∃ t,u=Value.float b t from r);cases e;rfl
 | ref a=>cases (show u=Value.ref a from r);rfl
 | ty n=>cases (show u=Value.type n from r);rfl
section
variable {P:Program} {w:World} {H H':Hp} {h h':Heap} {a C dx:Addr} {fs fs':List (Str × V)}
theorem rG (hok:HOk P w H h) (e:H a=some (.ins C dx fs)):∃ mA,ObjM h a dx C mA/\(∀ f,RelO (fs.lookup f) (mA f))/\PySem.Within mA (fs.map (·.1))/\fs.length<=1000/\H dx=some (.own a):=by
 obtain ⟨d,z,ne,ob,mA,n,r,q⟩:=(show ObjOk P w H h a (.ins C dx fs) from hok a _ e)
 exact ⟨mA,⟨ob,n,ne⟩,r,q,z,d⟩
end
structure Cls (K:Frag) (C:Addr):Prop where
 pg:plainGet K C Str.empty=true
 hd:hasDictIn K C=true
 po:PySem.W.plainOver K C=true
 sa:findIn K (.ref C) "__setattr__"=some (some (.builtin "object.__setattr__"))
theorem Cls.get {K:Frag} {C:Addr} (c:Cls K C) (f:Str):plainGet K C f=true:=c.pg
def NoAttr (K:Frag) (C:Addr) (f:Str):Prop:=findIn K (.ref C) f=some none
theorem NoAttr.taker {K:Frag} {C:Addr} {f:Str} (n:NoAttr K C f):PySem.W.takerIn K C f=some none:=by
 unfold PySem.W.takerIn
 rw [show findIn K (.ref C) f=some none from n]
 rfl
section
variable {X:Cx} {pins:List (Addr × Obj)} {σ:St} {H:Hp} {s:Shared} {a C dx:Addr} {fs:List (Str × V)} {f:Str} {v:V} {A:Around} {E:Value->Shared->Prop}
theorem uU {b:Bool} {Q:Value->Shared->Prop} (I:Inv X pins σ H s) (e:H a=some (.ins C dx fs)) (c:Cls X.K C) (n:NoAttr X.K C f) (l:fs.lookup f=some v)
  (h:∀ u s',Inv X pins σ H s'->RelV v u->Q u s'):wpAny (model X.prog X.w) A (getAttr (.ref a) f b) Q E s:=by
 obtain ⟨mA,O,r,_,_,_⟩:=rG I.hok e
 obtain ⟨u,hu,ru⟩:=RelO.some_of (v:=v) (o:=mA f) (by rw [<- l];exact r f)
 exact Bf I.kIn O (c.get f) c.hd n hu (w8 ru) (h u _ (I.tok _) ru)
theorem uz {y:V} {u:Value} {Q:Unit->Shared->Prop} (I:Inv X pins σ H s) (e:H a=some (.ins C dx fs)) (c:Cls X.K C) (n:NoAttr X.K C f) (hl:fs.length < 1000) (ry:RelV y u)
  (h:∀ s',Inv X pins σ (upd H a (.ins C dx (iE f y fs))) s'->Q () s'):wpAny (model X.prog X.w) A (setAttr (.ref a) f u) Q E s:=by
 obtain ⟨mA,O,r,wi,_,ho⟩:=rG I.hok e
 have hz:(fs.map (·.1)).length<=sizeLine:=by rw [List.length_map,sizeLine_eq];omega
 refine Ag I.kIn O c.sa c.po n.taker c.hd wi hz fun h' O' sb=>h _ ?_
 have hd:∃ o,h'.get? dx=some o:=let ⟨o,_,_,e',_⟩:=O'.ns;⟨o,e'⟩
 refine I.write (x:=a) (e:=dx) (by rw [e];exact True.intro) (.inr ho) (fun b q hb z=>(sb.2 b hb).trans z) hd ?_
 refine ⟨by rw [aH O.ne];exact ho,?_,O.ne,O'.obj,_,O'.ns,fun g=>?_,fun g hg=>?_⟩
 ·have:=mw f y fs;omega
 ·show RelO ((iE f y fs).lookup g) (if g=f then some u else mA g)
  rw [mv]
  by_cases q:g=f
  ·rw [if_pos q,if_pos q];exact ry
  ·rw [if_neg q,if_neg q];exact r g
 ·by_cases q:g=f
  ·rw [q];exact (lH f y fs).1
  ·refine (lH f y fs).2 g (wi g fun z=>hg ?_)
   show (if g=f then some u else mA g)=none
   rw [if_neg q];exact z
theorem Inv.made (I:Inv X pins σ H s):Inv X pins σ (upd (upd H s.heap.objs.size (.own (s.heap.objs.size + 1))) (s.heap.objs.size + 1) (.ins C s.heap.objs.size []))
  {s with heap:=(s.heap.push emptyDict).push (instObj C s.heap.objs.size) }:=by
 have e1:(s.heap.push emptyDict).get? s.heap.objs.size=some emptyDict:=Heap.get?_push_size s.heap rfl
 have e2:((s.heap.push emptyDict).push (instObj C s.heap.objs.size)).get? (s.heap.objs.size + 1)=some (instObj C s.heap.objs.size):=by
  have:=Heap.get?_push_size (s.heap.push emptyDict) (o:=instObj C s.heap.objs.size) rfl
  rwa [Heap.size_push] at this
 have e3:(s.heap.push emptyDict).Ns s.heap.objs.size (fun _=>none):=⟨emptyDict,#[],_,e1,rfl,(fun e he=>absurd he (by simp)),fun _=>rfl⟩
 have I1:=I.laid (a:=s.heap.objs.size) (o:=.own (s.heap.objs.size + 1)) (h':=s.heap.push emptyDict) (t':=s.toks) (fun b u q=>Heap.get?_push_of_some _ q) (Nat.le_refl _) ⟨_,e1⟩
 refine I1.laid (a:=s.heap.objs.size + 1) (o:=.ins C s.heap.objs.size []) (t':=s.toks) (fun b u q=>Heap.get?_push_of_some _ q) (Nat.le_of_eq (Heap.size_push _ _)) ?_
 have ne:s.heap.objs.size ≠ s.heap.objs.size + 1:=Nat.ne_of_lt (Nat.lt_succ_self _)
 refine ⟨by rw [aH ne,ba],Nat.zero_le _,ne,e2,fun _=>none,(Heap.Ns1.of_empty e3).at fun o q=>Heap.get?_push_of_some _ q,fun _=>True.intro,fun y hy=>absurd rfl hy⟩
theorem BL {prog:Program} {w:World} {env:Env} {e:Expr} {f:Str} {pos:Pos} {s:Shared} {Q:Value->Shared->Prop} (hb:attributeBase e f env (eval e env)=eval e env)
  (h:wpAny (model prog w) A (eval e env) (fun o s₁=>wpAny (model prog w) A (getAttr o f true) Q E s₁) E s):wpAny (model prog w) A (eval (.Attribute e f pos) env) Q E s :=
 Attribute_any_ h (by rw [arm_eval_Attribute,hb])
end
def FK (K:Frag) (ta:TE) (f:Str):TE:=fun σ H Q=>ta σ H fun x H1=>∃ a C dx fs v,x=.ref a/\H1 a=some (.ins C dx fs)/\Cls K C/\NoAttr K C f/\fs.lookup f=some v/\Q v H1
def qO (K:Frag) (ta tv:TE) (f:Str):TS:=fun D σ H=>tv σ H fun y H1=>ta σ H1 fun x H2=>∃ a C dx fs,x=.ref a/\H2 a=some (.ins C dx fs)/\Cls K C/\NoAttr K C f/\fs.length < 1000 /\
 D.nx σ (upd H2 a (.ins C dx (iE f y fs)))
section
variable {X:Cx} {o e value:Expr} {f:Str} {pos pos' tpos:Pos} {ta tv:TE}
theorem Db (he:PE X e ta) (hb:attributeBase e f X.env (eval e X.env)=eval e X.env):PE X (.Attribute e f pos) (FK X.K ta f):=by
 intro pins s σ H Q I h
 refine BL hb (thn (he pins s σ H _ I h) fun u s1 ⟨x,H1,I1,rx,a,C,dx,fs,v,ex,ea,c,n,l,q⟩=>?_)
 subst ex
 obtain rfl:u=Value.ref a:=rx
 exact uU I1 ea c n l fun u' s2 I2 ru=>⟨v,H1,I2,ru,q⟩
theorem C0 (ha:PE X o ta) (hv:PE X value tv) (hs:swapsWith value (some (.Attribute o f pos')) pos.line X.env=pure false):PS X (.Assign [.Attribute o f pos'] value pos) (qO X.K ta tv f):=by
 intro pins s σ H D I h
 refine plainObj_wpAny_Assign_Attribute (thn (hv pins s σ H _ I h) fun u s1 ⟨y,H1,I1,ry,q⟩=>thn (ha pins s1 σ H1 _ I1 q) fun ov s2 ⟨x,H2,I2,rx,a,C,dx,fs,ex,ea,c,n,l,q2⟩=>?_) hs
 subst ex
 obtain rfl:ov=Value.ref a:=rx
 exact uz I2 ea c n l ry fun s3 I3=>⟨σ,_,I3,q2⟩
end
section
variable {X:Cx} {pins:List (Addr × Obj)} {σ:St} {H:Hp} {s:Shared} {A:Around} {E:Value->Shared->Prop} {Q:Value->Shared->Prop} {c:Value} {b:Bool}
inductive mi (K:Frag) (H:Hp):V->Value->Prop where
 | non:mi K H .non (.type "NoneType")
 | bl (x:Bool):mi K H (.bl x) (.type "bool")
 | int (i:Int):mi K H (.int i) (.type "int")
 | str (x:Str):mi K H (.str x) (.type "str")
 | flt (x:UInt64):mi K H (.flt x) (.type "float")
 | lst {a:Addr} {xs:List V} (e:H a=some (.lst xs)):mi K H (.ref a) (.type "list")
 | frz {a:Addr} {o:Obj} {xs:List V} (e:H a=some (.frz o (.lst xs))):mi K H (.ref a) (.type "list")
 | tup {a:Addr} {xs:List V} (e:H a=some (.tup xs)):mi K H (.ref a) (.type "tuple")
 | dK {a:Addr} {kvs:List (Key × V)} (e:H a=some (.dK kvs)):mi K H (.ref a) (.type "dict")
 | dT {a:Addr} {kvs:List (List Key × V)} (e:H a=some (.dT kvs)):mi K H (.ref a) (.type "dict")
 | ins {a C dx:Addr} {fs:List (Str × V)} (e:H a=some (.ins C dx fs)) (cl:Cls K C) (ha:findIn K (.ref C) "__class__"=some (some (.builtin "object.__class__")))
   (hn:PySem.W.specialIn K (.builtin "object.__class__") "__get__"=some (some (.builtin "getset_descriptor.__get__"))) (htk:PySem.W.takesIn K (.builtin "object.__class__")=some true)
   (hm:PySem.W.mroIn K C (.type "object")=some true):mi K H (.ref a) (.ref C)
theorem w4 {x:V} {u t:Value} (I:Inv X pins σ H s) (rx:RelV x u) (ty:mi X.K H x t) (e:kitOne X.K t c=some b) (h:∀ tk,Q (.bool b) { s with toks:=tk }) :
  wpAny (model X.prog X.w) A (call (.builtin "isinstance") [u,c]) Q E s:=by
 cases ty with
 | non=>cases (show u=Value.none from rx);exact kia_one PySem.W.kitx_none I.kIn True.intro e (fun z=>nomatch z) h
 | bl y=>cases (show u=Value.bool y from rx);exact kia_one PySem.W.kitx_bool I.kIn True.intro e (fun z=>nomatch z) h
 | int i=>obtain ⟨t,q⟩:=(show ∃ t,u=Value.int i t from rx);cases q;exact kia_one PySem.W.kitx_int I.kIn True.intro e (fun z=>nomatch z) h
 | str y=>obtain ⟨t,q⟩:=(show ∃ t,u=Value.str y t from rx);cases q;exact kia_one PySem.W.kitx_str I.kIn True.intro e (fun z=>nomatch z) h
 | flt y=>obtain ⟨t,q⟩:=(show ∃ t,u=Value.float y t from rx);cases q;exact kia_one PySem.W.kitx_float I.kIn True.intro e (fun z=>nomatch z) h
 | @lst a xs ea =>
  cases (show u=Value.ref a from rx)
  obtain ⟨_,_,n,_,h1⟩:=(show ObjOk X.prog X.w H s.heap a (.lst xs) from I.hok a _ ea)
  exact kia_one PySem.W.kitx_list I.kIn ⟨_,h1,rfl⟩ e (fun z=>nomatch z) h
 | @frz a ob xs ea =>
  cases (show u=Value.ref a from rx)
  obtain ⟨_,_,_,n,_,h1⟩:=(show ObjOk X.prog X.w H s.heap a (.frz ob (.lst xs)) from I.hok a _ ea)
  exact kia_one PySem.W.kitx_list I.kIn ⟨_,h1,rfl⟩ e (fun z=>nomatch z) h
 | @tup a xs ea =>
  cases (show u=Value.ref a from rx)
  obtain ⟨_,_,_,p⟩:=(show ObjOk X.prog X.w H s.heap a (.tup xs) from I.hok a _ ea)
  obtain ⟨o,h1,h2,_⟩:=p
  exact kia_one PySem.W.kitx_tuple I.kIn ⟨o,h1,h2⟩ e (fun z=>nomatch z) h
 | @dK a kvs ea =>
  cases (show u=Value.ref a from rx)
  obtain ⟨_,_,vs,_,p⟩:=(show ObjOk X.prog X.w H s.heap a (.dK kvs) from I.hok a _ ea)
  obtain ⟨o,es,ep,h1,h2,_⟩:=p
  exact kia_one PySem.W.kitx_dict I.kIn ⟨o,h1,h2.1⟩ e (fun z=>nomatch z) h
 | @dT a kvs ea =>
  cases (show u=Value.ref a from rx)
  obtain ⟨_,_,xs,_,o,es,ep,h1,h2,_⟩:=(show ObjOk X.prog X.w H s.heap a (.dT kvs) from I.hok a _ ea)
  exact kia_one PySem.W.kitx_dict I.kIn ⟨o,h1,h2.1⟩ e (fun z=>nomatch z) h
 | @ins a C dx fs ea cl ha hn htk hm =>
  cases (show u=Value.ref a from rx)
  obtain ⟨mA,O,_⟩:=rG I.hok ea
  obtain ⟨od,J,_⟩:=O.look
  exact kia_one (PySem.W.kitx_own (cl.get _) cl.hd ha hn htk hm) I.kIn J e (fun z=>nomatch z) h
end
end L2
namespace L2
open PySem PySem.Spec PyProof.Rows
structure Room (k:Nat) (A:Around):Prop where
 hd:A.handled=none
 dp:A.depth + 3 * k + 5 < recursionLimit
 un:A.units + 16 * k + 200 < cLine
theorem Room.mono {j k:Nat} {A:Around} (r:Room k A) (h:j<=k):Room j A:=⟨r.hd,by have:=r.dp;omega,by have:=r.un;omega⟩
theorem Room.deeper {k:Nat} {A:Around} (r:Room (k + 1) A) (env:Env):Room k (A.deeper env) :=
 ⟨r.hd,by have:=r.dp;show A.depth + 1 + 3 * k + 5 < _;omega,by have:=r.un;show A.units + 3 + 16 * k + 200 < _;omega⟩
theorem uP {A:Around} {C:Addr} {us:List Value} {kw:List (Str × Value)}:(A.under (.builtin "type.__call__" ⟨.ref C :: us,kw⟩)).depth=A.depth + 1:=by
 first | rfl | simp [Around.under,Code.weight,Code.isCreation,Code.isGuard,Code.isCaller,Code.frames,Code.isFrame,guardIds]
theorem uO {A:Around} {C:Addr} {us:List Value} {kw:List (Str × Value)}:(A.under (.builtin "type.__call__" ⟨.ref C :: us,kw⟩)).units=A.units + 1:=by
 first | rfl | simp [Around.under,Code.cUnits,Code.frames,Code.isFrame]
theorem Room.make {k:Nat} {A:Around} (r:Room (k + 1) A) (C:Addr) (us:List Value) (kw:List (Str × Value)):Room k (A.under (.builtin "type.__call__" ⟨.ref C :: us,kw⟩)) :=
 ⟨r.hd,by have:=r.dp;rw [uP];omega,by have:=r.un;rw [uO];omega⟩
theorem Room.depth {k:Nat} {A:Around} (r:Room k A):A.depth < recursionLimit:=by have:=r.dp;omega
def FG:TA:=fun _ H Q=>Q [] H
def Es (ta:TE) (tr:TA):TA:=fun σ H Q=>ta σ H fun x H1=>tr σ H1 fun xs H2=>Q (x :: xs) H2
section
variable {X:Cx} {e:Expr} {es:List Expr} {te:TE} {t:TA} {pos:Pos}
theorem eX:PA X [] FG:=fun _ _ _ _ H Q I h=>Calls.spliced_nil ⟨[],H,I,.nil,h⟩
theorem dk (ha:PE X e te) (hr:PA X es t) (hs:starEach (e :: es) X.env=(false,eval e X.env) :: starEach es X.env:=by rfl):PA X (e :: es) (Es te t):=by
 intro pos pins s σ H Q I h
 rw [hs]
 show wpAny _ _ (spliced ((false,eval e X.env) :: backTo pos (starEach es X.env))) _ _ s
 refine Calls.spliced_cons (thn (ha pins s σ H _ I h) fun u s1 ⟨x,H1,I1,r1,q1⟩=>?_)
 exact thn (hr pos pins s1 σ H1 _ I1 q1) fun us s2 ⟨xs,H2,I2,r2,q2⟩=>⟨x :: xs,H2,I2,.cons r1 r2,q2⟩
def FB (t:TA):TE:=fun σ H Q=>t σ H fun xs H1=>xs.length<=sizeLine/\∀ p,H1 p=none->Q (.ref p) (upd H1 p (.tup xs))
def FH (t:TA):TE:=fun σ H Q=>t σ H fun xs H1=>xs.length<=sizeLine/\∀ p,H1 p=none->Q (.ref p) (upd H1 p (.lst xs))
theorem C5 {x1} (h:PA X es t):PE X (.Tuple es x1 pos) (FB t):=by
 intro pins s σ H Q I hq
 refine wpAny_Tuple_spliced (thn (h pos pins s σ H _ I hq) fun us s1 ⟨xs,H1,I1,r,z,q⟩=>⟨by rw [<- r.length];exact z,?_⟩)
 have hf:H1 s1.heap.objs.size=none:=I1.hok.fresh (Nat.le_refl _)
 refine ⟨.ref s1.heap.objs.size,upd H1 s1.heap.objs.size (.tup xs),I1.laid (t':=s1.toks) (fun b u e=>Heap.get?_push_of_some _ e) (Nat.le_refl _) ?_,rfl,q _ hf⟩
 exact ⟨z,us,r,⟨_,Heap.get?_push_size _ rfl,rfl,_,rfl⟩⟩
theorem q8 (h:PA X es t):PE X (.List es pos) (FH t):=by
 intro pins s σ H Q I hq
 refine wpAny_List_spliced (thn (h pos pins s σ H _ I hq) fun us s1 ⟨xs,H1,I1,r,z,q⟩=>⟨by rw [<- r.length];exact z,?_⟩)
 have hf:H1 s1.heap.objs.size=none:=I1.hok.fresh (Nat.le_refl _)
 refine ⟨.ref s1.heap.objs.size,upd H1 s1.heap.objs.size (.lst xs),I1.laid (t':=s1.toks) (fun b u e=>Heap.get?_push_of_some _ e) (Nat.le_refl _) ?_,rfl,q _ hf⟩
 exact ⟨z,us,0,r,Heap.get?_push_size _ rfl⟩
end
abbrev Sp:=List V->Hp->VK->XK->Prop
abbrev CXT:=List Env->Hp->Shared->XK->Value->Shared->Prop
structure Env0 (P:Program) (w:World) (K:Frag) (mg:Str->Option Value) (base:Heap) (A:Around) (outer:List Env) (s:Shared) (H:Hp):Prop where
 frames:A.frames=some outer
 mod:Mod K mg base
 bs:∀ b o,base.get? b=some o->s.heap.get? b=some o/\H b=none
 bsz:base.objs.size<=s.heap.objs.size
 funs:s.heap.FunFrames base outer
 frf:∀ b ∈ frs outer,H b=none
 hok:HOk P w H s.heap
 bare:AllBare s.gens
def CE (outer:List Env) (P:Program) (w:World) (H:Hp) (s:Shared) (Q:VK) (u:Value) (s':Shared):Prop :=
 ∃ v H',s'.os=s.os/\AllBare s'.gens/\Un (frs outer) [] H H' s.heap s'.heap/\HOk P w H' s'.heap/\RelV v u/\Q v H'
def CR (CX:CXT) (outer:List Env) (P:Program) (w:World) (H:Hp) (s:Shared) (Q:VK) (E:XK) (r:Result) (s':Shared):Prop :=
 match r with
 | .ok (.ret u)=>CE outer P w H s Q u s'
 | .ok _=>False
 | .error e=>CX outer H s E e s'
structure FnOk (P:Program) (w:World) (K:Frag) (mg:Str->Option Value) (base:Heap) (CX:CXT) (k:Nat) (f:Addr) (fd:FuncData) (ps:List Str) (sp:Sp):Prop where
 len:∀ vs H Q E,sp vs H Q E->vs.length=ps.length
 run:∀ (A:Around) (outer:List Env) (s:Shared) (H:Hp) (args:Args) (us:List Value) (vs:List V) (Q:VK) (E:XK),Room k A->Env0 P w K mg base A outer s H->BindsTo s fd args (ps.zip us)->Vals vs us->sp vs H Q E ->
  codeAny (model P w) A (.call (.ref f) args) (CR CX outer P w H s Q E) s
theorem FnOk.imp {P:Program} {w:World} {K:Frag} {mg:Str->Option Value} {base:Heap} {CX:CXT} {k:Nat} {f:Addr} {fd:FuncData} {ps:List Str} {sp sp':Sp} (F:FnOk P w K mg base CX k f fd ps sp)
  (h:∀ vs H Q E,sp' vs H Q E->sp vs H Q E):FnOk P w K mg base CX k f fd ps sp' :=
 ⟨fun vs H Q E q=>F.len vs H Q E (h _ _ _ _ q),fun A outer s H args us vs Q E hr he hb hv hs=>F.run A outer s H args us vs Q E hr he hb hv (h _ _ _ _ hs)⟩
theorem Env0.make {P:Program} {w:World} {K:Frag} {mg:Str->Option Value} {base:Heap} {A:Around} {outer:List Env} {s:Shared} {H:Hp} (e:Env0 P w K mg base A outer s H) (C:Addr) (us:List Value) (kw:List (Str × Value)) :
  Env0 P w K mg base (A.under (.builtin "type.__call__" ⟨.ref C :: us,kw⟩)) outer s H:=⟨by first | exact e.frames | (simpa [Around.under,Code.envs,Code.isFrame,pushEnvs] using e.frames),e.mod,e.bs,e.bsz,e.funs,e.frf,e.hok,e.bare⟩
section
variable {X:Cx} {pins:List (Addr × Obj)} {σ:St} {H:Hp} {s s':Shared}
theorem Inv.env0 (I:Inv X pins σ H s):Env0 X.prog X.w X.K X.mg X.base X.A X.stack s H :=
 ⟨I.ok.frames,I.ok.mod,I.bs,Nat.le_trans I.ok.bsz I.sz,I.stack,I.stkFree,I.hok,I.bare⟩
theorem Inv.after {Q:VK} {u:Value} (I:Inv X pins σ H s) (h:CE X.stack X.prog X.w H s Q u s'):EP X pins σ Q u s':=by
 obtain ⟨v,H',os,bare,un,hok,r,q⟩:=h
 obtain ⟨hh,g,d,t,os'⟩:=s'
 obtain rfl:os'=s.os:=os
 exact ⟨v,H',I.call (h':=hh) (g':=g) (d':=d) (t':=t) (ch:=[]) un hok bare (fun b z=>absurd z (by simp)),r,q⟩
end
def Binds (K:Frag) (fd:FuncData) (ps:List Str) (ds:List Value):Prop :=
 ∀ (s:Shared) (us:List Value),K.In s.heap->(us ++ ds).length=ps.length->BindsTo s fd ⟨us,[]⟩ (ps.zip (us ++ ds))
theorem Binds.all {K:Frag} {fd:FuncData} {ps:List Str} (h:∀ us:List Value,us.length=ps.length->bindArgs fd ⟨us,[]⟩=pure (ps.zip us)):Binds K fd ps []:=fun s us _ hl=>by
 rw [List.append_nil] at hl ⊢
 exact .of_eq (h us hl)
def sv (CX:CXT) (X:Cx) (E:XK):Prop:=∀ (pins:List (Addr × Obj)) (σ:St) (H:Hp) (s:Shared) (e:Value) (s':Shared),Inv X pins σ H s->CX X.stack H s E e s'->X.xe e s'
section
variable {X:Cx} {CX:CXT} {k:Nat} {f C:Addr} {fd:FuncData} {ps:List Str} {sp:Sp} {dvs:List V} {ds:List Value} {E:XK} {x m:Str} {p pos apos:Pos} {e o:Expr} {es:List Expr} {ta:TE} {t:TA}
theorem nO {pins:List (Addr × Obj)} {σ:St} {H:Hp} {s:Shared} {Q:VK} {us:List Value} {vs:List V} (F:FnOk X.prog X.w X.K X.mg X.base CX k f fd ps sp) (hr:Room k X.A) (hb:Binds X.K fd ps ds) (hd:Vals dvs ds) (hx:sv CX X E)
  (I:Inv X pins σ H s) (r:Vals vs us) (h:sp (vs ++ dvs) H Q E):wpAny (model X.prog X.w) X.A (call (.ref f) us) (EP X pins σ Q) X.xe s:=by
 have r2:Vals (vs ++ dvs) (us ++ ds):=r.append hd
 have hl:(us ++ ds).length=ps.length:=by rw [<- r2.length];exact F.len _ _ _ _ h
 refine wpAny_call (codeAny_mono (F.run X.A X.stack s H ⟨us,[]⟩ (us ++ ds) (vs ++ dvs) Q E hr I.env0 (hb s us I.kIn hl) r2 h) fun r s' hq=>?_)
 cases r with
 | error e=>exact hx pins σ H s e s' I hq
 | ok fl =>
  cases fl with
  | ret u=>exact I.after hq
  | next=>exact False.elim hq
  | brk=>exact False.elim hq
  | cont=>exact False.elim hq
structure Mk (K:Frag) (C f:Addr):Prop where
 makes:PySem.W.makesIn K C=true
 init:findIn K (.ref C) "__init__"=some (some (.ref f))
 fn:PySem.W.isFn K (.ref f)=true
 kp:keepIn K (.ref C)=true
theorem xZ {pins:List (Addr × Obj)} {σ:St} {H:Hp} {s:Shared} {Q:VK} {us:List Value} {vs:List V} (M:Mk X.K C f) (F:FnOk X.prog X.w X.K X.mg X.base CX k f fd ps sp) (hr:Room (k + 1) X.A) (hb:Binds X.K fd ps ds) (hd:Vals dvs ds)
  (hx:sv CX X E) (I:Inv X pins σ H s) (r:Vals vs us)
  (h:∀ x dx,H x=none->H dx=none->dx ≠ x->sp (.ref x :: (vs ++ dvs)) (upd (upd H dx (.own x)) x (.ins C dx [])) (fun v H2=>v=.non/\Q (.ref x) H2) E) :
  wpAny (model X.prog X.w) X.A (call (.ref C) us) (EP X pins σ Q) X.xe s:=by
 have hq:=h (s.heap.objs.size + 1) s.heap.objs.size (I.hok.fresh (Nat.le_succ _)) (I.hok.fresh (Nat.le_refl _)) (Nat.ne_of_lt (Nat.lt_succ_self _))
 have I2:=Inv.made (C:=C) I
 have r2:Vals (V.ref (s.heap.objs.size + 1) :: (vs ++ dvs)) (Value.ref (s.heap.objs.size + 1) :: (us ++ ds)):=.cons rfl (r.append hd)
 have hl:(Value.ref (s.heap.objs.size + 1) :: us ++ ds).length=ps.length:=by
  have e:=r2.length
  rw [F.len _ _ _ _ hq] at e
  exact e.symm
 refine wpAny_call (yL (f:=f) I.kIn M.makes M.init (beq_iff_eq.mp M.fn) (codeAny_mono (F.run _ X.stack _ _ ⟨Value.ref (s.heap.objs.size + 1) :: us,[]⟩ (Value.ref (s.heap.objs.size + 1) :: (us ++ ds)) _ _ E (hr.make C us [])
  (I2.env0.make C us []) (hb _ (Value.ref (s.heap.objs.size + 1) :: us) I2.kIn hl) r2 hq) fun r s' hq'=>?_))
 cases r with
 | error e=>exact hx pins σ _ _ e s' I2 hq'
 | ok fl =>
  cases fl with
  | ret u =>
   obtain ⟨v,H',I3,rv,ev,q3⟩:=I2.after hq'
   subst ev
   exact ⟨rv,⟨V.ref (s.heap.objs.size + 1),H',I3,rfl,q3⟩⟩
  | next=>exact False.elim hq'
  | brk=>exact False.elim hq'
  | cont=>exact False.elim hq'
end
section
variable {X:Cx} {CX:CXT} {k:Nat} {f C:Addr} {fd:FuncData} {ps ks:List Str} {sp:Sp} {E:XK} {x m:Str} {p pos apos kpos:Pos} {e o:Expr} {es:List Expr} {kws:List Keyword} {te ta:TE} {t tk:TA} {nm:Option Str}
variable {g:List Value->List Value->List Value} {gV:List V->List V->List V}
end
structure aJ (N P:List Str) (sc:Scope):Prop where
 kind:sc.kind=.function
 co:sc.isCoroutine=false
 gen:sc.isGenerator=false
 nd:N.Nodup
 pre:N.take P.length=P
 par:∀ x ∈ P,sc.names.lookup x=some .local\/sc.names.lookup x=some .cell
 nofree:∀ y ∈ sc.names,y.2 ≠ .free
theorem qy {kindOf:Str->Option NameKind} {x:Str}:∀ {binds:List (Str × Value)} {m:Str->Option Value},(∀ v,(x,v) ∉ binds)->bindL kindOf binds m x=m x
 | [],_,_=>rfl
 | (n,v) :: r,m,h=>by
  unfold bindL
  rw [qy fun w hw=>h w (List.mem_cons_of_mem _ hw)]
  split
  ·have:x ≠ n:=by rintro rfl;exact h v List.mem_cons_self
   simp [this]
  ·rfl
theorem qA {kindOf:Str->Option NameKind} {x:Str}:∀ {binds:List (Str × Value)} {m:Str->Option Value},(∀ v,(x,v) ∉ binds)->bindC kindOf binds m x=m x
 | [],_,_=>rfl
 | (n,v) :: r,m,h=>by
  unfold bindC
  rw [qA fun w hw=>h w (List.mem_cons_of_mem _ hw)]
  split
  ·rfl
  ·have:x ≠ n:=by rintro rfl;exact h v List.mem_cons_self
   simp [this]
theorem qz {kindOf:Str->Option NameKind} {x:Str} {v:Value}:∀ {P:List Str} {vs:List Value} {i:Nat} {m:Str->Option Value},P.Nodup->P[i]?=some x->vs[i]?=some v->kindOf x=some .local ->
  bindL kindOf (P.zip vs) m x=some v
 | [],_,_,_,_,h,_,_=>by simp at h
 | _ :: _,[],_,_,_,_,h,_=>by simp at h
 | p :: P,w :: vs,0,m,nd,h1,h2,hk=>by
  simp at h1 h2;subst h1;subst h2
  show bindL kindOf ((p,w) :: P.zip vs) m p=_
  unfold bindL
  rw [qy fun v hv=>(List.nodup_cons.mp nd).1 (List.of_mem_zip hv).1,if_pos hk]
  simp
 | p :: P,w :: vs,i + 1,m,nd,h1,h2,hk=>by
  show bindL kindOf ((p,w) :: P.zip vs) m x=_
  unfold bindL
  exact qz (i:=i) (List.nodup_cons.mp nd).2 (by simpa using h1) (by simpa using h2) hk
theorem qB {kindOf:Str->Option NameKind} {x:Str} {v:Value}:∀ {P:List Str} {vs:List Value} {i:Nat} {m:Str->Option Value},P.Nodup->P[i]?=some x->vs[i]?=some v->kindOf x ≠ some .local ->
  bindC kindOf (P.zip vs) m x=some v
 | [],_,_,_,_,h,_,_=>by simp at h
 | _ :: _,[],_,_,_,_,h,_=>by simp at h
 | p :: P,w :: vs,0,m,nd,h1,h2,hk=>by
  simp at h1 h2;subst h1;subst h2
  show bindC kindOf ((p,w) :: P.zip vs) m p=_
  unfold bindC
  rw [qA fun v hv=>(List.nodup_cons.mp nd).1 (List.of_mem_zip hv).1,if_neg hk]
  simp
 | p :: P,w :: vs,i + 1,m,nd,h1,h2,hk=>by
  show bindC kindOf ((p,w) :: P.zip vs) m x=_
  unfold bindC
  exact qB (i:=i) (List.nodup_cons.mp nd).2 (by simpa using h1) (by simpa using h2) hk
def start (N:List Str) (vs:List V):St:=vs.map some ++ List.replicate (N.length - vs.length) none
def bI (CX:CXT) (P:Program) (w:World) (K:Frag) (mg:Str->Option Value) (base:Heap) (N:List Str) (qual:Str) (scope:Scope) (f:Addr) (cd:Value) (A:Around) (outer:List Env) (s:Shared) (H:Hp) (E:XK):Cx where
 prog:=P
 w:=w
 K:=K
 mg:=mg
 base:=base
 A:=A.deeper (envOfC qual scope s.heap.objs.size f cd)
 N:=N
 s₀:=s
 H₀:=H
 env:=envOfC qual scope s.heap.objs.size f cd
 outer:=outer
 stack:=envOfC qual scope s.heap.objs.size f cd :: outer
 ex:=[]
 calm:=true
 fn:=fun _=>true
 pn:=[]
 xe:=fun e s'=>wpAny (model P w) (A.deeper (envOfC qual scope s.heap.objs.size f cd)) (leaving (envOfC qual scope s.heap.objs.size f cd) e) (fun _ s''=>CX outer H s E e s'') (fun e' s''=>CX outer H s E e' s'') s'
theorem t7 {sc:Scope} {n:Nat} {x:Str} (h:sc.names.lookup x=some .cell):∃ c,(cellsFrom n sc.names []).lookup x=some c:=by
 have q:=PySem.W.cellsFrom_some sc.names n [] (.inl h)
 exact Option.isSome_iff_exists.mp q
theorem w5 {CX:CXT} {P:Program} {w:World} {K:Frag} {mg:Str->Option Value} {base:Heap} {N ps:List Str} {qual:Str} {scope:Scope} {f:Addr} {cd:Value} {A:Around} {outer:List Env} {s s1:Shared} {H:Hp} {E:XK} {us:List Value} {vs:List V}
  (S:aJ N ps scope) (hd:A.handled=none) (e0:Env0 P w K mg base A outer s H) (hl:vs.length=ps.length) (r:Vals vs us)
  (x:InCallC s s.heap.objs.size (bindL (envOfC qual scope s.heap.objs.size f cd).kindOf (ps.zip us) fun _=>none) (cellsFrom (s.heap.objs.size + 1) scope.names []) (bindC (envOfC qual scope s.heap.objs.size f cd).kindOf (ps.zip us) fun _=>none) s1) :
  Inv (bI CX P w K mg base N qual scope f cd A outer s H E) [] (start N vs) H s1:=by
 have hpl:ps.length<=N.length:=by have:=congrArg List.length S.pre;rw [List.length_take] at this;omega
 obtain ⟨h1,tk,rfl,hk⟩:=x.done
 have noA:∀ b:Addr,b ∉ (bI CX P w K mg base N qual scope f cd A outer s H E).ex:=fun b z=>absurd (show b ∈ ([]:List Addr) from z) (by simp)
 refine ⟨⟨e0.mod,S.kind,rfl,rfl,Nat.le_refl _,fun y z c h1 h2=>?_,fun y hy=>?_,fun y c _ h=>?_,fun _=>hd,Around.frames_deeper e0.frames,.inr ⟨rfl,rfl⟩,fun b z=>absurd z (noA b),e0.bs,e0.bsz,fun b _ _=>noA b,fun b z=>absurd z (noA b),e0.funs,e0.frf⟩,
  rfl,e0.bare,Un.kept hk,⟨_,x.toInCall.ns,fun i y v h1 h2 h3=>?_⟩,fun y c h=>⟨_,x.cell y c h⟩,e0.hok.fresh (Nat.le_refl _),fun y c h=>?_,fun p hp=>absurd (show p ∈ ([]:List (Addr × Obj)) from hp) (by simp),e0.hok.kept hk,?_⟩
 ·exact name_of_addr x.apart (PySem.mem_of_lookup h1) (PySem.mem_of_lookup h2)
 ·have hy:scope.names.lookup y=some .cell\/scope.names.lookup y=some .free:=hy
  rcases hy with hy | hy
  ·exact t7 hy
  ·exact absurd rfl (S.nofree _ (PySem.mem_of_lookup hy))
 ·exact Nat.le_of_lt (x.above y c (PySem.mem_of_lookup h))
 ·have hi:i < vs.length:=by
   unfold start at h2
   by_cases hi:i < vs.length
   ·exact hi
   ·rw [List.getElem?_append_right (by simpa using hi)] at h2
    rw [List.getElem?_replicate] at h2
    split at h2 <;> cases h2
  have ha:vs[i]?=some v:=by
   unfold start at h2
   rw [List.getElem?_append_left (by simpa using hi),List.getElem?_map] at h2
   cases e:vs[i]? with
   | none=>rw [e] at h2;cases h2
   | some a=>rw [e] at h2;cases h2;rfl
  obtain ⟨u,hu,rv⟩:=r.get ha
  have hp:ps[i]?=some y:=by
   rw [<- S.pre,List.getElem?_take_of_lt (by omega)];exact h1
  have ndP:ps.Nodup:=by rw [<- S.pre];exact S.nd.sublist (List.take_sublist _ _)
  refine ⟨u,rv,?_⟩
  rcases S.par y (List.mem_of_getElem? hp) with k | k
  ·exact .inl ⟨k,qz ndP hp hu k⟩
  ·obtain ⟨c,e⟩:=t7 (n:=s.heap.objs.size + 1) k
   refine .inr ⟨.inl k,c,e,?_⟩
   have q:=x.cell y c e
   rw [qB ndP hp hu (by show scope.names.lookup y ≠ _;rw [k];decide)] at q
   exact q
 ·exact e0.hok.fresh (Nat.le_of_lt (x.above y c (PySem.mem_of_lookup h)))
 ·unfold start
  show _=N.length
  rw [List.length_append,List.length_map,List.length_replicate]
  omega
theorem E7 {CX:CXT} {P:Program} {w:World} {K:Frag} {mg:Str->Option Value} {base:Heap} {k:Nat} {f:Addr} {name qual:Str} {params:Arguments} {body:List Stmt} {scope:Scope} {dV kV doc pm cdv ct oc:Value} {an od:Option Addr}
  {osl:Array (Option Value)} {N ps:List Str} {sp:Sp} (lk:K.lookup f=some ⟨oc,od,.func (fnOf name qual params body scope dV kV doc pm an cdv ct),osl⟩) (hcd:codeIn K cdv qual=true) (S:aJ N ps scope)
  (len:∀ vs H Q E,sp vs H Q E->vs.length=ps.length)
  (hbody:∀ (A:Around) (outer:List Env) (s:Shared) (H:Hp) (vs:List V) (Q:VK) (E:XK),Room k (A.deeper (envOfC qual scope s.heap.objs.size f cdv))->sp vs H Q E ->
   ∃ t,PSs (bI CX P w K mg base N qual scope f cdv A outer s H E) body t/\t { nx:=fun _ H'=>Q .non H',rt:=Q } (start N vs) H) :
  FnOk P w K mg base CX (k + 1) f (fnOf name qual params body scope dV kV doc pm an cdv ct) ps sp:=by
 refine ⟨len,fun A outer s H args us vs Q E hr e0 hb r hsp=>?_⟩
 have hl:=len _ _ _ _ hsp
 have KX:K.In s.heap:=e0.mod.kin.keeps fun b o e=>(e0.bs b o e).1
 have lim:s.heap.NoLimit:=e0.mod.nolimit.keeps fun b o e=>(e0.bs b o e).1
 have hkind:∀ y ∈ ps.zip us,scope.names.lookup y.1=some .local\/(scope.names.lookup y.1=some .cell/\((cellsFrom (s.heap.objs.size + 1) scope.names []).lookup y.1).isSome=true):=fun ⟨n,v⟩ hy=>by
  rcases S.par n (List.of_mem_zip hy).1 with q | q
  ·exact .inl q
  ·exact .inr ⟨q,PySem.W.cellsFrom_some _ _ _ (.inl q)⟩
 refine codeAny_call_function hr.depth (KX _ _ lk) rfl S.co S.gen rfl (PySem.W.codeRec_of KX hcd) (hb _ _ _ _ ?_)
 refine wpAny_newFunctionEnv_cells S.kind hkind fun env he s1 x=>?_
 subst he
 refine ⟨lim.keeps x.toInCall.keep,codeAny_func ?_⟩
 obtain ⟨t,ht,hq⟩:=hbody A outer s H vs Q E (hr.deeper _) hsp
 have I:Inv (bI CX P w K mg base N qual scope f cdv A outer s H E) [] (start N vs) H s1:=w5 S hr.hd e0 hl r x
 refine wpAny_mono (ht [] s1 (start N vs) H _ I hq) (fun fl s' hs=>?_) fun e s' hs=>hs
 have fin:∀ {σ':St} {H':Hp} {v:V} {u:Value},Inv (bI CX P w K mg base N qual scope f cdv A outer s H E) [] σ' H' s'->RelV v u->Q v H'->CE outer P w H s Q u s' :=
  fun {σ' H' v u} J rv q=>⟨v,H',J.os,J.bare,J.base,J.hok,rv,q⟩
 cases fl with
 | ret u =>
  obtain ⟨v,σ',H',J,rv,q⟩:=hs
  exact fin J rv q
 | next =>
  obtain ⟨σ',H',J,q⟩:=hs
  exact fin (v:=V.non) (u:=Value.none) J rfl q
 | brk =>
  obtain ⟨_,_,_,q⟩:=hs
  exact False.elim q
 | cont =>
  obtain ⟨_,_,_,q⟩:=hs
  exact False.elim q
end L2
namespace L2
open PySem PySem.Spec PyProof.Rows
section
variable {X:Cx} {x:Str} {p pos:Pos} {e:Expr} {es:List Expr} {t:TA} {id T:String} {r:List V->Hp->VK->Prop}
def tCB (r:List V->Hp->VK->Prop) (t:TA):TE:=fun σ H Q=>t σ H fun vs H1=>r vs H1 Q
theorem gw (hc:lg X (.builtin id) r) (hg:Gl X x) (hm:X.mg x=none) (hv:bootBuiltins x=some (.builtin id)) (ha:PA X (e :: es) t) (hn:x ≠ "__name__":=by decide) (hdb:(x == ("__debug__":Str))=false:=by decide)
  (he:starEach (e :: es) X.env=(false,eval e X.env) :: starEach es X.env:=by rfl) (hpl:(backTo pos (starEach es X.env)).any (·.1)=false:=by rfl):PE X (.Call (.Name x p) (e :: es) [] pos) (tCB r t):=by
 intro pins s σ H Q I h
 refine wpAny_Call_Name_kw (j8 I hg hm hv ?_ hn hdb)
 exact PyProof.Rows.callWith_builtin1 (thn (ha pos pins s σ H _ I h) fun us s1 ⟨vs,H1,I1,r1,q1⟩=>hc pins s1 σ H1 vs us Q I1 r1 q1) he hpl
theorem dB (hc:lg X (.type T) r) (hg:Gl X x) (hm:X.mg x=none) (hv:bootBuiltins x=some (.type T)) (ha:PA X (e :: es) t) (hn:x ≠ "__name__":=by decide) (hdb:(x == ("__debug__":Str))=false:=by decide)
  (he:starEach (e :: es) X.env=(false,eval e X.env) :: starEach es X.env:=by rfl) (hpl:(backTo pos (starEach es X.env)).any (·.1)=false:=by rfl):PE X (.Call (.Name x p) (e :: es) [] pos) (tCB r t):=by
 intro pins s σ H Q I h
 refine wpAny_Call_Name_kw (j8 I hg hm hv ?_ hn hdb)
 exact PyProof.Rows.callWith_type1 (thn (ha pos pins s σ H _ I h) fun us s1 ⟨vs,H1,I1,r1,q1⟩=>hc pins s1 σ H1 vs us Q I1 r1 q1) he hpl
end
end L2
namespace HT
open PySem PyProof.Rows
section
open PySem.SeqAt
open PySem.AutoSeq1 (wpAny_loadPart')
open PySem.MeetsSeq PySem.MeetsSeq2 PySem.MeetsSeq3
end
section
variable {prog:Program} {w:World} {A:Around} {E:Value->Shared->Prop} {s:Shared}
def sIx (n d:Nat):Option Int->Nat
 | none=>d
 | some v=>if v < 0 then (v + (n:Int)).toNat else min v.toNat n
end
end HT
namespace L2
open PySem PySem.Spec PyProof.Rows
abbrev TO:=St->Hp->(Option Int->Hp->Prop)->Prop
def PO (X:Cx) (e:Option Expr) (t:TO):Prop :=
 ∀ (pins:List (Addr × Obj)) (s:Shared) (σ:St) (H:Hp) (Q:Option Int->Hp->Prop),Inv X pins σ H s->t σ H Q ->
  wpAny (model X.prog X.w) X.A (evalPart e X.env) (fun u s'=>∃ o H',Inv X pins σ H' s'/\IsPart u o/\Q o H') X.xe s
def Ad:TO:=fun _ H Q=>Q none H
def Em (t:TE):TO:=fun σ H Q=>t σ H fun x H1=>∃ i,x=.int i/\Q (some i) H1
theorem uS {ns:List Int}:∀ {us:List Value},Vals (ns.map V.int) us->IntsAre us ns:=by
 induction ns with
 | nil=>intro us r;rw [List.map_nil] at r;cases r;exact .nil
 | cons n ns ih =>
  intro us r
  rw [List.map_cons] at r
  cases r with
  | cons r1 r2 =>
   obtain ⟨t,e⟩:=r1
   subst e
   exact .cons n t (ih r2)
section
variable {X:Cx} {e:Expr} {te:TE} {lo hi:Option Expr} {tl th:TO} {pos p2:Pos}
theorem Ax:PO X none Ad:=by
 intro pins s σ H Q I h
 rw [evalPart_none]
 exact wpAny_pure ⟨none,H,I,.none,h⟩
theorem Aw (h:PE X e te):PO X (some e) (Em te):=by
 intro pins s σ H Q I hw
 rw [evalPart_some]
 refine thn (h pins s σ H _ I hw) fun u s1 ⟨x,H1,I1,r1,q1⟩=>?_
 obtain ⟨i,rfl,q⟩:=q1
 obtain ⟨t,rfl⟩:=r1
 exact ⟨some i,H1,I1,.int i t,q⟩
def SlR (X:Cx) (r:V->Option Int->Option Int->Hp->VK->Prop):Prop :=
 ∀ (pins:List (Addr × Obj)) (s:Shared) (σ:St) (H:Hp) (x:V) (v vl vu:Value) (lo hi:Option Int) (sl:Addr) (Q:VK),Inv X pins σ H s->RelV x v->s.heap.IsSliceOf sl vl vu .none->IsPart vl lo->IsPart vu hi->r x lo hi H Q ->
  ∃ T id,typeLookup (.type T) "__getitem__"=pure (some (.builtin id))/\s.TypeIs v T/\wpAny (model X.prog X.w) X.A (getItem v (.ref sl)) (EP X pins σ Q) X.xe s
def tSl (r:V->Option Int->Option Int->Hp->VK->Prop) (te:TE) (tl th:TO):TE:=fun σ H Q=>te σ H fun x H1=>tl σ H1 fun l H2=>th σ H2 fun u H3=>r x l u H3 Q
theorem yt {r:V->Option Int->Option Int->Hp->VK->Prop} (hr:SlR X r) (he:PE X e te) (hl:PO X lo tl) (hu:PO X hi th):PE X (.Subscript e (.Slice lo hi none p2) pos) (tSl r te tl th):=by
 intro pins s σ H Q I h
 refine Subscript_ (thn (he pins s σ H _ I h) fun v s1 ⟨x,H1,I1,r1,q1⟩=>?_)
 refine wpAny_Slice (thn (hl pins s1 σ H1 _ I1 q1) fun vl s2 ⟨l,H2,I2,pl,q2⟩=>thn (hu pins s2 σ H2 _ I2 q2) fun vu s3 ⟨u,H3,I3,pu,q3⟩=>?_)
 rw [evalPart_none]
 refine wpAny_pure ?_
 have I4:Inv X pins σ H3 { s3 with heap:=s3.heap.push { cls:=.type "slice",data:=.fields #[vl,vu,.none] } }:=I3.kept (t':=s3.toks) fun b ob q=>Heap.get?_push_of_some _ q
 obtain ⟨T,id,hT,ht,hg⟩:=hr pins { s3 with heap:=s3.heap.push { cls:=.type "slice",data:=.fields #[vl,vu,.none] } } σ H3 x v vl vu l u s3.heap.objs.size Q I4 r1 (Heap.IsSliceOf.new ..) pl pu q3
 show wpAny (model X.prog X.w) X.A (subscriptTail e (.Slice lo hi none p2) v (.ref s3.heap.objs.size)) (EP X pins σ Q) X.xe { s3 with heap:=s3.heap.push { cls:=.type "slice",data:=.fields #[vl,vu,.none] } }
 exact tail_any (ops:=[.ref s3.heap.objs.size,v]) ht hT hg (by with_unfolding_all rfl)
def xp (xs:List V) (lo hi:Option Int):List V:=(xs.drop (HT.sIx xs.length 0 lo)).take (HT.sIx xs.length xs.length hi - HT.sIx xs.length 0 lo)
theorem tY (xs:List V) (lo hi:Option Int):(xp xs lo hi).length<=xs.length:=by
 unfold xp
 rw [List.length_take,List.length_drop]
 omega
end
end L2
namespace L2
open PySem PySem.Spec PyProof.Rows
def ixN (n:Nat) (i:Int):Option Nat:=if 0<=i then (if i < n then some i.toNat else none) else if -(n:Int)<=i then some (i + n).toNat else none
def atI {α:Type} (xs:List α) (i:Int):Option α:=(ixN xs.length i).bind fun j=>xs[j]?
theorem vV {n:Nat} {i:Int} {j:Nat} (h:ixN n i=some j):seqIndex? i n=some j/\j < n/\-(n:Int)<=i/\i < n:=by
 unfold ixN at h
 by_cases h0:0<=i
 ·rw [if_pos h0] at h
  by_cases h1:i < n
  ·rw [if_pos h1] at h
   have e:i.toNat=j:=Option.some.inj h
   exact ⟨by rw [seqIndex_of h0 h1,e],by omega,by omega,h1⟩
  ·rw [if_neg h1] at h;cases h
 ·rw [if_neg h0] at h
  by_cases h1:-(n:Int)<=i
  ·rw [if_pos h1] at h
   have e:(i + n).toNat=j:=Option.some.inj h
   exact ⟨by rw [seqIndex_neg (by omega) h1,e],by omega,h1,by omega⟩
  ·rw [if_neg h1] at h;cases h
theorem su {α:Type} {xs:List α} {i:Int} {v:α} (h:atI xs i=some v):∃ j,seqIndex? i xs.length=some j/\xs[j]?=some v/\j < xs.length/\-(xs.length:Int)<=i/\i < xs.length:=by
 unfold atI at h
 cases e:ixN xs.length i with
 | none=>rw [e] at h;cases h
 | some j =>
  rw [e] at h
  obtain ⟨h1,h2,h3,h4⟩:=vV e
  exact ⟨j,h1,h,h2,h3,h4⟩
def nv (b:Expr):Prop:=∀ o i,subscripted b false o i=operate [o,i] (getItem o i)
def IxR (X:Cx) (r:R2):Prop :=
 ∀ (value slice:Expr) (pins:List (Addr × Obj)) (s:Shared) (σ:St) (H:Hp) (x y:V) (v u:Value) (Q:VK),Inv X pins σ H s->RelV x v->RelV y u->r x y H Q ->
  subscripted slice false v u=operate [v,u] (getItem v u)->wpAny (model X.prog X.w) X.A (subscriptTail value slice v u) (EP X pins σ Q) X.xe s
def MtR (X:Cx) (id:String) (r:V->List V->Hp->VK->Prop):Prop :=
 ∀ (pins:List (Addr × Obj)) (s:Shared) (σ:St) (H:Hp) (x:V) (xs:List V) (v:Value) (us:List Value) (Q:VK),Inv X pins σ H s->RelV x v->Vals xs us->r x xs H Q ->
  wpAny (model X.prog X.w) X.A (call (.builtin id) (v :: us)) (EP X pins σ Q) X.xe s
section
variable {X:Cx} {a b:Expr} {ta tb:TE} {pos:Pos}
theorem IxR.or {r r':R2} (h:IxR X r) (h':IxR X r'):IxR X (fun x y H Q=>r x y H Q\/r' x y H Q):=by
 intro value slice pins s σ H x y v u Q I rx ry q hs
 rcases q with q | q
 ·exact h value slice pins s σ H x y v u Q I rx ry q hs
 ·exact h' value slice pins s σ H x y v u Q I rx ry q hs
theorem BZ {r:R2} (hr:IxR X r) (ha:PE X a ta) (hb:PE X b tb) (hs:nv b):PE X (.Subscript a b pos) (tOp r ta tb):=by
 intro pins s σ H Q I h
 exact Subscript_ (D5 ha hb I h fun v u s2 x y H2 I2 rx ry q=>hr a b pins s2 σ H2 x y v u Q I2 rx ry q (hs _ _))
def EC (K:Frag):R2:=fun x y H Q=>∃ p xs i v,x=.ref p/\y=.int i/\SqL K H p xs/\atI xs i=some v/\Q v H
def Ez (K:Frag):R2:=fun x y H Q=>∃ p xs i v,x=.ref p/\y=.int i/\SqT K H p xs/\atI xs i=some v/\Q v H
def EA:R2:=fun x y H Q=>∃ z i c,x=.str z/\y=.int i/\z.length<=sizeLine/\atI z.cps.toList i=some c/\Q (.str ⟨#[c]⟩) H
theorem ix_list:IxR X (EC X.K):=by
 intro value slice pins s σ H x y v u Q I rx ry h hs
 obtain ⟨p,xs,i,z,rfl,rfl,hq,he,q⟩:=h
 cases rx
 obtain ⟨t,rfl⟩:=ry
 obtain ⟨its,r,pl,hz⟩:=I.list hq
 obtain ⟨j,h1,h2,h3,h4,h5⟩:=su he
 obtain ⟨w,ew,rw'⟩:=r.get h2
 have hl:=r.length
 have hn:=ou
 have fin:EP X pins σ Q w s:=⟨z,H,I,rw',q⟩
 by_cases h0:0<=i
 ·have hj:i.toNat=j:=by
   rw [seqIndex_of h0 h5] at h1
   exact Option.some.inj h1
  exact item_listR pl.isList h0 (by omega) (by rw [hj];simpa using ew) fin hs
 ·have hj:(i + (its.toArray.size:Int)).toNat=j:=by
   rw [seqIndex_neg (by omega) h4] at h1
   rw [List.size_toArray,<- hl]
   exact Option.some.inj h1
  exact subscriptTail_builtinR (x:=w) pl.isList.typeIs slot_list_getitem.lookup
   (wpAny_getItem_list_neg (Q:=fun r s'=>r=w/\EP X pins σ Q r s') pl.isList (by omega) (by rw [List.size_toArray] <;> omega) (by omega) (by rw [hj];simpa using ew) ⟨rfl,fin⟩) hs
theorem ix_tup:IxR X (Ez X.K):=by
 intro value slice pins s σ H x y v u Q I rx ry h hs
 obtain ⟨p,xs,i,z,rfl,rfl,hq,he,q⟩:=h
 cases rx
 obtain ⟨t,rfl⟩:=ry
 obtain ⟨its,r,pl,hz⟩:=I.tuple hq
 obtain ⟨j,h1,h2,h3,h4,h5⟩:=su he
 obtain ⟨w,ew,rw'⟩:=r.get h2
 have hl:=r.length
 have hn:=ou
 have fin:EP X pins σ Q w s:=⟨z,H,I,rw',q⟩
 exact subscriptTail_builtinR (x:=w) pl.typeIs slot_tuple_getitem.lookup
  (getItem_tuple (j:=j) (Q:=fun r s'=>r=w/\EP X pins σ Q r s') pl (by omega) (by omega) (by rw [List.size_toArray,<- hl];exact h1) (by simpa using ew) ⟨rfl,fin⟩) hs
theorem DG:IxR X EA:=by
 intro value slice pins s σ H x y v u Q I rx ry h hs
 obtain ⟨z,i,c,rfl,rfl,hz,he,q⟩:=h
 obtain ⟨t,rfl⟩:=rx
 obtain ⟨t',rfl⟩:=ry
 obtain ⟨j,h1,h2,h3,h4,h5⟩:=su he
 have hl:z.cps.toList.length=z.length:=by simp [Str.length]
 rw [hl] at h1 h4 h5
 have hn:=ou
 exact tail_any (typeIs_str s z t) slot_str_getitem.lookup (getItem_str (c:=c) (by
  have e1:decide (i < -(2 ^ 63:Int))=false:=decide_eq_false (by omega)
  have e2:decide (i ≥ 2 ^ 63)=false:=decide_eq_false (by omega)
  rw [e1,e2,Bool.or_false]) (by rw [h1];simpa using h2) ⟨.str ⟨#[c]⟩,H,I.tok _,⟨_,rfl⟩,q⟩) hs
def rIx (K:Frag):R2:=fun x y H Q=>EC K x y H Q\/Ez K x y H Q\/EA x y H Q
theorem DH:IxR X (rIx X.K):=ix_list.or (ix_tup.or DG)
theorem uN (its:List Value) (n j:Nat) (u:Value):Obj.mapSeq (·.setIfInBounds j u) { cls:=.type "list",data:=.seq its.toArray n }={ cls:=.type "list",data:=.seq (its.set j u).toArray n }:=by
 simp [Obj.mapSeq]
theorem Inv.lst {pins:List (Addr × Obj)} {σ:St} {H:Hp} {s:Shared} {p:Addr} {xs:List V} (I:Inv X pins σ H s) (h:H p=some (.lst xs)) :
  ∃ (its:List Value) (n:Nat),Vals xs its/\s.heap.get? p=some { cls:=.type "list",data:=.seq its.toArray n }/\xs.length<=sizeLine:=by
 obtain ⟨z,its,n,r,e⟩:=I.hok p _ h
 exact ⟨its,n,r,e,z⟩
theorem Inv.lstUpd {pins:List (Addr × Obj)} {σ:St} {H:Hp} {s:Shared} {p:Addr} {xs ys:List V} {its its':List Value} {n n':Nat} {f:Obj->Obj} (I:Inv X pins σ H s) (h:H p=some (.lst xs))
  (ho:s.heap.get? p=some { cls:=.type "list",data:=.seq its.toArray n }) (hf:f { cls:=.type "list",data:=.seq its.toArray n }={ cls:=.type "list",data:=.seq its'.toArray n' }) (r:Vals ys its') (hz:ys.length<=sizeLine) (t:Nat) :
  Inv X pins σ (upd H p (.lst ys)) { s with heap:=s.heap.update p f,toks:=t }:=by
 have e:(s.heap.update p f).get? p=some { cls:=.type "list",data:=.seq its'.toArray n' }:=by
  rw [Heap.get?_update_self f ho (by rw [hf] <;> rfl),hf]
 refine I.write (x:=p) (e:=p) (by rw [h];trivial) (.inl rfl) (fun b u hb q=>(Heap.get?_update_other _ _ (Ne.symm hb)).trans q) ⟨_,e⟩ ?_
 exact ⟨hz,its',n',r,e⟩
def Ex:V->V->V->Hp->(Hp->Prop)->Prop:=fun o i v H Q=>∃ p xs k j,o=.ref p/\i=.int k/\H p=some (.lst xs)/\ixN xs.length k=some j/\Q (upd H p (.lst (xs.set j v)))
theorem xU:D7 X Ex:=by
 intro pins s σ H o i v ov iv u Q I ro ri rv h
 obtain ⟨p,xs,k,j,rfl,rfl,hp,hj,q⟩:=h
 cases ro
 obtain ⟨t,rfl⟩:=ri
 obtain ⟨its,n,r,ho,hz⟩:=I.lst hp
 obtain ⟨h1,h2,h3,h4⟩:=vV hj
 have hl:=r.length
 have hn:=ou
 have I':Inv X pins σ (upd H p (.lst (xs.set j v))) { s with heap:=s.heap.update p (Obj.mapSeq (·.setIfInBounds j u)) } :=
  I.lstUpd hp ho (uN its n j u) (r.set rv j) (by rw [List.length_set];exact hz) s.toks
 by_cases h0:0<=k
 ·have hk:k.toNat=j:=by
   rw [seqIndex_of h0 h4] at h1
   exact Option.some.inj h1
  exact PySem.W.ki_setAt ho h0 (by omega) (by rw [List.size_toArray,<- hl];exact h4) (by rw [hk];exact ⟨_,I',q⟩)
 ·have hk:(k + (its.toArray.size:Int)).toNat=j:=by
   rw [seqIndex_neg (by omega) h3] at h1
   rw [List.size_toArray,<- hl]
   exact Option.some.inj h1
  exact PySem.W.ki_setBack ho (by omega) (by rw [List.size_toArray,<- hl];exact h3) (by omega) (by rw [hk];exact ⟨_,I',q⟩)
theorem qI (lo hi:Option Int) (n:Nat):(sliceBounds lo hi none n).1=((HT.sIx n 0 lo:Nat):Int)/\(sliceBounds lo hi none n).2.1=((HT.sIx n n hi:Nat):Int)/\(sliceBounds lo hi none n).2.2=1:=by
 refine ⟨?_,?_,rfl⟩
 ·cases lo with
  | none=>simp [sliceBounds,HT.sIx]
  | some i =>
   simp only [sliceBounds,HT.sIx,Option.getD_none,show (1:Int) > 0 by decide,if_true]
   by_cases h:i < 0
   ·simp only [h,if_true] <;> omega
   ·simp only [h,if_false] <;> omega
 ·cases hi with
  | none=>simp [sliceBounds,HT.sIx]
  | some i =>
   simp only [sliceBounds,HT.sIx,Option.getD_none,show (1:Int) > 0 by decide,if_true]
   by_cases h:i < 0
   ·simp only [h,if_true] <;> omega
   ·simp only [h,if_false] <;> omega
theorem pC (its:List Value) (lo hi:Option Int):slicePick its.toArray lo hi none=((its.drop (HT.sIx its.length 0 lo)).take (HT.sIx its.length its.length hi - HT.sIx its.length 0 lo)).toArray:=by
 obtain ⟨h1,h2,h3⟩:=qI lo hi its.toArray.size
 unfold slicePick
 rw [h1,h2,h3]
 simp only [sliceRange_one,pick_run,List.size_toArray] <;> rfl
def FN (K:Frag):V->Option Int->Option Int->Hp->VK->Prop:=fun x lo hi H Q=>∃ a xs,x=.ref a/\SqL K H a xs/\∀ p,H p=none->Q (.ref p) (upd H p (.lst (xp xs lo hi)))
theorem Af:SlR X (FN X.K):=by
 intro pins s σ H x v vl vu lo hi sl Q I rx hs pl pu h
 obtain ⟨a,xs,rfl,hx,q⟩:=h
 cases rx
 obtain ⟨its,r,ht,hz⟩:=I.list hx
 have hlen:=r.length
 refine ⟨"list",_,slot_list_getitem.lookup,ht.isList.typeIs,?_⟩
 refine wpAny_getItem_list_slice ht.isList hs pl pu .none (by simp) ?_ (by rw [List.size_toArray] <;> omega)
 rw [pC,<- hlen]
 refine ⟨.ref s.heap.objs.size,_,I.laid (t':=s.toks) (o:=.lst (xp xs lo hi)) (fun b ob q=>Heap.get?_push_of_some _ q) (Nat.le_refl _) ?_,rfl,q _ (I.hok.fresh (Nat.le_refl _))⟩
 exact ⟨Nat.le_trans (tY xs lo hi) hz,_,0,(r.drop (HT.sIx xs.length 0 lo)).take (HT.sIx xs.length xs.length hi - HT.sIx xs.length 0 lo),Heap.get?_push_size _ rfl⟩
theorem kW:lg X (.builtin "len") (fun xs H Q=>∃ p ys,xs=[.ref p]/\(SqL X.K H p ys\/SqT X.K H p ys)/\Q (.int ys.length) H):=by
 intro pins s σ H xs us Q I r h
 obtain ⟨p,ys,rfl,hq,q⟩:=h
 obtain ⟨u,rfl,rx⟩:=p9 r
 cases rx
 have hn:=ou
 rcases hq with hq | hq
 ·obtain ⟨its,r',pl,hz⟩:=I.list hq
  have hlen:=r'.length
  exact Calls.call_len_list pl.isList (by simp only [List.size_toArray] <;> omega) ⟨.int ys.length,H,I.tok _,⟨s.toks + 1,by rw [List.size_toArray,hlen]⟩,q⟩
 ·obtain ⟨its,r',pl,hz⟩:=I.tuple hq
  have hlen:=r'.length
  exact len_tuple pl (by simp only [List.size_toArray] <;> omega) ⟨.int ys.length,H,I.tok _,⟨s.toks + 1,by rw [List.size_toArray,hlen]⟩,q⟩
theorem kU:lg X (.type "list") (fun xs H Q=>∃ p ys,xs=[.ref p]/\(SqL X.K H p ys\/SqT X.K H p ys)/\∀ l,H l=none->Q (.ref l) (upd H l (.lst ys))):=by
 intro pins s σ H xs us Q I r h
 obtain ⟨p,ys,rfl,hq,q⟩:=h
 obtain ⟨u,rfl,rx⟩:=p9 r
 cases rx
 have fin:∀ (its:List Value),Vals ys its->ys.length<=sizeLine->∀ (h':Heap) (c':Nat),(∀ b o',s.heap.get? b=some o'->h'.get? b=some o') ->
   h'.get? s.heap.objs.size=some { cls:=.type "list",dict:=none,data:=.seq its.toArray c',slots:=#[] }->EP X pins σ Q (.ref s.heap.objs.size) { s with heap:=h' }:=fun its r' hz h' c' kp e =>
  ⟨.ref s.heap.objs.size,_,I.laid (t':=s.toks) kp (Nat.le_refl _) (show ObjOk X.prog X.w _ h' _ (.lst ys) from ⟨hz,its,c',r',e⟩),rfl,q _ (I.hok.fresh (Nat.le_refl _))⟩
 rcases hq with hq | hq
 ·obtain ⟨its,r',pl,hz⟩:=I.list hq
  have hlen:=r'.length
  obtain ⟨o,ho,hc,n,hd⟩:=pl.isList
  exact call_list_seq p (.inl rfl) ho hc hd (fun h' c' kp e=>fin its r' hz h' c' kp e) (by simp only [List.size_toArray] <;> omega)
 ·obtain ⟨its,r',pl,hz⟩:=I.tuple hq
  have hlen:=r'.length
  obtain ⟨o,ho,hc,n,hd⟩:=pl
  exact call_list_seq p (.inr rfl) ho hc hd (fun h' c' kp e=>fin its r' hz h' c' kp e) (by simp only [List.size_toArray] <;> omega)
theorem eK:lg X (.type "tuple") (fun xs H Q=>∃ p ys,xs=[.ref p]/\((SqL X.K H p ys/\∀ l,H l=none->Q (.ref l) (upd H l (.tup ys)))\/(SqT X.K H p ys/\Q (.ref p) H))):=by
 intro pins s σ H xs us Q I r h
 obtain ⟨p,ys,rfl,h⟩:=h
 obtain ⟨u,rfl,rx⟩:=p9 r
 cases rx
 rcases h with ⟨hq,q⟩ | ⟨hq,q⟩
 ·obtain ⟨its,r',pl,hz⟩:=I.list hq
  have hlen:=r'.length
  refine call_tuple_list pl.isList (fun h' kp=>?_) (by simp only [List.size_toArray] <;> omega)
  have I1:Inv X pins σ H { s with heap:=h' }:=I.kept (t':=s.toks) kp
  have I2:Inv X pins σ (upd H h'.objs.size (.tup ys)) { s with heap:=h'.push { cls:=.type "tuple",data:=.seq its.toArray } } :=
   I1.laid (t':=s.toks) (fun b o e=>Heap.get?_push_of_some _ e) (Nat.le_refl _) (show ObjOk X.prog X.w _ _ _ (.tup ys) from ⟨hz,its,r',IsTup.new _ _⟩)
  exact ⟨.ref h'.objs.size,_,I2,rfl,q _ (I1.hok.fresh (Nat.le_refl _))⟩
 ·obtain ⟨its,r',pl,hz⟩:=I.tuple hq
  exact call_tuple_same pl ⟨.ref p,H,I,rfl,q⟩
def tyV (K:Frag) (T:String) (x:V) (H:Hp):Prop:=match x with
 | .str _=>T="str"
 | .int _=>T="int"
 | .ref p=>(T="list"/\∃ xs,SqL K H p xs)\/(T="tuple"/\∃ o,K.lookup p=some o/\o.cls=.type "tuple"/\o.dict=none) \/
   (T="dict"/\((∃ kvs,H p=some (.dK kvs))\/∃ kvs,H p=some (.dT kvs)))\/(T="set"/\∃ S n,H p=some (.set S n))
 | _=>False
theorem Cy {pins:List (Addr × Obj)} {σ:St} {H:Hp} {s:Shared} {T:String} {x:V} {v:Value} (I:Inv X pins σ H s) (r:RelV x v) (ty:tyV X.K T x H) :
  s.TypeIs v T/\∀ a,v=.ref a->∃ ob,s.heap.get? a=some ob/\ob.dict=none:=by
 cases x with
 | str z =>
  obtain ⟨t,rfl⟩:=r
  cases (show T="str" from ty)
  exact ⟨typeIs_str s z t,fun _ e=>nomatch e⟩
 | int i =>
  obtain ⟨t,rfl⟩:=r
  cases (show T="int" from ty)
  exact ⟨typeIs_int s i t,fun _ e=>nomatch e⟩
 | ref p =>
  cases r
  rcases ty with ⟨rfl,xs,hq⟩ | ⟨rfl,o,hk,hc,hd⟩ | ⟨rfl,hk⟩ | ⟨rfl,S,n,hk⟩
  ·obtain ⟨its,_,pl,_⟩:=I.list hq
   refine ⟨pl.isList.typeIs,fun a e=>?_⟩
   cases e
   obtain ⟨o,n,e,c,hd,_⟩:=pl
   exact ⟨o,e,hd⟩
  ·refine ⟨⟨o,I.kIn p o hk,hc⟩,fun a e=>?_⟩
   cases e
   exact ⟨o,I.kIn _ o hk,hd⟩
  ·have z:∃ o,s.heap.get? p=some o/\o.ExactDict:=by
    rcases hk with ⟨kvs,hk⟩ | ⟨kvs,hk⟩
    ·obtain ⟨_,_,_,_,o,_,_,e,ex,_⟩:=I.hok p _ hk
     exact ⟨o,e,ex⟩
    ·obtain ⟨_,_,_,_,o,_,_,e,ex,_⟩:=I.hok p _ hk
     exact ⟨o,e,ex⟩
   obtain ⟨o,e,ex⟩:=z
   refine ⟨⟨o,e,ex.1⟩,fun a e2=>?_⟩
   cases e2
   exact ⟨o,e,ex.2.1⟩
  ·obtain ⟨o,_,_,_,e,ex,_⟩:=I.hok p _ hk
   refine ⟨⟨o,e,ex.1⟩,fun a e2=>?_⟩
   cases e2
   exact ⟨o,e,ex.2.1⟩
 | _=>exact False.elim ty
def tBM (K:Frag) (T:String) (r:V->List V->Hp->VK->Prop) (to:TE) (t:TA):TE:=fun σ H Q=>to σ H fun x H1=>tyV K T x H1/\t σ H1 fun xs H2=>r x xs H2 Q
variable {o e:Expr} {es:List Expr} {to:TE} {t:TA} {name:Str} {apos cpos:Pos} {T id:String} {r:V->List V->Hp->VK->Prop}
theorem sQ (pa:PlainAttrs T) (slot:Slot T name id) (hty:typeOf (.builtin id)=pure (.type "method_descriptor")) (hm:MtR X id r) (ho:PE X o to) (ha:PA X (e :: es) t)
  (hbase:attributeBase o name X.env (eval o X.env)=eval o X.env:=by rfl)
  (hfew:((backTo cpos (starEach (e :: es) X.env)).all (fun x=>!x.1) && (backToKw cpos (keywordEach [] X.env)).all (fun x=>x.1.isSome)
   && decide ((e :: es).length + ([]:List Keyword).length + (if ([]:List Keyword).isEmpty then 0 else 1) < 30))=true:=by rfl)
  (hline:(apos.endLine == cpos.line)=true:=by rfl) (hs:starEach (e :: es) X.env=(false,eval e X.env) :: starEach es X.env:=by rfl) (hplain:(backTo cpos (starEach es X.env)).any (·.1)=false:=by rfl) :
  PE X (.Call (.Attribute o name apos) (e :: es) [] cpos) (tBM X.K T r to t):=by
 intro pins s σ H Q I h
 refine wpAny_Call_method_late hbase hfew hline rfl (thn (ho pins s σ H _ I h) fun v s1 ⟨x,H1,I1,r1,ty,q1⟩=>?_)
 obtain ⟨h1,h2⟩:=Cy I1 r1 ty
 refine ⟨T,id,pa,slot,hty,h1,h2,?_⟩
 have hA:=ha cpos pins s1 σ H1 _ I1 q1
 rw [hs] at hA ⊢
 refine Calls.callWith_builtin (by show (false || (backTo cpos (starEach es X.env)).any (·.1))=false;rw [hplain] <;> rfl) (Calls.evalArgs_plain ?_)
 exact thn hA fun us s2 ⟨vs,H2,I2,r2,q2⟩=>hm pins s2 σ H2 x vs v us Q I2 r1 r2 q2
end
end L2
namespace L2
open PySem PySem.Spec PyProof.Rows
def MtM (X:Cx) (id:String) (r:V->List V->Hp->VK->Prop):Prop :=
 ∀ (pins:List (Addr × Obj)) (s:Shared) (σ:St) (H:Hp) (x:V) (xs:List V) (v:Value) (us:List Value) (Q:VK),Inv X pins σ H s->RelV x v->Vals xs us->r x xs H Q ->
  wpAny (model X.prog X.w) X.A (call (.builtin id) (v :: us)) (EP X pins σ Q) X.xe s
theorem Vals.one:∀ {x:V} {us:List Value},Vals [x] us->∃ u,us=[u]/\RelV x u
 | _,_,.cons r .nil=>⟨_,rfl,r⟩
theorem Vals.two:∀ {x y:V} {us:List Value},Vals [x,y] us->∃ u v,us=[u,v]/\RelV x u/\RelV y v
 | _,_,_,.cons r (.cons q .nil)=>⟨_,_,rfl,r,q⟩
section
variable {X:Cx} {pins:List (Addr × Obj)} {σ:St} {H:Hp} {s:Shared} {l b:Addr} {xs ys zs:List V}
theorem Inv.lset {its its':List Value} {n:Nat} {f:Array Value->Array Value} {t':Nat} (I:Inv X pins σ H s) (hH:H l=some (.lst xs))
  (e:s.heap.get? l=some { cls:=.type "list",data:=.seq its.toArray n }) (hf:f its.toArray=its'.toArray) (hv:Vals ys its') (hz:ys.length<=sizeLine) :
  Inv X pins σ (upd H l (.lst ys)) { s with heap:=s.heap.update l (Obj.mapSeq f),toks:=t' }:=by
 have q:=PySem.IsL.update e f
 rw [hf] at q
 refine I.write (x:=l) (e:=l) (by rw [hH];exact trivial) (.inl rfl) (fun b' u hb hu=>(Heap.get?_update_other s.heap (Obj.mapSeq f) (Ne.symm hb)).trans hu) ⟨_,q⟩ ?_
 exact ⟨hz,its',_,hv,q⟩
theorem Inv.lnew {its:List Value} {t':Nat} (I:Inv X pins σ H s) (hv:Vals ys its) (hz:ys.length<=sizeLine) :
  Inv X pins σ (upd H s.heap.objs.size (.lst ys)) { s with heap:=s.heap.push { cls:=.type "list",data:=.seq its.toArray },toks:=t' } :=
 I.laid (fun _ _ q=>Heap.get?_push_of_some _ q) (Nat.le_refl _) ⟨hz,its,0,hv,Heap.get?_push_size _ rfl⟩
theorem Inv.fresh (I:Inv X pins σ H s):H s.heap.objs.size=none:=I.hok.fresh (Nat.le_refl _)
theorem Inv.lstM (I:Inv X pins σ H s) (hH:H l=some (.lst xs)):xs.length<=sizeLine/\∃ (its:List Value) (n:Nat),Vals xs its/\xs.length=its.length/\s.heap.get? l=some { cls:=.type "list",data:=.seq its.toArray n }:=by
 obtain ⟨z,its,n,r,e⟩:=I.hok l _ hH
 exact ⟨z,its,n,r,r.length,e⟩
end
section
variable {X:Cx}
def qS:V->List V->Hp->VK->Prop:=fun x vs H Q=>∃ l xs y,x=.ref l/\vs=[y]/\H l=some (.lst xs)/\xs.length < sizeLine/\Q .non (upd H l (.lst (xs ++ [y])))
theorem lE:MtM X "list.append" qS:=by
 intro pins s σ H x vs v us Q I rx rv h
 obtain ⟨l,xs,y,rfl,rfl,hH,hz,q⟩:=h
 cases rx
 obtain ⟨u,rfl,ru⟩:=rv.one
 obtain ⟨z,its,n,r,hl,e⟩:=I.lstM hH
 refine call_meets F.slot_list_append ⟨_,e,rfl⟩ F.entry_list_append (F.args_list_append_2 _ _) (PySem.list_append l its.toArray n u (by rw [List.size_toArray];omega)) ⟨e,?_⟩
 refine ⟨.non,_,I.lset (its':=its ++ [u]) hH e (by simp) (r.append (.cons ru .nil)) ?_,rfl,q⟩
 rw [List.length_append,List.length_singleton]
 omega
def CL:R2:=fun x y H Q=>∃ l b xs zs,x=.ref l/\y=.ref b/\H l=some (.lst xs)/\H b=some (.lst zs)/\xs.length + zs.length<=sizeLine/\∀ p,H p=none->Q (.ref p) (upd H p (.lst (xs ++ zs)))
theorem yC:OpR X (binaryOp .Add) CL:=by
 intro pins s σ H x y v u Q I rx ry h
 obtain ⟨l,b,xs,zs,rfl,rfl,hH,hB,hz,q⟩:=h
 cases rx
 cases ry
 obtain ⟨z,its,n,r,hl,e⟩:=I.lstM hH
 obtain ⟨z2,its2,n2,r2,hl2,e2⟩:=I.lstM hB
 refine PySem.P.add_list e e2 ?_ (by rw [List.size_toArray,List.size_toArray];omega)
 have ea:its.toArray ++ its2.toArray=(its ++ its2).toArray:=by simp
 rw [ea]
 exact ⟨.ref _,_,I.lnew (t':=s.toks) (r.append r2) (by rw [List.length_append];omega),rfl,q _ I.fresh⟩
end
section
variable {prog:Program} {w:World} {A:Around} {E:Value->Shared->Prop} {s:Shared}
end
section
variable {X:Cx}
end
end L2
namespace Att
open PySem PySem.W PySem.Calls PyProof.Rows
theorem mM {P:Params} {h:Heap}:∀ (ns:List Int) (vs:List Value),WellAll P h vs (ns.map WData.int)->IntsAre vs ns:=by
 intro ns
 induction ns with
 | nil =>
  intro vs w
  rw [List.map_nil] at w
  cases w
  exact .nil
 | cons n ns ih =>
  intro vs w
  rw [List.map_cons] at w
  cases w with
  | cons a b =>
   cases a
   exact .cons _ _ (ih _ b)
theorem wH {l:OpenLaw} {n:Nat} (hn:l.most=some n) {P:Params} {h:Heap} {args:List WData} {vals:List Value}
  (hpre:l.row.toRowW.claim.pre args=true) (hwl:WellAll P h vals args) :
  ∃ a vs ns,vals=[Value.ref a]/\args=[WData.list (ns.map WData.int)]/\h.get? a=some { cls:=.type "list",data:=.seq vs.toArray }/\IntsAre vs ns/\ns.length<=n:=by
 have hsh:WShape.hasAll [] args [.list .int]=true:=(pre_splitW hpre).1
 have hc:l.pre.holds [] { args:=args }=true:=(pre_splitW hpre).2
 obtain ⟨d,r,rfl,h1,h2⟩:=hasAllW_cons hsh
 obtain rfl:=hasAllW_nil h2
 obtain ⟨xs,rfl,h3⟩:=hasW_list h1
 obtain ⟨ns,rfl⟩:=items_int h3
 have hlen:ns.length<=n:=by
  unfold OpenLaw.pre at hc
  have h4:(WTm.not (.lt (.lit (.int (n:Int))) (.len (.arg 0)))).holds [] { args:=[.list (ns.map .int)] }=true:=by
   have h4:=(holds_andW hc).1
   rw [hn] at h4
   exact h4
  have h5:=condW_of h4 (w_not (w_lt w_lit (w_len_list (w_arg rfl))))
  rw [List.length_map] at h5
  refine Nat.le_of_not_lt fun q=>?_
  have q':(n:Int) < ((ns.length:Nat):Int):=by omega
  first
   | (rw [decide_eq_true q'] at h5;exact absurd h5 (by decide))
   | (simp at h5;omega)
 cases hwl with
 | cons w1 w2 =>
  cases w2
  cases w1 with
  | list ho hall=>exact ⟨_,_,ns,rfl,rfl,ho,mM ns _ hall,hlen⟩
theorem wM (l:OpenLaw) (args:List WData):l.row.toRowW.claim.post args (.bool true) args=true :=
 postW_of (r:=l.row.toRowW) (X:=(true == true))
  (show WShape.has [] (.bool true) .bool=true by first | rfl | decide | simp [WShape.has,WShape.arms,WShape.armsAll])
  (show (WTm.eq .res (.lit (.bool true))).value [] { args:=args,res:=some (.bool true),after:=args }=some (.bool (true == true)) from w_eq_bool (w_res rfl) w_lit) rfl
theorem attach_call {l:OpenLaw} {n:Nat} {q:Program} {loose:List Str} {XP:(Str->Option Value)->Heap->Prop} {YP:World->Heap->Prop} {d:DefRec}
  (hn:l.most=some n) (hdf:d.params.defaults=[])
  (call:∀ (w:World) (s₀ s₁:Shared) (mg mb:Str->Option Value) (fa:Addr) (o:Obj) (pm cd doc:Value) (a:Addr) (vs:List Value) (ns:List Int),
   Ground q loose [] XP w s₀ mg mb s₁.heap->YP w s₁.heap ->
   s₁.heap.get? fa=some o->o.data=.func (docDef d.name d.params d.body d.scope pm cd doc)->s₁.heap.CodeRec cd d.name->mg d.name=some (.ref fa) ->
   s₁.heap.get? a=some { cls:=.type "list",data:=.seq vs.toArray }->IntsAre vs ns->ns.length<=n->s₁.gens=#[] ->
   codeAny (model l.prog w) callerA (.call (.ref fa) ⟨[.ref a],[]⟩) (fun r s'=>r=.ok (.ret (.bool true))/\OldK s₁.heap s'.heap/\s'.os=s₁.os/\AllBare s'.gens) s₁) :
  WalkO q loose XP YP l.row.toRowW d [] (fun f vs=>PySem.call f vs):=by
 intro w s₀ s₁ mg mb G Y fa o pm cd doc dV kV ho hd hcd hD hmg hg args vals as hpre hlay hrd hwl hlo
 obtain rfl:dV=.none:=Dflts.none hD hdf
 obtain rfl:kV=.none:=Dflts.noKw hD
 obtain ⟨a,vs,ns,rfl,rfl,hobj,hints,hlen⟩:=wH hn hpre hwl
 refine enter_call (codeAny_mono (call w s₀ s₁ mg mb fa o pm cd doc a vs ns G Y ho (fd_plain hd) hcd hmg hobj hints hlen hg) fun r s' hq=>?_)
 obtain ⟨rfl,h2,h3,h4⟩:=hq
 exact ⟨.inl ⟨.bool true,.bool true,[],rfl,fun _=>rfl,.bool true,wM l _,fun _=>⟨List.Pairwise.nil,fun _ hm=>(nomatch hm)⟩⟩,h2,h3,h4⟩
section
variable {prog:Program} {w:World} {A:Around} {E:Value->Shared->Prop} {s:Shared} {K:Frag}
end
end Att
namespace L2
open PySem PySem.Spec PyProof.Rows
theorem p8:∀ {vs:List Value} {ns:List Int},IntsAre vs ns->Vals (ns.map V.int) vs
 | _,_,.nil=>.nil
 | _,_,.cons n t h=>.cons ⟨t,rfl⟩ (p8 h)
def D8 (H:Hp):Prop:=∀ b,H b=none\/∃ o xs,H b=some (.frz o (.lst xs))
theorem yQ {P:Program} {w:World} {K:Frag} {mg mb:Str->Option Value} {CX:CXT} {k:Nat} {fa a:Addr} {fd:FuncData} {x:Str} {sp:Sp} {s₁:Shared} {vs:List Value} {ns:List Int}
  (KX:K.In s₁.heap) (hns:s₁.heap.Ns mainGlobals mg) (hb:s₁.heap.Ns builtinsNs mb) (hbb:∀ x:Str,x ≠ "__name__"->mb x=bootBuiltins x) (hlim:s₁.heap.NoLimit) (hg:s₁.gens=#[])
  (ha:s₁.heap.get? a=some { cls:=.type "list",data:=.seq vs.toArray }) (hi:IntsAre vs ns) (hl:ns.length<=sizeLine) (hr:Room k callerA)
  (F:∀ base:Heap,K.In base->base.Ns mainGlobals mg->FnOk P w K mg base CX k fa fd [x] sp) (hbind:∀ (s:Shared) (u:Value),BindsTo s fd ⟨[u],[]⟩ [(x,u)])
  (hsp:∀ H:Hp,D8 H->SqL K H a (ns.map V.int)->sp [.ref a] H (fun v _=>v=.bl true) fun _ _ _=>False)
  (hCX:∀ H e s',CX [] H s₁ (fun _ _ _=>False) e s'->False) :
  codeAny (model P w) callerA (.call (.ref fa) ⟨[.ref a],[]⟩) (fun r s'=>r=.ok (.ret (.bool true))/\OldK s₁.heap s'.heap/\s'.os=s₁.os/\AllBare s'.gens) s₁:=by
 have rv:=p8 hi
 have lenV:=hi.length
 have core:∀ H:Hp,D8 H->SqL K H a (ns.map V.int)->HOk P w H s₁.heap->(∀ b,H b ≠ none->b=a)->(H a ≠ none->K.lookup a=none) ->
   codeAny (model P w) callerA (.call (.ref fa) ⟨[.ref a],[]⟩) (fun r s'=>r=.ok (.ret (.bool true))/\OldK s₁.heap s'.heap/\s'.os=s₁.os/\AllBare s'.gens) s₁:=by
  intro H hO hS hok hA hK
  have base_of:∀ {b:Addr} {o:Obj},s₁.heap.get? b=some o->H b=none->(rH s₁.heap H).get? b=some o:=fun e n=>yY e n
  have noA:∀ {b:Addr} {o:Obj} {es:Array DictEntry} {ep:Nat},s₁.heap.get? b=some o->o.data=.dict es ep->H b=none:=fun {b o es ep} e d=>by
   cases q:H b with
   | none=>rfl
   | some u =>
    have e':b=a:=hA b (by rw [q];simp)
    subst e'
    rw [ha] at e;cases e
    have d':Data.seq vs.toArray _=Data.dict es ep:=d
    cases d'
  have nsK:∀ {b:Addr} {m:Str->Option Value},s₁.heap.Ns b m->(rH s₁.heap H).Ns b m:=fun {b m} ⟨o,es,ep,e,d,r⟩=>⟨o,es,ep,base_of e (noA e d),d,r⟩
  have hKb:K.In (rH s₁.heap H):=fun b o e=>base_of (KX b o e) (by
   cases q:H b with
   | none=>rfl
   | some u =>
    have e':b=a:=hA b (by rw [q];simp)
    subst e'
    rw [hK (by rw [q];simp)] at e;cases e)
  have hM:Mod K mg (rH s₁.heap H):=⟨hKb,nsK hns,⟨mb,nsK hb,hbb⟩,let ⟨mc,h1,h2⟩:=hlim;⟨mc,nsK h1,h2⟩⟩
  have e0:Env0 P w K mg (rH s₁.heap H) callerA [] s₁ H:=⟨rfl,hM,fun b o e=>AW e,Nat.le_of_eq (w6 _ _),trivial,fun b hb=>absurd (show b ∈ ([]:List Addr) from hb) (by simp),hok,.of_eq hg⟩
  refine codeAny_mono ((F _ hKb (nsK hns)).run callerA [] s₁ H ⟨[.ref a],[]⟩ [.ref a] [.ref a] _ _ hr e0 (hbind s₁ (.ref a)) (.cons rfl .nil) (hsp H hO hS)) fun r s' h=>?_
  cases r with
  | error e=>exact (hCX H e s' h).elim
  | ok fl =>
   cases fl with
   | next=>exact False.elim h
   | brk=>exact False.elim h
   | cont=>exact False.elim h
   | ret u =>
    obtain ⟨v,H',os,bare,un,hok',r',q⟩:=h
    have q':v=.bl true:=q
    subst q'
    obtain rfl:u=Value.bool true:=r'
    refine ⟨rfl,OldK.of_keep fun b o e=>?_,os,bare⟩
    cases q:H b with
    | none=>exact un.keep b o e q (by intro z;exact absurd (show b ∈ ([]:List Addr) from z) (by simp)) (by simp)
    | some u =>
     rcases hO b with z | ⟨ob,xs,z⟩
     ·rw [q] at z;cases z
     ·have z2:=un.frzs b ob _ z
      obtain ⟨e1,_⟩:=hok b _ z
      obtain ⟨e2,_⟩:=hok' b _ z2
      rw [e] at e1;cases e1
      exact e2
 cases hk:K.lookup a with
 | some o =>
  have e:=KX a o hk
  rw [ha] at e
  cases e
  refine core (fun _=>none) (fun _=>.inl rfl) (.inr ⟨_,vs.toArray,_,hk,rfl,rfl,rfl,by rw [List.size_toArray,lenV];exact hl,by simpa using rv⟩) (fun b u z=>by have z':(none:Option HO)=some u:=z;cases z') (fun b z=>absurd rfl z) fun z=>absurd rfl z
 | none =>
  refine core (fun b=>if b=a then some (.frz { cls:=.type "list",data:=.seq vs.toArray } (.lst (ns.map V.int))) else none) (fun b=>?_) (.inl (.inr ⟨{ cls:=.type "list",data:=.seq vs.toArray },if_pos rfl⟩)) (fun b u z=>?_) (fun b z=>?_) fun _=>hk
  ·by_cases hb:b=a
   ·exact .inr ⟨_,_,if_pos hb⟩
   ·exact .inl (if_neg hb)
  ·by_cases hb:b=a
   ·have z':=(if_pos hb).symm.trans z
    cases z'
    subst hb
    exact ⟨ha,by rw [List.length_map];exact hl,vs,_,rv,ha⟩
   ·have z':=(if_neg hb).symm.trans z
    cases z'
  ·by_cases hb:b=a
   ·exact hb
   ·exact absurd (if_neg hb) z
end L2
namespace L2
open PySem PySem.Spec PyProof.Rows
theorem walk_of {l:PySem.W.OpenLaw} {n k:Nat} {q:Program} {loose:List Str} {XP:(Str->Option Value)->Heap->Prop} {YP:World->Heap->Prop} {d:DefRec} {K:Params->Frag} {CX:World->CXT} {sp:World->Sp} {x:Str}
  (hn:l.most=some n) (hn2:n<=sizeLine) (hdf:d.params.defaults=[]) (hr:Room k callerA)
  (hY:∀ (w:World) (h:Heap),YP w h->(K w.params).In h)
  (F:∀ (w:World) (mg:Str->Option Value) (fa:Addr) (h:Heap),(K w.params).In h->h.Ns mainGlobals mg->mg d.name=some (.ref fa) ->
   ∃ fd:FuncData,(∀ (s:Shared) (u:Value),BindsTo s fd ⟨[u],[]⟩ [(x,u)]) /\
    ∀ base:Heap,(K w.params).In base->base.Ns mainGlobals mg->FnOk l.prog w (K w.params) mg base (CX w) k fa fd [x] (sp w))
  (hsp:∀ (w:World) (H:Hp) (a:Addr) (ns:List Int),ns.length<=n->D8 H->SqL (K w.params) H a (ns.map V.int)->sp w [.ref a] H (fun v _=>v=.bl true) fun _ _ _=>False)
  (hCX:∀ (w:World) (H:Hp) (s:Shared) (e:Value) (s':Shared),CX w [] H s (fun _ _ _=>False) e s'->False) :
  PySem.W.WalkO q loose XP YP l.row.toRowW d [] (fun f vs=>PySem.call f vs):=by
 refine Att.attach_call hn hdf fun w s₀ s₁ mg mb fa o pm cd doc a vs ns G Y ho hd hcd hmg hobj hints hlen hg=>?_
 have KX:=hY w _ Y
 obtain ⟨fd,hb,hF⟩:=F w mg fa _ KX G.T.g hmg
 exact yQ KX G.T.g G.T.b G.T.builtins G.T.nolimit hg hobj hints (Nat.le_trans hlen hn2) hr hF hb (fun H hO hS=>hsp w H a ns hlen hO hS) fun H e s'=>hCX w H s₁ e s'
end L2
namespace L2
open PySem PySem.Spec PyProof.Rows
def Be (s:Stmt) (j:Nat):Stmt:=match s with
 | .ClassDef _ _ _ body _ _ _ _ _ _ _=>body.getD j (.Pass ⟨0,0,0,0⟩)
 | _=>.Pass ⟨0,0,0,0⟩
def jS (s:Stmt):Arguments:=match s with
 | .FunctionDef _ a _ _ _ _ _ _ _ _=>a
 | _=>{ posonlyargs:=[],args:=[],vararg:=none,kwonlyargs:=[],kw_defaults:=[],kwarg:=none,defaults:=[] }
def aF (s:Stmt):List Stmt:=match s with
 | .FunctionDef _ _ b _ _ _ _ _ _ _=>b
 | _=>[]
def ai (s:Stmt):Scope:=match s with
 | .FunctionDef _ _ _ _ _ _ sc _ _ _=>sc
 | _=>{ kind:=.function,names:=[],isGenerator:=false,isCoroutine:=false }
abbrev CX0:CXT:=fun _ _ _ _ _ _=>False
abbrev E0:XK:=fun _ _ _=>False
theorem qh {X:Cx}:sv CX0 X E0:=fun _ _ _ _ _ _ _ h=>h.elim
structure Fun (K:Frag) (x qual:Str) (st:Stmt) (f:Addr) (fd:FuncData):Prop where
 ex:∃ (oc:Value) (od:Option Addr) (kV doc pm:Value) (an:Option Addr) (cdv ct:Value) (osl:Array (Option Value)),
  fd=fnOf x qual (jS st) (aF st) (ai st) .none kV doc pm an cdv ct/\K.lookup f=some ⟨oc,od,.func fd,osl⟩/\codeIn K cdv qual=true
 kp:keepIn K (.ref f)=true
section
variable {P:Program} {w:World} {K:Frag} {mg:Str->Option Value} {base:Heap}
theorem Fun.ok {x qual:Str} {st:Stmt} {f:Addr} {fd:FuncData} {N ps:List Str} {k:Nat} {sp:Sp} (F:Fun K x qual st f fd) (S:aJ N ps (ai st)) (len:∀ vs H Q E,sp vs H Q E->vs.length=ps.length)
  (hbody:∀ (cdv:Value) (A:Around) (outer:List Env) (s:Shared) (H:Hp) (vs:List V) (Q:VK) (E:XK),Room k (A.deeper (envOfC qual (ai st) s.heap.objs.size f cdv))->sp vs H Q E ->
   ∃ t,PSs (bI CX0 P w K mg base N qual (ai st) f cdv A outer s H E).nox (aF st) t/\t { nx:=fun _ H'=>Q .non H',rt:=Q } (start N vs) H):FnOk P w K mg base CX0 (k + 1) f fd ps sp:=by
 obtain ⟨oc,od,kV,doc,pm,an,cdv,ct,osl,rfl,lk,hcd⟩:=F.ex
 refine E7 lk hcd S len fun A outer s H vs Q E hr hsp=>?_
 obtain ⟨t,h,q⟩:=hbody cdv A outer s H vs Q E hr hsp
 exact ⟨t,h.nox,q⟩
theorem Fun.binds {x qual:Str} {st:Stmt} {f:Addr} {fd:FuncData} {ps:List Str} (F:Fun K x qual st f fd)
  (h:∀ (kV doc pm:Value) (an:Option Addr) (cdv ct:Value) (us:List Value),us.length=ps.length->bindArgs (fnOf x qual (jS st) (aF st) (ai st) .none kV doc pm an cdv ct) ⟨us,[]⟩=pure (ps.zip us)):Binds K fd ps []:=by
 obtain ⟨oc,od,kV,doc,pm,an,cdv,ct,osl,rfl,lk,hcd⟩:=F.ex
 exact .all (h kV doc pm an cdv ct)
theorem bb {x qual:Str} {st:Stmt} {f:Addr} {oc:Value} {od an:Option Addr} {osl:Array (Option Value)} {kV doc pm cdv ct:Value} (l:K.lookup f=some ⟨oc,od,.func (fnOf x qual (jS st) (aF st) (ai st) .none kV doc pm an cdv ct),osl⟩)
  (c:codeIn K cdv qual=true) (k:keepIn K (.ref f)=true):Fun K x qual st f (fnOf x qual (jS st) (aF st) (ai st) .none kV doc pm an cdv ct):=⟨⟨oc,od,kV,doc,pm,an,cdv,ct,osl,rfl,l,c⟩,k⟩
end
section
variable {X:Cx}
theorem pv (i:Nat) {x:Str} {pos:Pos} (hN:X.N[i]?=some x:=by rfl) (hv:Vis X.env.scope x:=by first | exact Or.inl rfl | exact Or.inr (Or.inl rfl) | exact Or.inr (Or.inr rfl)) (hd:(x == ("__debug__":Str))=false:=by decide)
  (hcd:(x == ("__classdict__":Str))=false:=by decide):PE X (.Name x pos) (fy i):=C4 hN hv hd hcd
end
theorem DK {A B:Prop} (h:B):if false=true then A else B:=by
 rw [if_neg Bool.false_ne_true]
 exact h
theorem DJ {A B:Prop} (h:A):if true=true then A else B:=by
 rw [if_pos rfl]
 exact h
def Same (H H':Hp):Prop:=∀ b o,H b=some o->H' b=some o
theorem Same.refl (H:Hp):Same H H:=fun _ _ h=>h
theorem Same.trans {H H1 H2:Hp} (a:Same H H1) (b:Same H1 H2):Same H H2:=fun c o h=>b c o (a c o h)
theorem Same.seq {K:Frag} {H H':Hp} {a:Addr} {xs:List V} (e:Same H H') (h:SqL K H a xs):SqL K H' a xs:=by
 rcases h with (h | ⟨o,h⟩) | h
 ·exact .inl (.inl (e _ _ h))
 ·exact .inl (.inr ⟨o,e _ _ h⟩)
 ·exact .inr h
end L2
set_option compiler.extract_closed false
set_option genSizeOf true
set_option genInjectivity true
set_option autoImplicit false
namespace DL
open PySem PySem.Spec PyProof.Rows L2
abbrev St:=L2.St
def exN (c:Nat):Str:=match c with
 | 0=>"NoHall"
 | 1=>"NoArrow"
 | 2=>"NoBox"
 | 3=>"NoPicture"
 | 4=>"NoReading"
 | 5=>"NoThing"
 | _=>"NoSending"
structure D_ (h:Heap) (e:Addr) (cls:Value) (ch:List Addr):Prop where
 mem:e ∈ ch
 at_:∃ oe vs,h.get? e=some oe/\oe.cls=cls/\oe.dict=none/\oe.data=.fields vs/\1 < vs.size/\(vs[1]?=some .none\/∃ T oT ts fl,vs[1]?=some (.ref T)/\T ≠ e/\T ∈ ch/\h.get? T=some oT/\oT.data=.fields ts/\ts[3]?=some fl)
 thr:∀ b ∈ ch,∃ o vs,h.get? b=some o/\o.data=.fields vs
section
variable {M:Model} {A:Around} {E:Value->Shared->Prop} {s:Shared}
end
theorem _root_.L2.Inv.frn {X:Cx} {pins:List (Addr × Obj)} {σ:St} {H:Hp} {s:Shared} (I:Inv X pins σ H s):∀ b ∈ X.fs,H b=none:=fun b hb=>by
 obtain ⟨_,o,ho,_⟩:=I.ok.funs.mem hb
 exact I.base.free b o ho (I.ok.frf b hb) fun z=>I.ok.exfs b z hb
def Gi (X:Cx) (pins:List (Addr × Obj)) (H:Hp) (b:Addr):Prop :=
 H b=none/\X.s₀.heap.get? b=none/\b ≠ X.env.locals/\b ∉ frs X.stack/\(∀ x c,X.env.cells.lookup x=some c->c ≠ b)/\∀ p ∈ X.pn ++ pins,p.1 ≠ b
section
variable {X:Cx} {pins:List (Addr × Obj)} {σ:St} {H:Hp} {s:Shared} {h':Heap} {ch:List Addr}
end
inductive D where
 | non | bl (b:Bool) | int (i:Int) | lst (xs:List D) | tup (xs:List D) | ob (e r t:D) | scr (ns:List Int) | exn (c:Nat)
abbrev KA:=Int × Int × List Int
inductive OK where
 | s | l (k:OK) | p (j k:OK)
 deriving DecidableEq
inductive Slt where
 | shr (d:D) | own (xs:List D) | dic (kvs:List (KA × D)) | tre (k:OK) (d:D)
abbrev Rho:=List (Option Slt)
structure RB where
 rho:Rho
 ad:Nat->List Addr
instance:Coe RB Rho:=⟨RB.rho⟩
inductive R (α:Type) where
 | val (a:α) | exc (c:Nat) | bad
def R.bind {α β:Type}:R α->(α->R β)->R β
 | .val a,f=>f a
 | .exc c,_=>.exc c
 | .bad,_=>.bad
inductive Out where
 | nx (ρ:Rho) | rt (d:D) | bk (ρ:Rho) | ct (ρ:Rho)
def exP (K:Frag) (c:Nat) (a:Addr):Heap->Prop:=fun h=>∃ ox Cc,h.get? a=some ox/\ox.cls=.ref Cc/\ox.dict=none/\(∃ vs,ox.data=.fields vs)/\nsIn K mainGlobals (exN c)=some (some (.ref Cc))
def E9 (e r t:V):List (Str × V):=[("ends",e),("rests",r),("table",t)]
mutual
inductive Has (K:Frag) (C:Addr) (H:Hp):V->D->Prop where
 | non:Has K C H .non .non
 | bl (b:Bool):Has K C H (.bl b) (.bl b)
 | int (i:Int):Has K C H (.int i) (.int i)
 | lst {a:Addr} {vs:List V} {xs:List D}:H a=some (.lst vs)->HasL K C H vs xs->Has K C H (.ref a) (.lst xs)
 | tup {a:Addr} {vs:List V} {xs:List D}:H a=some (.tup vs)->HasL K C H vs xs->Has K C H (.ref a) (.tup xs)
 | scr {a:Addr} {ns:List Int}:SqL K H a (ns.map V.int)->Has K C H (.ref a) (.scr ns)
 | exn {a:Addr} {c:Nat}:H a=some (.ext (exP K c a))->Has K C H (.ref a) (.exn c)
 | ob {a dx:Addr} {ve vr vt:V} {e r t:D}:H a=some (.ins C dx (E9 ve vr vt))->Has K C H ve e->Has K C H vr r->Has K C H vt t->Has K C H (.ref a) (.ob e r t)
inductive HasL (K:Frag) (C:Addr) (H:Hp):List V->List D->Prop where
 | nil:HasL K C H [] []
 | cons {v:V} {d:D} {vs:List V} {ds:List D}:Has K C H v d->HasL K C H vs ds->HasL K C H (v :: vs) (d :: ds)
end
section
variable {K:Frag} {C:Addr} {H H':Hp}
mutual
theorem Has.mono (s:Same H H'):∀ {v:V} {d:D},Has K C H v d->Has K C H' v d
 | _,_,.non=>.non
 | _,_,.bl b=>.bl b
 | _,_,.int i=>.int i
 | _,_,.lst q h=>.lst (s _ _ q) (HasL.mono s h)
 | _,_,.tup q h=>.tup (s _ _ q) (HasL.mono s h)
 | _,_,.scr q=>.scr (s.seq q)
 | _,_,.exn q=>.exn (s _ _ q)
 | _,_,.ob q a b c=>.ob (s _ _ q) (Has.mono s a) (Has.mono s b) (Has.mono s c)
theorem HasL.mono (s:Same H H'):∀ {vs:List V} {ds:List D},HasL K C H vs ds->HasL K C H' vs ds
 | _,_,.nil=>.nil
 | _,_,.cons a b=>.cons (Has.mono s a) (HasL.mono s b)
end
theorem HasL.len:∀ {vs:List V} {ds:List D},HasL K C H vs ds->vs.length=ds.length
 | _,_,.nil=>rfl
 | _,_,.cons _ b=>by simp [HasL.len b]
theorem HasL.app:∀ {vs:List V} {ds:List D} {ws:List V} {es:List D},HasL K C H vs ds->HasL K C H ws es->HasL K C H (vs ++ ws) (ds ++ es)
 | _,_,_,_,.nil,h=>h
 | _,_,_,_,.cons a b,h=>.cons a (HasL.app b h)
theorem HasL.get:∀ {vs:List V} {ds:List D} {i:Nat} {d:D},HasL K C H vs ds->ds[i]?=some d->∃ v,vs[i]?=some v/\Has K C H v d
 | _,_,_,_,.nil,e=>by simp at e
 | _,_,0,_,.cons a _,e=>by simp at e;subst e;exact ⟨_,rfl,a⟩
 | _,_,i + 1,d,.cons _ b,e=>by
  obtain ⟨v,h1,h2⟩:=HasL.get (i:=i) (d:=d) b (by simpa using e)
  exact ⟨v,by simpa using h1,h2⟩
theorem HasL.get':∀ {vs:List V} {ds:List D} {i:Nat} {v:V},HasL K C H vs ds->vs[i]?=some v->∃ d,ds[i]?=some d/\Has K C H v d
 | _,_,_,_,.nil,e=>by simp at e
 | _,_,0,_,.cons a _,e=>by simp at e;subst e;exact ⟨_,rfl,a⟩
 | _,_,i + 1,v,.cons _ b,e=>by
  obtain ⟨d,h1,h2⟩:=HasL.get' (i:=i) (v:=v) b (by simpa using e)
  exact ⟨d,by simpa using h1,h2⟩
theorem HasL.drop:∀ {vs:List V} {ds:List D} (n:Nat),HasL K C H vs ds->HasL K C H (vs.drop n) (ds.drop n)
 | _,_,0,h=>h
 | _,_,_ + 1,.nil=>.nil
 | _,_,n + 1,.cons _ b=>HasL.drop n b
theorem HasL.take:∀ {vs:List V} {ds:List D} (n:Nat),HasL K C H vs ds->HasL K C H (vs.take n) (ds.take n)
 | _,_,0,_=>.nil
 | _,_,_ + 1,.nil=>.nil
 | _,_,n + 1,.cons a b=>.cons a (HasL.take n b)
theorem HasL.ints:∀ ns:List Int,HasL K C H (ns.map V.int) (ns.map D.int)
 | []=>.nil
 | n :: ns=>.cons (.int n) (HasL.ints ns)
end
def yV:Slt->Bool
 | .shr _=>false
 | _=>true
def Own (ρ:RB) (σ:St) (b:Addr):Prop:=∃ i:Nat,b ∈ ρ.ad i
open Classical in
def msk (ρ:RB) (σ:St) (H:Hp):Hp:=fun b=>if Own ρ σ b then none else H b
section
variable {ρ:RB} {σ:St} {H H':Hp} {b:Addr} {o:HO}
theorem msk_some:msk ρ σ H b=some o ↔ ¬ Own ρ σ b/\H b=some o:=by
 unfold msk
 by_cases h:Own ρ σ b
 ·rw [if_pos h];exact ⟨fun e=>(by cases e),fun e=>absurd h e.1⟩
 ·rw [if_neg h];exact ⟨fun e=>⟨h,e⟩,fun e=>e.2⟩
theorem msk_sub:Same (msk ρ σ H) H:=fun b o e=>(msk_some.mp e).2
theorem bc (s:Same H H'):Same (msk ρ σ H) (msk ρ σ H'):=fun b o e=>msk_some.mpr ⟨(msk_some.mp e).1,s _ _ (msk_some.mp e).2⟩
end
def nl (k:KA):Int:=reduceHash (Builtin.Tuple.tupleHashOf [hashInt k.1,hashInt k.2.1,reduceHash (Builtin.Tuple.tupleHashOf (k.2.2.map hashInt))])
def Ge (x:KA × Addr × Value):DictEntry:=⟨nl x.1,.ref x.2.1,x.2.2⟩
def dOk (a:Addr) (xs:List (KA × Addr × Value)) (h:Heap):Prop:=(a == sysModules)=false/\xs.length<=100001/\∃ o es ep,h.get? a=some o/\o.ExactDict/\o.data=.dict es ep/\es.toList=xs.map Ge
def kT (a:Addr) (xs:List (KA × Addr × Value)):HO:=.ext (dOk a xs)
def KeyIn (M:Hp) (k:KA) (a:Addr):Prop:=∃ ta,M a=some (.tup [.int k.1,.int k.2.1,.ref ta])/\M ta=some (.tup (k.2.2.map V.int))
def EntOk (K:Frag) (C:Addr) (M:Hp) (p:KA × D) (q:KA × Addr × Value):Prop:=p.1=q.1/\KeyIn M p.1 q.2.1/\∃ v,RelV v q.2.2/\Has K C M v p.2
structure DicAt (K:Frag) (C:Addr) (M H:Hp) (a:Addr) (kvs:List (KA × D)):Prop where
 ex:∃ xs,H a=some (kT a xs)/\(xs.map (·.1)).Nodup/\Paired (EntOk K C M) kvs xs
theorem KeyIn.mono {M M':Hp} {k:KA} {a:Addr} (m:Same M M') (h:KeyIn M k a):KeyIn M' k a:=by
 obtain ⟨ta,h1,h2⟩:=h
 exact ⟨ta,m _ _ h1,m _ _ h2⟩
theorem EntOk.mono {K:Frag} {C:Addr} {M M':Hp} {p:KA × D} {q:KA × Addr × Value} (m:Same M M') (h:EntOk K C M p q):EntOk K C M' p q:=by
 obtain ⟨h1,h2,v,h3,h4⟩:=h
 exact ⟨h1,h2.mono m,v,h3,h4.mono m⟩
theorem DicAt.mono {K:Frag} {C:Addr} {M M' H H':Hp} {a:Addr} {kvs:List (KA × D)} (e:∀ o,H a=some o->H' a=some o) (m:Same M M') (h:DicAt K C M H a kvs):DicAt K C M' H' a kvs:=by
 obtain ⟨xs,h1,h2,h3⟩:=h.ex
 exact ⟨xs,e _ h1,h2,Paired.mapP h3 fun p q z=>z.mono m⟩
mutual
inductive Tre (K:Frag) (C:Addr) (M H:Hp):OK->V->D->List Addr->Prop where
 | s {v:V} {d:D}:Has K C M v d->Tre K C M H .s v d []
 | l {k:OK} {a:Addr} {vs:List V} {xs:List D} {A:List Addr}:H a=some (.lst vs)->TreP K C M H (vs.map fun _=>k) vs xs A->a ∉ A->Tre K C M H (.l k) (.ref a) (.lst xs) (a :: A)
 | p {j k:OK} {a:Addr} {vs:List V} {xs:List D} {A:List Addr}:H a=some (.tup vs)->TreP K C M H [j,k] vs xs A->Tre K C M H (.p j k) (.ref a) (.tup xs) A
inductive TreP (K:Frag) (C:Addr) (M H:Hp):List OK->List V->List D->List Addr->Prop where
 | nil:TreP K C M H [] [] [] []
 | cons {k:OK} {ks:List OK} {v:V} {vs:List V} {d:D} {ds:List D} {A B:List Addr}:Tre K C M H k v d A->TreP K C M H ks vs ds B->(∀ a ∈ A,a ∉ B)->TreP K C M H (k :: ks) (v :: vs) (d :: ds) (A ++ B)
end
structure Stay (A:List Addr) (H H':Hp):Prop where
 at_:∀ a ∈ A,∀ o,H a=some o->H' a=some o
 tup:∀ a vs,H a=some (.tup vs)->H' a=some (.tup vs)
section
variable {K:Frag} {C:Addr} {H H' M M':Hp}
theorem Stay.of {A:List Addr} (s:Same H H'):Stay A H H':=⟨fun a _ o e=>s a o e,fun a vs e=>s a _ e⟩
theorem Stay.sub {A B:List Addr} (h:Stay A H H') (hs:∀ a ∈ B,a ∈ A):Stay B H H':=⟨fun a ha=>h.at_ a (hs a ha),h.tup⟩
mutual
theorem Tre.stay (m:Same M M'):∀ {k:OK} {v:V} {d:D} {A:List Addr},Stay A H H'->Tre K C M H k v d A->Tre K C M' H' k v d A
 | _,_,_,_,_,.s h=>.s (h.mono m)
 | _,_,_,_,y,.l e h n=>.l (y.at_ _ List.mem_cons_self _ e) (TreP.stay m (y.sub fun _ ha=>List.mem_cons_of_mem _ ha) h) n
 | _,_,_,_,y,.p e h=>.p (y.tup _ _ e) (TreP.stay m y h)
theorem TreP.stay (m:Same M M'):∀ {ks:List OK} {vs:List V} {ds:List D} {A:List Addr},Stay A H H'->TreP K C M H ks vs ds A->TreP K C M' H' ks vs ds A
 | _,_,_,_,_,.nil=>.nil
 | _,_,_,_,y,.cons h t n=>.cons (Tre.stay m (y.sub fun _ ha=>List.mem_append_left _ ha) h) (TreP.stay m (y.sub fun _ ha=>List.mem_append_right _ ha) t) n
end
mutual
theorem Tre.has (m:Same M H):∀ {k:OK} {v:V} {d:D} {A:List Addr},Tre K C M H k v d A->Has K C H v d
 | _,_,_,_,.s h=>h.mono m
 | _,_,_,_,.l e h _=>.lst e (TreP.has m h)
 | _,_,_,_,.p e h=>.tup e (TreP.has m h)
theorem TreP.has (m:Same M H):∀ {ks:List OK} {vs:List V} {ds:List D} {A:List Addr},TreP K C M H ks vs ds A->HasL K C H vs ds
 | _,_,_,_,.nil=>.nil
 | _,_,_,_,.cons h t _=>.cons (Tre.has m h) (TreP.has m t)
end
mutual
theorem Tre.lists:∀ {k:OK} {v:V} {d:D} {A:List Addr},Tre K C M H k v d A->∀ a ∈ A,∃ vs,H a=some (.lst vs)
 | _,_,_,_,.s _,a,ha=>by cases ha
 | _,_,_,_,.l e h _,a,ha=>by
  rcases List.mem_cons.mp ha with rfl | ha
  ·exact ⟨_,e⟩
  ·exact TreP.lists h a ha
 | _,_,_,_,.p _ h,a,ha=>TreP.lists h a ha
theorem TreP.lists:∀ {ks:List OK} {vs:List V} {ds:List D} {A:List Addr},TreP K C M H ks vs ds A->∀ a ∈ A,∃ vs,H a=some (.lst vs)
 | _,_,_,_,.nil,a,ha=>by cases ha
 | _,_,_,_,.cons h t _,a,ha=>by
  rcases List.mem_append.mp ha with ha | ha
  ·exact Tre.lists h a ha
  ·exact TreP.lists t a ha
end
theorem TreP.len:∀ {ks:List OK} {vs:List V} {ds:List D} {A:List Addr},TreP K C M H ks vs ds A->vs.length=ds.length/\ks.length=ds.length
 | _,_,_,_,.nil=>⟨rfl,rfl⟩
 | _,_,_,_,.cons _ t _=>⟨congrArg Nat.succ t.len.1,congrArg Nat.succ t.len.2⟩
theorem TreP.of:∀ {vs:List V} {ds:List D},HasL K C M vs ds->TreP K C M H (vs.map fun _=>.s) vs ds []
 | _,_,.nil=>.nil
 | _,_,.cons h t=>.cons (A:=[]) (B:=[]) (.s h) (TreP.of t) fun _ ha=>by cases ha
theorem TreP.flat:∀ {vs us:List V} {ds:List D} {A:List Addr},TreP K C M H (us.map fun _=>OK.s) vs ds A->A=[]/\HasL K C M vs ds
 | [],us,_,_,h=>by cases us with
  | nil=>cases h;exact ⟨rfl,.nil⟩
  | cons _ _=>cases h
 | v :: vs,us,_,_,h=>by cases us with
  | nil=>cases h
  | cons _ us=>cases h with
   | cons h t _=>cases h with
    | s h=>obtain ⟨e,t'⟩:=TreP.flat t;subst e;exact ⟨rfl,.cons h t'⟩
end
def SlotOk (K:Frag) (C:Addr) (M H:Hp) (A:List Addr):Slt->Option (Option V)->Prop
 | .shr d,o=>∃ v,o=some (some v)/\Has K C M v d
 | .own xs,o=>∃ a vs,o=some (some (.ref a))/\a ∈ A/\H a=some (.lst vs)/\HasL K C M vs xs
 | .dic kvs,o=>∃ a,o=some (some (.ref a))/\a ∈ A/\DicAt K C M H a kvs
 | .tre k d,o=>∃ v B,o=some (some v)/\(∀ a ∈ B,a ∈ A)/\Tre K C M H k v d B
structure Rel (K:Frag) (C:Addr) (H0:Hp) (ρ:RB) (σ:St) (H:Hp):Prop where
 len:ρ.rho.length=σ.length
 keep:Same H0 (msk ρ σ H)
 at_:∀ (i:Nat) sl,ρ.rho[i]?=some (some sl)->SlotOk K C (msk ρ σ H) H (ρ.ad i) sl σ[i]?
 inj:∀ (i j:Nat) a,a ∈ ρ.ad i->a ∈ ρ.ad j->i=j
 kin:∀ (i:Nat) a,a ∈ ρ.ad i->(∃ vs,H a=some (.lst vs))\/∃ xs,H a=some (kT a xs)
 bnd:∀ (i:Nat) a,a ∈ ρ.ad i->i < ρ.rho.length
def xB (K:Frag) (C:Addr) (H0:Hp) (ρ:Rho) (σ:St) (H:Hp):Prop:=∃ β:RB,β.rho=ρ/\Rel K C H0 β σ H
def RB.put (ρ:RB) (i:Nat) (sl:Slt) (A:List Addr):RB:=⟨ρ.rho.set i (some sl),fun j=>if j=i then (if i < ρ.rho.length then A else []) else ρ.ad j⟩
section
variable {K:Frag} {C:Addr} {H0 H H' M M':Hp} {ρ:RB} {σ:St}
theorem SlotOk.stay {A:List Addr} {sl:Slt} {o:Option (Option V)} (y:Stay A H H') (m:Same M M') (h:SlotOk K C M H A sl o):SlotOk K C M' H' A sl o:=by
 cases sl with
 | shr d=>obtain ⟨v,e,h⟩:=h;exact ⟨v,e,h.mono m⟩
 | own xs=>obtain ⟨a,vs,e,n,q,h⟩:=h;exact ⟨a,vs,e,n,y.at_ _ n _ q,h.mono m⟩
 | dic kvs=>obtain ⟨a,e,n,h⟩:=h;exact ⟨a,e,n,h.mono (fun o q=>y.at_ _ n _ q) m⟩
 | tre k d=>obtain ⟨v,B,e,n,h⟩:=h;exact ⟨v,B,e,n,h.stay m (y.sub n)⟩
theorem SlotOk.mono {A:List Addr} {sl:Slt} {o:Option (Option V)} (s:Same H H') (m:Same M M') (h:SlotOk K C M H A sl o):SlotOk K C M' H' A sl o:=h.stay (.of s) m
theorem Rel.mono (r:Rel K C H0 ρ σ H) (s:Same H H'):Rel K C H0 ρ σ H' :=
 ⟨r.len,r.keep.trans (bc s),fun i sl e=>(r.at_ i sl e).mono s (bc s),r.inj,fun i a h=>(r.kin i a h).imp (fun ⟨vs,e⟩=>⟨vs,s _ _ e⟩) fun ⟨xs,e⟩=>⟨xs,s _ _ e⟩,r.bnd⟩
theorem Rel.rebase (r:Rel K C H0 ρ σ H):Rel K C (msk ρ σ H) ρ σ H:=⟨r.len,Same.refl _,r.at_,r.inj,r.kin,r.bnd⟩
theorem Rel.base {H1:Hp} (r:Rel K C H0 ρ σ H) (s:Same H1 H0):Rel K C H1 ρ σ H:=⟨r.len,s.trans r.keep,r.at_,r.inj,r.kin,r.bnd⟩
theorem Rel.ownAt (r:Rel K C H0 ρ σ H) {b:Addr} (h:Own ρ σ b):H b ≠ none:=by
 obtain ⟨i,h⟩:=h
 rcases r.kin i b h with ⟨vs,e⟩ | ⟨xs,e⟩ <;> (rw [e];exact fun z=>by cases z)
theorem Rel.new (r:Rel K C H0 ρ σ H) {p:Addr} {o:HO} (h:H p=none):msk ρ σ (upd H p o) p=some o :=
 msk_some.mpr ⟨fun z=>r.ownAt z h,ba⟩
theorem aX {p:Addr} {o:HO} (h:H p=none):Same H (upd H p o):=fun b u e=>by
 rw [aH (bG e h)];exact e
theorem fS {i j:Nat} {sl:Slt} {A:List Addr} {a:Addr} (h:a ∈ (ρ.put i sl A).ad j):(j=i/\i < ρ.rho.length/\a ∈ A)\/(j ≠ i/\a ∈ ρ.ad j):=by
 unfold RB.put at h
 dsimp only at h
 split at h
 ·rename_i e
  split at h
  ·exact .inl ⟨e,‹_›,h⟩
  ·cases h
 ·exact .inr ⟨‹_›,h⟩
theorem CP {i j:Nat} {sl sl':Slt} {A:List Addr} (h:(ρ.put i sl A).rho[j]?=some (some sl')):(j=i/\i < ρ.rho.length/\sl'=sl)\/(j ≠ i/\ρ.rho[j]?=some (some sl')):=by
 unfold RB.put at h
 dsimp only at h
 by_cases e:i=j
 ·subst e
  rw [List.getElem?_set] at h
  simp only [if_true] at h
  split at h
  ·cases h;exact .inl ⟨rfl,‹_›,rfl⟩
  ·cases h
 ·rw [List.getElem?_set_ne e] at h
  exact .inr ⟨fun z=>e z.symm,h⟩
theorem CO {i:Nat} {sl:Slt} {A:List Addr} {a:Addr} (hi:i < ρ.rho.length):(ρ.put i sl A).ad i=A:=by
 unfold RB.put
 dsimp only
 rw [if_pos rfl,if_pos hi]
theorem m7 {i j:Nat} {sl:Slt} {A:List Addr} (h:j ≠ i):(ρ.put i sl A).ad j=ρ.ad j:=by
 unfold RB.put
 dsimp only
 rw [if_neg h]
theorem Rel.put (r:Rel K C H0 ρ σ H) {i:Nat} {sl:Slt} {A:List Addr} {σ':St} (hl:σ'.length=σ.length) (ho:∀ j:Nat,j ≠ i->σ'[j]?=σ[j]?)
  (fr:∀ a ∈ A,a ∈ ρ.ad i\/H a=none) (st:∀ j:Nat,j ≠ i->Stay (ρ.ad j) H H') (ks:∀ b o,msk ρ σ H b=some o->H' b=some o) (kA:∀ a ∈ A,(∃ vs,H' a=some (.lst vs))\/∃ xs,H' a=some (kT a xs))
  (h:i < ρ.rho.length->Same (msk ρ σ H) (msk (ρ.put i sl A) σ' H')->SlotOk K C (msk (ρ.put i sl A) σ' H') H' A sl σ'[i]?):Rel K C H0 (ρ.put i sl A) σ' H':=by
 have own:∀ b,Own (ρ.put i sl A) σ' b->Own ρ σ b\/H b=none:=fun b z=>by
  obtain ⟨j,z⟩:=z
  rcases fS z with ⟨_,_,z⟩ | ⟨_,z⟩
  ·rcases fr b z with z | z
   ·exact .inl ⟨i,z⟩
   ·exact .inr z
  ·exact .inl ⟨j,z⟩
 have sub:Same (msk ρ σ H) (msk (ρ.put i sl A) σ' H'):=fun b o e=>by
  obtain ⟨h1,h2⟩:=msk_some.mp e
  refine msk_some.mpr ⟨fun z=>?_,ks b o e⟩
  rcases own b z with z | z
  ·exact h1 z
  ·rw [z] at h2;cases h2
 have kin':∀ (j:Nat) a,j ≠ i->a ∈ ρ.ad j->(∃ vs,H' a=some (.lst vs))\/∃ xs,H' a=some (kT a xs):=fun j a hj ha=>(r.kin j a ha).imp (fun ⟨vs,e⟩=>⟨vs,(st j hj).at_ a ha _ e⟩) fun ⟨xs,e⟩=>⟨xs,(st j hj).at_ a ha _ e⟩
 refine ⟨?_,r.keep.trans sub,fun j sl' e=>?_,fun j k a x y=>?_,fun j a x=>?_,fun j a x=>?_⟩
 ·show (ρ.rho.set i (some sl)).length=_
  rw [List.length_set,hl];exact r.len
 ·rcases CP e with ⟨rfl,hi,rfl⟩ | ⟨hj,e⟩
  ·rw [CO (a:=0) hi];exact h hi sub
  ·rw [m7 hj,ho j hj]
   exact (r.at_ j sl' e).stay (st j hj) sub
 ·rcases fS x with ⟨rfl,_,x⟩ | ⟨hj,x⟩
  ·rcases fS y with ⟨rfl,_,_⟩ | ⟨hk,y⟩
   ·rfl
   ·rcases fr a x with x | x
    ·exact r.inj _ _ a x y
    ·exact absurd x (r.ownAt ⟨k,y⟩)
  ·have x':=x
   rcases fS y with ⟨rfl,_,y⟩ | ⟨hk,y⟩
   ·rcases fr a y with y | y
    ·exact r.inj _ _ a x' y
    ·exact absurd y (r.ownAt ⟨j,x'⟩)
   ·exact r.inj _ _ a x' y
 ·rcases fS x with ⟨_,_,x⟩ | ⟨hj,x⟩
  ·exact kA a x
  ·exact kin' j a hj x
 ·show j < (ρ.rho.set i (some sl)).length
  rw [List.length_set]
  rcases fS x with ⟨rfl,hi,_⟩ | ⟨_,x⟩
  ·exact hi
  ·exact r.bnd j a x
theorem Rel.e (r:Rel K C H0 ρ σ H):xB K C H0 ρ.rho σ H:=⟨ρ,rfl,r⟩
theorem m6 {α:Type} {l:List α} {i:Nat} {a:α}:(l.set i a).length=l.length:=List.length_set
theorem qJ {σ:St} {i:Nat} {v:V} (h:i < σ.length):(σ.set i (some v))[i]?=some (some v):=by
 rw [List.getElem?_set];simp [h]
theorem Rel.setShr (r:Rel K C H0 ρ σ H) {i:Nat} {v:V} {d:D} (h:Has K C (msk ρ σ H) v d):Rel K C H0 (ρ.put i (.shr d) []) (σ.set i (some v)) H :=
 r.put m6 (fun j hj=>List.getElem?_set_ne fun z=>hj z.symm) (fun a ha=>by cases ha) (fun j _=>.of (Same.refl _)) (fun b o e=>(msk_some.mp e).2) (fun a ha=>by cases ha) fun hi s=>⟨v,qJ (by rw [<- r.len];exact hi),h.mono s⟩
theorem Rel.setOwn (r:Rel K C H0 ρ σ H) {i:Nat} {a:Addr} {vs:List V} {xs:List D} (hn:H a=none) (h:HasL K C (msk ρ σ H) vs xs):Rel K C H0 (ρ.put i (.own xs) [a]) (σ.set i (some (.ref a))) (upd H a (.lst vs)) :=
 r.put m6 (fun j hj=>List.getElem?_set_ne fun z=>hj z.symm) (fun b hb=>.inr (by cases List.mem_singleton.mp hb;exact hn)) (fun j _=>.of (aX hn)) (fun b o e=>aX hn b o (msk_some.mp e).2)
  (fun b hb=>.inl (by cases List.mem_singleton.mp hb;exact ⟨vs,ba⟩)) fun hi s=>⟨a,vs,qJ (by rw [<- r.len];exact hi),List.mem_singleton.mpr rfl,ba,h.mono s⟩
theorem Rel.apart (r:Rel K C H0 ρ σ H) {i j:Nat} {a:Addr} {o:HO} (ha:a ∈ ρ.ad i) (hj:j ≠ i):Stay (ρ.ad j) H (upd H a o):=by
 refine ⟨fun b hb u e=>?_,fun b vs e=>?_⟩
 ·rw [aH fun (z:b=a)=>hj (r.inj j i b hb (z ▸ ha))];exact e
 ·have:b ≠ a:=fun z=>by
   subst z
   rcases r.kin i b ha with ⟨us,e'⟩ | ⟨xs,e'⟩ <;> (rw [e] at e';cases e')
  rw [aH this];exact e
theorem Rel.shown (r:Rel K C H0 ρ σ H) {i:Nat} {a:Addr} {o:HO} (ha:a ∈ ρ.ad i):∀ b u,msk ρ σ H b=some u->upd H a o b=some u:=fun b u e=>by
 obtain ⟨h1,h2⟩:=msk_some.mp e
 rw [aH fun (z:b=a)=>h1 ⟨i,z ▸ ha⟩];exact h2
theorem Rel.write (r:Rel K C H0 ρ σ H) {i:Nat} {a:Addr} {xs ys:List D} {ws:List V} (e:ρ.rho[i]?=some (some (.own xs))) (q:σ[i]?=some (some (.ref a))) (h:HasL K C (msk ρ σ H) ws ys) :
  Rel K C H0 (ρ.put i (.own ys) [a]) σ (upd H a (.lst ws)):=by
 obtain ⟨b,vs,e1,ha,_,_⟩:=r.at_ i _ e
 rw [q] at e1;cases e1
 exact r.put rfl (fun j _=>rfl) (fun b hb=>.inl (by cases List.mem_singleton.mp hb;exact ha)) (fun j hj=>r.apart ha hj) (r.shown ha) (fun b hb=>.inl (by cases List.mem_singleton.mp hb;exact ⟨ws,ba⟩))
  fun hi s=>⟨a,ws,q,List.mem_singleton.mpr rfl,ba,h.mono s⟩
theorem Rel.freeze (r:Rel K C H0 ρ σ H) {i:Nat} {xs:List D} (e:ρ.rho[i]?=some (some (.own xs))):Rel K C H0 (ρ.put i (.shr (.lst xs)) []) σ H:=by
 obtain ⟨a,vs,q,ha,h1,h2⟩:=r.at_ i _ e
 refine r.put rfl (fun j _=>rfl) (fun b hb=>by cases hb) (fun j _=>.of (Same.refl _)) (fun b o z=>(msk_some.mp z).2) (fun b hb=>by cases hb) fun hi s=>⟨_,q,.lst (msk_some.mpr ⟨fun z=>?_,h1⟩) (h2.mono s)⟩
 obtain ⟨j,z⟩:=z
 rcases fS z with ⟨_,_,z⟩ | ⟨hj,z⟩
 ·cases z
 ·exact hj (r.inj j i a z ha)
mutual
theorem Tre.share (s:Same M M'):∀ {k:OK} {v:V} {d:D} {A:List Addr},Tre K C M H k v d A->(∀ a ∈ A,∀ o,H a=some o->M' a=some o)->(∀ a vs,H a=some (.tup vs)->M' a=some (.tup vs))->Has K C M' v d
 | _,_,_,_,.s h,_,_=>h.mono s
 | _,_,_,_,.l e h _,f,t=>.lst (f _ List.mem_cons_self _ e) (TreP.share s h (fun a ha=>f a (List.mem_cons_of_mem _ ha)) t)
 | _,_,_,_,.p e h,f,t=>.tup (t _ _ e) (TreP.share s h f t)
theorem TreP.share (s:Same M M'):∀ {ks:List OK} {vs:List V} {ds:List D} {A:List Addr},TreP K C M H ks vs ds A->(∀ a ∈ A,∀ o,H a=some o->M' a=some o)->(∀ a vs,H a=some (.tup vs)->M' a=some (.tup vs))->HasL K C M' vs ds
 | _,_,_,_,.nil,_,_=>.nil
 | _,_,_,_,.cons h t _,f,u=>.cons (Tre.share s h (fun a ha=>f a (List.mem_append_left _ ha)) u) (TreP.share s t (fun a ha=>f a (List.mem_append_right _ ha)) u)
end
theorem Rel.tups (r:Rel K C H0 ρ σ H) {a:Addr} {vs:List V} (e:H a=some (.tup vs)):¬ Own ρ σ a:=fun ⟨i,h⟩=>by
 rcases r.kin i a h with ⟨us,e'⟩ | ⟨xs,e'⟩ <;> (rw [e] at e';cases e')
theorem Rel.thaw (r:Rel K C H0 ρ σ H) {i:Nat} {k:OK} {d:D} (e:ρ.rho[i]?=some (some (.tre k d))):Rel K C H0 (ρ.put i (.shr d) []) σ H:=by
 obtain ⟨v,A,q,hA,h⟩:=r.at_ i _ e
 have own:∀ b,Own (ρ.put i (.shr d) []) σ b->Own ρ σ b/\b ∉ ρ.ad i:=fun b z=>by
  obtain ⟨j,z⟩:=z
  rcases fS z with ⟨_,_,z⟩ | ⟨hj,z⟩
  ·cases z
  ·exact ⟨⟨j,z⟩,fun y=>hj (r.inj j i b z y)⟩
 refine r.put rfl (fun j _=>rfl) (fun b hb=>by cases hb) (fun j _=>.of (Same.refl _)) (fun b o z=>(msk_some.mp z).2) (fun b hb=>by cases hb) fun hi s=>⟨_,q,h.share s (fun a ha o e=>?_) fun a vs e=>?_⟩
 ·exact msk_some.mpr ⟨fun z=>(own a z).2 (hA a ha),e⟩
 ·exact msk_some.mpr ⟨fun z=>r.tups e (own a z).1,e⟩
end
def Fly (X:Cx) (pins:List (Addr × Obj)) (c:Nat) (H:Hp) (e:Value) (s:Shared):Prop:=∃ ea Cc ch,e=.ref ea/\X.mg (exN c)=some (.ref Cc)/\D_ s.heap ea (.ref Cc) ch/\∀ b ∈ ch,Gi X pins H b
def XE (X:Cx) (c:Nat) (σ:St) (H:Hp):Prop:=∀ pins H' e s',Inv X pins σ H' s'->Same H H'->Fly X pins c H' e s'->X.xe e s'
def XS (X:Cx) (c:Nat) (H0:Hp):Prop:=∀ pins σ' H' e s',Inv X pins σ' H' s'->Same H0 H'->Fly X pins c H' e s'->X.xe e s'
theorem XE.mono {X:Cx} {c:Nat} {σ:St} {H H':Hp} (s:Same H H') (h:XE X c σ H):XE X c σ H':=fun pins H2 e s' I s2 f=>h pins H2 e s' I (s.trans s2) f
theorem XS.mono {X:Cx} {c:Nat} {H H':Hp} (s:Same H H') (h:XS X c H):XS X c H':=fun pins σ H2 e s' I s2 f=>h pins σ H2 e s' I (s.trans s2) f
theorem XS.xe {X:Cx} {c:Nat} {σ:St} {H H':Hp} (s:Same H H') (h:XS X c H):XE X c σ H':=fun pins H2 e s' I s2 f=>h pins σ H2 e s' I (s.trans s2) f
inductive Brw (K:Frag) (C:Addr) (M H:Hp):V->D->Prop where
 | cl {v:V} {d:D}:Has K C M v d->Brw K C M H v d
 | own {a:Addr} {vs:List V} {xs:List D}:H a=some (.lst vs)->HasL K C M vs xs->Brw K C M H (.ref a) (.lst xs)
theorem Brw.mono {K:Frag} {C:Addr} {M M' H H':Hp} {v:V} {d:D} (m:Same M M') (s:Same H H') (h:Brw K C M H v d):Brw K C M' H' v d:=by
 cases h with
 | cl h=>exact .cl (h.mono m)
 | own e h=>exact .own (s _ _ e) (h.mono m)
section
variable (C:Addr) (X:Cx)
abbrev eD (H0:Hp) (ρ:RB) (σ:St) (H:Hp):Prop:=Rel X.K C H0 ρ σ H
abbrev vi (H0:Hp) (ρ:Rho) (σ:St) (H:Hp):Prop:=xB X.K C H0 ρ σ H
abbrev e9 (ρ:RB) (σ:St) (H:Hp) (v:V) (d:D):Prop:=Has X.K C (msk ρ σ H) v d
abbrev jK (ρ:RB) (σ:St) (H:Hp) (v:List V) (d:List D):Prop:=HasL X.K C (msk ρ σ H) v d
abbrev Ea (ρ:RB) (σ:St) (H:Hp) (v:V) (d:D):Prop:=Brw X.K C (msk ρ σ H) H v d
def pV (Rl:Hp->V->D->Prop) (r:R D) (σ:St) (H:Hp) (Q:VK):Prop:=match r with
 | .val d=>∀ v H',Same H H'->Rl H' v d->Q v H'
 | .exc c=>XE X c σ H
 | .bad=>False
def pB (r:R Bool) (σ:St) (H:Hp) (Q:Bool->Hp->Prop):Prop:=match r with
 | .val b=>∀ H',Same H H'->Q b H'
 | .exc c=>XE X c σ H
 | .bad=>False
def pL (Rl:Hp->List V->List D->Prop) (r:R (List D)) (σ:St) (H:Hp) (Q:List V->Hp->Prop):Prop:=match r with
 | .val d=>∀ v H',Same H H'->Rl H' v d->Q v H'
 | .exc c=>XE X c σ H
 | .bad=>False
def teC (F:Rho->R D):TE:=fun σ H Q=>∃ ρ:RB,(∃ H0,eD C X H0 ρ σ H)/\pV X (e9 C X ρ σ) (F ρ) σ H Q
def teB (F:Rho->R D):TE:=fun σ H Q=>∃ ρ:RB,(∃ H0,eD C X H0 ρ σ H)/\pV X (Ea C X ρ σ) (F ρ) σ H Q
def ttD (F:Rho->R Bool):TT:=fun σ H Q=>∃ ρ:RB,(∃ H0,eD C X H0 ρ σ H)/\pB X (F ρ) σ H Q
def taD (F:Rho->R (List D)):TA:=fun σ H Q=>∃ ρ:RB,(∃ H0,eD C X H0 ρ σ H)/\pL X (jK C X ρ σ) (F ρ) σ H Q
def ED (e:Expr) (F:Rho->R D):Prop:=PE X e (teC C X F)
def EB (e:Expr) (F:Rho->R D):Prop:=PE X e (teB C X F)
def TD (e:Expr) (F:Rho->R Bool):Prop:=PT X e (ttD C X F)
def AD (es:List Expr) (F:Rho->R (List D)):Prop:=PA X es (taD C X F)
def pS (o:R Out) (H0:Hp) (Dn:ld):Prop:=match o with
 | .val (.nx ρ')=>∀ σ' H',vi C X H0 ρ' σ' H'->Dn.nx σ' H'
 | .val (.bk ρ')=>∀ σ' H',vi C X H0 ρ' σ' H'->Dn.bk σ' H'
 | .val (.ct ρ')=>∀ σ' H',vi C X H0 ρ' σ' H'->Dn.ct σ' H'
 | .val (.rt d)=>∀ v H',Same H0 H'->Has X.K C H' v d->Dn.rt v H'
 | .exc c=>XS X c H0
 | .bad=>False
def tsD (F:Rho->R Out):TS:=fun Dn σ H=>∃ ρ H0,vi C X H0 ρ σ H/\pS C X (F ρ) H0 Dn
def SD (st:Stmt) (F:Rho->R Out):Prop:=PS X st (tsD C X F)
def SDs (st:List Stmt) (F:Rho->R Out):Prop:=PSs X st (tsD C X F)
end
section
variable {C:Addr} {X:Cx} {ρ:RB} {σ:St} {H H':Hp}
theorem aQ {e:Expr} {t t':TE} (h:PE X e t) (hw:∀ σ H Q,t' σ H Q->t σ H Q):PE X e t':=fun pins s σ H Q I q=>h pins s σ H Q I (hw σ H Q q)
theorem iG {e:Expr} {t t':TT} (h:PT X e t) (hw:∀ σ H Q,t' σ H Q->t σ H Q):PT X e t':=fun pins s σ H Q I q=>h pins s σ H Q I (hw σ H Q q)
theorem nc {e:List Expr} {t t':TA} (h:PA X e t) (hw:∀ σ H Q,t' σ H Q->t σ H Q):PA X e t':=fun pos pins s σ H Q I q=>h pos pins s σ H Q I (hw σ H Q q)
theorem bF {e:Stmt} {t t':TS} (h:PS X e t) (hw:∀ D σ H,t' D σ H->t D σ H):PS X e t':=fun pins s σ H Q I q=>h pins s σ H Q I (hw Q σ H q)
theorem jg {e:List Stmt} {t t':TS} (h:PSs X e t) (hw:∀ D σ H,t' D σ H->t D σ H):PSs X e t':=fun pins s σ H Q I q=>h pins s σ H Q I (hw Q σ H q)
theorem pV.mono {Rl:Hp->V->D->Prop} {r:R D} {Q:VK} (s:Same H H') (h:pV X Rl r σ H Q):pV X Rl r σ H' Q:=by
 cases r with
 | val d=>exact fun v H2 s2 q=>h v H2 (s.trans s2) q
 | exc c=>exact XE.mono s h
 | bad=>exact h
theorem pB.mono {r:R Bool} {Q:Bool->Hp->Prop} (s:Same H H') (h:pB X r σ H Q):pB X r σ H' Q:=by
 cases r with
 | val d=>exact fun H2 s2=>h H2 (s.trans s2)
 | exc c=>exact XE.mono s h
 | bad=>exact h
theorem pL.mono {Rl:Hp->List V->List D->Prop} {r:R (List D)} {Q:List V->Hp->Prop} (s:Same H H') (h:pL X Rl r σ H Q):pL X Rl r σ H' Q:=by
 cases r with
 | val d=>exact fun v H2 s2 q=>h v H2 (s.trans s2) q
 | exc c=>exact XE.mono s h
 | bad=>exact h
theorem a_ {α:Type} {Rl:Hp->V->D->Prop} {r:R D} {k:D->R α} {P:R α->Hp->Prop} {Q:VK} (hexc:∀ c,P (.exc c) H->XE X c σ H) (hbad:P .bad H->False) (h:P (r.bind k) H)
  (hk:∀ d v H1,Same H H1->Rl H1 v d->P (k d) H->Q v H1):pV X Rl r σ H Q:=by
 cases r with
 | val d=>exact fun v H1 s q=>hk d v H1 s q h
 | exc c=>exact hexc c h
 | bad=>exact hbad h
theorem kD {α:Type} {r:R Bool} {k:Bool->R α} {P:R α->Hp->Prop} {Q:Bool->Hp->Prop} (hexc:∀ c,P (.exc c) H->XE X c σ H) (hbad:P .bad H->False) (h:P (r.bind k) H)
  (hk:∀ d H1,Same H H1->P (k d) H->Q d H1):pB X r σ H Q:=by
 cases r with
 | val d=>exact fun H1 s=>hk d H1 s h
 | exc c=>exact hexc c h
 | bad=>exact hbad h
theorem ff {α:Type} {Rl:Hp->List V->List D->Prop} {r:R (List D)} {k:List D->R α} {P:R α->Hp->Prop} {Q:List V->Hp->Prop} (hexc:∀ c,P (.exc c) H->XE X c σ H) (hbad:P .bad H->False) (h:P (r.bind k) H)
  (hk:∀ d v H1,Same H H1->Rl H1 v d->P (k d) H->Q v H1):pL X Rl r σ H Q:=by
 cases r with
 | val d=>exact fun v H1 s q=>hk d v H1 s q h
 | exc c=>exact hexc c h
 | bad=>exact hbad h
theorem EB.of {e : Expr} {F : Rho -> R D} (h : ED C X e F) : EB C X e F := aQ h fun σ H Q yy0 => by
 obtain ⟨ρ, r, q⟩ := yy0
 exact ⟨ρ, r, by
  cases z : F ρ with
  | val d => rw [z] at q; exact fun v H' s h => q v H' s (.cl h)
  | exc c => rw [z] at q; exact q
  | bad => rw [z] at q; exact q⟩
def vr (i:Nat):Rho->R D:=fun ρ=>match ρ[i]? with
 | some (some (.shr d))=>.val d
 | _=>.bad
def vb (i:Nat):Rho->R D:=fun ρ=>match ρ[i]? with
 | some (some (.shr d))=>.val d
 | some (some (.own xs))=>.val (.lst xs)
 | some (some (.tre (.l .s) (.lst xs)))=>.val (.lst xs)
 | _=>.bad
theorem ah {i:Nat} {x:Str} {pos:Pos} (h:PE X (.Name x pos) (fy i)):ED C X (.Name x pos) (vr i):=by
 refine aQ h fun σ H Q zz0=>?_
 obtain ⟨ρ,⟨H0,r⟩,q⟩:=zz0
 unfold vr at q
 split at q
 ·rename_i d e
  obtain ⟨v,e1,h1⟩:=r.at_ i _ e
  exact ⟨v,e1,q v H (Same.refl _) h1⟩
 ·exact q.elim
theorem ag {i:Nat} {x:Str} {pos:Pos} (h:PE X (.Name x pos) (fy i)):EB C X (.Name x pos) (vb i):=by
 refine aQ h fun σ H Q zz1=>?_
 obtain ⟨ρ,⟨H0,r⟩,q⟩:=zz1
 unfold vb at q
 split at q
 ·rename_i d e
  obtain ⟨v,e1,h1⟩:=r.at_ i _ e
  exact ⟨v,e1,q v H (Same.refl _) (.cl h1)⟩
 ·rename_i xs e
  obtain ⟨a,vs,e1,_,h1,h2⟩:=r.at_ i _ e
  exact ⟨_,e1,q _ H (Same.refl _) (.own h1 h2)⟩
 ·rename_i xs e
  obtain ⟨v,B,e1,_,h⟩:=r.at_ i _ e
  cases h with
  | l h1 h2 _=>exact ⟨_,e1,q _ H (Same.refl _) (.own h1 h2.flat.2)⟩
 ·exact q.elim
def kd (d:D):Rho->R D:=fun _=>.val d
theorem ak {i j pos} : ED C X (.Constant (.int i) j pos) (kd (.int i)) := aQ Da fun σ H Q yy1 => by
 obtain ⟨ρ, r, q⟩ := yy1
 exact q _ H (Same.refl _) (.int i)
theorem gW {i j pos} : ED C X (.Constant (.bool i) j pos) (kd (.bl i)) := aQ B0 fun σ H Q yy2 => by
 obtain ⟨ρ, r, q⟩ := yy2
 exact q _ H (Same.refl _) (.bl i)
theorem rS {j pos} : ED C X (.Constant .none j pos) (kd .non) := aQ C9 fun σ H Q yy3 => by
 obtain ⟨ρ, r, q⟩ := yy3
 exact q _ H (Same.refl _) .non
theorem kS {x : Str} {i : Int} {t : Tok} {pos : Pos} (hg : Gl X x) (hm : X.mg x = some (.int i t)) (hd : (x == ("__debug__" : Str)) = false := by decide) : ED C X (.Name x pos) (kd (.int i)) :=
  aQ (AG (v := .int i) hg hm ⟨t, rfl⟩ hd) fun σ H Q yy4 => by
   obtain ⟨ρ, r, q⟩ := yy4
   exact q _ H (Same.refl _) (.int i)
def bin (f:D->D->R D) (a b:Rho->R D):Rho->R D:=fun ρ=>(a ρ).bind fun x=>(b ρ).bind fun y=>f x y
def OpD (C:Addr) (X:Cx) (r:R2) (f:D->D->R D):Prop:=∀ ρ σ H v w x y z (Q:VK),(∃ H0,eD C X H0 ρ σ H)->Ea C X ρ σ H v x->Ea C X ρ σ H w y->f x y=.val z->(∀ u H',Same H H'->e9 C X ρ σ H' u z->Q u H')->r v w H Q
def fx (f:D->D->R D):Prop:=∀ x y c,f x y ≠ .exc c
theorem qF {r:R2} {f:D->D->R D} {Fa Fb:Rho->R D} (hf:fx f) (ho:OpD C X r f) {σ:St} {H:Hp} {Q:VK} (h:teC C X (bin f Fa Fb) σ H Q):tOp r (teB C X Fa) (teB C X Fb) σ H Q:=by
 obtain ⟨ρ,⟨H0,r0⟩,q⟩:=h
 refine ⟨ρ,⟨H0,r0⟩,a_ (P:=fun z H=>pV X (e9 C X ρ σ) z σ H Q) (fun _ h=>h) (fun h=>h) q fun x v H1 s1 h1 q1=>?_⟩
 refine ⟨ρ,⟨H0,r0.mono s1⟩,a_ (P:=fun z H=>pV X (e9 C X ρ σ) z σ H Q) (fun _ h=>h) (fun h=>h) (q1.mono s1) fun y w H2 s2 h2 q2=>?_⟩
 cases e:f x y with
 | val z =>
  rw [e] at q2
  exact ho ρ σ H2 v w x y z Q ⟨H0,(r0.mono s1).mono s2⟩ (h1.mono (bc s2) s2) h2 e fun u H3 s3 h3=>q2 u H3 (s2.trans s3) h3
 | exc c=>exact (hf x y c e).elim
 | bad=>rw [e] at q2;exact q2.elim
theorem qr {a b:Expr} {op:Operator} {pos:Pos} {r:R2} {f:D->D->R D} {Fa Fb:Rho->R D} (h:OpR X (binaryOp op) r) (hf:fx f) (ho:OpD C X r f) (ha:EB C X a Fa) (hb:EB C X b Fb) :
  ED C X (.BinOp a op b pos) (bin f Fa Fb):=aQ (BY h ha hb) fun σ H Q q=>qF hf ho q
theorem zC {a b:Expr} {op:CmpOp} {pos:Pos} {r:R2} {f:D->D->R D} {Fa Fb:Rho->R D} (h:OpR X (compareOp op) r) (hf:fx f) (ho:OpD C X r f) (ha:EB C X a Fa) (hb:EB C X b Fb) (hm:behindInMarks op b=false) :
  ED C X (.Compare a [op] [b] pos) (bin f Fa Fb):=aQ (AH h ha hb hm) fun σ H Q q=>qF hf ho q
theorem Fg {a b:Expr} {pos:Pos} {r:R2} {f:D->D->R D} {Fa Fb:Rho->R D} (h:IxR X r) (hf:fx f) (ho:OpD C X r f) (ha:EB C X a Fa) (hb:EB C X b Fb) (hs:nv b) :
  ED C X (.Subscript a b pos) (bin f Fa Fb):=aQ (BZ h ha hb hs) fun σ H Q q=>qF hf ho q
def asB:D->R Bool
 | .bl b=>.val b
 | _=>.bad
def tst (F:Rho->R D):Rho->R Bool:=fun ρ=>(F ρ).bind asB
theorem Brw.int {K:Frag} {M H:Hp} {v:V} {i:Int} (h:Brw K C M H v (.int i)):v=.int i:=by
 cases h with
 | cl h=>cases h;rfl
theorem Brw.bl {K:Frag} {M H:Hp} {v:V} {i:Bool} (h:Brw K C M H v (.bl i)):v=.bl i:=by
 cases h with
 | cl h=>cases h;rfl
theorem Has.bl' {K:Frag} {M:Hp} {v:V} {i:Bool} (h:Has K C M v (.bl i)):v=.bl i:=by cases h;rfl
theorem Et {F:Rho->R D} {σ:St} {H:Hp} {Q:Bool->Hp->Prop} (h:ttD C X (tst F) σ H Q):teC C X F σ H fun x H1=>∃ c,x=.bl c/\Q c H1:=by
 obtain ⟨ρ,⟨H0,r0⟩,q⟩:=h
 refine ⟨ρ,⟨H0,r0⟩,a_ (P:=fun z H=>pB X z σ H Q) (fun _ h=>h) (fun h=>h) q fun x v H1 s1 h1 q1=>?_⟩
 cases x with
 | bl b=>exact ⟨b,Has.bl' h1,q1 H1 s1⟩
 | _=>exact q1.elim
theorem dL {e:Expr} {F:Rho->R D} (h:ED C X e F) (he:∀ whole,isTrue e X.env whole=(do let v <- whole;standAt e.pos;holding [v] (truthy v)):=by intro _;rfl):TD C X e (tst F) :=
 iG (CY h he) fun σ H Q q=>Et q
theorem nC {a b:Expr} {op:CmpOp} {pos:Pos} {r:R2} {f:D->D->R D} {Fa Fb:Rho->R D} (h:OpR X (compareOp op) r) (hf:fx f) (ho:OpD C X r f) (ha:EB C X a Fa) (hb:EB C X b Fb) (hm:behindInMarks op b=false) :
  TD C X (.Compare a [op] [b] pos) (tst (bin f Fa Fb)):=iG (vF h ha hb hm) fun σ H Q q=>by
 obtain ⟨ρ,r0,q⟩:=q
 refine qF hf ho ⟨ρ,r0,?_⟩
 exact a_ (P:=fun z H=>pB X z σ H Q) (fun _ h=>h) (fun h=>h) q fun x v H1 s1 h1 q1=>by
  cases x with
  | bl b=>exact ⟨b,Has.bl' h1,q1 H1 s1⟩
  | _=>exact q1.elim
def pq (a b:Rho->R Bool):Rho->R Bool:=fun ρ=>(a ρ).bind fun x=>if x=true then b ρ else .val false
def orB (a b:Rho->R Bool):Rho->R Bool:=fun ρ=>(a ρ).bind fun x=>if x=true then .val true else b ρ
def gO (a:Rho->R Bool):Rho->R Bool:=fun ρ=>(a ρ).bind fun x=>.val (!x)
def WD (C:Addr) (X:Cx) (e:Expr) (F:Rho->R Bool):Prop:=PW X e (ttD C X F)
theorem vE {e:Expr} {t t':TT} (h:PW X e t) (hw:∀ σ H Q,t' σ H Q->t σ H Q):PW X e t':=fun wh pins s σ H Q I q=>h wh pins s σ H Q I (hw σ H Q q)
theorem mY {a:Expr} {pos:Pos} {F:Rho->R Bool} (h:TD C X a F):WD C X (.BoolOp .And [a] pos) F:=Au h
theorem ir {a:Expr} {pos:Pos} {F:Rho->R Bool} (h:TD C X a F):WD C X (.BoolOp .Or [a] pos) F:=CM h
theorem qC {a b : Expr} {rest : List Expr} {pos : Pos} {Fa Fb : Rho -> R Bool} (ha : TD C X a Fa) (hb : WD C X (.BoolOp .And (b :: rest) pos) Fb) : WD C X (.BoolOp .And (a :: b :: rest) pos) (pq Fa Fb) :=
  vE (CN ha hb) fun σ H Q yy5 => by
   obtain ⟨ρ, ⟨H0, r0⟩, q⟩ := yy5
   exact ⟨ρ, ⟨H0, r0⟩, kD (P := fun z H => pB X z σ H Q) (fun _ h => h) (fun h => h) q fun x H1 s1 q1 => by
    cases x with
    | true => rw [if_pos rfl]; rw [if_pos rfl] at q1; exact ⟨ρ, ⟨H0, r0.mono s1⟩, q1.mono s1⟩
    | false => rw [if_neg Bool.false_ne_true]; rw [if_neg Bool.false_ne_true] at q1; exact q1 H1 s1⟩
theorem i5 {a b : Expr} {rest : List Expr} {pos : Pos} {Fa Fb : Rho -> R Bool} (ha : TD C X a Fa) (hb : WD C X (.BoolOp .Or (b :: rest) pos) Fb) : WD C X (.BoolOp .Or (a :: b :: rest) pos) (orB Fa Fb) :=
  vE (EF ha hb) fun σ H Q yy6 => by
   obtain ⟨ρ, ⟨H0, r0⟩, q⟩ := yy6
   exact ⟨ρ, ⟨H0, r0⟩, kD (P := fun z H => pB X z σ H Q) (fun _ h => h) (fun h => h) q fun x H1 s1 q1 => by
    cases x with
    | false => rw [if_neg Bool.false_ne_true]; rw [if_neg Bool.false_ne_true] at q1; exact ⟨ρ, ⟨H0, r0.mono s1⟩, q1.mono s1⟩
    | true => rw [if_pos rfl]; rw [if_pos rfl] at q1; exact q1 H1 s1⟩
theorem lj {e:Expr} {F:Rho->R Bool} (h:WD C X e F):TD C X e F:=h.pt
theorem e_ {a : Expr} {pos : Pos} {F : Rho -> R Bool} (h : TD C X a F) : TD C X (.UnaryOp .Not a pos) (gO F) :=
  iG (CZ h) fun σ H Q yy7 => by
   obtain ⟨ρ, r0, q⟩ := yy7
   exact ⟨ρ, r0, kD (P := fun z H => pB X z σ H Q) (fun _ h => h) (fun h => h) q fun x H1 s1 q1 => q1 H1 s1⟩
def zV (a b:Rho->R D):Rho->R D:=fun ρ=>(a ρ).bind fun x=>(asB x).bind fun c=>if c=true then b ρ else .val (.bl false)
def ES (a:Rho->R D):Rho->R D:=fun ρ=>(a ρ).bind fun x=>(asB x).bind fun c=>.val (.bl (!c))
theorem u0 {a:Expr} {op} {pos:Pos} {F:Rho->R D} (h:ED C X a F):ED C X (.BoolOp op [a] pos) F:=C7 h
theorem u4 {a b : Expr} {rest : List Expr} {pos : Pos} {Fa Fb : Rho -> R D} (ha : ED C X a Fa) (hb : ED C X (.BoolOp .And (b :: rest) pos) Fb) : ED C X (.BoolOp .And (a :: b :: rest) pos) (zV Fa Fb) :=
  aQ (Dc ha hb) fun σ H Q yy8 => by
   obtain ⟨ρ, ⟨H0, r0⟩, q⟩ := yy8
   exact ⟨ρ, ⟨H0, r0⟩, a_ (P := fun z H => pV X (e9 C X ρ σ) z σ H Q) (fun _ h => h) (fun h => h) q fun x v H1 s1 h1 q1 => by
    cases x with
    | bl c =>
      refine ⟨c, Has.bl' h1, ?_⟩
      cases c with
      | true => exact DJ ⟨ρ, ⟨H0, r0.mono s1⟩, q1.mono s1⟩
      | false => exact DK (q1 _ H1 s1 (.bl false))
    | _ => exact q1.elim⟩
theorem DZ {a : Expr} {pos : Pos} {F : Rho -> R D} (h : ED C X a F) : ED C X (.UnaryOp .Not a pos) (ES F) :=
  aQ (C8 h) fun σ H Q yy10 => by
   obtain ⟨ρ, ⟨H0, r0⟩, q⟩ := yy10
   exact ⟨ρ, ⟨H0, r0⟩, a_ (P := fun z H => pV X (e9 C X ρ σ) z σ H Q) (fun _ h => h) (fun h => h) q fun x v H1 s1 h1 q1 => by
    cases x with
    | bl c => exact ⟨c, Has.bl' h1, q1 _ H1 s1 (.bl _)⟩
    | _ => exact q1.elim⟩
def aN:Rho->R (List D):=fun _=>.val []
def aC (a:Rho->R D) (r:Rho->R (List D)):Rho->R (List D):=fun ρ=>(a ρ).bind fun x=>(r ρ).bind fun xs=>.val (x :: xs)
theorem aq : AD C X [] aN := nc eX fun σ H Q yy12 => by
 obtain ⟨ρ, r0, q⟩ := yy12
 exact q [] H (Same.refl _) .nil
theorem ae {e : Expr} {es : List Expr} {Fa : Rho -> R D} {Fr : Rho -> R (List D)} (ha : ED C X e Fa) (hr : AD C X es Fr) (hs : starEach (e :: es) X.env = (false, eval e X.env) :: starEach es X.env := by rfl) : AD C X (e :: es) (aC Fa Fr) :=
  nc (dk ha hr hs) fun σ H Q yy13 => by
   obtain ⟨ρ, ⟨H0, r0⟩, q⟩ := yy13
   exact ⟨ρ, ⟨H0, r0⟩, a_ (P := fun z H => pL X (jK C X ρ σ) z σ H Q) (fun _ h => h) (fun h => h) q fun x v H1 s1 h1 q1 =>
    ⟨ρ, ⟨H0, r0.mono s1⟩, ff (P := fun z H => pL X (jK C X ρ σ) z σ H Q) (fun _ h => h) (fun h => h) (q1.mono s1) fun xs vs H2 s2 h2 q2 => q2 _ H2 s2 (.cons (h1.mono (bc s2)) h2)⟩⟩
def LIM:Nat:=100000
theorem ow {n:Nat} (h:n<=LIM):n<=sizeLine:=Nat.le_trans h (by decide)
theorem Dy {n:Nat} (h:n<=LIM):n < sizeLine:=Nat.lt_of_le_of_lt h (by decide)
def mkT (xs:List D):R D:=if xs.length<=LIM then .val (.tup xs) else .bad
def mkL (xs:List D):R D:=if xs.length<=LIM then .val (.lst xs) else .bad
def eT (a:Rho->R (List D)):Rho->R D:=fun ρ=>(a ρ).bind mkT
def eL (a:Rho->R (List D)):Rho->R D:=fun ρ=>(a ρ).bind mkL
theorem cn {es : List Expr} {x1} {pos : Pos} {F : Rho -> R (List D)} (h : AD C X es F) : ED C X (.Tuple es x1 pos) (eT F) :=
  aQ (C5 h) fun σ H Q yy14 => by
   obtain ⟨ρ, ⟨H0, r0⟩, q⟩ := yy14
   exact ⟨ρ, ⟨H0, r0⟩, ff (P := fun z H => pV X (e9 C X ρ σ) z σ H Q) (fun _ h => h) (fun h => h) q fun xs vs H1 s1 h1 q1 => by
    unfold mkT at q1
    split at q1
    · rename_i hl
      refine ⟨by rw [h1.len]; exact ow hl, fun p hp => q1 _ _ (s1.trans (aX hp)) ?_⟩
      exact .tup ((r0.mono s1).new hp) (h1.mono (bc (aX hp)))
    · exact q1.elim⟩
theorem cq {es : List Expr} {pos : Pos} {F : Rho -> R (List D)} (h : AD C X es F) : ED C X (.List es pos) (eL F) :=
  aQ (q8 h) fun σ H Q yy15 => by
   obtain ⟨ρ, ⟨H0, r0⟩, q⟩ := yy15
   exact ⟨ρ, ⟨H0, r0⟩, ff (P := fun z H => pV X (e9 C X ρ σ) z σ H Q) (fun _ h => h) (fun h => h) q fun xs vs H1 s1 h1 q1 => by
    unfold mkL at q1
    split at q1
    · rename_i hl
      refine ⟨by rw [h1.len]; exact ow hl, fun p hp => q1 _ _ (s1.trans (aX hp)) ?_⟩
      exact .lst ((r0.mono s1).new hp) (h1.mono (bc (aX hp)))
    · exact q1.elim⟩
end
section
variable {C:Addr} {X:Cx} {ρ:RB} {σ:St} {H H':Hp}
def iI (f:Int->Int->R D):D->D->R D
 | .int i,.int j=>f i j
 | _,_=>.bad
theorem iF {f:Int->Int->R D} (h:∀ i j c,f i j ≠ .exc c):fx (iI f):=by
 intro x y c
 cases x <;> cases y <;> simp [iI] <;> exact h _ _ c
theorem uH {g:Int->Int->V} {f:Int->Int->R D} (h:∀ i j z,f i j=.val z->∀ K C H,Has K C H (g i j) z):OpD C X (rI0 g) (iI f):=by
 intro ρ σ H v w x y z Q r hx hy e k
 cases x with
 | int i =>
  cases y with
  | int j=>exact ⟨i,j,hx.int,hy.int,k _ H (Same.refl _) (h i j z e _ _ _)⟩
  | _=>cases e
 | _=>cases e
theorem vL {P:Int->Int->Prop} {g:Int->Int->V} {f:Int->Int->R D} (h:∀ i j z,f i j=.val z->P i j/\∀ K C H,Has K C H (g i j) z):OpD C X (rI P g) (iI f):=by
 intro ρ σ H v w x y z Q r hx hy e k
 cases x with
 | int i =>
  cases y with
  | int j=>exact ⟨i,j,hx.int,hy.int,(h i j z e).1,k _ H (Same.refl _) ((h i j z e).2 _ _ _)⟩
  | _=>cases e
 | _=>cases e
def tz (i j:Int):R D:=.val (.int (i - j))
def fE (i j:Int):R D:=if (-(2 ^ 64) < i/\i < 2 ^ 64)\/(-(2 ^ 64) < j/\j < 2 ^ 64) then .val (.int (i * j)) else .bad
def aV (i j:Int):R D:=if 0 < j then .val (.int (i % j)) else .bad
def eG (i j:Int):R D:=if 0 < j/\j < 1073741824 then .val (.int (i / j)) else .bad
def mN (i j:Int):R D:=if 0<=j/\j<=1000000/\i.natAbs < 2 ^ 64 then .val (.int (i ^ j.toNat)) else .bad
def flt (i j:Int):R D:=.val (.bl (decide (i < j)))
def fgt (i j:Int):R D:=.val (.bl (decide (j < i)))
theorem AM:OpD C X (rI0 fun i j=>.int (i - j)) (iI tz):=uH fun i j z e=>by cases e;exact fun _ _ _=>.int _
theorem AO:OpD C X (rI CMul fun i j=>.int (i * j)) (iI fE):=vL fun i j z e=>by
 unfold fE at e;split at e
 ·cases e;exact ⟨‹_›,fun _ _ _=>.int _⟩
 ·cases e
theorem AQ:OpD C X (rI (fun _ j=>0 < j) fun i j=>.int (i % j)) (iI aV):=vL fun i j z e=>by
 unfold aV at e;split at e
 ·cases e;exact ⟨‹_›,fun _ _ _=>.int _⟩
 ·cases e
theorem AS:OpD C X (rI Fq fun i j=>.int (i / j)) (iI eG):=vL fun i j z e=>by
 unfold eG at e;split at e
 ·cases e;exact ⟨‹_›,fun _ _ _=>.int _⟩
 ·cases e
theorem AN:OpD C X (rI Fp fun i j=>.int (i ^ j.toNat)) (iI mN):=vL fun i j z e=>by
 unfold mN at e;split at e
 ·cases e;exact ⟨‹_›,fun _ _ _=>.int _⟩
 ·cases e
theorem Dg:OpD C X (rI0 fun i j=>.bl (decide (i < j))) (iI flt):=uH fun i j z e=>by cases e;exact fun _ _ _=>.bl _
theorem Di:OpD C X (rI0 fun i j=>.bl (decide (j < i))) (iI fgt):=uH fun i j z e=>by cases e;exact fun _ _ _=>.bl _
theorem CQ:fx (iI tz):=iF fun i j c e=>by cases e
theorem CT:fx (iI fE):=iF fun i j c e=>by unfold fE at e;split at e <;> cases e
theorem CU:fx (iI aV):=iF fun i j c e=>by unfold aV at e;split at e <;> cases e
theorem CV:fx (iI eG):=iF fun i j c e=>by unfold eG at e;split at e <;> cases e
theorem CS:fx (iI mN):=iF fun i j c e=>by unfold mN at e;split at e <;> cases e
theorem EH:fx (iI flt):=iF fun i j c e=>by cases e
theorem EJ:fx (iI fgt):=iF fun i j c e=>by cases e
def bH:D->D->R D
 | .int i,.int j=>.val (.int (i + j))
 | .lst xs,.lst ys=>if xs.length + ys.length<=LIM then .val (.lst (xs ++ ys)) else .bad
 | _,_=>.bad
theorem Brw.lst {K:Frag} {M H:Hp} {v:V} {xs:List D} (s:Same M H) (h:Brw K C M H v (.lst xs)):∃ a vs,v=.ref a/\H a=some (.lst vs)/\HasL K C M vs xs:=by
 cases h with
 | cl h=>cases h with
  | lst q h=>exact ⟨_,_,rfl,s _ _ q,h⟩
 | own e h=>exact ⟨_,_,rfl,e,h⟩
theorem Brw.tup {K:Frag} {M H:Hp} {v:V} {xs:List D} (s:Same M H) (h:Brw K C M H v (.tup xs)):∃ a vs,v=.ref a/\H a=some (.tup vs)/\HasL K C M vs xs:=by
 cases h with
 | cl h=>cases h with
  | tup q h=>exact ⟨_,_,rfl,s _ _ q,h⟩
theorem Brw.scr {K:Frag} {M H:Hp} {v:V} {ns:List Int} (s:Same M H) (h:Brw K C M H v (.scr ns)):∃ a,v=.ref a/\SqL K H a (ns.map V.int):=by
 cases h with
 | cl h=>cases h with
  | scr q=>exact ⟨_,rfl,s.seq q⟩
theorem AT:OpD C X (fun x y H Q=>rI0 (fun i j=>.int (i + j)) x y H Q\/CL x y H Q) bH:=by
 intro ρ σ H v w x y z Q r hx hy e k
 obtain ⟨H0,r⟩:=r
 cases x with
 | int i =>
  cases y with
  | int j=>cases e;exact .inl ⟨i,j,hx.int,hy.int,k _ H (Same.refl _) (.int _)⟩
  | _=>cases e
 | lst xs =>
  cases y with
  | lst ys =>
   simp only [bH] at e
   split at e
   ·rename_i hl
    cases e
    obtain ⟨a,vs,rfl,q1,h1⟩:=hx.lst msk_sub
    obtain ⟨b,ws,rfl,q2,h2⟩:=hy.lst msk_sub
    refine .inr ⟨a,b,vs,ws,rfl,rfl,q1,q2,by rw [h1.len,h2.len];exact ow hl,fun p hp=>k _ _ (aX hp) ?_⟩
    exact .lst (r.new hp) ((h1.app h2).mono (bc (aX hp)))
   ·cases e
  | _=>cases e
 | _=>cases e
theorem CW:fx bH:=by
 intro x y c e
 unfold bH at e
 split at e
 ·cases e
 ·split at e <;> cases e
 ·cases e
theorem AL:OpR X (binaryOp .Add) (fun x y H Q=>rI0 (fun i j=>.int (i + j)) x y H Q\/CL x y H Q):=op_add.or yC
def fix:D->D->R D
 | .lst xs,.int i=>match atI xs i with
  | some d=>.val d
  | none=>.bad
 | .tup xs,.int i=>match atI xs i with
  | some d=>.val d
  | none=>.bad
 | .scr ns,.int i=>match atI ns i with
  | some d=>.val (.int d)
  | none=>.bad
 | _,_=>.bad
theorem EI:fx fix:=by
 intro x y c e
 unfold fix at e
 split at e
 ·split at e <;> cases e
 ·split at e <;> cases e
 ·split at e <;> cases e
 ·cases e
theorem BM {α β:Type} (f:α->β) (xs:List α) (i:Int):L2.atI (xs.map f) i=(L2.atI xs i).map f:=by
 unfold L2.atI
 rw [List.length_map]
 cases ixN xs.length i with
 | none=>rfl
 | some j=>simp
theorem HasL.atI {K:Frag} {vs:List V} {xs:List D} {i:Int} {d:D} (h:HasL K C H vs xs) (e:atI xs i=some d):∃ v,L2.atI vs i=some v/\Has K C H v d:=by
 unfold L2.atI at e ⊢
 rw [h.len]
 cases q:ixN xs.length i with
 | none=>rw [q] at e;cases e
 | some j =>
  rw [q] at e
  exact h.get e
theorem Dh:OpD C X (rIx X.K) fix:=by
 intro ρ σ H v w x y z Q r hx hy e k
 unfold fix at e
 split at e
 ·rename_i xs i
  split at e
  ·rename_i d q
   cases e
   obtain ⟨a,vs,rfl,q1,h1⟩:=hx.lst msk_sub
   obtain ⟨u,q2,h2⟩:=h1.atI q
   exact .inl ⟨a,vs,i,u,rfl,hy.int,SqL.of q1,q2,k _ H (Same.refl _) h2⟩
  ·cases e
 ·rename_i xs i
  split at e
  ·rename_i d q
   cases e
   obtain ⟨a,vs,rfl,q1,h1⟩:=hx.tup msk_sub
   obtain ⟨u,q2,h2⟩:=h1.atI q
   exact .inr (.inl ⟨a,vs,i,u,rfl,hy.int,SqT.of q1,q2,k _ H (Same.refl _) h2⟩)
  ·cases e
 ·rename_i ns i
  split at e
  ·rename_i d q
   cases e
   obtain ⟨a,rfl,q1⟩:=hx.scr msk_sub
   exact .inl ⟨a,_,i,.int d,rfl,hy.int,q1,by rw [BM,q];rfl,k _ H (Same.refl _) (.int d)⟩
  ·cases e
 ·cases e
theorem cW {a b:Expr} {pos:Pos} {Fa Fb:Rho->R D} (ha:EB C X a Fa) (hb:EB C X b Fb):ED C X (.BinOp a .Add b pos) (bin bH Fa Fb):=qr AL CW AT ha hb
theorem DX {a b:Expr} {pos:Pos} {Fa Fb:Rho->R D} (ha:EB C X a Fa) (hb:EB C X b Fb):ED C X (.BinOp a .Sub b pos) (bin (iI tz) Fa Fb):=qr Dj CQ AM ha hb
theorem j_ {a b:Expr} {pos:Pos} {Fa Fb:Rho->R D} (ha:EB C X a Fa) (hb:EB C X b Fb):ED C X (.BinOp a .Mult b pos) (bin (iI fE) Fa Fb):=qr Dm CT AO ha hb
theorem bW {a b:Expr} {pos:Pos} {Fa Fb:Rho->R D} (ha:EB C X a Fa) (hb:EB C X b Fb):ED C X (.BinOp a .Mod b pos) (bin (iI aV) Fa Fb):=qr Do CU AQ ha hb
theorem gj {a b:Expr} {pos:Pos} {Fa Fb:Rho->R D} (ha:EB C X a Fa) (hb:EB C X b Fb):ED C X (.BinOp a .FloorDiv b pos) (bin (iI eG) Fa Fb):=qr AV CV AS ha hb
theorem DY {a b:Expr} {pos:Pos} {Fa Fb:Rho->R D} (ha:EB C X a Fa) (hb:EB C X b Fb):ED C X (.BinOp a .Pow b pos) (bin (iI mN) Fa Fb):=qr Dk CS AN ha hb
theorem BS {a b:Expr} {pos:Pos} {Fa Fb:Rho->R D} (ha:EB C X a Fa) (hb:EB C X b Fb):TD C X (.Compare a [.Lt] [b] pos) (tst (bin (iI flt) Fa Fb)):=nC B1 EH Dg ha hb (nX _)
theorem nB {a b:Expr} {pos:Pos} {Fa Fb:Rho->R D} (ha:EB C X a Fa) (hb:EB C X b Fb):TD C X (.Compare a [.Gt] [b] pos) (tst (bin (iI fgt) Fa Fb)):=nC EO EJ Di ha hb (nX _)
theorem aw {a b:Expr} {pos:Pos} {Fa Fb:Rho->R D} (ha:EB C X a Fa) (hb:EB C X b Fb) (hs:nv b:=by exact fun _ _=>rfl):ED C X (.Subscript a b pos) (bin fix Fa Fb):=Fg DH EI Dh ha hb hs
def i_:D->R D
 | .int i=>.val (.int (-i))
 | _=>.bad
def una (f:D->R D) (a:Rho->R D):Rho->R D:=fun ρ=>(a ρ).bind f
theorem lO {a : Expr} {pos : Pos} {F : Rho -> R D} (h : EB C X a F) : ED C X (.UnaryOp .USub a pos) (una i_ F) :=
  aQ (EN Cw h) fun σ H Q yy0 => by
   obtain ⟨ρ, r0, q⟩ := yy0
   exact ⟨ρ, r0, a_ (P := fun z H => pV X (e9 C X ρ σ) z σ H Q) (fun _ h => h) (fun h => h) q fun x v H1 s1 h1 q1 => by
    cases x with
    | int i => exact ⟨i, h1.int, q1 _ H1 s1 (.int _)⟩
    | _ => exact q1.elim⟩
def jW:D->D
 | .non=>.bl true
 | _=>.bl false
def eB:D->D
 | .non=>.bl false
 | _=>.bl true
theorem Brw.isN {K:Frag} {M H:Hp} {v:V} {d:D} (h:Brw K C M H v d):jW d=.bl (decide (v=.non))/\eB d=.bl (!decide (v=.non)):=by
 cases h with
 | cl h=>cases h <;> simp [jW,eB]
 | own e h=>simp [jW,eB]
theorem xQ {a:Expr} {j pos pos'} {F:Rho->R D} (h:EB C X a F):TD C X (.Compare a [.Is] [.Constant .none j pos'] pos) (tst (una (fun d=>.val (jW d)) F)) :=
 iG (yg (Dd h)) fun σ H Q zz0=>by
  obtain ⟨ρ,r0,q⟩:=zz0
  refine ⟨ρ,r0,?_⟩
  cases e:F ρ with
  | val d =>
   intro v H1 s1 h1
   refine ⟨_,rfl,?_⟩
   have z:tst (una (fun d=>.val (jW d)) F) ρ=.val (decide (v=.non)):=by
    unfold tst una
    rw [e]
    show asB (jW d)=_
    rw [(h1.isN).1];rfl
   rw [z] at q
   exact q H1 s1
  | exc c =>
   have z:tst (una (fun d=>.val (jW d)) F) ρ=.exc c:=by unfold tst una;rw [e];rfl
   rw [z] at q;exact q
  | bad =>
   have z:tst (una (fun d=>.val (jW d)) F) ρ=.bad:=by unfold tst una;rw [e];rfl
   rw [z] at q;exact q
theorem qE {a:Expr} {j pos pos'} {F:Rho->R D} (h:EB C X a F):TD C X (.Compare a [.IsNot] [.Constant .none j pos'] pos) (tst (una (fun d=>.val (eB d)) F)) :=
 iG (yg (AI h)) fun σ H Q zz1=>by
  obtain ⟨ρ,r0,q⟩:=zz1
  refine ⟨ρ,r0,?_⟩
  cases e:F ρ with
  | val d =>
   intro v H1 s1 h1
   refine ⟨_,rfl,?_⟩
   have z:tst (una (fun d=>.val (eB d)) F) ρ=.val (!decide (v=.non)):=by
    unfold tst una
    rw [e]
    show asB (eB d)=_
    rw [(h1.isN).2];rfl
   rw [z] at q
   exact q H1 s1
  | exc c =>
   have z:tst (una (fun d=>.val (eB d)) F) ρ=.exc c:=by unfold tst una;rw [e];rfl
   rw [z] at q;exact q
  | bad =>
   have z:tst (una (fun d=>.val (eB d)) F) ρ=.bad:=by unfold tst una;rw [e];rfl
   rw [z] at q;exact q
def chn (f g:Int->Int->Bool) (a b c:Rho->R D):Rho->R D:=fun ρ=>(a ρ).bind fun x=>(b ρ).bind fun y=>match x,y with
 | .int i,.int j=>if f i j=true then (c ρ).bind fun z=>match z with
   | .int k=>.val (.bl (g j k))
   | _=>.bad
  else .val (.bl false)
 | _,_=>.bad
end
section
variable {C:Addr} {X:Cx} {ρ:RB} {σ:St} {H H':Hp}
theorem qa {f g:Int->Int->Bool} {Fa Fb Fc:Rho->R D} {σ:St} {H:Hp} {Q:VK} (h:teC C X (chn f g Fa Fb Fc) σ H Q) :
  uu (rI0 fun i j=>.bl (f i j)) (rI0 fun i j=>.bl (g i j)) (teB C X Fa) (teB C X Fb) (teB C X Fc) σ H Q:=by
 obtain ⟨ρ,⟨H0,r0⟩,q⟩:=h
 refine ⟨ρ,⟨H0,r0⟩,a_ (P:=fun z H=>pV X (e9 C X ρ σ) z σ H Q) (fun _ h=>h) (fun h=>h) q fun x v H1 s1 h1 q1=>?_⟩
 refine ⟨ρ,⟨H0,r0.mono s1⟩,a_ (P:=fun z H=>pV X (e9 C X ρ σ) z σ H Q) (fun _ h=>h) (fun h=>h) (q1.mono s1) fun y w H2 s2 h2 q2=>?_⟩
 cases x with
 | int i =>
  cases y with
  | int j =>
   refine ⟨i,j,h1.int,h2.int,f i j,rfl,?_⟩
   cases e:f i j with
   | false =>
    simp only [e,Bool.false_eq_true,if_false] at q2 ⊢
    exact q2 _ H2 s2 (.bl false)
   | true =>
    simp only [e,if_true] at q2 ⊢
    refine ⟨ρ,⟨H0,(r0.mono s1).mono s2⟩,a_ (P:=fun z H=>pV X (e9 C X ρ σ) z σ H Q) (fun _ h=>h) (fun h=>h) (q2.mono s2) fun z w' H3 s3 h3 q3=>?_⟩
    cases z with
    | int k=>exact ⟨j,k,h2.int,h3.int,q3 _ H3 s3 (.bl _)⟩
    | _=>exact q3.elim
  | _=>exact q2.elim
 | _=>exact q2.elim
theorem zD {a b c:Expr} {op op':CmpOp} {pos:Pos} {f g:Int->Int->Bool} {Fa Fb Fc:Rho->R D} (ho:OpR X (compareOp op) (rI0 fun i j=>.bl (f i j))) (ho':OpR X (compareOp op') (rI0 fun i j=>.bl (g i j)))
  (ha:EB C X a Fa) (hb:EB C X b Fb) (hc:EB C X c Fc) (hm:lastMarks [op,op'] [b,c]=false:=by with_unfolding_all rfl):ED C X (.Compare a [op,op'] [b,c] pos) (chn f g Fa Fb Fc) :=
 aQ (yw ho ho' ha hb hc hm) fun σ H Q q=>qa q
theorem sy {a b c:Expr} {op op':CmpOp} {pos:Pos} {f g:Int->Int->Bool} {Fa Fb Fc:Rho->R D} (ho:OpR X (compareOp op) (rI0 fun i j=>.bl (f i j))) (ho':OpR X (compareOp op') (rI0 fun i j=>.bl (g i j)))
  (ha:EB C X a Fa) (hb:EB C X b Fb) (hc:EB C X c Fc) (hm:lastMarks [op,op'] [b,c]=false:=by with_unfolding_all rfl):TD C X (.Compare a [op,op'] [b,c] pos) (tst (chn f g Fa Fb Fc)) :=
 iG (yh ho ho' ha hb hc hm) fun σ H Q q=>by
  obtain ⟨ρ,r0,q⟩:=q
  refine qa ⟨ρ,r0,?_⟩
  exact a_ (P:=fun z H=>pB X z σ H Q) (fun _ h=>h) (fun h=>h) q fun x v H1 s1 h1 q1=>by
   cases x with
   | bl b=>exact ⟨b,Has.bl' h1,q1 H1 s1⟩
   | _=>exact q1.elim
def dH (f:Nat):D->R D
 | .ob e r t=>match f with
  | 0=>.val e
  | 1=>.val r
  | _=>.val t
 | _=>.bad
theorem dW {e : Expr} {f : Str} {k : Nat} {pos : Pos} {F : Rho -> R D} (h : EB C X e F) (c : Cls X.K C) (n : NoAttr X.K C f) (hb : attributeBase e f X.env (eval e X.env) = eval e X.env)
    (hk : ∀ ve vr vt, (E9 ve vr vt).lookup f = some (match k with | 0 => ve | 1 => vr | _ => vt)) : ED C X (.Attribute e f pos) (una (dH k) F) :=
  aQ (Db h hb) fun σ H Q yy0 => by
   obtain ⟨ρ, r0, q⟩ := yy0
   exact ⟨ρ, r0, a_ (P := fun z H => pV X (e9 C X ρ σ) z σ H Q) (fun _ h => h) (fun h => h) q fun x v H1 s1 h1 q1 => by
    cases x with
    | ob de dr dt =>
      cases h1 with
      | cl h1 =>
        cases h1 with
        | @ob a dx ve vr vt _ _ _ e1 g1 g2 g3 =>
          refine ⟨a, C, dx, _, _, rfl, msk_sub _ _ e1, c, n, hk ve vr vt, ?_⟩
          match k with
          | 0 => exact q1 _ H1 s1 g1
          | 1 => exact q1 _ H1 s1 g2
          | _ + 2 => exact q1 _ H1 s1 g3
    | _ => exact q1.elim⟩
def aA:D->R D
 | .lst xs=>.val (.int xs.length)
 | .tup xs=>.val (.int xs.length)
 | .scr ns=>.val (.int ns.length)
 | _=>.bad
theorem D0 {e : Expr} {p pos : Pos} {F : Rho -> R D} (h : EB C X e F) (hg : Gl X "len") (hm : X.mg "len" = none) (hst : starEach [e] X.env = (false, eval e X.env) :: starEach [] X.env := by rfl)
    (hs : ∀ t : TA, PA X [e] t -> PE X (.Call (.Name "len" p) [e] [] pos) (tCB (fun xs H Q => ∃ p ys, xs = [.ref p] /\ (SqL X.K H p ys \/ SqT X.K H p ys) /\ Q (.int ys.length) H) t) := by
      exact fun t ha => gw kW (by assumption) (by assumption) PySem.boot_len ha) : ED C X (.Call (.Name "len" p) [e] [] pos) (una aA F) :=
  aQ (hs _ (dk h eX hst)) fun σ H Q yy1 => by
   obtain ⟨ρ, r0, q⟩ := yy1
   exact ⟨ρ, r0, a_ (P := fun z H => pV X (e9 C X ρ σ) z σ H Q) (fun _ h => h) (fun h => h) q fun x v H1 s1 h1 q1 => by
    cases x with
    | lst xs =>
      obtain ⟨a, vs, rfl, e1, h2⟩ := h1.lst msk_sub
      exact ⟨a, vs, rfl, .inl (SqL.of e1), q1 _ H1 s1 (by rw [h2.len]; exact .int _)⟩
    | tup xs =>
      obtain ⟨a, vs, rfl, e1, h2⟩ := h1.tup msk_sub
      exact ⟨a, vs, rfl, .inr (SqT.of e1), q1 _ H1 s1 (by rw [h2.len]; exact .int _)⟩
    | scr ns =>
      obtain ⟨a, rfl, e1⟩ := h1.scr msk_sub
      exact ⟨a, _, rfl, .inl e1, q1 _ H1 s1 (by rw [List.length_map]; exact .int _)⟩
    | _ => exact q1.elim⟩
def Bk:List D->R D
 | [.int i,.int j]=>.val (.int (if j > i then j else i))
 | _=>.bad
def tX (F:Rho->R (List D)):Rho->R D:=fun ρ=>(F ρ).bind Bk
theorem zz {a b : Expr} {p pos : Pos} {F : Rho -> R (List D)} (hc : X.calm = true) (h : AD C X [a, b] F) (hg : Gl X "max") (hm : X.mg "max" = none)
    (hs : ∀ t : TA, PA X [a, b] t -> PE X (.Call (.Name "max" p) [a, b] [] pos) (tCB (fun xs H Q => ∃ i j, xs = [.int i, .int j] /\ Q (.int (if j > i then j else i)) H) t) := by
      exact fun t ha => gw (lT (by assumption)) (by assumption) (by assumption) PySem.boot_max ha) : ED C X (.Call (.Name "max" p) [a, b] [] pos) (tX F) :=
  aQ (hs _ h) fun σ H Q yy2 => by
   obtain ⟨ρ, r0, q⟩ := yy2
   exact ⟨ρ, r0, ff (P := fun z H => pV X (e9 C X ρ σ) z σ H Q) (fun _ h => h) (fun h => h) q fun xs vs H1 s1 h1 q1 => by
    unfold Bk at q1
    split at q1
    · rename_i i j
      cases h1 with
      | cons a1 b1 => cases b1 with
        | cons a2 b2 => cases b2; cases a1; cases a2; exact ⟨i, j, rfl, q1 _ H1 s1 (.int _)⟩
    · exact q1.elim⟩
def pF (Rl:Hp->List V->List D->Prop) (r:R (List D)) (σ:St) (H:Hp) (Q:VK):Prop:=match r with
 | .val xs=>∀ a vs H1,Same H H1->H1 a=none->Rl H1 vs xs->Q (.ref a) (upd H1 a (.lst vs))
 | .exc c=>XE X c σ H
 | .bad=>False
variable (C X) in
def teF (F:Rho->R (List D)):TE:=fun σ H Q=>∃ ρ:RB,(∃ H0,eD C X H0 ρ σ H)/\pF (X:=X) (jK C X ρ σ) (F ρ) σ H Q
variable (C X) in
def FD (e:Expr) (F:Rho->R (List D)):Prop:=PE X e (teF C X F)
def Dx (r:R (List D)):R D:=r.bind fun xs=>.val (.lst xs)
def eLs (F:Rho->R (List D)):Rho->R D:=fun ρ=>Dx (F ρ)
theorem cA {e : Expr} {F : Rho -> R (List D)} (h : FD C X e F) : ED C X e (eLs F) := aQ h fun σ H Q yy3 => by
 obtain ⟨ρ, ⟨H0, r0⟩, q⟩ := yy3
 exact ⟨ρ, ⟨H0, r0⟩, by
  unfold eLs at q
  cases e : F ρ with
  | val xs =>
    rw [e] at q
    exact fun a vs H1 s1 hn h1 => q _ _ (s1.trans (aX hn)) (.lst ((r0.mono s1).new hn) (h1.mono (bc (aX hn))))
  | exc c => rw [e] at q; exact q
  | bad => rw [e] at q; exact q⟩
def lim (r:R (List D)):R (List D):=r.bind fun xs=>if xs.length<=LIM then .val xs else .bad
def fU (F:Rho->R (List D)):Rho->R (List D):=fun ρ=>lim (F ρ)
theorem iP {es : List Expr} {pos : Pos} {F : Rho -> R (List D)} (h : AD C X es F) : FD C X (.List es pos) (fU F) :=
  aQ (q8 h) fun σ H Q yy4 => by
   obtain ⟨ρ, ⟨H0, r0⟩, q⟩ := yy4
   exact ⟨ρ, ⟨H0, r0⟩, ff (P := fun z H => pF (X := X) (jK C X ρ σ) z σ H Q) (fun _ h => h) (fun h => h) q fun xs vs H1 s1 h1 q1 => by
    split at q1
    · rename_i hl
      exact ⟨by rw [h1.len]; exact ow hl, fun p hp => q1 p vs H1 s1 hp h1⟩
    · exact q1.elim⟩
def itD:D->R (List D)
 | .lst xs=>.val xs
 | .tup xs=>.val xs
 | .scr ns=>.val (ns.map .int)
 | _=>.bad
def fIt (F:Rho->R D):Rho->R (List D):=fun ρ=>(F ρ).bind itD
theorem Bm {e : Expr} {p pos : Pos} {F : Rho -> R D} (h : EB C X e F) (hg : Gl X "list") (hm : X.mg "list" = none) (hst : starEach [e] X.env = (false, eval e X.env) :: starEach [] X.env := by rfl)
    (hs : ∀ t : TA, PA X [e] t -> PE X (.Call (.Name "list" p) [e] [] pos) (tCB (fun xs H Q => ∃ p ys, xs = [.ref p] /\ (SqL X.K H p ys \/ SqT X.K H p ys) /\ ∀ l, H l = none -> Q (.ref l) (upd H l (.lst ys))) t) := by
      exact fun t ha => dB kU (by assumption) (by assumption) PySem.boot_list ha) : FD C X (.Call (.Name "list" p) [e] [] pos) (fIt F) :=
  aQ (hs _ (dk h eX hst)) fun σ H Q yy5 => by
   obtain ⟨ρ, r0, q⟩ := yy5
   exact ⟨ρ, r0, a_ (P := fun z H => pF (X := X) (jK C X ρ σ) z σ H Q) (fun _ h => h) (fun h => h) q fun x v H1 s1 h1 q1 => by
    cases x with
    | lst xs =>
      obtain ⟨a, vs, rfl, e1, h2⟩ := h1.lst msk_sub
      exact ⟨a, vs, rfl, .inl (SqL.of e1), fun l hl => q1 l vs H1 s1 hl h2⟩
    | tup xs =>
      obtain ⟨a, vs, rfl, e1, h2⟩ := h1.tup msk_sub
      exact ⟨a, vs, rfl, .inr (SqT.of e1), fun l hl => q1 l vs H1 s1 hl h2⟩
    | scr ns =>
      obtain ⟨a, rfl, e1⟩ := h1.scr msk_sub
      exact ⟨a, _, rfl, .inl e1, fun l hl => q1 l _ H1 s1 hl (HasL.ints ns)⟩
    | _ => exact q1.elim⟩
def kM:D->R D
 | .lst xs=>.val (.tup xs)
 | .tup xs=>.val (.tup xs)
 | _=>.bad
theorem kR {e : Expr} {p pos : Pos} {F : Rho -> R D} (h : EB C X e F) (hg : Gl X "tuple") (hm : X.mg "tuple" = none) (hst : starEach [e] X.env = (false, eval e X.env) :: starEach [] X.env := by rfl)
    (hs : ∀ t : TA, PA X [e] t -> PE X (.Call (.Name "tuple" p) [e] [] pos) (tCB (fun xs H Q => ∃ p ys, xs = [.ref p] /\ ((SqL X.K H p ys /\ ∀ l, H l = none -> Q (.ref l) (upd H l (.tup ys))) \/ (SqT X.K H p ys /\ Q (.ref p) H))) t) := by
      exact fun t ha => dB eK (by assumption) (by assumption) PySem.boot_tuple ha) : ED C X (.Call (.Name "tuple" p) [e] [] pos) (una kM F) :=
  aQ (hs _ (dk h eX hst)) fun σ H Q yy6 => by
   obtain ⟨ρ, ⟨H0, r0⟩, q⟩ := yy6
   exact ⟨ρ, ⟨H0, r0⟩, a_ (P := fun z H => pV X (e9 C X ρ σ) z σ H Q) (fun _ h => h) (fun h => h) q fun x v H1 s1 h1 q1 => by
    cases x with
    | lst xs =>
      obtain ⟨a, vs, rfl, e1, h2⟩ := h1.lst msk_sub
      exact ⟨a, vs, rfl, .inl ⟨SqL.of e1, fun l hl => q1 _ _ (s1.trans (aX hl)) (.tup ((r0.mono s1).new hl) (h2.mono (bc (aX hl))))⟩⟩
    | tup xs =>
      cases h1 with
      | cl h1 =>
        cases h1 with
        | tup e1 h2 => exact ⟨_, _, rfl, .inr ⟨SqT.of (msk_sub _ _ e1), q1 _ H1 s1 (.tup e1 h2)⟩⟩
    | _ => exact q1.elim⟩
def sq (a b:Rho->R Out):Rho->R Out:=fun ρ=>(a ρ).bind fun o=>match o with
 | .nx ρ'=>b ρ'
 | o=>.val o
def nxt:Rho->R Out:=fun ρ=>.val (.nx ρ)
def asg (i:Nat) (e:Rho->R D):Rho->R Out:=fun ρ=>(e ρ).bind fun d=>.val (.nx (ρ.set i (some (.shr d))))
def own (i:Nat) (e:Rho->R (List D)):Rho->R Out:=fun ρ=>(e ρ).bind fun xs=>.val (.nx (ρ.set i (some (.own xs))))
def ret (e:Rho->R D):Rho->R Out:=fun ρ=>(e ρ).bind fun d=>.val (.rt d)
def drp (e:Rho->R D):Rho->R Out:=fun ρ=>(e ρ).bind fun _=>.val (.nx ρ)
def iff (t:Rho->R Bool) (a b:Rho->R Out):Rho->R Out:=fun ρ=>(t ρ).bind fun c=>if c=true then a ρ else b ρ
def bad:Rho->R Out:=fun _=>.bad
theorem aK : SDs C X [] nxt := jg Av fun D σ H yy7 => by
 obtain ⟨_, H0, ⟨ρ, rfl, r⟩, q⟩ := yy7
 exact q σ H r.e
theorem au {st:Stmt} {rest:List Stmt} {F G:Rho->R Out} (h1:SD C X st F) (h2:SDs C X rest G):SDs C X (st :: rest) (sq F G) :=
 jg (jh h1 h2) fun D σ H zz0=>by
  obtain ⟨_,H0,⟨ρ,rfl,r⟩,q⟩:=zz0
  refine ⟨ρ,H0,r.e,?_⟩
  unfold sq at q
  cases e:F ρ with
  | val o =>
   rw [e] at q
   cases o with
   | nx ρ'=>exact fun σ' H' r'=>⟨ρ',H0,r',q⟩
   | rt d=>exact q
   | bk ρ'=>exact q
   | ct ρ'=>exact q
  | exc c=>rw [e] at q;exact q
  | bad=>rw [e] at q;exact q
theorem ao {st:Stmt} {F:Rho->R Out} (h:SD C X st F):SDs C X [st] F:=m8 h
theorem d9 {H0:Hp} {Dn:ld} {c:Nat} {ρ:RB} {σ:St} {H:Hp} (r:eD C X H0 ρ σ H) (h:pS C X (.exc c) H0 Dn):XE X c σ H:=XS.xe (r.keep.trans msk_sub) h
theorem bp {i : Nat} {x : Str} {e : Expr} {pos pos' : Pos} {F : Rho -> R D} (hN : X.N.Nodup) (hi : X.N[i]? = some x) (hx : Loc X.env.scope x) (he : ED C X e F) (hs : swapsWith e (some (.Name x pos')) pos.line X.env = pure false := by rfl)
    (hf : X.fn x = true \/ X.env.scope.names.lookup x = some .local := by first | exact .inl rfl | exact .inr rfl | assumption) : SD C X (.Assign [.Name x pos'] e pos) (asg i F) :=
  bF (nS hN hi hx he hs hf) fun D σ H yy8 => by
   obtain ⟨_, H0, ⟨ρ, rfl, r⟩, q⟩ := yy8
   exact ⟨ρ, ⟨H0, r⟩, a_ (P := fun z _ => pS C X z H0 D) (fun c h => d9 r h) (fun h => h) q fun d v H1 s1 h1 q1 => q1 _ _ ⟨_, rfl, (r.mono s1).setShr h1⟩⟩
theorem jf {i : Nat} {x : Str} {e : Expr} {pos pos' : Pos} {F : Rho -> R (List D)} (hN : X.N.Nodup) (hi : X.N[i]? = some x) (hx : Loc X.env.scope x) (he : FD C X e F) (hs : swapsWith e (some (.Name x pos')) pos.line X.env = pure false := by rfl)
    (hf : X.fn x = true \/ X.env.scope.names.lookup x = some .local := by first | exact .inl rfl | exact .inr rfl | assumption) : SD C X (.Assign [.Name x pos'] e pos) (own i F) :=
  bF (nS hN hi hx he hs hf) fun D σ H yy9 => by
   obtain ⟨_, H0, ⟨ρ, rfl, r⟩, q⟩ := yy9
   exact ⟨ρ, ⟨H0, r⟩, by
    unfold own at q
    cases e : F ρ with
    | val xs =>
      rw [e] at q
      exact fun a vs H1 s1 hn h1 => q _ _ ⟨_, rfl, (r.mono s1).setOwn hn h1⟩
    | exc c => rw [e] at q; exact d9 r q
    | bad => rw [e] at q; exact q⟩
theorem aY {e : Expr} {pos : Pos} {F : Rho -> R D} (he : ED C X e F) : SD C X (.Return (some e) pos) (ret F) :=
  bF (yk he) fun D σ H yy10 => by
   obtain ⟨_, H0, ⟨ρ, rfl, r⟩, q⟩ := yy10
   exact ⟨ρ, ⟨H0, r⟩, a_ (P := fun z _ => pS C X z H0 D) (fun c h => d9 r h) (fun h => h) q fun d v H1 s1 h1 q1 => q1 v H1 ((r.mono s1).keep.trans msk_sub) (h1.mono msk_sub)⟩
theorem iz {e : Expr} {pos : Pos} {F : Rho -> R D} (he : EB C X e F) (hs : swapsWith e none pos.line X.env = pure false := by rfl) : SD C X (.Expr e pos) (drp F) :=
  bF (kB he hs) fun D σ H yy11 => by
   obtain ⟨_, H0, ⟨ρ, rfl, r⟩, q⟩ := yy11
   exact ⟨ρ, ⟨H0, r⟩, a_ (P := fun z _ => pS C X z H0 D) (fun c h => d9 r h) (fun h => h) q fun d v H1 s1 h1 q1 => q1 _ _ (r.mono s1).e⟩
theorem bh {c : Expr} {a b : List Stmt} {pos : Pos} {Ft : Rho -> R Bool} {Fa Fb : Rho -> R Out} (hc : TD C X c Ft) (ha : SDs C X a Fa) (hb : SDs C X b Fb) : SD C X (.If c a b pos) (iff Ft Fa Fb) :=
  bF (EL hc ha hb) fun D σ H yy12 => by
   obtain ⟨_, H0, ⟨ρ, rfl, r⟩, q⟩ := yy12
   exact ⟨ρ, ⟨H0, r⟩, kD (P := fun z _ => pS C X z H0 D) (fun c h => d9 r h) (fun h => h) q fun c H1 s1 q1 => by
    cases c with
    | true => exact DJ ⟨ρ, H0, (r.mono s1).e, q1⟩
    | false => exact DK ⟨ρ, H0, (r.mono s1).e, q1⟩⟩
theorem eO {st : Stmt} : SD C X st bad := bF yl fun D σ H yy13 => by
 obtain ⟨_, H0, ⟨ρ, rfl, r⟩, q⟩ := yy13
 exact q
def frz (i:Nat) (ρ:Rho):Rho:=match ρ[i]? with
 | some (some (.own xs))=>ρ.set i (some (.shr (.lst xs)))
 | some (some (.tre _ d))=>ρ.set i (some (.shr d))
 | _=>ρ
theorem Rel.frz {K:Frag} {H0:Hp} {ρ:Rho} (r:xB K C H0 ρ σ H) (i:Nat):xB K C H0 (DL.frz i ρ) σ H:=by
 obtain ⟨ρ,rfl,r⟩:=r
 unfold DL.frz
 split
 ·exact ⟨_,rfl,r.freeze ‹_›⟩
 ·exact ⟨_,rfl,r.thaw ‹_›⟩
 ·exact r.e
theorem Ah {sts : List Stmt} {F : Rho -> R Out} (i : Nat) (h : SDs C X sts F) : SDs C X sts (fun ρ => F (frz i ρ)) := jg h fun D σ H yy16 => by
 obtain ⟨ρ, H0, r, q⟩ := yy16
 exact ⟨frz i ρ, H0, Rel.frz r i, q⟩
def app (i:Nat) (e:Rho->R D):Rho->R Out:=fun ρ=>match ρ[i]? with
 | some (some (.own xs))=>(e ρ).bind fun d=>if xs.length < LIM then .val (.nx (ρ.set i (some (.own (xs ++ [d]))))) else .bad
 | _=>.bad
theorem iA {i:Nat} {x:Str} {e:Expr} {p ap cp pos:Pos} {F:Rho->R D} (hv:PE X (.Name x p) (fy i)) (he:ED C X e F)
  (hs:∀ {to:TE} {t:TA},PE X (.Name x p) to->PA X [e] t->PS X (.Expr (.Call (.Attribute (.Name x p) "append" ap) [e] [] cp) pos) (nF (tBM X.K "list" qS to t)):=by
   exact fun ho ha=>kB (sQ PySem.F.plainAttrs_list PySem.F.slot_list_append PySem.F.type_list_append lE ho ha))
  (hst:starEach [e] X.env=(false,eval e X.env) :: starEach [] X.env:=by rfl) :
  SD C X (.Expr (.Call (.Attribute (.Name x p) "append" ap) [e] [] cp) pos) (app i F) :=
 bF (hs hv (dk he eX hst)) fun D σ H zz1=>by
  obtain ⟨_,H0,⟨ρ,rfl,r⟩,q⟩:=zz1
  unfold app at q
  split at q
  ·rename_i xs e0
   obtain ⟨a,vs,e1,_,h1,h2⟩:=r.at_ i _ e0
   refine ⟨_,e1,.inl ⟨rfl,_,SqL.of h1⟩,ρ,⟨H0,r⟩,a_ (P:=fun z _=>pS C X z H0 D) (fun c h=>d9 r h) (fun h=>h) q fun d v H1 s1 h3 q1=>?_⟩
   split at q1
   ·rename_i hl
    have h2':=h2.mono (bc (ρ:=ρ) (σ:=σ) s1)
    refine ⟨a,vs,v,rfl,rfl,s1 _ _ h1,by rw [h2.len];exact Nat.lt_of_lt_of_le hl (by decide),?_⟩
    exact q1 _ _ ⟨_,rfl,(r.mono s1).write e0 e1 (h2'.app (.cons h3 .nil))⟩
   ·exact q1.elim
  ·exact q.elim
end
def DP:HO->Bool
 | .lst _=>true
 | .ins _ _ _=>true
 | .own _=>true
 | .ext _=>true
 | _=>false
structure Hid (H:Hp) (h:Heap) (zs:List Addr):Prop where
 kind:∀ z ∈ zs,∃ o,H z=some o/\DP o=true
 insd:∀ z ∈ zs,∀ c dx fs,H z=some (.ins c dx fs)->dx ∈ zs
 own:∀ z ∈ zs,∀ a,H z=some (.own a)->a ∈ zs
 obj:∀ z ∈ zs,∃ o,h.get? z=some o/\∀ v,o.data ≠ .cell v
def cut (zs:List Addr) (H:Hp):Hp:=fun b=>if b ∈ zs then none else H b
def jn (zs:List Addr) (H M:Hp):Hp:=fun b=>if b ∈ zs then H b else M b
theorem cut_some {zs:List Addr} {H:Hp} {b:Addr} {o:HO}:cut zs H b=some o ↔ b ∉ zs/\H b=some o:=by
 unfold cut
 by_cases h:b ∈ zs
 ·rw [if_pos h];exact ⟨fun e=>(by cases e),fun e=>absurd h e.1⟩
 ·rw [if_neg h];exact ⟨fun e=>⟨h,e⟩,fun e=>e.2⟩
theorem gJ {zs:List Addr} {H:Hp} {b:Addr} (h:b ∈ zs):cut zs H b=none:=by unfold cut;rw [if_pos h]
theorem jX {zs:List Addr} {H M:Hp} {b:Addr} (h:b ∈ zs):jn zs H M b=H b:=by unfold jn;rw [if_pos h]
theorem ci {zs:List Addr} {H M:Hp} {b:Addr} (h:b ∉ zs):jn zs H M b=M b:=by unfold jn;rw [if_neg h]
section
variable {X:Cx} {pins:List (Addr × Obj)} {σ:St} {H M:Hp} {s s':Shared} {zs:List Addr}
theorem _root_.L2.Inv.hide (I:Inv X pins σ H s) (Z:Hid H s.heap zs):Inv X (pins ++ d8 zs s.heap) σ (cut zs H) s:=by
 have nk:∀ b o,H b=some o->DP o=false->b ∉ zs:=fun b o e k hb=>by
  obtain ⟨o',e',k'⟩:=Z.kind b hb
  rw [e] at e';cases e';rw [k] at k';cases k'
 have nz:∀ b,H b=none->b ∉ zs:=fun b e hb=>by
  obtain ⟨o',e',k'⟩:=Z.kind b hb
  rw [e] at e';cases e'
 have none':∀ b,H b=none->cut zs H b=none:=fun b e=>by unfold cut;split <;> first | rfl | exact e
 have I1:Inv X pins σ (cut zs H) s:=by
  refine ⟨I.ok,I.os,I.bare,⟨I.base.keep,I.base.slot,fun b o q n hx=>none' b (I.base.free b o q n hx),I.base.there,fun b xs e=>?_,fun b o u e=>?_,fun b ps e=>?_⟩,I.loc,I.cell,none' _ I.free,fun x c e=>none' _ (I.freeC x c e),fun p hp=>?_,fun a o e=>?_,I.len⟩
  ·have e1:=I.base.tups b xs e
   exact cut_some.mpr ⟨nk b _ e1 rfl,e1⟩
  ·have e1:=I.base.frzs b o u e
   exact cut_some.mpr ⟨nk b _ e1 rfl,e1⟩
  ·obtain ⟨more,e1⟩:=I.base.tbls b ps e
   exact ⟨more,cut_some.mpr ⟨nk b _ e1 rfl,e1⟩⟩
  ·obtain ⟨h1,h2,h3⟩:=I.pin p hp
   exact ⟨h1,none' _ h2,h3⟩
  ·obtain ⟨h1,h2⟩:=cut_some.mp e
   refine (I.hok a o h2).stay (fun b u _ q=>q) (fun b q=>cut_some.mpr ⟨fun hb=>h1 (Z.own b hb a q),q⟩) fun b xs q=>cut_some.mpr ⟨nk b _ q rfl,q⟩
 refine I1.pins_of fun p hp=>?_
 rcases List.mem_append.mp hp with hp | hp
 ·exact I1.pin p (List.mem_append_right _ hp)
 ·obtain ⟨h1,h2⟩:=jP hp
  obtain ⟨o',e',k'⟩:=Z.kind p.1 h1
  obtain ⟨o,e,d⟩:=Z.obj p.1 h1
  rw [h2] at e;cases e
  refine ⟨h2,gJ h1,fun z=>?_,fun z=>?_,d⟩
  ·rw [z,I.free] at e';cases e'
  ·rw [I.frn _ z] at e';cases e'
theorem _root_.L2.Inv.showG {σ':St} {pins' pins'':List (Addr × Obj)} (I:Inv X pins σ H s) (Z:Hid H s.heap zs) (J:Inv X pins' σ' M s') (h1:∀ p ∈ d8 zs s.heap,p ∈ pins') (h2:∀ p ∈ pins'',p ∈ pins'/\H p.1=none):Inv X pins'' σ' (jn zs H M) s'/\∀ z ∈ zs,M z=none:=by
 have nk:∀ b o,H b=some o->DP o=false->b ∉ zs:=fun b o e k hb=>by
  obtain ⟨o',e',k'⟩:=Z.kind b hb
  rw [e] at e';cases e';rw [k] at k';cases k'
 have nz:∀ b,H b=none->b ∉ zs:=fun b e hb=>by
  obtain ⟨o',e',k'⟩:=Z.kind b hb
  rw [e] at e';cases e'
 have pin:∀ z ∈ zs,∀ o,s.heap.get? z=some o->s'.heap.get? z=some o/\M z=none:=fun z hz o e=>by
  have q:=J.pin (z,o) (List.mem_append_right _ (h1 _ (gz hz e)))
  exact ⟨q.1,q.2.1⟩
 have mz:∀ z ∈ zs,M z=none:=fun z hz=>by
  obtain ⟨o,e,_⟩:=Z.obj z hz
  exact (pin z hz o e).2
 have none':∀ b,H b=none->M b=none->jn zs H M b=none:=fun b e e'=>by rw [ci (nz b e)];exact e'
 refine ⟨⟨J.ok,J.os,J.bare,⟨J.base.keep,J.base.slot,fun b o q n hx=>none' b (I.base.free b o q n hx) (J.base.free b o q n hx),J.base.there,fun b xs e=>?_,fun b o u e=>?_,fun b ps e=>?_⟩,J.loc,J.cell,none' _ I.free J.free,fun x c e=>none' _ (I.freeC x c e) (J.freeC x c e),fun p hp=>?_,fun a o e=>?_,J.len⟩,mz⟩
 ·rw [ci (nk b _ (I.base.tups b xs e) rfl)];exact J.base.tups b xs e
 ·rw [ci (nk b _ (I.base.frzs b o u e) rfl)];exact J.base.frzs b o u e
 ·obtain ⟨more,e1⟩:=I.base.tbls b ps e
  rw [ci (nk b _ e1 rfl)];exact J.base.tbls b ps e
 ·rcases List.mem_append.mp hp with hp | hp
  ·obtain ⟨q1,q2,q3⟩:=J.pin p (List.mem_append_left _ hp)
   exact ⟨q1,none' _ (I.pin p (List.mem_append_left _ hp)).2.1 q2,q3⟩
  ·obtain ⟨q1,q2,q3⟩:=J.pin p (List.mem_append_right _ (h2 p hp).1)
   exact ⟨q1,none' _ (h2 p hp).2 q2,q3⟩
 ·by_cases ha:a ∈ zs
  ·rw [jX ha] at e
   obtain ⟨o',e',k'⟩:=Z.kind a ha
   rw [e] at e';cases e'
   have ok:=I.hok a o e
   have same:∀ u,s.heap.get? a=some u->s'.heap.get? a=some u:=fun u q=>(pin a ha u q).1
   cases o with
   | lst xs=>obtain ⟨z,its,n,r,e1⟩:=ok;exact ⟨z,its,n,r,same _ e1⟩
   | own y=>obtain ⟨u,e1⟩:=ok;exact ⟨u,same _ e1⟩
   | ext φ=>obtain ⟨p,⟨u,e1⟩,st⟩:=ok;exact ⟨st _ _ p fun o q=>same o q,⟨u,same _ e1⟩,st⟩
   | ins c dx fs =>
    obtain ⟨d,z,ne,e1,mA,⟨od,es,ep,e2,rest⟩,r⟩:=ok
    have hd:dx ∈ zs:=Z.insd a ha c dx fs e
    exact ⟨by rw [jX hd];exact d,z,ne,same _ e1,mA,⟨od,es,ep,(pin dx hd _ e2).1,rest⟩,r⟩
   | _=>cases k'
  ·rw [ci ha] at e
   refine (J.hok a o e).stay (fun b u _ q=>q) (fun b q=>?_) fun b xs q=>?_
   ·rw [ci fun hb=>by rw [mz b hb] at q;cases q];exact q
   ·rw [ci fun hb=>by rw [mz b hb] at q;cases q];exact q
theorem _root_.L2.Inv.show' (I:Inv X pins σ H s) (Z:Hid H s.heap zs) (J:Inv X (pins ++ d8 zs s.heap) σ M s'):Inv X pins σ (jn zs H M) s'/\∀ z ∈ zs,M z=none :=
 I.showG Z J (fun p hp=>List.mem_append_right _ hp) fun p hp=>⟨List.mem_append_left _ hp,(I.pin p (List.mem_append_right _ hp)).2.1⟩
end
def d_ (ρ:RB) (σ:St):List Addr:=(List.range ρ.rho.length).flatMap ρ.ad
theorem gA {ρ:RB} {σ:St} {b:Addr} (hb:∀ (i:Nat) a,a ∈ ρ.ad i->i < ρ.rho.length):b ∈ d_ ρ σ ↔ Own ρ σ b:=by
 unfold d_
 rw [List.mem_flatMap]
 exact ⟨fun ⟨i,_,h⟩=>⟨i,h⟩,fun ⟨i,h⟩=>⟨i,List.mem_range.mpr (hb i b h),h⟩⟩
theorem iJ {ρ:RB} {σ:St} {H:Hp} (hb:∀ (i:Nat) a,a ∈ ρ.ad i->i < ρ.rho.length):msk ρ σ H=cut (d_ ρ σ) H:=by
 funext b
 unfold msk cut
 by_cases h:Own ρ σ b
 ·rw [if_pos h,if_pos ((gA hb).mpr h)]
 ·rw [if_neg h,if_neg fun z=>h ((gA hb).mp z)]
theorem Rel.hid {X:Cx} {C:Addr} {pins:List (Addr × Obj)} {σ:St} {H H0:Hp} {s:Shared} {ρ:RB} (r:eD C X H0 ρ σ H) (I:Inv X pins σ H s):Hid H s.heap (d_ ρ σ):=by
 have key:∀ z ∈ d_ ρ σ,(∃ vs,H z=some (.lst vs))\/∃ xs,H z=some (kT z xs):=fun z hz=>by
  obtain ⟨i,h⟩:=(gA r.bnd).mp hz
  exact r.kin i z h
 refine ⟨fun z hz=>?_,fun z hz c dx fs e=>?_,fun z hz a e=>?_,fun z hz=>?_⟩
 ·rcases key z hz with ⟨vs,e⟩ | ⟨vs,e⟩ <;> exact ⟨_,e,rfl⟩
 ·rcases key z hz with ⟨vs,e'⟩ | ⟨vs,e'⟩ <;> (rw [e] at e';cases e')
 ·rcases key z hz with ⟨vs,e'⟩ | ⟨vs,e'⟩ <;> (rw [e] at e';cases e')
 ·rcases key z hz with ⟨vs,e'⟩ | ⟨vs,e'⟩
  ·obtain ⟨_,its,n,_,e1⟩:=I.hok z _ e'
   exact ⟨_,e1,fun v q=>by cases q⟩
  ·obtain ⟨⟨_,_,o,es,ep,e1,_,e2,_⟩,_⟩:=I.hok z _ e'
   exact ⟨o,e1,fun v q=>by rw [e2] at q;cases q⟩
def spD (K:Frag) (C:Addr) (n:Nat) (den:List D->R D):Sp:=fun vs H Q _=>vs.length=n/\∃ ds,HasL K C H vs ds/\match den ds with
 | .val d=>∀ v H',Same H H'->Has K C H' v d->Q v H'
 | _=>False
section
variable {C:Addr} {X:Cx}
def noex:R D->R D
 | .val d=>.val d
 | _=>.bad
def cal (n:Nat) (den:List D->R D) (a:Rho->R (List D)):Rho->R D:=fun ρ=>(a ρ).bind fun ds=>if ds.length=n then noex (den ds) else .bad
theorem BC {CX:CXT} {k n:Nat} {f:Addr} {fd:FuncData} {ps:List Str} {den:List D->R D} {x:Str} {p pos:Pos} {e:Expr} {es:List Expr} {Fa:Rho->R (List D)}
  (F:FnOk X.prog X.w X.K X.mg X.base CX k f fd ps (spD X.K C n den)) (hr:Room k X.A) (hg:Gl X x) (hm:X.mg x=some (.ref f)) (hk:keepIn X.K (.ref f)=true) (hb:Binds X.K fd ps []) (hx:sv CX X E0)
  (ha:AD C X (e :: es) Fa) (hdb:(x == ("__debug__":Str))=false:=by decide) (he:starEach (e :: es) X.env=(false,eval e X.env) :: starEach es X.env:=by rfl) (hpl:(backTo pos (starEach es X.env)).any (·.1)=false:=by rfl) :
  ED C X (.Call (.Name x p) (e :: es) [] pos) (cal n den Fa):=by
 rintro pins s σ H Q I ⟨ρ,⟨H0,r0⟩,q⟩
 refine wpAny_Call_Name_kw (iL I hg hm ?_ hdb)
 refine callWith_K (h₀:=X.base) I.ok.mod.kin hk (thn (ha pos pins s σ H (fun vs H1=>∃ ds d,ds.length=n/\Same H H1/\jK C X ρ σ H1 vs ds/\den ds=.val d/\∀ v H',Same H H'->e9 C X ρ σ H' v d->Q v H') I
  ⟨ρ,⟨H0,r0⟩,ff (P:=fun z H=>pV X (e9 C X ρ σ) z σ H Q) (fun _ h=>h) (fun h=>h) q fun ds vs H1 s1 h1 q1=>?_⟩) fun us s1 ⟨vs,H1,I1,rv,ds,d,hl,s1',h1,e1,q1⟩=>⟨I1.kIn,?_⟩) he hpl
 ·split at q1
  ·rename_i hl
   cases e1:den ds with
   | val d=>rw [e1] at q1;exact ⟨ds,d,hl,s1,h1,e1,q1⟩
   | exc c=>rw [e1] at q1;exact q1.elim
   | bad=>rw [e1] at q1;exact q1.elim
  ·exact q1.elim
 ·have r1:=r0.mono s1'
  have Z:=Rel.hid r1 I1
  have J:=I1.hide Z
  refine thn (nO (E:=E0) (Q:=fun v M'=>Same (cut (d_ ρ σ) H1) M'/\Has X.K C M' v d) F hr hb .nil hx J rv ?_) fun u s2 ⟨v,M',J2,ru,sm,hv⟩=>?_
  ·rw [List.append_nil]
   refine ⟨h1.len.trans hl,ds,by rw [<- iJ r0.bnd];exact h1,?_⟩
   rw [e1]
   exact fun v H' s2 h2=>⟨s2,h2⟩
  ·obtain ⟨I2,mz⟩:=I1.show' Z J2
   have sj:Same H1 (jn (d_ ρ σ) H1 M'):=fun b o eb=>by
    by_cases hb:b ∈ d_ ρ σ
    ·rw [jX hb];exact eb
    ·rw [ci hb];exact sm b o (cut_some.mpr ⟨hb,eb⟩)
   have em:msk ρ σ (jn (d_ ρ σ) H1 M')=M':=by
    rw [iJ r0.bnd]
    funext b
    by_cases hb:b ∈ d_ ρ σ
    ·rw [gJ hb,mz b hb]
    ·unfold cut;rw [if_neg hb,ci hb]
   exact ⟨v,_,I2,ru,q1 v _ (s1'.trans sj) (by show Has _ _ (msk ρ σ _) v d;rw [em];exact hv)⟩
end
def tgN (i:Nat):D->Rho->Option Rho:=fun x ρ=>some (ρ.set i (some (.shr x)))
def tg2 (i j:Nat):D->Rho->Option Rho:=fun x ρ=>match x with
 | .tup [a,b]=>some ((ρ.set i (some (.shr a))).set j (some (.shr b)))
 | _=>none
section
variable {C:Addr} {X:Cx}
variable (C X) in
def gtD (ix:List Nat) (T:D->Rho->Option Rho):TG:=fun v σ H Q=>∃ (ρ:RB) (H0:Hp) (x:D) (ρ':Rho),eD C X H0 ρ σ H/\e9 C X ρ σ H v x/\T x ρ=some ρ'/\∀ (σ':St) (β:RB),β.rho=ρ'->(∀ j:Nat,β.ad j=if j ∈ ix then [] else ρ.ad j)->eD C X H0 β σ' H->(∀ j:Nat,j ∉ ix->σ'[j]?=σ[j]?)->Q σ' H
variable (C X) in
def GD (tg:Expr) (ix:List Nat) (T:D->Rho->Option Rho):Prop:=PG X tg (gtD C X ix T)
theorem vH {tg:Expr} {t t':TG} (h:PG X tg t) (hw:∀ v σ H Q,t' v σ H Q->t v σ H Q):PG X tg t':=fun pins s σ H v u Q I r q=>h pins s σ H v u Q I r (hw v σ H Q q)
theorem qW {ρ:RB} {i:Nat} {d:D} (j:Nat):(ρ.put i (.shr d) []).ad j=if j=i then [] else ρ.ad j:=by
 unfold RB.put
 dsimp only
 split
 ·split <;> rfl
 ·rfl
theorem vO {ρ:RB} {σ σ':St} {H:Hp} {i:Nat} {d:D}:Same (msk ρ σ H) (msk (ρ.put i (.shr d) []) σ' H):=fun b o eb=>by
 obtain ⟨h1,h2⟩:=msk_some.mp eb
 refine msk_some.mpr ⟨fun ⟨j,z⟩=>?_,h2⟩
 rcases fS z with ⟨_,_,z⟩ | ⟨_,z⟩
 ·cases z
 ·exact h1 ⟨j,z⟩
theorem aM {i:Nat} {x:Str} {pos:Pos} (hN:X.N.Nodup) (hi:X.N[i]?=some x) (hx:Loc X.env.scope x) (hf:X.fn x=true\/X.env.scope.names.lookup x=some .local:=by first | exact .inl rfl | exact .inr rfl | assumption) :
  GD C X (.Name x pos) [i] (tgN i):=vH (aL hN hi hx hf) fun v σ H Q zz0=>by
 obtain ⟨ρ,H0,x,ρ',r,h,e,k⟩:=zz0
 cases e
 exact k _ _ rfl (fun j=>by rw [qW];by_cases e1:j=i <;> simp [e1]) (r.setShr h) fun j hj=>List.getElem?_set_ne fun z=>hj (by simp [z])
theorem dG {i j:Nat} {x y:Str} {px py pos:Pos} {n:Nat} (hc:X.calm=true) (h1:PG X (.Name x px) (i6 i)) (h2:PG X (.Name y py) (i6 j))
  (hs1:(assignEach [.Name x px,.Name y py] X.env).map (·.2)=assign (.Name x px) X.env :: (assignEach [.Name y py] X.env).map (·.2):=by rfl)
  (hs2:(assignEach [.Name y py] X.env).map (·.2)=assign (.Name y py) X.env :: (assignEach [] X.env).map (·.2):=by rfl)
  (hn:(assignEach [.Name x px,.Name y py] X.env).length=2:=by rfl) (hst:(assignEach [.Name x px,.Name y py] X.env).findIdx? (·.1)=none:=by rfl) :
  GD C X (.Tuple [.Name x px,.Name y py] n pos) [i,j] (tg2 i j):=vH (C3 hc (sP h1 (sP h2 AE hs2) hs1) hn hst) fun v σ H Q zz1=>by
 obtain ⟨ρ,H0,d,ρ',r,h,e,k⟩:=zz1
 unfold tg2 at e
 split at e
 ·rename_i a b
  cases e
  cases h with
  | tup q hl =>
   cases hl with
   | @cons va _ _ _ ha hl =>
    cases hl with
    | @cons vb _ _ _ hb hl =>
     cases hl
     refine ⟨_,_,rfl,SqT.of (msk_sub _ _ q),rfl,va,_,rfl,vb,_,rfl,rfl,?_⟩
     have r1:=r.setShr (i:=i) ha
     refine k _ _ rfl (fun m=>?_) (r1.setShr (i:=j) (hb.mono vO)) fun m hm=>?_
     ·rw [qW,qW]
      by_cases e1:m=i <;> by_cases e2:m=j <;> simp [e1,e2]
     ·rw [List.getElem?_set_ne fun z=>hm (by simp [z]),List.getElem?_set_ne fun z=>hm (by simp [z])]
 ·cases e
def asT (T:D->Rho->Option Rho) (e:Rho->R D):Rho->R Out:=fun ρ=>(e ρ).bind fun d=>match T d ρ with
 | some ρ'=>.val (.nx ρ')
 | none=>.bad
theorem CG {tg e : Expr} {pos : Pos} {ix : List Nat} {T : D -> Rho -> Option Rho} {F : Rho -> R D} (he : ED C X e F) (hg : GD C X tg ix T) (hs : swapsWithSole [tg] e pos.line X.env = pure false := by rfl) (hw : swappedStores [tg] e X.env = pure none := by rfl)
    (h1 : (assignEach [tg] X.env).map (·.2) = [assign tg X.env] := by rfl) : SD C X (.Assign [tg] e pos) (asT T F) :=
  bF (qX he hg hs hw h1) fun D σ H yy0 => by
   obtain ⟨_, H0, ⟨ρ, rfl, r⟩, q⟩ := yy0
   exact ⟨ρ, ⟨H0, r⟩, a_ (P := fun z _ => pS C X z H0 D) (fun c h => d9 r h) (fun h => h) q fun d v H1 s1 h1 q1 => by
    split at q1
    · rename_i ρ' e1
      exact ⟨ρ, H0, d, ρ', r.mono s1, h1, e1, fun σ' β eb _ r' _ => q1 σ' H1 ⟨β, eb, r'⟩⟩
    · exact q1.elim⟩
structure ue (K:Frag) (C:Addr) (J:It) (xs:List D) (M:Hp):Prop where
 go:∀ (i:Nat) x H2,Same M H2->xs[i]?=some x->J.go i H2/\∀ v H3,J.yld i H2 v H3->Same H2 H3/\∀ ρ σ,(∀ b,Own ρ σ b->H2 b ≠ none)->Same M (msk ρ σ H2)->Has K C (msk ρ σ H3) v x
 stop:∀ H2,Same M H2->J.stop xs.length H2
variable (C X) in
def itI (F:Rho->R (List D)):TI:=fun σ H Rk=>∃ ρ:RB,(∃ H0,eD C X H0 ρ σ H)/\match F ρ with
 | .val xs=>∀ J H',Same H H'->ue X.K C J xs (msk ρ σ H')->Rk J H'
 | .exc c=>XE X c σ H
 | .bad=>False
variable (C X) in
def ID (tg iter:Expr) (F:Rho->R (List D)):Prop:=PI X tg iter (itI C X F)
theorem qZ {tg e:Expr} {t t':TI} (h:PI X tg e t) (hw:∀ σ H Q,t' σ H Q->t σ H Q):PI X tg e t':=fun pins s σ H R I q=>h pins s σ H R I (hw σ H R q)
theorem wB {K:Frag} {a:Addr} {vs:List V} {xs:List D} {M:Hp} (e:M a=some (.lst vs)) (h:HasL K C M vs xs):ue K C (Itl K a) xs M where
 go:=fun i x H2 s hx=>by
  obtain ⟨v,e1,h1⟩:=h.get hx
  refine ⟨⟨vs,v,SqL.of (s _ _ e),e1⟩,fun v' H3 y=>?_⟩
  obtain ⟨rfl,y⟩:=y
  have e2:=y vs (SqL.of (s _ _ e))
  rw [e1] at e2;cases e2
  exact ⟨Same.refl _,fun ρ σ _ m=>h1.mono m⟩
 stop:=fun H2 s=>⟨vs,SqL.of (s _ _ e),by rw [h.len];exact Nat.le_refl _⟩
theorem xH {K:Frag} {a:Addr} {vs:List V} {xs:List D} {M:Hp} (e:M a=some (.tup vs)) (h:HasL K C M vs xs):ue K C (Itt K a) xs M where
 go:=fun i x H2 s hx=>by
  obtain ⟨v,e1,h1⟩:=h.get hx
  refine ⟨⟨vs,v,SqT.of (s _ _ e),e1⟩,fun v' H3 y=>?_⟩
  obtain ⟨rfl,y⟩:=y
  have e2:=y vs (SqT.of (s _ _ e))
  rw [e1] at e2;cases e2
  exact ⟨Same.refl _,fun ρ σ _ m=>h1.mono m⟩
 stop:=fun H2 s=>⟨vs,SqT.of (s _ _ e),by rw [h.len];exact Nat.le_refl _⟩
theorem xI {K:Frag} {a:Addr} {ns:List Int} {M:Hp} (e:SqL K M a (ns.map V.int)):ue K C (Itl K a) (ns.map D.int) M where
 go:=fun i x H2 s hx=>by
  obtain ⟨v,e1,h1⟩:=(HasL.ints (K:=K) (C:=C) (H:=M) ns).get hx
  refine ⟨⟨_,v,s.seq e,e1⟩,fun v' H3 y=>?_⟩
  obtain ⟨rfl,y⟩:=y
  have e2:=y _ (s.seq e)
  rw [e1] at e2;cases e2
  exact ⟨Same.refl _,fun ρ σ _ m=>h1.mono m⟩
 stop:=fun H2 s=>⟨_,s.seq e,by simp⟩
def rng (lo:Int) (n:Nat):List D:=(List.range n).map fun (k:Nat)=>D.int (lo + (k:Int))
theorem xJ {K:Frag} {lo:Int} {n:Nat} {M:Hp}:ue K C (Itr lo n) (rng lo n) M where
 go:=fun i x H2 s hx=>by
  have hi:i < n:=by have:=(List.getElem?_eq_some_iff.mp hx).1;simpa [rng] using this
  refine ⟨hi,fun v H3 y=>?_⟩
  obtain ⟨rfl,rfl⟩:=y
  refine ⟨Same.refl _,fun ρ σ _ m=>?_⟩
  have:x=.int (lo + (i:Int)):=by
   unfold rng at hx
   rw [List.getElem?_map,List.getElem?_range hi] at hx
   exact (Option.some.inj hx).symm
  rw [this];exact .int _
 stop:=fun H2 s=>by simp [rng,Itr]
theorem C2 {tg l:Expr} {tl:TE} (hl:PE X l tl):PI X tg l (fun σ H R=>tl σ H fun x H1=>∃ a,x=.ref a/\(((∃ xs,SqL X.K H1 a xs)/\R (Itl X.K a) H1)\/((∃ xs,SqT X.K H1 a xs)/\R (Itt X.K a) H1))):=by
 intro pins s σ H R I h
 refine thn (hl pins s σ H _ I h) fun v s1 zz3=>?_
 obtain ⟨x,H1,I1,r1,q1⟩:=zz3
 obtain ⟨a,e,q1⟩:=q1
 subst e
 cases r1
 rcases q1 with ⟨⟨xs,hq⟩,q⟩ | ⟨⟨xs,hq⟩,q⟩
 ·obtain ⟨its,rv,p,hz⟩:=I1.list hq
  refine wpAny_pyIter_list p.isList ?_
  refine ⟨s1.heap.objs.size,[s1.heap.objs.size],_,_,H1,rfl,I1.kept (t':=s1.toks) fun b o e=>Heap.get?_push_of_some _ e,p_ a _,⟨_,Heap.get?_push_size _ rfl,rfl,rfl⟩,fun b hb=>?_,q⟩
  have e:b=s1.heap.objs.size:=by simpa using hb
  subst e
  exact I1.fpOk (Nat.le_refl _) (I1.hok.fresh (Nat.le_refl _))
 ·obtain ⟨its,rv,p,hz⟩:=I1.tuple hq
  refine wpAny_pyIter_tuple (show s1.heap.IsTuple a its.toArray from p) ?_
  refine ⟨s1.heap.objs.size,[s1.heap.objs.size],_,_,H1,rfl,I1.kept (t':=s1.toks) fun b o e=>Heap.get?_push_of_some _ e,uk a _,⟨_,Heap.get?_push_size _ rfl,rfl,rfl⟩,fun b hb=>?_,q⟩
  have e:b=s1.heap.objs.size:=by simpa using hb
  subst e
  exact I1.fpOk (Nat.le_refl _) (I1.hok.fresh (Nat.le_refl _))
theorem bz {tg e : Expr} {F : Rho -> R D} (h : ED C X e F) : ID C X tg e (fIt F) := qZ (C2 h) fun σ H R yy2 => by
 obtain ⟨ρ, ⟨H0, r⟩, q⟩ := yy2
 exact ⟨ρ, ⟨H0, r⟩, by
  unfold fIt at q
  cases e : F ρ with
  | val d =>
    rw [e] at q
    intro v H1 s1 h1
    cases h1 with
    | lst e1 h1 => exact ⟨_, rfl, .inl ⟨⟨_, SqL.of (msk_sub _ _ e1)⟩, q _ H1 s1 (wB e1 h1)⟩⟩
    | tup e1 h1 => exact ⟨_, rfl, .inr ⟨⟨_, SqT.of (msk_sub _ _ e1)⟩, q _ H1 s1 (xH e1 h1)⟩⟩
    | scr e1 => exact ⟨_, rfl, .inl ⟨⟨_, msk_sub.seq e1⟩, q _ H1 s1 (xI e1)⟩⟩
    | _ => exact q.elim
  | exc c => rw [e] at q; exact q
  | bad => rw [e] at q; exact q⟩
def pD:List D->R (List D)
 | [.int j]=>if -(2 ^ 62)<=j/\j < 2 ^ 62 then .val (rng 0 j.toNat) else .bad
 | _=>.bad
def bV (F:Rho->R (List D)):Rho->R (List D):=fun ρ=>(F ρ).bind pD
theorem bU {tg a : Expr} {p pos : Pos} {F : Rho -> R (List D)} (hg : Gl X "range") (hm : X.mg "range" = none) (ha : AD C X [a] F) (hs : starEach [a] X.env = [(false, eval a X.env)] := by rfl) :
    ID C X tg (.Call (.Name "range" p) [a] [] pos) (bV F) := qZ (wN hg hm ha hs) fun σ H R yy3 => by
     obtain ⟨ρ, ⟨H0, r⟩, q⟩ := yy3
     exact ⟨ρ, ⟨H0, r⟩, by
  unfold bV at q
  cases e : F ρ with
  | val ds =>
    rw [e] at q
    dsimp only [DL.R.bind] at q
    intro vs H1 s1 h1
    unfold pD at q
    split at q
    · rename_i e0
      split at e0
      · rename_i j
        split at e0
        · rename_i hj
          cases e0
          cases h1 with
          | cons a b => cases a; cases b; exact ⟨j, rfl, hj.1, hj.2, q _ H1 s1 xJ⟩
        · cases e0
      · cases e0
    · rename_i e0
      split at e0
      · split at e0 <;> cases e0
      · cases e0
    · exact q.elim
  | exc c => rw [e] at q; exact q
  | bad => rw [e] at q; exact q⟩
def bR (T:D->Rho->Option Rho) (F:Rho->R Out):List D->Rho->R Out
 | [],ρ=>.val (.nx ρ)
 | x :: xs,ρ=>match T x ρ with
  | some ρ1=>(F ρ1).bind fun o=>match o with
   | .nx ρ2=>bR T F xs ρ2
   | .ct ρ2=>bR T F xs ρ2
   | .bk ρ2=>.val (.nx ρ2)
   | .rt d=>.val (.rt d)
  | none=>.bad
def bn (src:Rho->R (List D)) (T:D->Rho->Option Rho) (F:Rho->R Out):Rho->R Out:=fun ρ=>(src ρ).bind fun xs=>bR T F xs ρ
theorem zb {ix:List Nat} {src:Rho->R (List D)} {T:D->Rho->Option Rho} {F:Rho->R Out} {D:ld} {σ:St} {H:Hp} (h:tsD C X (bn src T F) D σ H):Er (itI C X src) (gtD C X ix T) (tsD C X F) D σ H:=by
 obtain ⟨_,H0,⟨ρ,rfl,r⟩,q⟩:=h
 refine ⟨ρ,⟨H0,r⟩,?_⟩
 unfold bn at q
 cases e:src ρ with
 | exc c=>rw [e] at q;exact d9 r q
 | bad=>rw [e] at q;exact q
 | val xs =>
  rw [e] at q
  intro J H1 s1 wk
  have r1:=r.mono s1
  have hM:Same H0 (msk ρ σ H1):=r1.keep
  refine ⟨fun i m σ' H'=>m=xs.length - i/\i<=xs.length/\∃ ρ':RB,eD C X (msk ρ σ H1) ρ' σ' H'/\pS C X (bR T F (xs.drop i) ρ') H0 D,⟨xs.length,rfl,Nat.zero_le _,ρ,r1.rebase,q⟩,?_⟩
  rintro i m σ' H' ⟨rfl,hi,ρ',r',q'⟩
  have sm:Same (msk ρ σ H1) H':=r'.keep.trans msk_sub
  by_cases hlt:i < xs.length
  ·have ex:xs[i]?=some xs[i]:=by simp [hlt]
   have ed:xs.drop i=xs[i] :: xs.drop (i + 1):=List.drop_eq_getElem_cons hlt
   rw [ed] at q'
   obtain ⟨go,yld⟩:=wk.go i _ H' sm ex
   refine .inr ⟨go,fun σ2 H2=>∃ ρ2:RB,eD C X (msk ρ σ H1) ρ2 σ2 H2/\pS C X (bR T F (xs.drop (i + 1)) ρ2) H0 D,fun σ2 H2 ⟨ρ2,r2,q2⟩=>⟨xs.length - (i + 1),by omega,rfl,hlt,ρ2,r2,q2⟩,fun v H3 y=>?_⟩
   obtain ⟨s3,hv⟩:=yld v H3 y
   have hv':=hv ρ' σ' (fun b ob=>r'.ownAt ob) r'.keep
   unfold bR at q'
   split at q'
   ·rename_i ρ1 e1
    refine ⟨ρ',_,xs[i],ρ1,r'.mono s3,hv',e1,fun σ2 β eb _ r2 _=>⟨ρ1,_,⟨β,eb,r2⟩,?_⟩⟩
    cases eF:F ρ1 with
    | val o =>
     rw [eF] at q'
     cases o with
     | nx ρ2=>exact fun σ4 H4 ⟨β4,e4,r4⟩=>⟨β4,r4,by rw [e4];exact q'⟩
     | ct ρ2=>exact fun σ4 H4 ⟨β4,e4,r4⟩=>⟨β4,r4,by rw [e4];exact q'⟩
     | bk ρ2=>exact fun σ4 H4 ⟨β4,e4,r4⟩=>q' σ4 H4 ⟨β4,e4,r4.base hM⟩
     | rt d=>exact fun v4 H4 s4 h4=>q' v4 H4 (hM.trans s4) h4
    | exc c=>rw [eF] at q';exact XS.mono hM q'
    | bad=>rw [eF] at q';exact q'
   ·exact q'.elim
  ·have ei:i=xs.length:=by omega
   subst ei
   rw [List.drop_length] at q'
   exact .inl ⟨wk.stop H' sm,q' σ' H' (r'.base hM).e⟩
theorem bf {tg iter:Expr} {body:List Stmt} {pos:Pos} {ix:List Nat} {src:Rho->R (List D)} {T:D->Rho->Option Rho} {F:Rho->R Out} (hp:PassesOwn (model X.prog X.w) X.A X.env X.xe) (hc:X.calm=true) (hi:ID C X tg iter src) (hg:GD C X tg ix T) (hb:SDs C X body F)
  (hs:∀ x,foldedSetIterable iter X.env x=pure x:=by intro _;rfl):SD C X (.For tg iter body [] pos) (bn src T F) :=
 bF (ym hp hc hi hg hb hs) fun D σ H h=>zb h
end
def st0 (N:List Str) (ds:List D):Rho:=ds.map (fun d=>some (.shr d)) ++ List.replicate (N.length - ds.length) none
def fin:R Out->R D
 | .val (.nx _)=>.val .non
 | .val (.rt d)=>.val d
 | .val _=>.bad
 | .exc c=>.exc c
 | .bad=>.bad
theorem Ae {N:List Str} {ds:List D} {i:Nat} {sl:Slt} (h:(st0 N ds)[i]?=some (some sl)):∃ d,sl=.shr d/\ds[i]?=some d:=by
 unfold st0 at h
 by_cases hi:i < ds.length
 ·rw [List.getElem?_append_left (by simpa using hi),List.getElem?_map] at h
  cases e:ds[i]? with
  | none=>rw [e] at h;cases h
  | some d=>rw [e] at h;cases h;exact ⟨d,rfl,rfl⟩
 ·rw [List.getElem?_append_right (by simpa using hi),List.getElem?_replicate] at h
  split at h <;> cases h
theorem qf {K:Frag} {C:Addr} {H:Hp} {N:List Str} {vs:List V} {ds:List D} (h:HasL K C H vs ds):xB K C H (st0 N ds) (L2.start N vs) H:=by
 have sub:Same H (msk ⟨st0 N ds,fun _=>[]⟩ (L2.start N vs) H):=fun b o e=>msk_some.mpr ⟨fun ⟨_,z⟩=>(List.not_mem_nil z).elim,e⟩
 refine ⟨⟨st0 N ds,fun _=>[]⟩,rfl,?_,sub,fun i sl e=>?_,fun i j a z=>(List.not_mem_nil z).elim,fun i a z=>(List.not_mem_nil z).elim,fun i a z=>(List.not_mem_nil z).elim⟩
 ·show (st0 N ds).length=_
  unfold st0 L2.start
  simp [h.len]
 ·obtain ⟨d,rfl,e1⟩:=Ae e
  obtain ⟨v,e2,h2⟩:=h.get e1
  refine ⟨v,?_,h2.mono sub⟩
  have hi:i < vs.length:=(List.getElem?_eq_some_iff.mp e2).1
  unfold L2.start
  rw [List.getElem?_append_left (by simpa using hi),List.getElem?_map,e2]
  rfl
section
variable {P:Program} {w:World} {K:Frag} {mg:Str->Option Value} {base:Heap} {C:Addr}
theorem bm {x qual:Str} {st:Stmt} {f:Addr} {fd:FuncData} {N ps:List Str} {k:Nat} {den:Rho->R Out} (F:Fun K x qual st f fd) (sc:aJ N ps (ai st))
  (hb:∀ (cdv:Value) (A:Around) (outer:List Env) (s:Shared) (H:Hp) (E:XK),Room k (A.deeper (envOfC qual (ai st) s.heap.objs.size f cdv)) ->
   SDs C (bI CX0 P w K mg base N qual (ai st) f cdv A outer s H E).nox (aF st) den) :
  FnOk P w K mg base CX0 (k + 1) f fd ps (spD K C ps.length fun ds=>fin (den (st0 N ds))):=by
 refine F.ok sc (fun vs H Q E h=>h.1) (fun cdv A outer s H vs Q E hr h=>⟨_,hb cdv A outer s H E hr,?_⟩)
 obtain ⟨_,ds,h,q⟩:=h
 refine ⟨st0 N ds,H,qf h,?_⟩
 dsimp only at q
 cases e:den (st0 N ds) with
 | val o =>
  rw [e] at q
  cases o with
  | nx ρ'=>exact fun σ' H' ⟨_,_,r⟩=>q _ H' (r.keep.trans msk_sub) .non
  | rt d=>exact fun v H' s' h'=>q v H' s' h'
  | bk ρ'=>exact q.elim
  | ct ρ'=>exact q.elim
 | exc c=>rw [e] at q;exact q.elim
 | bad=>rw [e] at q;exact q.elim
end
def Fe (scope:Scope) (env:Env) (L:Addr) (cs:List (Str × Addr)):Env :=
 {scope:=relabel scope env,locals:=L,globals:=env.globals,cells:=cs,qual:=env.qual,func:=none,code:=env.code,frame:=env.frame,builtins:=env.builtins }
def DM (o:Option NameKind):Bool:=match o with
 | some .cell=>true
 | _=>false
def kc (o:Option NameKind):Bool:=match o with
 | some .cell=>true
 | some .free=>true
 | _=>false
def cxC (X:Cx) (N':List Str) (scope:Scope) (L:Addr) (cs:List (Str × Addr)) (s:Shared) (H:Hp) (fp:List Addr):Cx :=
 {prog:=X.prog,w:=X.w,K:=X.K,mg:=X.mg,base:=X.base,A:=X.A,N:=N',s₀:=s,H₀:=H,env:=Fe scope X.env L cs,outer:=X.stack,stack:=X.stack,ex:=fp,
  fn:=fun x=>DM (scope.names.lookup x),calm:=X.calm,pn:=[],xe:=fun _ _=>False }
def zN (N:List Str) (env:Env) (sc:Scope):List Str->Nat->Bool
 | [],_=>true
 | x :: r,i=>(match sc.names.lookup x with
   | some .free=>(match N[i]? with | some y=>y == x | none=>false) && kc (env.kindOf x)
   | some .local=>Nat.ble N.length i
   | some .cell=>Nat.ble N.length i
   | _=>true) && zN N env sc r (i + 1)
def fK (env:Env) (x:Str) (k:NameKind):Bool:=match k with
 | .free=>kc (env.kindOf x)
 | _=>true
def BJ (env:Env):List (Str × NameKind)->Bool
 | []=>true
 | p :: r=>fK env p.1 p.2 && BJ env r
def lK (k:NameKind) (o:Option NameKind):Bool:=match k,o with
 | .local,some .local=>true
 | .local,_=>false
 | .free,some .free=>true
 | .free,_=>false
 | .cell,some .cell=>true
 | .cell,_=>false
 | _,_=>true
def BI (names:List (Str × NameKind)):List (Str × NameKind)->Bool
 | []=>true
 | p :: r=>lK p.2 (names.lookup p.1) && BI names r
theorem EX {k:NameKind} {o:Option NameKind} (h:lK k o=true) (hk:k=.local\/k=.free\/k=.cell):o=some k:=by
 rcases hk with rfl | rfl | rfl
 ·cases o with
  | none=>cases h
  | some j=>cases j <;> first | rfl | cases h
 ·cases o with
  | none=>cases h
  | some j=>cases j <;> first | rfl | cases h
 ·cases o with
  | none=>cases h
  | some j=>cases j <;> first | rfl | cases h
def u7 (N N':List Str) (env:Env) (sc:Scope):Bool:=zN N env sc N' 0 && (BJ env sc.names && (BI sc.names sc.names && (Nat.ble N.length N'.length && (match sc.kind with | .function=>true | _=>false))))
theorem rF {o:Option NameKind} (h:kc o=true):o=some .cell\/o=some .free:=by
 unfold kc at h
 split at h <;> simp_all
theorem wx {N:List Str} {env:Env} {sc:Scope}:∀ {l:List Str} {k i:Nat} {x:Str},zN N env sc l k=true->l[i]?=some x ->
  (sc.names.lookup x=some .free->N[k + i]?=some x/\kc (env.kindOf x)=true)/\((sc.names.lookup x=some .local\/sc.names.lookup x=some .cell)->N.length<=k + i)
 | [],_,_,_,_,e=>by simp at e
 | y :: r,k,0,x,h,e=>by
  simp at e;subst e
  rw [zN,Bool.and_eq_true] at h
  obtain ⟨h,_⟩:=h
  refine ⟨fun z=>?_,fun z=>?_⟩
  ·rw [z] at h
   simp only [Bool.and_eq_true] at h
   obtain ⟨h1,h2⟩:=h
   refine ⟨?_,h2⟩
   split at h1
   ·rename_i w e1
    rw [Nat.add_zero,e1,beq_iff_eq.mp h1]
   ·cases h1
  ·rcases z with z | z <;> (rw [z] at h;exact Nat.le_of_ble_eq_true h)
 | y :: r,k,i + 1,x,h,e=>by
  rw [zN,Bool.and_eq_true] at h
  have q:=wx (k:=k + 1) (i:=i) (x:=x) h.2 (by simpa using e)
  rw [show k + (i + 1)=k + 1 + i by omega]
  exact q
theorem sd {env:Env}:∀ {l:List (Str × NameKind)} {x:Str},BJ env l=true->(x,NameKind.free) ∈ l->kc (env.kindOf x)=true
 | [],_,_,h=>by cases h
 | p :: r,x,h,m=>by
  have h:fK env p.1 p.2=true/\BJ env r=true:=Bool.and_eq_true_iff.mp h
  rcases List.mem_cons.mp m with e | m
  ·subst e;exact h.1
  ·exact sd h.2 m
theorem nq {names:List (Str × NameKind)}:∀ {l:List (Str × NameKind)} {x:Str} {k:NameKind},BI names l=true->(x,k) ∈ l->(k=.local\/k=.free\/k=.cell)->names.lookup x=some k
 | [],_,_,_,h,_=>by cases h
 | p :: r,x,k,h,m,hk=>by
  have h:lK p.2 (names.lookup p.1)=true/\BI names r=true:=Bool.and_eq_true_iff.mp h
  rcases List.mem_cons.mp m with e | m
  ·subst e;exact EX h.1 hk
  ·exact nq h.2 m hk
def cSt (x:Str) (k:NameKind) (o:Option Addr) (acc:List (Str × Addr)):List (Str × Addr):=match k,o with
 | .free,some c=>(x,c) :: acc
 | _,_=>acc
def e8 (env:Env):List (Str × NameKind)->List (Str × Addr)->List (Str × Addr)
 | [],acc=>acc
 | p :: r,acc=>e8 env r (cSt p.1 p.2 (env.cells.lookup p.1) acc)
theorem sh {x:Str} {k:NameKind} {o:Option Addr} {acc:List (Str × Addr)} (h:k ≠ .free):cSt x k o acc=acc:=by
 cases k with
 | free=>exact absurd rfl h
 | _=>rfl
theorem o8 {x:Str} {k:NameKind} {acc:List (Str × Addr)}:cSt x k none acc=acc:=by cases k <;> rfl
theorem wv {env:Env} {scope:Scope} (h:∀ x,(x,NameKind.free) ∈ scope.names->∃ c,env.cells.lookup x=some c):closureFor scope env=pure (e8 env scope.names []):=by
 unfold closureFor
 have gen:∀ (l:List (Str × NameKind)) (acc:List (Str × Addr)) (f:Str × NameKind->List (Str × Addr)->Sem (ForInStep (List (Str × Addr)))),(∀ x,(x,NameKind.free) ∈ l->∃ c,env.cells.lookup x=some c) ->
   (∀ n k cs,f (n,k) cs=if (k == NameKind.free)=true then (do let a <- cellOf env n;pure (ForInStep.yield ((n,a) :: cs))) else pure (ForInStep.yield cs))->forIn l acc f=pure (e8 env l acc):=by
  intro l
  induction l with
  | nil=>intro acc f _ _;rfl
  | cons y r ih =>
   intro acc f hc hf
   obtain ⟨n,k⟩:=y
   rw [List.forIn_cons,hf]
   have ih':=fun acc=>ih acc f (fun x hx=>hc x (List.mem_cons_of_mem _ hx)) hf
   by_cases hk:k=.free
   ·subst hk
    obtain ⟨c,e⟩:=hc n List.mem_cons_self
    rw [if_pos (by rfl)]
    unfold cellOf
    rw [e]
    simp only [pure_bind]
    rw [ih']
    show pure (e8 env r ((n,c) :: acc))=pure (e8 env r (cSt n .free (env.cells.lookup n) acc))
    rw [e];rfl
   ·have hb:(k == NameKind.free)=false:=by simpa using hk
    rw [hb,if_neg Bool.false_ne_true,pure_bind]
    show forIn r acc f=_
    rw [ih']
    show _=pure (e8 env r (cSt n k (env.cells.lookup n) acc))
    rw [sh hk]
 dsimp only
 rw [gen scope.names [] _ h]
 ·rfl
 ·intro n k cs
  cases hb:k == NameKind.free <;> simp [hb]
theorem o7 {env:Env}:∀ {l:List (Str × NameKind)} {acc:List (Str × Addr)} {x:Str} {c:Addr},(e8 env l acc).lookup x=some c->(∀ c',acc.lookup x=some c'->env.cells.lookup x=some c')->env.cells.lookup x=some c
 | [],acc,x,c,e,h=>h c e
 | (y,k) :: r,acc,x,c,e,h=>by
  have e:(e8 env r (cSt y k (env.cells.lookup y) acc)).lookup x=some c:=e
  refine o7 e fun c' e'=>?_
  by_cases hk:k=.free
  ·subst hk
   cases e0:env.cells.lookup y with
   | none=>rw [e0,o8] at e';exact h c' e'
   | some c0 =>
    rw [e0] at e'
    have e':((y,c0) :: acc).lookup x=some c':=e'
    rw [List.lookup_cons] at e'
    cases hb:x == y with
    | true=>rw [hb] at e';cases e';rw [beq_iff_eq.mp hb];exact e0
    | false=>rw [hb] at e';exact h c' e'
  ·rw [sh hk] at e';exact h c' e'
theorem lQ {env:Env} {x:Str} {c:Addr} (hc:env.cells.lookup x=some c):∀ {l:List (Str × NameKind)} {acc:List (Str × Addr)},((x,NameKind.free) ∈ l\/acc.lookup x=some c)->(e8 env l acc).lookup x=some c
 | [],acc,h=>h.elim (fun z=>by cases z) id
 | (y,k) :: r,acc,h=>by
  show (e8 env r (cSt y k (env.cells.lookup y) acc)).lookup x=some c
  refine lQ hc ?_
  rcases h with h | h
  ·rcases List.mem_cons.mp h with e | h
   ·cases e
    right
    rw [hc]
    show ((x,c) :: acc).lookup x=some c
    rw [List.lookup_cons,beq_self_eq_true]
   ·exact .inl h
  ·right
   by_cases hk:k=.free
   ·subst hk
    cases e0:env.cells.lookup y with
    | none=>rw [o8];exact h
    | some c0 =>
     show ((y,c0) :: acc).lookup x=some c
     rw [List.lookup_cons]
     cases hb:x == y with
     | true=>rw [<- beq_iff_eq.mp hb,hc] at e0;exact e0.symm
     | false=>exact h
   ·rw [sh hk];exact h
theorem nr:∀ {names:List (Str × NameKind)} {n:Nat} {acc:List (Str × Addr)} {x:Str} {c:Addr},(cellsFrom n names acc).lookup x=some c->acc.lookup x=some c\/(n<=c/\(x,NameKind.cell) ∈ names)
 | [],_,_,_,_,e=>.inl e
 | (y,k) :: r,n,acc,x,c,e=>by
  unfold cellsFrom at e
  split at e
  ·rename_i hk
   rcases nr e with q | ⟨q,m⟩
   ·rw [List.lookup_cons] at q
    cases hb:x == y with
    | true=>rw [hb] at q;cases q;rw [beq_iff_eq.mp hb,beq_iff_eq.mp hk];exact .inr ⟨Nat.le_refl _,List.mem_cons_self⟩
    | false=>rw [hb] at q;exact .inl q
   ·exact .inr ⟨Nat.le_of_succ_le q,List.mem_cons_of_mem _ m⟩
  ·rcases nr e with q | ⟨q,m⟩
   ·exact .inl q
   ·exact .inr ⟨q,List.mem_cons_of_mem _ m⟩
theorem se:∀ {names:List (Str × NameKind)} {n:Nat} {acc:List (Str × Addr)} {x:Str},(x,NameKind.cell) ∉ names->(cellsFrom n names acc).lookup x=acc.lookup x
 | [],_,_,_,_=>rfl
 | (y,k) :: r,n,acc,x,h=>by
  unfold cellsFrom
  split
  ·rename_i hk
   rw [se fun m=>h (List.mem_cons_of_mem _ m),List.lookup_cons]
   cases hb:x == y with
   | true=>exact absurd (by rw [beq_iff_eq.mp hb,beq_iff_eq.mp hk];exact List.mem_cons_self) h
   | false=>rfl
  ·exact se fun m=>h (List.mem_cons_of_mem _ m)
theorem z7 {M:Model} {A:Around} {E:Value->Shared->Prop} {s:Shared} {scope:Scope} {cl:List (Str × Addr)} {env:Env} {Q:Env->Shared->Prop}
  (h:Q { scope:=scope,locals:=s.heap.objs.size,globals:=env.globals,cells:=cellsFrom (s.heap.objs.size + 1) scope.names cl,qual:=env.qual,func:=none,code:=env.code,frame:=env.frame,builtins:=env.builtins }
   {s with heap:=pushCells (s.heap.push { cls:=.type "dict",data:=.dict #[] }) scope.names }):wpAny M A (newFunctionEnv scope env.globals cl [] env.qual none .none (some env)) Q E s:=by
 simp only [newFunctionEnv,Option.isSome_some,if_true]
 refine wpAny_bind (wpAny_alloc ?_)
 refine wpAny_bind (wpAny_layCells _ (fun name kind cells=>by cases hkc:kind == NameKind.cell <;> simp [hkc]) _ _ _ _ ?_)
 rw [show ({ s with heap:=s.heap.push { cls:=.type "dict",data:=.dict #[] } }:Shared).heap.objs.size=s.heap.objs.size + 1 from Heap.size_push ..]
 exact wpAny_pure h
structure BO (ix:List Nat) (T:D->Rho->Option Rho):Prop where
 len:∀ x ρ ρ',T x ρ=some ρ'->ρ'.length=ρ.length
 out:∀ x ρ ρ',T x ρ=some ρ'->∀ j:Nat,j ∉ ix->ρ'[j]?=ρ[j]?
 shr:∀ x ρ ρ',T x ρ=some ρ'->∀ (j:Nat) sl,j ∈ ix->ρ'[j]?=some (some sl)->yV sl=false
theorem cB {i:Nat}:BO [i] (tgN i) where
 len:=fun x ρ ρ' e=>by cases e;simp
 out:=fun x ρ ρ' e j hj=>by cases e;exact List.getElem?_set_ne fun z=>hj (by simp [z])
 shr:=fun x ρ ρ' e j sl hj h=>by
  cases e
  have:j=i:=by simpa using hj
  subst this
  rw [List.getElem?_set] at h
  simp only [if_true] at h
  split at h <;> cases h
  rfl
theorem vx {ρ:Rho} {i j:Nat} {d:D} {sl:Slt} (h:(ρ.set i (some (.shr d)))[j]?=some (some sl)) (hn:i ≠ j->yV sl=false):yV sl=false:=by
 by_cases hj:i=j
 ·subst hj
  rw [List.getElem?_set] at h
  simp only [if_true] at h
  split at h <;> cases h
  rfl
 ·exact hn hj
theorem xP {i j:Nat}:BO [i,j] (tg2 i j) where
 len:=fun x ρ ρ' e=>by
  unfold tg2 at e;split at e
  ·cases e;simp
  ·cases e
 out:=fun x ρ ρ' e k hk=>by
  unfold tg2 at e;split at e
  ·cases e
   rw [List.getElem?_set_ne fun z=>hk (by simp [z]),List.getElem?_set_ne fun z=>hk (by simp [z])]
  ·cases e
 shr:=fun x ρ ρ' e k sl hk h=>by
  unfold tg2 at e;split at e
  ·cases e
   refine vx h fun hj=>?_
   rw [List.getElem?_set_ne hj] at h
   refine vx h fun hi=>?_
   simp at hk
   rcases hk with rfl | rfl
   ·exact absurd rfl hi
   ·exact absurd rfl hj
  ·cases e
def noE {α:Type}:R α->R α
 | .val a=>.val a
 | _=>.bad
def jy (T:D->Rho->Option Rho) (t:Rho->R Bool) (e:Rho->R D):List D->Rho->R (List D)
 | [],_=>.val []
 | x :: xs,ρ=>match T x ρ with
  | some ρ1=>(noE (t ρ1)).bind fun b=>if b=true then (noE (e ρ1)).bind fun d=>(jy T t e xs ρ).bind fun ds=>.val (d :: ds) else jy T t e xs ρ
  | none=>.bad
variable {C:Addr} {X:Cx}
variable (C X) in
def uf (ifs:List Expr) (t:Rho->R Bool):Prop:=∀ (pins:List (Addr × Obj)) (s:Shared) (σ:St) (H:Hp) (Q:Bool->Hp->Prop),Inv X pins σ H s->ttD C X t σ H Q ->
 wpAny (model X.prog X.w) X.A (forIn ifs true fun c r=>if r=true then do let ok <- isTrue c X.env (eval c X.env);pure (ForInStep.yield ok) else pure (ForInStep.yield r)) (TP X pins σ Q) X.xe s
def tT:Rho->R Bool:=fun _=>.val true
theorem bS:uf C X [] tT:=fun pins s σ H Q I zz0=>by
 obtain ⟨ρ,r,q⟩:=zz0
 rw [List.forIn_nil]
 exact wpAny_pure ⟨H,I,q H (Same.refl _)⟩
theorem ni {c:Expr} {t:Rho->R Bool} (h:TD C X c t):uf C X [c] t:=fun pins s σ H Q I q=>by
 rw [List.forIn_cons,if_pos rfl]
 refine wpAny_bind (wpAny_bind (thn (h pins s σ H Q I q) fun b s1 z=>wpAny_pure ?_))
 show wpAny _ _ (forIn [] b _) _ _ s1
 rw [List.forIn_nil]
 exact wpAny_pure z
def RB.ext (ρ:RB) (m:Nat):RB:=⟨ρ.rho ++ List.replicate m none,ρ.ad⟩
theorem yH {ρ β:RB} {σ σ':St} (h:∀ j,β.ad j=ρ.ad j):msk β σ'=msk ρ σ:=by
 have e:β.ad=ρ.ad:=funext h
 funext G b
 unfold msk Own
 rw [e]
theorem As {K:Frag} {H0 H:Hp} {ρ:RB} {σ σ':St} {m:Nat} (r:Rel K C H0 ρ σ H) (hl:σ'.length=ρ.rho.length + m) (hp:∀ j:Nat,j < ρ.rho.length->σ'[j]?=σ[j]?) :
  Rel K C H0 (ρ.ext m) σ' H/\msk (ρ.ext m) σ'=msk ρ σ:=by
 have at':∀ (i:Nat) sl,(ρ.rho ++ List.replicate m none)[i]?=some (some sl)->ρ.rho[i]?=some (some sl)/\i < ρ.rho.length:=fun i sl e=>by
  by_cases hi:i < ρ.rho.length
  ·rw [List.getElem?_append_left hi] at e;exact ⟨e,hi⟩
  ·rw [List.getElem?_append_right (by omega),List.getElem?_replicate] at e
   split at e <;> cases e
 have em:msk (ρ.ext m) σ'=msk ρ σ:=yH fun _=>rfl
 refine ⟨⟨?_,by rw [em];exact r.keep,fun i sl e=>?_,r.inj,r.kin,fun i a z=>?_⟩,em⟩
 ·show (ρ.rho ++ List.replicate m none).length=_
  simp [hl]
 ·obtain ⟨e1,hi⟩:=at' i sl e
  rw [em,hp i hi];exact r.at_ i sl e1
 ·show i < (ρ.rho ++ List.replicate m none).length
  rw [List.length_append];exact Nat.lt_of_lt_of_le (r.bnd i a z) (Nat.le_add_right _ _)
theorem Du {ρ β:RB} {σ σ1:St} {ix:List Nat} (h:∀ j:Nat,β.ad j=if j ∈ ix then [] else ρ.ad j) (hix:∀ j ∈ ix,ρ.ad j=[]):msk β σ1=msk ρ σ:=yH fun j=>by
 rw [h j]
 split
 ·exact (hix j ‹_›).symm
 ·rfl
end DL
namespace DL
open PySem PySem.Spec PyProof.Rows L2
theorem r_ {prog:Program} {w:World} {A:Around} {R:Result->Shared->Prop} {s:Shared} {elt target iter:Expr} {ifs:List Expr} {scope:Scope} {pos:Pos} {it acc:Value} {env:Env} (I:Nat->Shared->Prop)
  (li:∀ n s,I n s->wpAny (model prog w) A (pyNext it) (fun r s₁=>match r with
   | none=>R (.ok .next) s₁
   | some v=>wpAny (model prog w) A (letOwnedTupleGo target it v) (fun _ s₀=>wpAny (model prog w) A (assign target env v) (fun _ s₂ =>
     wpAny (model prog w) A (forIn ifs true fun c r=>if r=true then do let ok <- isTrue c env (eval c env);pure (ForInStep.yield ok) else pure (ForInStep.yield r)) (fun ok s₃ =>
      if ok=true then wpAny (model prog w) A (eval elt env) (fun x s₄ =>
       wpAny (model prog w) A (call (.builtin "list.append") [acc,x]) (fun _ s₅=>∃ m,m < n/\I m s₅) (fun _ _=>False) s₄) (fun _ _=>False) s₃
      else ∃ m,m < n/\I m s₃) (fun _ _=>False) s₂) (fun _ _=>False) s₀) (fun _ _=>False) s₁) (fun _ _=>False) s)
  (n:Nat) (h:I n s):codeAny (model prog w) A (.compLoop (.ListComp elt [⟨target,iter,ifs,0⟩] scope pos) 0 it acc env) R s:=by
 refine codeAny_loop rfl I (fun n s hI=>?_) n h
 show wpAny _ A ((compTurn (.ListComp elt [⟨target,iter,ifs,0⟩] scope pos) 0 it acc env).onRaise (fun x=>do noteFrame x env;theTreesLotGoes x)) _ _ s
 refine wpAny_noted ?_
 rw [compTurn_list]
 refine wpAny_bind (wpAny_standAt (wpAny_bind (wpAny_mono (li n s hI) (fun r s₁ h₁=>?_) fun _ _ h'=>h'.elim)))
 cases r with
 | none=>exact wpAny_pure h₁
 | some v =>
  refine wpAny_bind (wpAny_mono h₁ (fun _ s₀ h₀=>?_) fun _ _ h'=>h'.elim)
  refine wpAny_bind (wpAny_mono h₀ (fun _ s₂ h₂=>wpAny_bind (wpAny_mono h₂ (fun ok s₃ h₃=>?_) fun _ _ h'=>h'.elim)) fun _ _ h'=>h'.elim)
  cases ok with
  | false=>exact wpAny_pure ⟨rfl,h₃⟩
  | true =>
   exact wpAny_bind (wpAny_bind (wpAny_mono h₃ (fun x s₄ h₄=>wpAny_bind (wpAny_mono h₄ (fun _ s₅ h₅=>wpAny_pure (wpAny_pure ⟨rfl,h₅⟩)) fun _ _ h'=>h'.elim)) fun _ _ h'=>h'.elim))
theorem u8:∀ {names:List (Str × NameKind)} {n:Nat} {acc:List (Str × Addr)},(∀ x y c,acc.lookup x=some c->acc.lookup y=some c->x=y)->(∀ x c,acc.lookup x=some c->c < n) ->
  ∀ x y c,(cellsFrom n names acc).lookup x=some c->(cellsFrom n names acc).lookup y=some c->x=y
 | [],_,_,h,_=>h
 | (z,k) :: r,n,acc,h,hb=>by
  unfold cellsFrom
  split
  ·refine u8 (fun x y c e1 e2=>?_) (fun x c e=>?_)
   ·rw [List.lookup_cons] at e1 e2
    cases b1:x == z with
    | true =>
     rw [b1] at e1;cases e1
     cases b2:y == z with
     | true=>rw [beq_iff_eq.mp b1,beq_iff_eq.mp b2]
     | false=>rw [b2] at e2;exact absurd (hb y _ e2) (Nat.lt_irrefl _)
    | false =>
     rw [b1] at e1
     cases b2:y == z with
     | true=>rw [b2] at e2;cases e2;exact absurd (hb x _ e1) (Nat.lt_irrefl _)
     | false=>rw [b2] at e2;exact h x y c e1 e2
   ·rw [List.lookup_cons] at e
    cases b1:x == z with
    | true=>rw [b1] at e;cases e;exact Nat.lt_succ_self _
    | false=>rw [b1] at e;exact Nat.lt_succ_of_lt (hb x c e)
  ·exact u8 h hb
theorem sg:∀ {names:List (Str × NameKind)} {h:Heap} {acc:List (Str × Addr)} {x:Str} {c:Addr},(cellsFrom h.objs.size names acc).lookup x=some c->acc.lookup x=some c\/(pushCells h names).IsCell c none
 | [],_,_,_,_,e=>.inl e
 | (y,k) :: r,h,acc,x,c,e=>by
  unfold cellsFrom at e
  unfold pushCells
  split at e
  ·rename_i hk
   rw [if_pos hk]
   have e':(cellsFrom (h.push { cls:=.type "cell",data:=.cell none }).objs.size r ((y,h.objs.size) :: acc)).lookup x=some c:=by rw [Heap.size_push];exact e
   rcases sg e' with q | q
   ·rw [List.lookup_cons] at q
    cases b1:x == y with
    | true =>
     rw [b1] at q;cases q
     exact .inr ⟨_,pushCells_keeps r _ _ _ (Heap.get?_push_size _ rfl),rfl⟩
    | false=>rw [b1] at q;exact .inl q
   ·exact .inr q
  ·rename_i hk
   rw [if_neg hk]
   exact sg e
theorem qu {env:Env}:∀ {l:List (Str × NameKind)} {acc:List (Str × Addr)} {x:Str} {c:Addr},(e8 env l acc).lookup x=some c->acc.lookup x=some c\/(x,NameKind.free) ∈ l
 | [],acc,x,c,e=>.inl e
 | (y,k) :: r,acc,x,c,e=>by
  have e:(e8 env r (cSt y k (env.cells.lookup y) acc)).lookup x=some c:=e
  rcases qu e with q | q
  ·by_cases hk:k=.free
   ·subst hk
    cases e0:env.cells.lookup y with
    | none=>rw [e0,o8] at q;exact .inl q
    | some c0 =>
     rw [e0] at q
     have q:((y,c0) :: acc).lookup x=some c:=q
     rw [List.lookup_cons] at q
     cases hb:x == y with
     | true=>rw [beq_iff_eq.mp hb];exact .inr List.mem_cons_self
     | false=>rw [hb] at q;exact .inl q
   ·rw [sh hk] at q;exact .inl q
  ·exact .inr (List.mem_cons_of_mem _ q)
def reK (env:Env) (n:Str) (k:NameKind):NameKind:=if (k == .free && env.scope.kind == .function && env.kindOf n == some .cell)=true then .cell else k
theorem vD {env:Env}:∀ {names:List (Str × NameKind)} {x:Str},
  (names.map fun (p:Str × NameKind)=>if (p.2 == .free && env.scope.kind == .function && env.kindOf p.1 == some .cell)=true then (p.1,NameKind.cell) else (p.1,p.2)).lookup x=(names.lookup x).map (reK env x)
 | [],_=>rfl
 | (n,k) :: r,x=>by
  have ih:=vD (env:=env) (names:=r) (x:=x)
  rw [List.map_cons]
  have e:(if (k == .free && env.scope.kind == .function && env.kindOf n == some .cell)=true then (n,NameKind.cell) else (n,k))=(n,reK env n k):=by
   unfold reK;split <;> rfl
  show List.lookup x ((if (k == .free && env.scope.kind == .function && env.kindOf n == some .cell)=true then (n,NameKind.cell) else (n,k)) :: _)=_
  rw [e,List.lookup_cons,List.lookup_cons]
  cases hb:x == n with
  | true=>rw [beq_iff_eq.mp hb];rfl
  | false=>exact ih
theorem iC {scope:Scope} {env:Env} {x:Str}:(relabel scope env).names.lookup x=(scope.names.lookup x).map (reK env x):=vD
theorem ln {env:Env} {x:Str} {k:NameKind}:(k=.free/\(reK env x k=.free\/reK env x k=.cell))\/(k ≠ .free/\reK env x k=k):=by
 unfold reK
 by_cases hk:k=.free
 ·subst hk;left;refine ⟨rfl,?_⟩;split <;> simp
 ·right;refine ⟨hk,?_⟩
  have:(k == NameKind.free)=false:=by simpa using hk
  rw [this];rfl
theorem BG {H:Hp}:cut [] H=H:=by
 funext b
 unfold cut
 rw [if_neg List.not_mem_nil]
theorem kG {ρ:RB} {σ:St} {zs:List Addr} {H:Hp}:msk ρ σ (cut zs H)=cut zs (msk ρ σ H):=by
 funext b
 unfold msk cut
 by_cases h:Own ρ σ b <;> by_cases h':b ∈ zs <;> simp [h,h']
theorem rZ {zs:List Addr} {H:Hp}:Same (cut zs H) H:=fun b o e=>(cut_some.mp e).2
theorem gm {H H':Hp} {b:Addr} (s:Same H H') (h:H' b=none):H b=none:=by
 cases e:H b with
 | none=>rfl
 | some o=>rw [s b o e] at h;cases h
section
variable {C:Addr} {X:Cx}
def pK (C:Addr) (X:Cx) (k:OK) (ρ:RB) (r:R D) (σ:St) (H:Hp) (Q:VK):Prop:=match r with
 | .val d=>∀ v H' A,Same H H'->(∀ a ∈ A,H a=none)->Tre X.K C (cut A (msk ρ σ H')) H' k v d A->Q v H'
 | .exc c=>XE X c σ H
 | .bad=>False
variable (C X) in
def teK (k:OK) (F:Rho->R D):TE:=fun σ H Q=>∃ ρ:RB,(∃ H0,eD C X H0 ρ σ H)/\pK C X k ρ (F ρ) σ H Q
variable (C X) in
def KD (k:OK) (e:Expr) (F:Rho->R D):Prop:=PE X e (teK C X k F)
theorem vU {e:Expr} {F:Rho->R D} (h:ED C X e F):KD C X .s e F:=aQ h fun σ H Q ⟨ρ,r,q⟩=>⟨ρ,r,by
 cases z:F ρ with
 | val d=>rw [z] at q;exact fun v H' s h=>q v H' [] s (fun a ha=>by cases ha) (.s (by rw [BG];exact h))
 | exc c=>rw [z] at q;exact q
 | bad=>rw [z] at q;exact q⟩
theorem B3 {e:Expr} {F:Rho->R (List D)} (h:FD C X e F):KD C X (.l .s) e (eLs F):=aQ h fun σ H Q ⟨ρ,⟨H0,r⟩,q⟩=>⟨ρ,⟨H0,r⟩,by
 unfold eLs at q
 cases z:F ρ with
 | val xs =>
  rw [z] at q
  intro a vs H1 s1 hn h1
  refine q _ _ [a] (s1.trans (aX hn)) (fun b hb=>by cases List.mem_singleton.mp hb;exact gm s1 hn) (.l ba (TreP.of (h1.mono fun b o e=>cut_some.mpr ⟨fun hb=>?_,bc (aX hn) b o e⟩)) List.not_mem_nil)
  cases List.mem_singleton.mp hb
  rw [(msk_some.mp e).2] at hn;cases hn
 | exc c=>rw [z] at q;exact q
 | bad=>rw [z] at q;exact q⟩
theorem Tre.free {H0 H H':Hp} {ρ:RB} {σ:St} {k:OK} {v:V} {d:D} {A:List Addr} (r:eD C X H0 ρ σ H) (s:Same H H') (hA:∀ a ∈ A,H a=none) (h:Tre X.K C (cut A (msk ρ σ H')) H' k v d A):e9 C X ρ σ H' v d :=
 h.share rZ (fun a ha o e=>msk_some.mpr ⟨fun z=>r.ownAt z (hA a ha),e⟩) fun a vs e=>msk_some.mpr ⟨fun z=>(r.mono s).tups e z,e⟩
theorem Ff {k:OK} {e:Expr} {F:Rho->R D} (h:KD C X k e F):ED C X e F:=aQ h fun σ H Q ⟨ρ,⟨H0,r⟩,q⟩=>⟨ρ,⟨H0,r⟩,by
 cases z:F ρ with
 | val d=>rw [z] at q;exact fun v H' A s hA h=>q v H' s (h.free r s hA)
 | exc c=>rw [z] at q;exact q
 | bad=>rw [z] at q;exact q⟩
def trS (i:Nat) (k:OK) (e:Rho->R D):Rho->R Out:=fun ρ=>(e ρ).bind fun d=>.val (.nx (ρ.set i (some (.tre k d))))
theorem Rel.setTre {K:Frag} {H0 H H':Hp} {ρ:RB} {σ:St} (r:Rel K C H0 ρ σ H) {i:Nat} {k:OK} {v:V} {d:D} {A:List Addr} (s:Same H H') (hA:∀ a ∈ A,H a=none) (h:Tre K C (cut A (msk ρ σ H')) H' k v d A) :
  Rel K C H0 (ρ.put i (.tre k d) A) (σ.set i (some v)) H':=by
 refine r.put m6 (fun j hj=>List.getElem?_set_ne fun z=>hj z.symm) (fun a ha=>.inr (hA a ha)) (fun j _=>.of s) (fun b o e=>s b o (msk_some.mp e).2) (fun a ha=>.inl (h.lists a ha)) fun hi _=>⟨v,A,qJ (by rw [<- r.len];exact hi),fun a ha=>ha,h.stay (fun b o e=>?_) (.of (Same.refl _))⟩
 obtain ⟨h1,h2⟩:=cut_some.mp e
 obtain ⟨h3,h4⟩:=msk_some.mp h2
 refine msk_some.mpr ⟨fun ⟨j,z⟩=>?_,h4⟩
 rcases fS z with ⟨_,_,z⟩ | ⟨_,z⟩
 ·exact h1 z
 ·exact h3 ⟨j,z⟩
theorem qK {i : Nat} {k : OK} {x : Str} {e : Expr} {pos pos' : Pos} {F : Rho -> R D} (hN : X.N.Nodup) (hi : X.N[i]? = some x) (hx : Loc X.env.scope x) (he : KD C X k e F) (hs : swapsWith e (some (.Name x pos')) pos.line X.env = pure false := by rfl)
    (hf : X.fn x = true \/ X.env.scope.names.lookup x = some .local := by first | exact .inl rfl | exact .inr rfl | assumption) : SD C X (.Assign [.Name x pos'] e pos) (trS i k F) :=
  bF (nS hN hi hx he hs hf) fun D σ H yy => by
   obtain ⟨_, H0, ⟨ρ, rfl, r⟩, q⟩ := yy
   exact ⟨ρ, ⟨H0, r⟩, by
    unfold trS at q
    cases z : F ρ with
    | val d => rw [z] at q; exact fun v H' A s hA h => q _ _ ⟨_, rfl, r.setTre s hA h⟩
    | exc c => rw [z] at q; exact d9 r q
    | bad => rw [z] at q; exact q⟩
end
variable {C:Addr} {X:Cx}
theorem BF {a:Addr} {H:Hp} {o:HO} (h:H a=none):cut [a] (upd H a o)=H:=by
 funext b
 unfold cut
 by_cases hb:b=a
 ·rw [if_pos (by simp [hb]),hb,h]
 ·rw [if_neg (by simp [hb]),aH hb]
theorem z_ {a:Addr} {H:Hp} {o:HO} (h:H a=some o):upd (cut [a] H) a o=H:=by
 funext b
 by_cases hb:b=a
 ·rw [hb,ba,h]
 ·rw [aH hb];unfold cut;rw [if_neg (by simp [hb])]
theorem u5 {N':List Str} {scope:Scope} {n:Nat} (hchk:u7 X.N N' X.env scope=true) (hN:N'.length=X.N.length + n)
  {pins:List (Addr × Obj)} {σ:St} {H3:Hp} {s3:Shared} {fp:List Addr} (I3:Inv X pins σ H3 s3) (hfp:∀ b ∈ fp,b < s3.heap.objs.size) (f3:∀ b ∈ fp,p7 X pins H3 b) :
  Inv (cxC X N' scope s3.heap.objs.size (cellsFrom (s3.heap.objs.size + 1) scope.names (e8 X.env scope.names [])) s3 H3 fp) [] (σ ++ List.replicate n none) H3
   {s3 with heap:=pushCells (s3.heap.push { cls:=.type "dict",data:=.dict #[] }) scope.names }:=by
 obtain ⟨c1,hchk⟩:=Bool.and_eq_true_iff.mp hchk
 obtain ⟨c2,hchk⟩:=Bool.and_eq_true_iff.mp hchk
 obtain ⟨c3,hchk⟩:=Bool.and_eq_true_iff.mp hchk
 obtain ⟨c4,c5⟩:=Bool.and_eq_true_iff.mp hchk
 have hkind:scope.kind=.function:=by
  revert c5
  cases scope.kind <;> simp
 have keep:∀ b o,s3.heap.get? b=some o->(pushCells (s3.heap.push { cls:=.type "dict",data:=.dict #[] }) scope.names).get? b=some o:=fun b o e=>pushCells_keeps _ _ b o (Heap.get?_push_of_some _ e)
 have I4:Inv X pins σ H3 { s3 with heap:=pushCells (s3.heap.push { cls:=.type "dict",data:=.dict #[] }) scope.names }:=I3.kept (t':=s3.toks) keep
 have sz:(s3.heap.push { cls:=.type "dict",data:=.dict #[] }).objs.size=s3.heap.objs.size + 1:=Heap.size_push ..
 have fr:∀ x,(x,NameKind.free) ∈ scope.names->∃ c,X.env.cells.lookup x=some c:=fun x hx=>I3.ok.has x (rF (sd c2 hx))
 have cl_old:∀ x c,(e8 X.env scope.names []).lookup x=some c->X.env.cells.lookup x=some c:=fun x c e=>o7 e fun c' e'=>by cases e'
 have cl_lt:∀ x c,(e8 X.env scope.names []).lookup x=some c->c < s3.heap.objs.size:=fun x c e=>by
  obtain ⟨v,q⟩:=I3.cell x c (cl_old x c e)
  exact q.lt
 have look:∀ x c,(cellsFrom (s3.heap.objs.size + 1) scope.names (e8 X.env scope.names [])).lookup x=some c ->
   X.env.cells.lookup x=some c\/(s3.heap.objs.size + 1<=c/\(x,NameKind.cell) ∈ scope.names/\(pushCells (s3.heap.push { cls:=.type "dict",data:=.dict #[] }) scope.names).IsCell c none):=fun x c e=>by
  rcases nr e with q | ⟨q,m⟩
  ·exact .inl (cl_old x c q)
  ·rcases sg (h:=s3.heap.push { cls:=.type "dict",data:=.dict #[] }) (by rw [sz];exact e) with z | z
   ·exact absurd (Nat.lt_of_lt_of_le (cl_lt x c z) (Nat.le_of_succ_le q)) (Nat.lt_irrefl _)
   ·exact .inr ⟨q,m,z⟩
 have ok:(cxC X N' scope s3.heap.objs.size (cellsFrom (s3.heap.objs.size + 1) scope.names (e8 X.env scope.names [])) s3 H3 fp).Ok:=by
  refine ⟨I3.ok.mod,hkind,I3.ok.glob,I3.ok.blt,Nat.le_refl _,fun x y c e1 e2=>?_,fun x hx=>?_,fun x c hf e=>?_,I3.ok.hd,I3.ok.frames,.inl rfl,fun b hb=>⟨?_,fun x c e=>?_⟩,I3.bs,Nat.le_trans I3.ok.bsz I3.sz,fun b o e hb=>?_,fun b hb hz=>?_,I3.stack,I3.stkFree⟩
  ·exact u8 (fun x y c e1 e2=>I3.ok.inj x y c (cl_old x c e1) (cl_old y c e2)) (fun x c e=>Nat.lt_succ_of_lt (cl_lt x c e)) x y c e1 e2
  ·have hx:(relabel scope X.env).names.lookup x=some .cell\/(relabel scope X.env).names.lookup x=some .free:=hx
   rw [iC] at hx
   cases e:scope.names.lookup x with
   | none=>rw [e] at hx;rcases hx with z | z <;> cases z
   | some k =>
    rw [e] at hx
    have:k=.cell\/k=.free:=by
     rcases ln (env:=X.env) (x:=x) (k:=k) with ⟨z,_⟩ | ⟨_,z⟩
     ·exact .inr z
     ·rcases hx with y | y
      ·left;have:=Option.some.inj y;rw [z] at this;exact this
      ·right;have:=Option.some.inj y;rw [z] at this;exact this
    refine Option.isSome_iff_exists.mp (PySem.W.cellsFrom_some _ _ _ ?_)
    rcases this with rfl | rfl
    ·exact .inl e
    ·obtain ⟨c,ec⟩:=fr x (PySem.mem_of_lookup e)
     right
     rw [lQ ec (.inl (PySem.mem_of_lookup e))]
     rfl
  ·have hf:DM (scope.names.lookup x)=true:=hf
   have e0:scope.names.lookup x=some .cell:=by
    unfold DM at hf
    split at hf
    ·assumption
    ·cases hf
   rcases nr e with q | ⟨q,m⟩
   ·rcases qu q with z | z
    ·cases z
    ·have:=nq c3 z (.inr (.inl rfl));rw [e0] at this;cases this
   ·exact Nat.le_of_succ_le q
  ·exact Nat.ne_of_lt (hfp b hb)
  ·rcases look x c e with q | ⟨q,_,_⟩
   ·exact (f3 b hb).2.2.2.2.1 x c q
   ·exact fun z=>absurd (Nat.lt_of_lt_of_le (z ▸ hfp b hb) (Nat.le_of_succ_le q)) (Nat.lt_irrefl _)
  ·rcases (f3 b hb).2.2.2.1 with z | z
   ·exact I3.ok.noex b o e z
   ·exact absurd (Nat.lt_of_lt_of_le (Nat.lt_of_lt_of_le (Heap.lt_size e) I3.ok.bsz) z) (Nat.lt_irrefl _)
  ·have:=I3.stkSub b hz
   rcases List.mem_cons.mp this with z | z
   ·exact (f3 b hb).2.1 z
   ·exact (f3 b hb).2.2.1 z
 refine ⟨ok,rfl,I3.bare,Un.kept keep,⟨fun _=>none,(Heap.Ns.new s3.heap (.type "dict")).keeps (pushCells_keeps _ _),fun i x v h1 h2 h3=>?_⟩,fun x c e=>?_,I3.hok.fresh (Nat.le_refl _),fun x c e=>?_,fun p hp=>absurd (show p ∈ ([]:List (Addr × Obj)) from hp) (by simp),I4.hok,?_⟩
 ·have hl:=I3.len
  have hi:i < σ.length:=by
   by_cases hi:i < σ.length
   ·exact hi
   ·rw [List.getElem?_append_right (by omega),List.getElem?_replicate] at h2
    split at h2 <;> cases h2
  rw [List.getElem?_append_left hi] at h2
  have h3:Vis (relabel scope X.env) x:=h3
  obtain ⟨g1,g2⟩:=wx c1 h1
  rw [Nat.zero_add] at g1 g2
  have e0:scope.names.lookup x=some .free:=by
   unfold Vis at h3
   rw [iC] at h3
   cases e:scope.names.lookup x with
   | none=>rw [e] at h3;rcases h3 with z | z | z <;> cases z
   | some k =>
    rw [e] at h3
    rcases ln (env:=X.env) (x:=x) (k:=k) with ⟨z,_⟩ | ⟨z0,z⟩
    ·rw [z]
    ·exfalso
     have h3:some k=some NameKind.local\/some k=some NameKind.cell\/some k=some NameKind.free:=by
      have h4:some (reK X.env x k)=some NameKind.local\/some (reK X.env x k)=some NameKind.cell\/some (reK X.env x k)=some NameKind.free:=h3
      rw [z] at h4;exact h4
     rcases h3 with y | y | y
     ·have:=g2 (.inl (e.trans y));omega
     ·have:=g2 (.inr (e.trans y));omega
     ·exact z0 (Option.some.inj y)
  obtain ⟨e1,hk⟩:=g1 e0
  have hk:=rF hk
  obtain ⟨m0,hn0,hl0⟩:=I4.loc
  obtain ⟨u,ru,lk⟩:=hl0 i x v e1 h2 (.inr hk)
  refine ⟨u,ru,.inr ⟨?_,?_⟩⟩
  ·have:(relabel scope X.env).names.lookup x=some (reK X.env x .free):=by rw [iC,e0];rfl
   rcases ln (env:=X.env) (x:=x) (k:=.free) with ⟨_,z | z⟩ | ⟨z,_⟩
   ·rw [z] at this;exact .inr this
   ·rw [z] at this;exact .inl this
   ·exact absurd rfl z
  ·rcases lk with ⟨z,_⟩ | ⟨_,c,ec,q⟩
   ·rcases hk with y | y <;> (rw [z] at y;cases y)
   ·refine ⟨c,?_,q⟩
    show (cellsFrom _ scope.names _).lookup x=some c
    rw [se fun m=>by have:=nq c3 m (.inr (.inr rfl));rw [e0] at this;cases this]
    exact lQ ec (.inl (PySem.mem_of_lookup e0))
 ·rcases look x c e with q | ⟨_,_,q⟩
  ·exact I4.cell x c q
  ·exact ⟨_,q⟩
 ·rcases look x c e with q | ⟨q,_,_⟩
  ·exact I3.freeC x c q
  ·exact I3.hok.fresh (by omega)
 ·show _=N'.length
  rw [List.length_append,List.length_replicate,hN,I3.len]
abbrev cxA (X:Cx) (N':List Str) (scope:Scope) (a:Addr) (H2:Hp) (s3:Shared) (fp:List Addr):Cx:=cxC X N' scope s3.heap.objs.size (cellsFrom (s3.heap.objs.size + 1) scope.names (e8 X.env scope.names [])) s3 (upd H2 a (.lst [])) fp
def B_ (C:Addr) (X Y:Cx) (k:OK) (T:D->Rho->Option Rho) (t:Rho->R Bool) (e:Rho->R D) (n:Nat) (a:Addr) (H2:Hp) (σ:St) (ρ:RB) (fp:List Addr) (tn:Nat->Heap->Prop) (xs ds:List D) (m:Nat) (s:Shared):Prop :=
 ∃ (i:Nat) (σ':St) (H':Hp) (vs:List V) (ds1 ds2:List D) (A:List Addr),m=xs.length + 1 - i/\i<=xs.length /\
   Inv Y [] σ' H' s/\tn i s.heap/\(∀ b ∈ fp,H' b=none) /\
   (∀ j:Nat,j < ρ.rho.length->σ'[j]?=σ[j]?)/\H' a=some (.lst vs)/\Same H2 (cut (a :: A) H')/\TreP X.K C (msk ρ σ (cut (a :: A) H')) H' (vs.map fun _=>k) vs ds1 A/\a ∉ A /\
   jy T t e (xs.drop i) (ρ.rho ++ List.replicate n none)=.val ds2/\ds1 ++ ds2=ds/\vs.length<=i
theorem TreP.app {K:Frag} {M H:Hp} {k:OK} {v:V} {d:D} {B:List Addr} (h:Tre K C M H k v d B):∀ {ks:List OK} {vs:List V} {ds:List D} {A:List Addr},TreP K C M H ks vs ds A->(∀ a ∈ A,a ∉ B)->∃ A',(∀ a,a ∈ A' ↔ a ∈ A\/a ∈ B)/\TreP K C M H (ks ++ [k]) (vs ++ [v]) (ds ++ [d]) A'
 | _,_,_,_,.nil,_=>⟨B ++ [],fun a=>by simp,.cons h .nil fun _ _=>List.not_mem_nil⟩
 | _,_,_,_,.cons (A:=A1) (B:=A2) g t n,f=>by
  obtain ⟨A',h1,h2⟩:=TreP.app h t fun a ha=>f a (List.mem_append_right _ ha)
  refine ⟨A1 ++ A',fun a=>by rw [List.mem_append,List.mem_append,h1 a,or_assoc],.cons g h2 fun a ha hb=>?_⟩
  rcases (h1 a).mp hb with hb | hb
  ·exact n a ha hb
  ·exact f a (List.mem_append_left _ ha) hb
theorem o6 {k:OK} {tg elt iter:Expr} {ifs:List Expr} {scope:Scope} {pos:Pos} {N':List Str} {ix:List Nat} {T:D->Rho->Option Rho} {t:Rho->R Bool} {e:Rho->R D} {n:Nat}
  (hcalm:X.calm=true) (hchk:u7 X.N N' X.env scope=true) (hN:N'.length=X.N.length + n) (hix:∀ j ∈ ix,X.N.length<=j)
  (hg:∀ L cs s H fp,GD C (cxC X N' scope L cs s H fp) tg ix T) (ht:∀ L cs s H fp,uf C (cxC X N' scope L cs s H fp) ifs t) (he:∀ L cs s H fp,KD C (cxC X N' scope L cs s H fp) k elt e)
  {pins:List (Addr × Obj)} {σ:St} {H2 H0:Hp} {s2:Shared} {ρ:RB} {J:It} {fp:List Addr} {it:Addr} {tn:Nat->Heap->Prop} {xs ds:List D}
  (I2:Inv X pins σ H2 s2) (r2:eD C X H0 ρ σ H2) (TT:xA X.prog X.w X.K tg J fp it tn) (t0:tn 0 s2.heap) (f2:∀ b ∈ fp,p7 X pins H2 b) (wk:ue X.K C J xs (msk ρ σ H2)) (hlen:xs.length<=LIM)
  (hd:jy T t e xs (ρ.rho ++ List.replicate n none)=.val ds) {R:Value->Addr->Result->Shared->Prop} {E:Value->Shared->Prop}
  (hR:∀ a L vs A H' s1,Same H2 (cut (a :: A) H')->(∀ b ∈ a :: A,H2 b=none)->H' a=some (.lst vs)->a ∉ A->TreP X.K C (msk ρ σ (cut (a :: A) H')) H' (vs.map fun _=>k) vs ds A->Inv X pins σ H' s1->H' L=none->L ≠ X.env.locals->X.s₀.heap.objs.size<=L ->
   (∀ x c,X.env.cells.lookup x=some c->c ≠ L)->(∀ p ∈ X.pn ++ pins,p.1 ≠ L)->(∃ m,s1.heap.Ns L m)->R (.ref a) L (.ok .next) s1) :
  wpAny (model X.prog X.w) X.A (newList []) (fun acc s₃=>wpAny (model X.prog X.w) X.A (newFunctionEnv scope X.env.globals (e8 X.env scope.names []) [] X.env.qual none .none (some X.env)) (fun cenv s₄ =>
   codeAny (model X.prog X.w) X.A (.compStart (.ListComp elt [⟨tg,iter,ifs,0⟩] scope pos) 0 (.ref it) acc { cenv with scope:=relabel scope X.env }) (R acc cenv.locals) s₄) E s₃) E s2:=by
 refine wpAny_newObj_type (z7 ?_)
 have hfr2:H2 s2.heap.objs.size=none:=I2.fresh
 have I3:=I2.lnew (its:=[]) (ys:=[]) (t':=s2.toks) .nil (Nat.zero_le _)
 have hfp:∀ b ∈ fp,b < s2.heap.objs.size:=fun b hb=>by
  obtain ⟨o,eo,_⟩:=TT.obj 0 _ t0 b hb
  exact Heap.lt_size eo
 have sz3:(s2.heap.push { cls:=.type "list",data:=.seq ([]:List Value).toArray }).objs.size=s2.heap.objs.size + 1:=Heap.size_push ..
 have f3:∀ b ∈ fp,p7 X pins (upd H2 s2.heap.objs.size (.lst [])) b:=fun b hb=>⟨by rw [aH (Nat.ne_of_lt (hfp b hb))];exact (f2 b hb).1,(f2 b hb).2⟩
 have I4:=u5 (n:=n) hchk hN I3 (fun b hb=>by rw [sz3];exact Nat.lt_succ_of_lt (hfp b hb)) f3
 have keep:∀ b o,s2.heap.get? b=some o->(pushCells ((s2.heap.push { cls:=.type "list",data:=.seq ([]:List Value).toArray }).push { cls:=.type "dict",data:=.dict #[] }) scope.names).get? b=some o:=fun b o e =>
  pushCells_keeps _ _ b o (Heap.get?_push_of_some _ (Heap.get?_push_of_some _ e))
 have t4:tn 0 (pushCells ((s2.heap.push { cls:=.type "list",data:=.seq ([]:List Value).toArray }).push { cls:=.type "dict",data:=.dict #[] }) scope.names):=TT.keep 0 _ _ t0 fun b hb o e=>keep b o e
 generalize hs3:({ s2 with heap:=s2.heap.push { cls:=.type "list",data:=.seq ([]:List Value).toArray },toks:=s2.toks }:Shared)=s3 at I3 I4
 have hH3:({ s2 with heap:=s2.heap.push { cls:=.type "list",data:=.seq ([]:List Value).toArray },toks:=s2.toks }:Shared).heap=s3.heap:=by rw [hs3]
 have t4':tn 0 (pushCells (s3.heap.push { cls:=.type "dict",data:=.dict #[] }) scope.names):=by rw [<- hH3];exact t4
 have hrl:ρ.rho.length=X.N.length:=r2.len.trans I2.len
 generalize ha0:s2.heap.objs.size=a0 at *
 have loop:∀ s4:Shared,s4={ s3 with heap:=pushCells (s3.heap.push { cls:=.type "dict",data:=.dict #[] }) scope.names } ->
   codeAny (model X.prog X.w) X.A (.compLoop (.ListComp elt [⟨tg,iter,ifs,0⟩] scope pos) 0 (.ref it) (.ref a0) (Fe scope X.env s3.heap.objs.size (cellsFrom (s3.heap.objs.size + 1) scope.names (e8 X.env scope.names []))))
    (R (.ref a0) s3.heap.objs.size) s4:=by
  rintro s4 rfl
  refine r_ (B_ C X (cxA X N' scope a0 H2 s3 fp) k T t e n a0 H2 σ ρ fp tn xs ds) ?_ (xs.length + 1)
   ⟨0,_,_,[],[],ds,[],rfl,Nat.zero_le _,I4,t4',fun b hb=>(f3 b hb).1,fun j hj=>by rw [List.getElem?_append_left (by rw [<- r2.len];exact hj)],ba,by rw [BF hfr2];exact Same.refl _,.nil,List.not_mem_nil,hd,rfl,Nat.le_refl _⟩
  rintro m s ⟨i,σ',H',vs,ds1,ds2,A,rfl,hi,I,tni,hfn,hpre,ha,sm,hv,hnA,hc,hds,hvl⟩
  have lst:∀ z ∈ a0 :: A,∃ us,H' z=some (.lst us):=fun z hz=>by
   rcases List.mem_cons.mp hz with rfl | hz
   ·exact ⟨vs,ha⟩
   ·exact hv.lists z hz
  have Z:Hid H' s.heap (a0 :: A):=by
   refine ⟨fun z hz=>?_,fun z hz c dx fs q=>?_,fun z hz b q=>?_,fun z hz=>?_⟩
   ·obtain ⟨us,q⟩:=lst z hz;exact ⟨_,q,rfl⟩
   ·obtain ⟨us,q'⟩:=lst z hz;rw [q] at q';cases q'
   ·obtain ⟨us,q'⟩:=lst z hz;rw [q] at q';cases q'
   ·obtain ⟨us,q'⟩:=lst z hz
    obtain ⟨_,its,m,_,e1⟩:=I.hok _ _ q'
    exact ⟨_,e1,fun v q=>by cases q⟩
  have J0:=I.hide Z
  have hM:∀ b,H' b=none->cut (a0 :: A) H' b=none:=fun b q=>by unfold cut;split <;> first | rfl | exact q
  have stat:∀ {pn:List (Addr × Obj)} {G:Hp},(∀ b ∈ fp,G b=none)->(∀ p ∈ pn,∀ b ∈ fp,p.1 ≠ b)->∀ b ∈ fp,p7 (cxA X N' scope a0 H2 s3 fp) pn G b:=fun {pn G} h1 h2 b hb =>
   ⟨h1 b hb,(I.ok.exf b hb).1,I.ok.exfs b hb,.inl hb,(I.ok.exf b hb).2,fun p hp=>h2 p hp b hb⟩
  have pna:∀ p ∈ ([]:List (Addr × Obj)) ++ d8 (a0 :: A) s.heap,∀ b ∈ fp,p.1 ≠ b:=fun p hp b hb z=>by
   obtain ⟨q1,_⟩:=jP (show p ∈ d8 (a0 :: A) s.heap from hp)
   obtain ⟨us,q⟩:=lst _ q1
   rw [z,hfn b hb] at q;cases q
  have sM:Same (msk ρ σ H2) (cut (a0 :: A) H'):=msk_sub.trans sm
  by_cases hlt:i < xs.length
  ·have ex:xs[i]?=some xs[i]:=by simp [hlt]
   have ed:xs.drop i=xs[i] :: xs.drop (i + 1):=List.drop_eq_getElem_cons hlt
   obtain ⟨go,yld⟩:=wk.go i _ _ sM ex
   refine wpAny_mono (TT.item (cxA X N' scope a0 H2 s3 fp) rfl rfl rfl hcalm i _ s σ' _ (fun _ _=>False) J0 (stat (fun b hb=>hM b (hfn b hb)) pna) tni go) (fun r s1 zz0=>?_) fun _ _ z=>z
   obtain ⟨u,hr,h1⟩:=zz0
   subst hr
   refine thn h1 fun _ s5 zz1=>?_
   obtain ⟨x,H5,I5,r5,y5,t5,n5⟩:=zz1
   obtain ⟨s5',hx⟩:=yld x H5 y5
   have hx5:Has X.K C (msk ρ σ H5) x xs[i]:=hx ρ σ (fun b ob q=>by
    have h2:=r2.ownAt ob
    cases q2:H2 b with
    | none=>exact h2 q2
    | some o=>rw [sm b o q2] at q;cases q) (bc sm)
   have r5':=r2.mono (sm.trans s5')
   obtain ⟨re5,em5⟩:=As (m:=n) r5' (σ':=σ') (by have q:=I5.len;rw [hrl];exact q.trans hN) hpre
   have I5p:=I5.pinned (stat n5 pna) (TT.obj _ _ t5)
   rw [ed] at hc
   unfold jy at hc
   split at hc
   ·rename_i ρ1 eT
    have ix0:∀ j ∈ ix,(ρ.ext n).ad j=[]:=fun j hj=>by
     have h2:=hix j hj
     refine List.eq_nil_iff_forall_not_mem.mpr fun b hb=>?_
     have:=r2.bnd j b hb
     omega
    refine thn (hg _ _ _ _ _ _ s5 σ' H5 x u (fun σ6 H6=>H6=H5/\∃ β:RB,β.rho=ρ1/\(∀ j:Nat,β.ad j=if j ∈ ix then [] else (ρ.ext n).ad j)/\eD C X H0 β σ6 H5/\∀ j:Nat,j ∉ ix->σ6[j]?=σ'[j]?) I5p r5 ⟨_,H0,xs[i],ρ1,re5,by show Has _ _ (msk _ _ _) x _;rw [em5];exact hx5,eT,fun σ6 β q0 q3 q1 q2=>⟨rfl,β,q0,q3,q1,q2⟩⟩) fun _ s6 zz2=>?_
    obtain ⟨σ6,H6,I6,eH,β,eβ,aβ,r6,p6⟩:=zz2
    subst eH
    subst eβ
    have em6:msk β σ6=msk ρ σ:=(Du aβ ix0).trans em5
    have pre6:∀ j:Nat,j < ρ.rho.length->σ6[j]?=σ[j]?:=fun j hj=>by
     rw [p6 j fun z=>by have:=hix j z;omega];exact hpre j hj
    cases et:t β with
    | exc c=>rw [et] at hc;cases hc
    | bad=>rw [et] at hc;cases hc
    | val b =>
     rw [et] at hc
     refine thn (ht _ _ _ _ _ _ s6 σ6 H6 (fun b' H7=>b'=b/\Same H6 H7) I6 ⟨β,⟨H0,r6⟩,by rw [et];exact fun H7 q=>⟨rfl,q⟩⟩) fun b' s7 zz3=>?_
     obtain ⟨H7,I7,eb,s67⟩:=zz3
     subst eb
     have fin:∀ {s9:Shared} {H9:Hp} {vs':List V} {ds1' ds2':List D} {A':List Addr},Inv (cxA X N' scope a0 H2 s3 fp) (d8 fp s5.heap) σ6 H9 s9 ->
       H9 a0=some (.lst vs')->Same H2 (cut (a0 :: A') H9)->TreP X.K C (msk ρ σ (cut (a0 :: A') H9)) H9 (vs'.map fun _=>k) vs' ds1' A'->a0 ∉ A'->jy T t e (xs.drop (i + 1)) (ρ.rho ++ List.replicate n none)=.val ds2'->ds1' ++ ds2'=ds->vs'.length<=i + 1 ->
       ∃ m,m < xs.length + 1 - i/\B_ C X (cxA X N' scope a0 H2 s3 fp) k T t e n a0 H2 σ ρ fp tn xs ds m s9:=fun {s9 H9 vs' ds1' ds2' A'} I9 g1 g3 g4 g4' g5 g6 g7=>by
      refine ⟨xs.length + 1 - (i + 1),by omega,i + 1,σ6,H9,vs',ds1',ds2',A',rfl,hlt,I9.pins_of fun p hp=>absurd hp (by simp),TT.keep _ _ _ t5 fun b hb o eo=>(I9.pin (b,o) (List.mem_append_right _ (gz hb eo))).1,fun b hb=>?_,pre6,g1,g3,g4,g4',g5,g6,g7⟩
      obtain ⟨o,eo,_⟩:=TT.obj _ _ t5 b hb
      exact (I9.pin (b,o) (List.mem_append_right _ (gz hb eo))).2.1
     have h1pins:∀ p ∈ d8 (a0 :: A) s.heap,p ∈ (([]:List (Addr × Obj)) ++ d8 (a0 :: A) s.heap) ++ d8 fp s5.heap:=fun p hp=>List.mem_append_left _ hp
     have h2pins:∀ p ∈ d8 fp s5.heap,p ∈ (([]:List (Addr × Obj)) ++ d8 (a0 :: A) s.heap) ++ d8 fp s5.heap/\H' p.1=none:=fun p hp=>⟨List.mem_append_right _ hp,hfn _ (jP hp).1⟩
     have s57:Same (cut (a0 :: A) H') H7:=s5'.trans s67
     have back:∀ {G:Hp},Same (cut (a0 :: A) H') G->(∀ z ∈ a0 :: A,G z=none)->Stay A H' (jn (a0 :: A) H' G):=fun {G} sG mz=>⟨fun b hb o q=>by rw [jX (List.mem_cons_of_mem _ hb)];exact q,fun b us q=>by
      have nb:b ∉ a0 :: A:=fun hb=>by obtain ⟨ws,q'⟩:=lst b hb;rw [q] at q';cases q'
      rw [ci nb];exact sG b _ (cut_some.mpr ⟨nb,q⟩)⟩
     cases b' with
     | false =>
      rw [if_neg Bool.false_ne_true]
      obtain ⟨I8,mz⟩:=I.showG Z I7 h1pins h2pins
      have eJ:cut (a0 :: A) (jn (a0 :: A) H' H7)=H7:=by
       funext b
       by_cases hb:b ∈ a0 :: A
       ·rw [gJ hb,mz b hb]
       ·unfold cut;rw [if_neg hb,ci hb]
      exact fin (A':=A) I8 (by rw [jX List.mem_cons_self];exact ha) (by rw [eJ];exact sm.trans s57) (by rw [eJ];exact hv.stay (bc s57) (back s57 mz)) hnA hc hds (Nat.le_succ_of_le hvl)
     | true =>
      rw [if_pos rfl]
      cases ee:e β with
      | exc c=>rw [ee] at hc;cases hc
      | bad=>rw [ee] at hc;cases hc
      | val d =>
       rw [ee] at hc
       refine thn (he _ _ _ _ _ _ s7 σ6 H7 (fun y H8=>∃ B,Same H7 H8/\(∀ b ∈ B,H7 b=none)/\Tre X.K C (cut B (msk ρ σ H8)) H8 k y d B) I7 ⟨β,⟨H0,r6.mono s67⟩,by rw [ee];exact fun y H8 B q1 q2 q3=>⟨B,q1,q2,by rw [<- em6];exact q3⟩⟩) fun yv s8 zz4=>?_
       obtain ⟨y,H8,I8,ry,B,s78,hB,hy⟩:=zz4
       obtain ⟨I9,mz⟩:=I.showG Z I8 h1pins h2pins
       have s8':Same (cut (a0 :: A) H') H8:=s57.trans s78
       cases ec:jy T t e (xs.drop (i + 1)) (ρ.rho ++ List.replicate n none) with
       | exc c=>simp only [noE,DL.R.bind,ec,if_true] at hc;cases hc
       | bad=>simp only [noE,DL.R.bind,ec,if_true] at hc;cases hc
       | val ds3 =>
        simp only [noE,DL.R.bind,ec,if_true] at hc
        cases hc
        refine thn (lE _ s8 σ6 _ (.ref a0) [y] (.ref a0) [yv] (fun _ H9=>H9=upd (jn (a0 :: A) H' H8) a0 (.lst (vs ++ [y]))) I9 rfl (.cons ry .nil)
         ⟨_,vs,y,rfl,rfl,by rw [jX List.mem_cons_self];exact ha,Dy (by omega),rfl⟩) fun _ s9 ⟨_,H9,I10,_,eH9⟩=>?_
        have lB:∀ b ∈ B,b ∉ a0 :: A:=fun b hb hz=>by
         obtain ⟨us,q⟩:=hy.lists b hb
         rw [mz b hz] at q;cases q
        have at9:∀ b,b ≠ a0->H9 b=jn (a0 :: A) H' H8 b:=fun b hb=>by rw [eH9,aH hb]
        have eJ:∀ A',(∀ b,b ∈ A' ↔ b ∈ A\/b ∈ B)->cut (a0 :: A') H9=cut B H8:=fun A' hA'=>by
         funext b
         by_cases hb:b ∈ a0 :: A
         ·have:b ∈ a0 :: A':=by
           rcases List.mem_cons.mp hb with z | z
           ·exact z ▸ List.mem_cons_self
           ·exact List.mem_cons_of_mem _ ((hA' b).mpr (.inl z))
          rw [gJ this]
          unfold cut
          split
          ·rfl
          ·exact (mz b hb).symm
         ·have nb:b ≠ a0:=fun z=>hb (z ▸ List.mem_cons_self)
          by_cases hb2:b ∈ B
          ·rw [gJ hb2,gJ (List.mem_cons_of_mem _ ((hA' b).mpr (.inr hb2)))]
          ·have:b ∉ a0 :: A':=fun z=>by
            rcases List.mem_cons.mp z with z | z
            ·exact nb z
            ·rcases (hA' b).mp z with z | z
             ·exact hb (List.mem_cons_of_mem _ z)
             ·exact hb2 z
           unfold cut
           rw [if_neg this,if_neg hb2,at9 b nb,ci hb]
        have sB:Same (cut (a0 :: A) H') (cut B H8):=fun b o q=>cut_some.mpr ⟨fun hb=>absurd (hB b hb) (by rw [s57 b o q];exact fun z=>by cases z),s8' b o q⟩
        have st1:Stay A H' H9:=by
         refine ⟨fun b hb o q=>?_,fun b us q=>?_⟩
         ·rw [at9 b fun z=>hnA (z ▸ hb)];exact (back s8' mz).at_ b hb o q
         ·rw [at9 b fun z=>by rw [z,ha] at q;cases q];exact (back s8' mz).tup b us q
        have st2:Stay B H8 H9:=by
         refine ⟨fun b hb o q=>?_,fun b us q=>?_⟩
         ·rw [at9 b fun z=>lB b hb (z ▸ List.mem_cons_self),ci (lB b hb)];exact q
         ·have nb:b ∉ a0 :: A:=fun hz=>by rw [mz b hz] at q;cases q
          rw [at9 b fun z=>nb (z ▸ List.mem_cons_self),ci nb];exact q
        have g1:TreP X.K C (msk ρ σ (cut B H8)) H9 (vs.map fun _=>k) vs ds1 A:=hv.stay (bc sB) st1
        have g2:Tre X.K C (msk ρ σ (cut B H8)) H9 k y d B:=hy.stay (by rw [kG];exact Same.refl _) st2
        obtain ⟨A',hA',g3⟩:=TreP.app g2 g1 fun b hb hb2=>lB b hb2 (List.mem_cons_of_mem _ hb)
        refine fin (A':=A') (vs':=vs ++ [y]) (ds1':=ds1 ++ [d]) (ds2':=ds3) I10 (by rw [eH9];exact ba) (by rw [eJ A' hA'];exact sm.trans sB) (by rw [eJ A' hA',List.map_append];exact g3) (fun z=>?_) ec (by rw [<- hds];simp) (by rw [List.length_append,List.length_singleton];omega)
        rcases (hA' a0).mp z with z | z
        ·exact hnA z
        ·exact lB a0 z List.mem_cons_self
   ·cases hc
  ·have ei:i=xs.length:=by omega
   subst ei
   rw [List.drop_length] at hc
   cases hc
   rw [List.append_nil] at hds
   subst hds
   refine wpAny_mono (TT.done (cxA X N' scope a0 H2 s3 fp) rfl rfl rfl hcalm xs.length _ s σ' _ (fun _ _=>False) J0 (stat (fun b hb=>hM b (hfn b hb)) pna) tni (wk.stop _ sM)) (fun r s1 zz5=>?_) fun _ _ z=>z
   obtain ⟨hr,I1⟩:=zz5
   subst hr
   obtain ⟨Ie,_⟩:=I.show' Z I1
   have eH:jn (a0 :: A) H' (cut (a0 :: A) H')=H':=by
    funext b
    by_cases hb:b ∈ a0 :: A
    ·rw [jX hb]
    ·rw [ci hb];unfold cut;rw [if_neg hb]
   rw [eH] at Ie
   have IX:Inv X pins σ H' s1:=I3.call' Ie.os Ie.base Ie.hok Ie.bare fun b hb=>⟨(f3 b hb).2.2.2.1,(f3 b hb).2.1,(f3 b hb).2.2.2.2.1,(f3 b hb).2.2.2.2.2⟩
   obtain ⟨m,hm,_⟩:=Ie.loc
   refine hR _ _ vs A H' s1 sm (fun b hb=>gm sm (gJ hb)) ha hnA hv IX Ie.free (Nat.ne_of_gt I3.lt) I3.sz (fun x c q z=>?_) (fun p hp z=>?_) ⟨m,hm⟩
   ·obtain ⟨v,q⟩:=I3.cell x c q
    exact absurd (z ▸ q.lt) (Nat.lt_irrefl _)
   ·exact absurd (z ▸ Heap.lt_size (I3.pin p hp).1) (Nat.lt_irrefl _)
 exact codeAny_compStart_list (loop _ rfl) (TT.self X.A 0 _ _ _ t4' (loop _ rfl))
end DL
namespace DL
open PySem PySem.Spec PyProof.Rows L2
variable {C:Addr} {X:Cx}
def bo (src:Rho->R (List D)) (n:Nat) (T:D->Rho->Option Rho) (t:Rho->R Bool) (e:Rho->R D):Rho->R (List D):=fun ρ=>(src ρ).bind fun xs=>if xs.length<=LIM then noE (jy T t e xs (ρ ++ List.replicate n none)) else .bad
theorem tZ {k:OK} {src:Rho->R (List D)} {n:Nat} {T:D->Rho->Option Rho} {t:Rho->R Bool} {e:Rho->R D} {σ:St} {H:Hp} {Q:VK} {ρ:RB} {H0:Hp} (r:eD C X H0 ρ σ H) (q:pK C X (.l k) ρ (eLs (bo src n T t e) ρ) σ H Q) :
  itI C X src σ H fun J H2=>∃ xs ds,Same H H2/\eD C X H0 ρ σ H2/\ue X.K C J xs (msk ρ σ H2)/\xs.length<=LIM/\jy T t e xs (ρ.rho ++ List.replicate n none)=.val ds/\∀ v H' A,Same H2 H'->(∀ a ∈ A,H2 a=none)->Tre X.K C (cut A (msk ρ σ H')) H' (.l k) v (.lst ds) A->Q v H':=by
 refine ⟨ρ,⟨H0,r⟩,?_⟩
 unfold eLs Dx bo at q
 cases es:src ρ with
 | exc c=>rw [es] at q;exact q
 | bad=>rw [es] at q;exact q
 | val xs =>
  rw [es] at q
  intro J H2 s2 wk
  simp only [DL.R.bind] at q
  by_cases hl:xs.length<=LIM
  ·rw [if_pos hl] at q
   cases ec:jy T t e xs (ρ.rho ++ List.replicate n none) with
   | val ds=>rw [ec] at q;exact ⟨xs,ds,s2,r.mono s2,wk,hl,ec,fun v H' A s1 h1 h2=>q v H' A (s2.trans s1) (fun a ha=>gm s2 (h1 a ha)) h2⟩
   | exc c=>rw [ec] at q;exact q.elim
   | bad=>rw [ec] at q;exact q.elim
  ·rw [if_neg hl] at q;exact q.elim
theorem BR {F:Rho->R (List D)} {σ:St} {H:Hp} {Q:VK} (h:teF C X F σ H Q):teK C X (.l .s) (eLs F) σ H Q:=by
 obtain ⟨ρ,⟨H0,r⟩,q⟩:=h
 refine ⟨ρ,⟨H0,r⟩,?_⟩
 unfold eLs
 cases e:F ρ with
 | val xs =>
  rw [e] at q
  intro v H' A s1 hA h1
  cases h1 with
  | @l _ a vs _ _ ha hp _ =>
   obtain ⟨eA,hl⟩:=hp.flat
   subst eA
   have q2:=q a vs (cut [a] H') (fun b o eb=>cut_some.mpr ⟨fun hb=>Option.some_ne_none _ (eb.symm.trans (hA b hb)),s1 b o eb⟩) (gJ (List.mem_singleton.mpr rfl)) (by show HasL _ _ (msk ρ σ _) vs xs;rw [kG];exact hl)
   rw [z_ ha] at q2
   exact q2
 | exc c=>rw [e] at q;exact q
 | bad=>rw [e] at q;exact q
section
variable {tg elt iter:Expr} {ifs:List Expr} {scope:Scope} {pos:Pos} {N':List Str} {ix:List Nat} {T:D->Rho->Option Rho} {t:Rho->R Bool} {e:Rho->R D} {n:Nat} {src:Rho->R (List D)}
theorem qw (hchk:u7 X.N N' X.env scope=true):(∀ x,(x,NameKind.free) ∈ scope.names->kc (X.env.kindOf x)=true)/\scope.kind=.function/\∀ x ∈ scope.names,x.2=.local->scope.names.lookup x.1=some .local:=by
 obtain ⟨c1,hchk⟩:=Bool.and_eq_true_iff.mp hchk
 obtain ⟨c2,hchk⟩:=Bool.and_eq_true_iff.mp hchk
 obtain ⟨c3,hchk⟩:=Bool.and_eq_true_iff.mp hchk
 obtain ⟨c4,c5⟩:=Bool.and_eq_true_iff.mp hchk
 refine ⟨fun x hx=>sd c2 hx,?_,fun x hx hl=>?_⟩
 ·revert c5
  cases scope.kind <;> simp
 ·obtain ⟨n,k⟩:=x
  have hl:k=.local:=hl
  subst hl
  exact nq c3 hx (.inl rfl)
theorem Bb {k:OK} (hcalm:X.calm=true) (hchk:u7 X.N N' X.env scope=true) (hN:N'.length=X.N.length + n) (hix:∀ j ∈ ix,X.N.length<=j) (hi:ID C X tg iter src)
  (hg:∀ L cs s H fp,GD C (cxC X N' scope L cs s H fp) tg ix T) (ht:∀ L cs s H fp,uf C (cxC X N' scope L cs s H fp) ifs t) (he:∀ L cs s H fp,KD C (cxC X N' scope L cs s H fp) k elt e)
  (hs:∀ x,foldedSetIterable iter X.env x=pure x:=by intro _;rfl):KD C X (.l k) (.ListComp elt [⟨tg,iter,ifs,0⟩] scope pos) (eLs (bo src n T t e)):=by
 rintro pins s σ H Q I ⟨ρ,⟨H0,r⟩,q⟩
 obtain ⟨c2,hkind,hnames⟩:=qw hchk
 rw [eval_ListComp]
 refine wpAny_comprehension_free (use:=none) rfl hs (wv fun x hx=>I.ok.has x (rF (c2 x hx))) hkind hnames ?_
 show wpAny _ _ (eval iter X.env) _ _ s
 refine thn (hi pins s σ H _ I (tZ r q)) fun v s1 h1=>thn h1 fun itv s2 zz0=>?_
 obtain ⟨it,fp,tn,J,H2,ei,I2,TT,t0,f2,xs,ds,s2',r2,wk,hl,hd,hq⟩:=zz0
 subst ei
 refine o6 (R:=fun acc L=>compPost (model X.prog X.w) X.A X.xe none (EP X pins σ Q) acc L) hcalm hchk hN hix hg ht he I2 r2 TT t0 f2 wk hl hd ?_
 rintro a L vs A H' s1 sf hA ha hn hv IX uL lne lsz lc lp ⟨m,hm⟩
 refine ⟨m,hm,fun h' hs'=>⟨.ref a,_,IX.turned (t':=s1.toks) (fun b o hb eo=>(hs'.2 b hb).trans eo) uL lne (.inr lsz) lc lp,rfl,hq _ H' (a :: A) (sf.trans rZ) hA (.l ha (by rw [<- kG];exact hv) hn)⟩⟩
theorem dl (hcalm:X.calm=true) (hchk:u7 X.N N' X.env scope=true) (hN:N'.length=X.N.length + n) (hix:∀ j ∈ ix,X.N.length<=j) (tk:BO ix T) (hi:ID C X tg iter src)
  (hg:∀ L cs s H fp,GD C (cxC X N' scope L cs s H fp) tg ix T) (ht:∀ L cs s H fp,uf C (cxC X N' scope L cs s H fp) ifs t) (he:∀ L cs s H fp,ED C (cxC X N' scope L cs s H fp) elt e)
  (hs:∀ x,foldedSetIterable iter X.env x=pure x:=by intro _;rfl):FD C X (.ListComp elt [⟨tg,iter,ifs,0⟩] scope pos) (bo src n T t e) :=
 aQ (Bb hcalm hchk hN hix hi hg ht (fun L cs s H fp=>vU (he L cs s H fp)) hs) fun σ H Q h=>BR h
theorem mt {k:OK} {i:Nat} {y:Str} {py spos:Pos} (hy:PG X (.Name y py) (i6 i)) (hcalm:X.calm=true) (hchk:u7 X.N N' X.env scope=true) (hN:N'.length=X.N.length + n) (hix:∀ j ∈ ix,X.N.length<=j) (hi:ID C X tg iter src)
  (hg:∀ L cs s H fp,GD C (cxC X N' scope L cs s H fp) tg ix T) (ht:∀ L cs s H fp,uf C (cxC X N' scope L cs s H fp) ifs t) (he:∀ L cs s H fp,KD C (cxC X N' scope L cs s H fp) k elt e)
  (hsw:swapsWith (.ListComp elt [⟨tg,iter,ifs,0⟩] scope pos) (some (.Name y py)) spos.line X.env=pure true)
  (hs:∀ x,foldedSetIterable iter X.env x=pure x:=by intro _;rfl):PS X (.Assign [.Name y py] (.ListComp elt [⟨tg,iter,ifs,0⟩] scope pos) spos) (uv (teK C X (.l k) (eLs (bo src n T t e))) (i6 i)):=by
 rintro pins s σ H Dn I ⟨ρ,⟨H0,r⟩,q⟩
 obtain ⟨c2,hkind,hnames⟩:=qw hchk
 rw [exec_Assign_Name_used _ _ _ _ hsw]
 refine wpAny_bind (wpAny_standAt (wpAny_bind ?_))
 show wpAny _ _ (do let _ <- comprehension (.ListComp elt [⟨tg,iter,ifs,0⟩] scope pos) scope X.env _ (newList []) false (eval iter X.env) (some (assign (.Name y py) X.env))) _ _ s
 refine wpAny_bind (wpAny_mono (wpAny_comprehension_free (use:=some (assign (.Name y py) X.env)) (Q:=fun _ s'=>SP X pins Dn .next s') rfl hs (wv fun x hx=>I.ok.has x (rF (c2 x hx))) hkind hnames ?_) (fun _ s' hq=>wpAny_pure (wpAny_pure hq)) fun _ _ z=>z)
 refine thn (hi pins s σ H _ I (tZ r q)) fun v s1 h1=>thn h1 fun itv s2 zz1=>?_
 obtain ⟨it,fp,tn,J,H2,ei,I2,TT,t0,f2,xs,ds,s2',r2,wk,hl,hd,hq⟩:=zz1
 subst ei
 refine o6 (R:=fun acc L=>compPost (model X.prog X.w) X.A X.xe (some (assign (.Name y py) X.env)) (fun _ s'=>SP X pins Dn .next s') acc L) hcalm hchk hN hix hg ht he I2 r2 TT t0 f2 wk hl hd ?_
 rintro a L vs A H' s1 sf hA ha hn hv IX uL lne lsz lc lp ⟨m,hm⟩
 obtain ⟨oL,esL,epL,eoL,edL,restL⟩:=id hm
 have nfs:L ∉ X.fs:=fun z=>by
  obtain ⟨_,o,ho,_⟩:=I.ok.funs.mem z
  exact absurd (Nat.lt_of_lt_of_le (Heap.lt_size ho) lsz) (Nat.lt_irrefl _)
 have IP:Inv X (pins ++ [(L,oL)]) σ H' s1:=IX.pins_of fun p hp=>by
  rcases List.mem_append.mp hp with hp | hp
  ·exact IX.pin p (List.mem_append_right _ hp)
  ·have:p=(L,oL):=by simpa using hp
   subst this
   exact ⟨eoL,uL,lne,nfs,fun v z=>by rw [edL] at z;cases z⟩
 show wpAny _ _ (assign (.Name y py) X.env (.ref a)) _ _ s1
 refine thn (hy _ s1 σ _ (.ref a) (.ref a) Dn.nx IP rfl (hq _ H' (a :: A) (sf.trans rZ) hA (.l ha (by rw [<- kG];exact hv) hn))) fun _ s2 zz2=>?_
 obtain ⟨σ',H',I',qn⟩:=zz2
 have pL:=I'.pin (L,oL) (List.mem_append_right _ (List.mem_append_right _ (by simp)))
 have I'':Inv X pins σ' H' s2:=I'.unpinned
 refine ⟨m,⟨oL,esL,epL,pL.1,edL,restL⟩,fun h' hs'=>⟨σ',H',I''.turned (t':=s2.toks) (fun b o hb eo=>(hs'.2 b hb).trans eo) pL.2.1 lne (.inr lsz) lc lp,qn⟩⟩
theorem dU {i:Nat} {y:Str} {py spos:Pos} (hy:PG X (.Name y py) (i6 i)) (hcalm:X.calm=true) (hchk:u7 X.N N' X.env scope=true) (hN:N'.length=X.N.length + n) (hix:∀ j ∈ ix,X.N.length<=j) (tk:BO ix T) (hi:ID C X tg iter src)
  (hg:∀ L cs s H fp,GD C (cxC X N' scope L cs s H fp) tg ix T) (ht:∀ L cs s H fp,uf C (cxC X N' scope L cs s H fp) ifs t) (he:∀ L cs s H fp,ED C (cxC X N' scope L cs s H fp) elt e)
  (hsw:swapsWith (.ListComp elt [⟨tg,iter,ifs,0⟩] scope pos) (some (.Name y py)) spos.line X.env=pure true)
  (hs:∀ x,foldedSetIterable iter X.env x=pure x:=by intro _;rfl):PS X (.Assign [.Name y py] (.ListComp elt [⟨tg,iter,ifs,0⟩] scope pos) spos) (uv (teF C X (bo src n T t e)) (i6 i)) :=
 bF (mt hy hcalm hchk hN hix hi hg ht (fun L cs s H fp=>vU (he L cs s H fp)) hsw hs) fun D σ H h=>BR h
theorem Aj {i : Nat} {k : OK} {st : Stmt} {F : Rho -> R D} (h : PS X st (uv (teK C X k F) (i6 i))) : SD C X st (trS i k F) :=
  bF h fun D σ H yy => by
   obtain ⟨_, H0, ⟨ρ, rfl, r⟩, q⟩ := yy
   exact ⟨ρ, ⟨H0, r⟩, by
    unfold trS at q
    cases z : F ρ with
    | val d => rw [z] at q; exact fun v H' A s hA h => q _ _ ⟨_, rfl, r.setTre s hA h⟩
    | exc c => rw [z] at q; exact d9 r q
    | bad => rw [z] at q; exact q⟩
theorem iw {i : Nat} {st : Stmt} {F : Rho -> R (List D)} (h : PS X st (uv (teF C X F) (i6 i))) : SD C X st (asg i (eLs F)) :=
  bF h fun D σ H yy0 => by
   obtain ⟨_, H0, ⟨ρ, rfl, r⟩, q⟩ := yy0
   exact ⟨ρ, ⟨H0, r⟩, by
    unfold asg eLs Dx at q
    cases e : F ρ with
    | val xs =>
      rw [e] at q
      exact fun a vs H1 s1 hn h1 => q _ _ ⟨_, rfl, (r.mono (s1.trans (aX hn))).setShr (.lst ((r.mono s1).new hn) (h1.mono (bc (aX hn))))⟩
    | exc c => rw [e] at q; exact d9 r q
    | bad => rw [e] at q; exact q⟩
theorem Ak {i : Nat} {st : Stmt} {F : Rho -> R (List D)} (h : PS X st (uv (teF C X F) (i6 i))) : SD C X st (own i F) :=
  bF h fun D σ H yy1 => by
   obtain ⟨_, H0, ⟨ρ, rfl, r⟩, q⟩ := yy1
   exact ⟨ρ, ⟨H0, r⟩, by
    unfold own at q
    cases e : F ρ with
    | val xs =>
      rw [e] at q
      exact fun a vs H1 s1 hn h1 => q _ _ ⟨_, rfl, (r.mono s1).setOwn hn h1⟩
    | exc c => rw [e] at q; exact d9 r q
    | bad => rw [e] at q; exact q⟩
end
end DL
namespace DL
open PySem PySem.Spec PyProof.Rows L2
def eqb:Nat->D->Bool
 | _,.non=>true
 | _,.bl _=>true
 | _,.int _=>true
 | n + 1,.lst xs=>xs.all (eqb n)
 | n + 1,.tup xs=>xs.all (eqb n)
 | _,_=>false
def pyq:Nat->D->D->Bool
 | _,.non,.non=>true
 | _,.bl a,.bl b=>a == b
 | _,.bl a,.int b=>(if a then 1 else 0) == b
 | _,.int a,.bl b=>a == (if b then 1 else 0)
 | _,.int a,.int b=>a == b
 | n + 1,.lst xs,.lst ys=>decide (xs.length=ys.length) && (List.range xs.length).all fun j=>pyq n (xs.getD j .non) (ys.getD j .non)
 | n + 1,.tup xs,.tup ys=>decide (xs.length=ys.length) && (List.range xs.length).all fun j=>pyq n (xs.getD j .non) (ys.getD j .non)
 | _,_,_=>false
theorem qV (n:Nat) (xs ys:List D):pyq (n + 1) (.lst xs) (.lst ys)=(decide (xs.length=ys.length) && (List.range xs.length).all fun j=>pyq n (xs.getD j .non) (ys.getD j .non)):=rfl
theorem qT (n:Nat) (xs ys:List D):pyq (n + 1) (.tup xs) (.tup ys)=(decide (xs.length=ys.length) && (List.range xs.length).all fun j=>pyq n (xs.getD j .non) (ys.getD j .non)):=rfl
section
variable {K:Frag} {C:Addr} {H:Hp}
theorem HasL.inj {n:Nat} (ih:∀ {v:V} {x y:D},eqb n x=true->eqb n y=true->Has K C H v x->Has K C H v y->x=y):∀ {vs:List V} {xs ys:List D},xs.all (eqb n)=true->ys.all (eqb n)=true->HasL K C H vs xs->HasL K C H vs ys->xs=ys
 | _,_,_,_,_,.nil,.nil=>rfl
 | _,_,_,h1,h2,.cons a b,.cons c d=>by
  rw [List.all_cons,Bool.and_eq_true] at h1 h2
  rw [ih h1.1 h2.1 a c,HasL.inj ih h1.2 h2.2 b d]
theorem Has.inj:∀ {n:Nat} {v:V} {x y:D},eqb n x=true->eqb n y=true->Has K C H v x->Has K C H v y->x=y:=by
 intro n
 induction n with
 | zero =>
  intro v x y h1 h2 a b
  cases a <;> cases b <;> first | rfl | cases h1 | cases h2
 | succ n ih =>
  intro v x y h1 h2 a b
  cases a with
  | non=>cases b;rfl
  | bl _=>cases b;rfl
  | int _=>cases b;rfl
  | lst e1 g1 =>
   cases b with
   | lst e2 g2=>rw [e1] at e2;cases e2;rw [HasL.inj ih h1 h2 g1 g2]
   | tup e2 g2=>rw [e1] at e2;cases e2
   | ob _ _ _ _=>cases h2
   | scr _=>cases h2
   | exn _=>cases h2
  | tup e1 g1 =>
   cases b with
   | tup e2 g2=>rw [e1] at e2;cases e2;rw [HasL.inj ih h1 h2 g1 g2]
   | lst e2 g2=>rw [e1] at e2;cases e2
   | ob _ _ _ _=>cases h2
   | scr _=>cases h2
   | exn _=>cases h2
  | ob _ _ _ _=>cases h1
  | scr _=>cases h1
  | exn _=>cases h1
theorem sN:∀ {n:Nat} {x:D},eqb n x=true->pyq n x x=true:=by
 intro n
 induction n with
 | zero =>
  intro x h
  cases x with
  | non=>rfl
  | bl b=>exact beq_self_eq_true _
  | int b=>exact beq_self_eq_true _
  | _=>cases h
 | succ n ih =>
  intro x h
  cases x with
  | non=>rfl
  | bl b=>exact beq_self_eq_true _
  | int b=>exact beq_self_eq_true _
  | lst xs =>
   rw [qV]
   simp only [decide_true,Bool.true_and,List.all_eq_true,List.mem_range]
   intro j hj
   have h:xs.all (eqb n)=true:=h
   rw [List.all_eq_true] at h
   have e:xs.getD j .non=xs[j]:=by simp [List.getD,List.getElem?_eq_getElem hj]
   rw [e]
   exact ih (h _ (List.getElem_mem hj))
  | tup xs =>
   rw [qT]
   simp only [decide_true,Bool.true_and,List.all_eq_true,List.mem_range]
   intro j hj
   have h:xs.all (eqb n)=true:=h
   rw [List.all_eq_true] at h
   have e:xs.getD j .non=xs[j]:=by simp [List.getD,List.getElem?_eq_getElem hj]
   rw [e]
   exact ih (h _ (List.getElem_mem hj))
  | ob _ _ _=>cases h
  | scr _=>cases h
  | exn _=>cases h
end
open SeqAt in
theorem B8 {X:Cx} {C:Addr} {H:Hp} {s:Shared} {n:Nat} {A:Around} {xs ys:List D} {vs ws:List V} {its its2:List Value}
  (ih:∀ {x y:D} {v w:V} {u t:Value},eqb n x=true->eqb n y=true->Has X.K C H v x->Has X.K C H w y->RelV v u->RelV w t->EqAt A s u t (pyq n x y))
  (h1:∀ x ∈ xs,eqb n x=true) (h2:∀ x ∈ ys,eqb n x=true) (g1:HasL X.K C H vs xs) (g2:HasL X.K C H ws ys) (r:Vals vs its) (r2:Vals ws its2) (j:Nat) (h1':j < its.toArray.size) (h2':j < its2.toArray.size) :
  EqAt A s its.toArray[j] its2.toArray[j] (pyq n (xs.getD j .non) (ys.getD j .non)):=by
 have j1:j < xs.length:=by rw [<- g1.len,r.length];exact h1'
 have j2:j < ys.length:=by rw [<- g2.len,r2.length];exact h2'
 obtain ⟨vj,ev,hv⟩:=g1.get (List.getElem?_eq_getElem j1)
 obtain ⟨wj,ew,hw⟩:=g2.get (List.getElem?_eq_getElem j2)
 obtain ⟨uj,eu,ruj⟩:=r.get ev
 obtain ⟨tj,et,rtj⟩:=r2.get ew
 have eu':its.toArray[j]=uj:=(List.getElem?_eq_some_iff.mp eu).2
 have et':its2.toArray[j]=tj:=(List.getElem?_eq_some_iff.mp et).2
 have ex:xs.getD j .non=xs[j]:=by rw [List.getD,List.getElem?_eq_getElem j1];rfl
 have ey:ys.getD j .non=ys[j]:=by rw [List.getD,List.getElem?_eq_getElem j2];rfl
 rw [eu',et',ex,ey]
 exact ih (h1 _ (List.getElem_mem j1)) (h2 _ (List.getElem_mem j2)) hv hw ruj rtj
open SeqAt in
theorem vd {X:Cx} {C:Addr} {pins:List (Addr × Obj)} {σ:St} {H:Hp} {s:Shared} (I:Inv X pins σ H s):∀ (n:Nat) {A:Around} {x y:D} {v w:V} {u t:Value},A.units + n < cLine->eqb n x=true->eqb n y=true->Has X.K C H v x->Has X.K C H w y->RelV v u->RelV w t ->
  RcAt A s u t (pyq n x y)/\EqAt A s u t (pyq n x y)/\RcNeAt A s u t (!pyq n x y):=by
 intro n
 induction n with
 | zero =>
  intro A x y v w u t hu h1 h2 a b ru rt
  cases a with
  | non =>
   cases ru
   cases b with
   | non=>cases rt;exact ⟨RcAt.none_none,EqAt.same _,RcNeAt.none_none⟩
   | bl _=>cases rt;exact ⟨RcAt.none_bool _,EqAt.none_bool _,RcNeAt.none_bool _⟩
   | int _=>obtain ⟨_,rfl⟩:=rt;exact ⟨RcAt.none_int _ _,EqAt.none_int _ _,RcNeAt.none_int _ _⟩
   | _=>cases h2
  | bl _ =>
   cases ru
   cases b with
   | non=>cases rt;exact ⟨RcAt.bool_none _,EqAt.bool_none _,RcNeAt.bool_none _⟩
   | bl _=>cases rt;exact ⟨RcAt.bool_bool _ _,EqAt.bool_bool _ _,RcNeAt.bool_bool _ _⟩
   | int _=>obtain ⟨_,rfl⟩:=rt;exact ⟨RcAt.bool_int _ _ _,EqAt.bool_int _ _ _,RcNeAt.bool_int _ _ _⟩
   | _=>cases h2
  | int _ =>
   obtain ⟨_,rfl⟩:=ru
   cases b with
   | non=>cases rt;exact ⟨RcAt.int_none _ _,EqAt.int_none _ _,RcNeAt.int_none _ _⟩
   | bl _=>cases rt;exact ⟨RcAt.int_bool _ _ _,EqAt.int_bool _ _ _,RcNeAt.int_bool _ _ _⟩
   | int _=>obtain ⟨_,rfl⟩:=rt;exact ⟨RcAt.int_int _ _ _ _,EqAt.int_int _ _ _ _,RcNeAt.int_int _ _ _ _⟩
   | _=>cases h2
  | _=>cases h1
 | succ n ih =>
  intro A x y v w u t hu h1 h2 a b ru rt
  have hA:A.units < cLine:=by omega
  have hin:A.in1.units + n < cLine:=by show A.units + 1 + n < cLine;omega
  cases a with
  | non =>
   cases ru
   cases b with
   | non=>cases rt;exact ⟨RcAt.none_none,EqAt.same _,RcNeAt.none_none⟩
   | bl _=>cases rt;exact ⟨RcAt.none_bool _,EqAt.none_bool _,RcNeAt.none_bool _⟩
   | int _=>obtain ⟨_,rfl⟩:=rt;exact ⟨RcAt.none_int _ _,EqAt.none_int _ _,RcNeAt.none_int _ _⟩
   | lst e2 g2=>cases rt;obtain ⟨its,r,p,_⟩:=I.list (SqL.of e2);exact ⟨RcAt.none_list p.isList hA,EqAt.none_list p.isList hA,RcNeAt.none_list p.isList hA⟩
   | tup e2 g2=>cases rt;obtain ⟨its,r,p,_⟩:=I.tuple (SqT.of e2);exact ⟨RcAt.none_tuple p hA,EqAt.none_tuple p hA,RcNeAt.none_tuple p hA⟩
   | _=>cases h2
  | bl _ =>
   cases ru
   cases b with
   | non=>cases rt;exact ⟨RcAt.bool_none _,EqAt.bool_none _,RcNeAt.bool_none _⟩
   | bl _=>cases rt;exact ⟨RcAt.bool_bool _ _,EqAt.bool_bool _ _,RcNeAt.bool_bool _ _⟩
   | int _=>obtain ⟨_,rfl⟩:=rt;exact ⟨RcAt.bool_int _ _ _,EqAt.bool_int _ _ _,RcNeAt.bool_int _ _ _⟩
   | lst e2 g2=>cases rt;obtain ⟨its,r,p,_⟩:=I.list (SqL.of e2);exact ⟨RcAt.bool_list _ p.isList hA,EqAt.bool_list _ p.isList hA,RcNeAt.bool_list _ p.isList hA⟩
   | tup e2 g2=>cases rt;obtain ⟨its,r,p,_⟩:=I.tuple (SqT.of e2);exact ⟨RcAt.bool_tuple _ p hA,EqAt.bool_tuple _ p hA,RcNeAt.bool_tuple _ p hA⟩
   | _=>cases h2
  | int _ =>
   obtain ⟨_,rfl⟩:=ru
   cases b with
   | non=>cases rt;exact ⟨RcAt.int_none _ _,EqAt.int_none _ _,RcNeAt.int_none _ _⟩
   | bl _=>cases rt;exact ⟨RcAt.int_bool _ _ _,EqAt.int_bool _ _ _,RcNeAt.int_bool _ _ _⟩
   | int _=>obtain ⟨_,rfl⟩:=rt;exact ⟨RcAt.int_int _ _ _ _,EqAt.int_int _ _ _ _,RcNeAt.int_int _ _ _ _⟩
   | lst e2 g2=>cases rt;obtain ⟨its,r,p,_⟩:=I.list (SqL.of e2);exact ⟨RcAt.int_list _ _ p.isList hA,EqAt.int_list _ _ p.isList hA,RcNeAt.int_list _ _ p.isList hA⟩
   | tup e2 g2=>cases rt;obtain ⟨its,r,p,_⟩:=I.tuple (SqT.of e2);exact ⟨RcAt.int_tuple _ _ p hA,EqAt.int_tuple _ _ p hA,RcNeAt.int_tuple _ _ p hA⟩
   | _=>cases h2
  | @lst la vs xs e1 g1 =>
   cases ru
   obtain ⟨its,r,p,_⟩:=I.list (SqL.of e1)
   cases b with
   | non=>cases rt;exact ⟨RcAt.list_none p.isList hA,EqAt.list_none p.isList hA,RcNeAt.list_none p.isList hA⟩
   | bl _=>cases rt;exact ⟨RcAt.list_bool _ p.isList hA,EqAt.list_bool _ p.isList hA,RcNeAt.list_bool _ p.isList hA⟩
   | int _=>obtain ⟨_,rfl⟩:=rt;exact ⟨RcAt.list_int _ _ p.isList hA,EqAt.list_int _ _ p.isList hA,RcNeAt.list_int _ _ p.isList hA⟩
   | tup e2 g2=>cases rt;obtain ⟨its2,r2,p2,_⟩:=I.tuple (SqT.of e2);exact ⟨RcAt.list_tuple p.isList p2 hA,EqAt.list_tuple p.isList p2 hA,RcNeAt.list_tuple p.isList p2 hA⟩
   | @lst lb ws ys e2 g2 =>
    cases rt
    obtain ⟨its2,r2,p2,_⟩:=I.list (SqL.of e2)
    have l1:its.length=xs.length:=by rw [<- r.length,g1.len]
    have l2:its2.length=ys.length:=by rw [<- r2.length,g2.len]
    have el:=B8 (A:=A.in1) (s:=s) (fun a b c d e f=>(ih hin a b c d e f).2.1) (List.all_eq_true.mp h1) (List.all_eq_true.mp h2) g1 g2 r r2
    have rc:RcAt A s (.ref la) (.ref lb) (pyq (n + 1) (.lst xs) (.lst ys)):=by
     rw [qV]
     by_cases hl:xs.length=ys.length
     ·have q:=RcAt.lists (A:=A) (s:=s) (e:=fun j=>pyq n (xs.getD j .non) (ys.getD j .non)) p.isList p2.isList (by simp [l1,l2,hl]) hA el
      have es:its.toArray.size=xs.length:=by simp [l1]
      rw [es] at q
      rw [decide_eq_true hl,Bool.true_and]
      exact q
     ·rw [decide_eq_false hl,Bool.false_and]
      exact RcAt.lists_lengths p.isList p2.isList (by simp [l1,l2,hl]) hA
    have rn:RcNeAt A s (.ref la) (.ref lb) (!pyq (n + 1) (.lst xs) (.lst ys)):=by
     rw [qV]
     by_cases hl:xs.length=ys.length
     ·have q:=RcNeAt.lists (A:=A) (s:=s) (e:=fun j=>pyq n (xs.getD j .non) (ys.getD j .non)) p.isList p2.isList (by simp [l1,l2,hl]) hA el
      have es:its.toArray.size=xs.length:=by simp [l1]
      rw [es] at q
      rw [decide_eq_true hl,Bool.true_and]
      exact q
     ·rw [decide_eq_false hl,Bool.false_and]
      exact RcNeAt.lists_lengths p.isList p2.isList (by simp [l1,l2,hl]) hA
    refine ⟨rc,?_,rn⟩
    by_cases hab:la=lb
    ·subst hab
     have:=Has.inj h1 h2 (.lst e1 g1) (.lst e2 g2)
     rw [this,sN h2]
     exact EqAt.same _
    ·exact EqAt.of_refs hab rc
   | _=>cases h2
  | @tup la vs xs e1 g1 =>
   cases ru
   obtain ⟨its,r,p,_⟩:=I.tuple (SqT.of e1)
   cases b with
   | non=>cases rt;exact ⟨RcAt.tuple_none p hA,EqAt.tuple_none p hA,RcNeAt.tuple_none p hA⟩
   | bl _=>cases rt;exact ⟨RcAt.tuple_bool _ p hA,EqAt.tuple_bool _ p hA,RcNeAt.tuple_bool _ p hA⟩
   | int _=>obtain ⟨_,rfl⟩:=rt;exact ⟨RcAt.tuple_int _ _ p hA,EqAt.tuple_int _ _ p hA,RcNeAt.tuple_int _ _ p hA⟩
   | lst e2 g2=>cases rt;obtain ⟨its2,r2,p2,_⟩:=I.list (SqL.of e2);exact ⟨RcAt.tuple_list p p2.isList hA,EqAt.tuple_list p p2.isList hA,RcNeAt.tuple_list p p2.isList hA⟩
   | @tup lb ws ys e2 g2 =>
    cases rt
    obtain ⟨its2,r2,p2,_⟩:=I.tuple (SqT.of e2)
    have l1:its.length=xs.length:=by rw [<- r.length,g1.len]
    have l2:its2.length=ys.length:=by rw [<- r2.length,g2.len]
    have el:=B8 (A:=A.in1) (s:=s) (fun a b c d e f=>(ih hin a b c d e f).2.1) (List.all_eq_true.mp h1) (List.all_eq_true.mp h2) g1 g2 r r2
    have rc:RcAt A s (.ref la) (.ref lb) (pyq (n + 1) (.tup xs) (.tup ys)):=by
     rw [qT]
     have q:=RcAt.tuples (A:=A) (s:=s) (e:=fun j=>pyq n (xs.getD j .non) (ys.getD j .non)) p p2 hA el
     have es:its.toArray.size=xs.length:=by simp [l1]
     have es2:its2.toArray.size=ys.length:=by simp [l2]
     rw [es,es2] at q
     by_cases hl:xs.length=ys.length
     ·rw [hl,Nat.min_self,beq_self_eq_true,Bool.and_true] at q
      rw [decide_eq_true hl,Bool.true_and,hl]
      exact q
     ·rw [decide_eq_false hl,Bool.false_and]
      rw [show (xs.length == ys.length)=false by simpa using hl,Bool.and_false] at q
      exact q
    have rn:RcNeAt A s (.ref la) (.ref lb) (!pyq (n + 1) (.tup xs) (.tup ys)):=by
     rw [qT]
     have q:=RcNeAt.tuples (A:=A) (s:=s) (e:=fun j=>pyq n (xs.getD j .non) (ys.getD j .non)) p p2 hA el
     have es:its.toArray.size=xs.length:=by simp [l1]
     have es2:its2.toArray.size=ys.length:=by simp [l2]
     rw [es,es2] at q
     by_cases hl:xs.length=ys.length
     ·rw [hl,Nat.min_self,beq_self_eq_true,Bool.and_true] at q
      rw [decide_eq_true hl,Bool.true_and,hl]
      exact q
     ·rw [decide_eq_false hl,Bool.false_and]
      rw [show (xs.length == ys.length)=false by simpa using hl,Bool.and_false] at q
      exact q
    refine ⟨rc,?_,rn⟩
    by_cases hab:la=lb
    ·subst hab
     have:=Has.inj h1 h2 (.tup e1 g1) (.tup e2 g2)
     rw [this,sN h2]
     exact EqAt.same _
    ·exact EqAt.of_refs hab rc
   | _=>cases h2
  | _=>cases h1
open SeqAt in
theorem zw {X:Cx} {C:Addr} {pins:List (Addr × Obj)} {σ:St} {H:Hp} {s:Shared} (I:Inv X pins σ H s):∀ (n:Nat) {A:Around} {x y:D} {v w:V} {u t:Value},A.units + n < cLine->eqb n x=true->eqb n y=true->Has X.K C H v x->Has X.K C H w y->RelV v u->RelV w t ->
  RcAt A s u t (pyq n x y)/\EqAt A s u t (pyq n x y) :=
 fun n _ _ _ _ _ _ _ hu h1 h2 a b c d=>⟨(vd I n hu h1 h2 a b c d).1,(vd I n hu h1 h2 a b c d).2.1⟩
open SeqAt in
theorem EU {X:Cx} {C:Addr} {pins:List (Addr × Obj)} {σ:St} {H:Hp} {s:Shared} (I:Inv X pins σ H s):∀ (n:Nat) {A:Around} {x y:D} {v w:V} {u t:Value},A.units + n < cLine->eqb n x=true->eqb n y=true->Has X.K C H v x->Has X.K C H w y->RelV v u->RelV w t ->
  RcNeAt A s u t (!pyq n x y) :=
 fun n _ _ _ _ _ _ _ hu h1 h2 a b c d=>(vd I n hu h1 h2 a b c d).2.2
theorem Brw.has {K:Frag} {C:Addr} {M H:Hp} {v:V} {d:D} (s:Same M H) (h:Brw K C M H v d):Has K C H v d:=by
 cases h with
 | cl h=>exact h.mono s
 | own e h=>exact .lst e (h.mono s)
section
variable {C:Addr} {X:Cx}
def feq (x y:D):R D:=if eqb 9 x=true/\eqb 9 y=true then .val (.bl (pyq 9 x y)) else .bad
def fne (x y:D):R D:=if eqb 9 x=true/\eqb 9 y=true then .val (.bl (!pyq 9 x y)) else .bad
def At (K:Frag) (C:Addr) (neg:Bool):R2:=fun v w H Q=>∃ x y,eqb 9 x=true/\eqb 9 y=true/\Has K C H v x/\Has K C H w y/\Q (.bl (if neg then !pyq 9 x y else pyq 9 x y)) H
theorem yB (hu:X.A.units + 9 < cLine):OpR X (compareOp .Eq) (At X.K C false):=by
 intro pins s σ H x y v u Q I rx ry h
 obtain ⟨dx,dy,e1,e2,h1,h2,q⟩:=h
 exact (zw I 9 hu e1 e2 h1 h2 rx ry).1 _ _ _ _ ⟨.bl _,H,I,rfl,q⟩
theorem Dl (hu:X.A.units + 9 < cLine):OpR X (compareOp .NotEq) (At X.K C true):=by
 intro pins s σ H x y v u Q I rx ry h
 obtain ⟨dx,dy,e1,e2,h1,h2,q⟩:=h
 exact EU I 9 hu e1 e2 h1 h2 rx ry _ _ _ _ ⟨.bl _,H,I,rfl,q⟩
theorem yA:OpD C X (At X.K C false) feq:=by
 intro ρ σ H v w x y z Q r hx hy e k
 unfold feq at e
 split at e
 ·rename_i hh
  cases e
  exact ⟨x,y,hh.1,hh.2,hx.has msk_sub,hy.has msk_sub,k _ H (Same.refl _) (.bl _)⟩
 ·cases e
theorem Df:OpD C X (At X.K C true) fne:=by
 intro ρ σ H v w x y z Q r hx hy e k
 unfold fne at e
 split at e
 ·rename_i hh
  cases e
  exact ⟨x,y,hh.1,hh.2,hx.has msk_sub,hy.has msk_sub,k _ H (Same.refl _) (.bl _)⟩
 ·cases e
theorem BX:fx feq:=fun x y c e=>by unfold feq at e;split at e <;> cases e
theorem EG:fx fne:=fun x y c e=>by unfold fne at e;split at e <;> cases e
theorem wm {a b:Expr} {pos:Pos} {Fa Fb:Rho->R D} (hu:X.A.units + 9 < cLine) (ha:EB C X a Fa) (hb:EB C X b Fb):ED C X (.Compare a [.Eq] [b] pos) (bin feq Fa Fb):=zC (yB (C:=C) hu) BX yA ha hb (nX _)
theorem gQ {a b:Expr} {pos:Pos} {Fa Fb:Rho->R D} (hu:X.A.units + 9 < cLine) (ha:EB C X a Fa) (hb:EB C X b Fb):TD C X (.Compare a [.Eq] [b] pos) (tst (bin feq Fa Fb)):=nC (yB (C:=C) hu) BX yA ha hb (nX _)
theorem eE {a b:Expr} {pos:Pos} {Fa Fb:Rho->R D} (hu:X.A.units + 9 < cLine) (ha:EB C X a Fa) (hb:EB C X b Fb):TD C X (.Compare a [.NotEq] [b] pos) (tst (bin fne Fa Fb)):=nC (Dl (C:=C) hu) EG Df ha hb (nX _)
end
variable {C:Addr} {X:Cx}
def Ite (K:Frag) (a:Addr):It :=
 ⟨fun i H=>∃ xs x,SqL K H a xs/\xs[i]?=some x,fun i H v H'=>∃ p x,H p=none/\v=.ref p/\H'=upd H p (.tup [.int (i:Int),x])/\∀ xs,SqL K H a xs->xs[i]?=some x,fun i H=>∃ xs,SqL K H a xs/\xs.length<=i⟩
theorem wD {P:Program} {w:World} {K:Frag} {es:List Expr} {k:Nat} {pos:Pos} (a it e:Addr) (hne:e ≠ it) :
  xA P w K (.Tuple es k pos) (Ite K a) [e,it] e (fun i h=>(∃ old,IsEnum h e it i old)/\h.IsListIter it a i) where
 mem:=by simp
 obj:=fun i h st b hb=>by
  obtain ⟨⟨old,he⟩,o,eo,c,d⟩:=st
  have hb:b=e\/b=it:=by simpa using hb
  rcases hb with rfl | rfl
  ·exact ⟨_,he,fun v z=>by have z':Data.fields _=Data.cell v:=z;cases z'⟩
  ·exact ⟨o,eo,fun v z=>by rw [d] at z;cases z⟩
 keep:=fun i h h' st kk=>by
  obtain ⟨⟨old,he⟩,st⟩:=st
  exact ⟨⟨old,kk e (by simp) _ he⟩,st.at fun o q=>kk it (by simp) o q⟩
 item:=by
  intro X hP hw hK hc i pins s σ H E I hf st hg
  subst hP hw hK
  obtain ⟨⟨old,he⟩,hit⟩:=st
  obtain ⟨xs,x,hq,hx⟩:=hg
  obtain ⟨its,rv,p,hz⟩:=I.list hq
  obtain ⟨u,hu,ru⟩:=rv.get hx
  refine wpAny_pyNext_enum_item he hit p.isList (x:=u) (by simpa using hu) hne fun h' out hit' ht hsz hk=>?_
  refine ⟨_,rfl,wpAny_letOwnedTupleGo_enum out fun h'' he'' sb=>?_⟩
  have fr:=I.fresh
  have hk2:∀ b o,b ≠ e->b ≠ it->s.heap.get? b=some o->h''.get? b=some o:=fun b o h1 h2 eo=>(sb.2 b h1).trans (hk b o h1 h2 eo)
  have hse:s.heap.objs.size ≠ e:=Nat.ne_of_gt (Heap.lt_size he)
  have ht2:h''.get? s.heap.objs.size=some { cls:=.type "tuple",data:=.seq #[.int i s.toks,u] }:=(sb.2 _ hse).trans ht
  have ne':∀ b,H b ≠ none->b ≠ e/\b ≠ it:=fun b hb=>⟨fun z=>hb (by rw [z];exact (hf e (by simp)).1),fun z=>hb (by rw [z];exact (hf it (by simp)).1)⟩
  have I1:Inv X pins σ (upd H s.heap.objs.size (.tup [.int (i:Int),x])) { s with heap:=h'',toks:=s.toks + 1 }:=by
   refine I.call' (s':={ s with heap:=h'',toks:=s.toks + 1 }) (ch:=[e,it]) rfl ⟨fun b o q n hfs hx=>hk2 b o (fun z=>hx (by simp [z])) (fun z=>hx (by simp [z])) q,fun b o q n hfs hx=>⟨o.slots,hk2 b o (fun z=>hx (by simp [z])) (fun z=>hx (by simp [z])) q⟩,
    fun b o q n hx=>?_,fun b o q hx=>⟨o,hk2 b o (fun z=>hx (by simp [z])) (fun z=>hx (by simp [z])) q⟩,fun b ys q=>?_,fun b o v q=>?_,fun b ps q=>?_⟩ (fun b o q=>?_) I.bare fun b hb=>?_
   ·rw [aH (Nat.ne_of_lt (Heap.lt_size q))];exact n
   ·rw [aH (bG q fr)];exact q
   ·rw [aH (bG q fr)];exact q
   ·exact ⟨#[],by rw [aH (bG q fr),q];simp⟩
   ·by_cases hb:b=s.heap.objs.size
    ·subst hb
     rw [ba] at q;cases q
     exact ⟨by show 2<=sizeLine;decide,[.int i s.toks,u],.cons ⟨_,rfl⟩ (.cons ru .nil),⟨_,ht2,rfl,_,rfl⟩⟩
    ·rw [aH hb] at q
     refine (I.hok b o q).stay (fun c v hc qv=>?_) (fun c qc=>by rw [aH (bG qc fr)];exact qc) fun c ys qc=>by rw [aH (bG qc fr)];exact qc
     have hcn:H c ≠ none:=by
      rcases hc with z | z
      ·rw [z,q];simp
      ·rw [z];simp
     obtain ⟨n1,n2⟩:=ne' c hcn
     exact hk2 c v n1 n2 qv
   ·obtain ⟨g0,g1,g2,g3,g4,g5⟩:=hf b hb
    exact ⟨g3,g1,g4,g5⟩
  refine ⟨.ref s.heap.objs.size,_,I1,rfl,⟨_,x,fr,rfl,rfl,fun ys hy=>by rw [I.list_inj hy hq];exact hx⟩,⟨⟨u,?_⟩,?_⟩,fun b hb=>?_⟩
  ·have:((i:Int) + 1)=((i + 1:Nat):Int):=by push_cast;rfl
   rw [this] at he'';exact he''
  ·exact hit'.at fun o q=>(sb.2 it (Ne.symm hne)).trans q
  ·have hb':=(hf b hb).1
   have hlt:b < s.heap.objs.size:=by
    have hb:b=e\/b=it:=by simpa using hb
    rcases hb with rfl | rfl
    ·exact Heap.lt_size he
    ·obtain ⟨o,eo,_⟩:=hit;exact Heap.lt_size eo
   rw [aH (Nat.ne_of_lt hlt)];exact hb'
 done:=by
  intro X hP hw hK hc i pins s σ H E I hf st hg
  subst hP hw hK
  obtain ⟨⟨old,he⟩,hit⟩:=st
  obtain ⟨xs,hq,hx⟩:=hg
  obtain ⟨its,rv,p,hz⟩:=I.list hq
  obtain ⟨f0,f1,f2,f3,f4,f5⟩:=hf it (by simp)
  have hl:=rv.length
  exact wpAny_pyNext_enum_end (I.ok.hd hc) he hit p.isList (by simp;omega) fun h' eb=>⟨rfl,I.turned (t':=s.toks) (fun b o hb q=>eb b o hb q) f0 f1 f3 f4 f5⟩
 self:=fun _ _ _ _ _ st h=>by
  obtain ⟨⟨old,he⟩,_⟩:=st
  exact wpAny_pyIter_enum he h
def enu:Nat->List D->List D
 | _,[]=>[]
 | k,x :: r=>.tup [.int (k:Int),x] :: enu (k + 1) r
theorem wd:∀ (k:Nat) (xs:List D),(enu k xs).length=xs.length
 | _,[]=>rfl
 | k,x :: r=>by simp [enu,wd]
theorem uY:∀ {k:Nat} {xs:List D} {i:Nat} {y:D},(enu k xs)[i]?=some y->∃ x,xs[i]?=some x/\y=.tup [.int ((k + i:Nat):Int),x]
 | _,[],_,_,e=>by simp [enu] at e
 | k,x :: r,0,y,e=>by
  simp [enu] at e
  exact ⟨x,rfl,by rw [<- e];rfl⟩
 | k,x :: r,i + 1,y,e=>by
  have e:(enu (k + 1) r)[i]?=some y:=by simpa [enu] using e
  obtain ⟨z,h1,h2⟩:=uY e
  refine ⟨z,by simpa using h1,?_⟩
  rw [h2,show k + 1 + i=k + (i + 1) by omega]
theorem wC {K:Frag} {a:Addr} {vs:List V} {xs:List D} {M:Hp} (e:M a=some (.lst vs)) (h:HasL K C M vs xs):ue K C (Ite K a) (enu 0 xs) M where
 go:=fun i y H2 s hy=>by
  obtain ⟨x,hx,rfl⟩:=uY hy
  obtain ⟨v,e1,h1⟩:=h.get hx
  refine ⟨⟨vs,v,SqL.of (s _ _ e),e1⟩,fun v' H3 y=>?_⟩
  obtain ⟨p,x',hp,rfl,rfl,y⟩:=y
  have e2:=y vs (SqL.of (s _ _ e))
  rw [e1] at e2;cases e2
  refine ⟨aX hp,fun ρ σ hown m=>?_⟩
  have em:msk ρ σ (upd H2 p (.tup [.int (i:Int),v])) p=some (.tup [.int (i:Int),v]):=msk_some.mpr ⟨fun z=>hown p z hp,ba⟩
  refine .tup em (.cons ?_ (.cons (h1.mono (m.trans (bc (aX hp)))) .nil))
  rw [Nat.zero_add];exact .int _
 stop:=fun H2 s=>⟨vs,SqL.of (s _ _ e),by rw [wd,h.len];exact Nat.le_refl _⟩
theorem AC {es:List Expr} {k:Nat} {tp p pos:Pos} {l:Expr} {ta:TA} (hg:Gl X "enumerate") (hm:X.mg "enumerate"=none) (ha:PA X [l] ta) (hs:starEach [l] X.env=[(false,eval l X.env)]:=by rfl) :
  PI X (.Tuple es k tp) (.Call (.Name "enumerate" p) [l] [] pos) (fun σ H R=>ta σ H fun vs H1=>∃ a xs,vs=[.ref a]/\SqL X.K H1 a xs/\R (Ite X.K a) H1):=by
 intro pins s σ H R I h
 refine Call_ (j8 I hg hm boot_enumerate (PyProof.Rows.callWith_type1 (thn (ha pos pins s σ H _ I h) fun us s1 zz0=>?_) hs rfl))
 obtain ⟨vs,H1,I1,r1,q1⟩:=zz0
 obtain ⟨a,xs,e,hq,q⟩:=q1
 subst e
 cases r1 with
 | cons r rr =>
  cases rr
  cases r
  obtain ⟨its,rv,pl,hz⟩:=I1.list hq
  refine call_enumerate_list pl.isList fun h' he hit hsz kp=>?_
  have I2:Inv X pins σ H1 { s1 with heap:=h' }:=I1.kept (t':=s1.toks) kp
  refine wpAny_pyIter_enum he ?_
  have ne:s1.heap.objs.size + 1 ≠ s1.heap.objs.size:=Nat.succ_ne_self _
  refine ⟨s1.heap.objs.size + 1,[s1.heap.objs.size + 1,s1.heap.objs.size],_,_,H1,rfl,I2,wD a s1.heap.objs.size (s1.heap.objs.size + 1) ne,⟨⟨_,he⟩,hit⟩,fun b hb=>?_,q⟩
  have hb:b=s1.heap.objs.size + 1\/b=s1.heap.objs.size:=by simpa using hb
  have hle:s1.heap.objs.size<=b:=by
   rcases hb with z | z
   ·rw [z];exact Nat.le_succ _
   ·rw [z];exact Nat.le_refl _
  exact I1.fpOk hle (I1.hok.fresh hle)
def DV:List D->R (List D)
 | [.lst xs]=>.val (enu 0 xs)
 | _=>.bad
def fu (F:Rho->R (List D)):Rho->R (List D):=fun ρ=>(F ρ).bind DV
theorem cU {es : List Expr} {k : Nat} {tp p pos : Pos} {l : Expr} {F : Rho -> R (List D)} (hg : Gl X "enumerate") (hm : X.mg "enumerate" = none) (ha : AD C X [l] F) (hs : starEach [l] X.env = [(false, eval l X.env)] := by rfl) :
    ID C X (.Tuple es k tp) (.Call (.Name "enumerate" p) [l] [] pos) (fu F) := qZ (AC hg hm ha hs) fun σ H R yy0 => by
     obtain ⟨ρ, ⟨H0, r⟩, q⟩ := yy0
     exact ⟨ρ, ⟨H0, r⟩, by
  unfold fu at q
  cases e : F ρ with
  | val ds =>
    rw [e] at q
    intro vs H1 s1 h1
    dsimp only [DL.R.bind] at q
    unfold DV at q
    split at q
    · rename_i e0
      split at e0
      · rename_i xs
        cases e0
        cases h1 with
        | cons a b =>
          cases b
          cases a with
          | lst e1 g1 => exact ⟨_, _, rfl, SqL.of (msk_sub _ _ e1), q _ H1 s1 (wC e1 g1)⟩
      · cases e0
    · rename_i e0
      split at e0 <;> cases e0
    · exact q.elim
  | exc c => rw [e] at q; exact q
  | bad => rw [e] at q; exact q⟩
def EE:V->List V->Hp->VK->Prop:=fun x vs H Q=>∃ l xs i y,x=.ref l/\vs=[.int i,y]/\H l=some (.lst xs)/\0<=i/\i<=xs.length/\xs.length < LIM/\Q .non (upd H l (.lst (xs.take i.toNat ++ y :: xs.drop i.toNat)))
theorem wR:MtM X "list.insert" EE:=by
 intro pins s σ H x vs v us Q I rx rv h
 obtain ⟨l,xs,i,y,rfl,rfl,hH,h0,h1,hz,q⟩:=h
 cases rx
 obtain ⟨ui,uy,rfl,⟨tk,rfl⟩,ry⟩:=rv.two
 obtain ⟨z,its,n,r,hl,e⟩:=I.lstM hH
 have hfit:¬(!Builtin.List.listFitsIndex i)=true:=by
  have h63:(xs.length:Int) < 2 ^ 63:=by
   have:xs.length < 100000:=hz
   omega
  have:Builtin.List.listFitsIndex i=true:=by
   unfold Builtin.List.listFitsIndex
   rw [Bool.and_eq_true]
   exact ⟨decide_eq_true (by omega),decide_eq_true (by omega)⟩
  rw [this];simp
 refine call_meets F.slot_list_insert ⟨_,e,rfl⟩ F.entry_list_insert (F.args_list_insert_3 _ _ _) (PySem.AutoListH.list_insert_list_int_val_1 l its.toArray n i tk uy hfit (by rw [List.size_toArray,<- hl];exact z)) ⟨e,?_⟩
 have hm:min i.toNat its.length=i.toNat:=by omega
 refine ⟨.non,_,I.lset (its':=its.take i.toNat ++ uy :: its.drop i.toNat) hH e ?_ ((r.take i.toNat).append (.cons ry (r.drop i.toNat))) ?_,rfl,q⟩
 ·have hlt:¬ i < 0:=by omega
  simp only [hlt,if_false,List.size_toArray,hm]
  apply Array.ext'
  simp [hm]
  exact List.take_of_length_le (by rw [List.length_drop];exact Nat.le_refl _)
 ·rw [List.length_append,List.length_cons,List.length_take,List.length_drop]
  have:xs.length < 100000:=hz
  have h2:(100000:Nat)<=sizeLine:=by decide
  omega
def ins (i:Nat) (k e:Rho->R D):Rho->R Out:=fun ρ=>match ρ[i]? with
 | some (some (.own xs))=>(k ρ).bind fun n=>(e ρ).bind fun d=>match n with
  | .int n=>if 0<=n/\n<=xs.length/\xs.length < LIM then .val (.nx (ρ.set i (some (.own (xs.take n.toNat ++ d :: xs.drop n.toNat))))) else .bad
  | _=>.bad
 | _=>.bad
theorem xX {i:Nat} {x:Str} {k e:Expr} {p ap cp pos:Pos} {Fk F:Rho->R D} (hv:PE X (.Name x p) (fy i)) (hk:ED C X k Fk) (he:ED C X e F)
  (hs:∀ {to:TE} {t:TA},PE X (.Name x p) to->PA X [k,e] t->PS X (.Expr (.Call (.Attribute (.Name x p) "insert" ap) [k,e] [] cp) pos) (nF (tBM X.K "list" EE to t)):=by
   exact fun ho ha=>kB (sQ PySem.F.plainAttrs_list PySem.F.slot_list_insert PySem.F.type_list_insert wR ho ha))
  (hst:starEach [k,e] X.env=(false,eval k X.env) :: starEach [e] X.env:=by rfl) (hst2:starEach [e] X.env=(false,eval e X.env) :: starEach [] X.env:=by rfl) :
  SD C X (.Expr (.Call (.Attribute (.Name x p) "insert" ap) [k,e] [] cp) pos) (ins i Fk F) :=
 bF (hs hv (dk hk (dk he eX hst2) hst)) fun D σ H zz1=>by
  obtain ⟨_,H0,⟨ρ,rfl,r⟩,q⟩:=zz1
  unfold ins at q
  split at q
  ·rename_i xs e0
   obtain ⟨a,vs,e1,_,h1,h2⟩:=r.at_ i _ e0
   refine ⟨_,e1,.inl ⟨rfl,_,SqL.of h1⟩,ρ,⟨H0,r⟩,a_ (P:=fun z _=>pS C X z H0 D) (fun c h=>d9 r h) (fun h=>h) q fun n v H1 s1 h3 q1=>?_⟩
   refine ⟨ρ,⟨H0,r.mono s1⟩,a_ (P:=fun z _=>pS C X z H0 D) (fun c h=>d9 (r.mono s1) h) (fun h=>h) q1 fun d w H2 s2 h4 q2=>?_⟩
   cases n with
   | int n =>
    dsimp only at q2
    split at q2
    ·rename_i hl
     cases h3
     have h2':=h2.mono (bc (ρ:=ρ) (σ:=σ) (s1.trans s2))
     refine ⟨a,vs,n,w,rfl,rfl,s2 _ _ (s1 _ _ h1),hl.1,by rw [h2.len];exact hl.2.1,by rw [h2.len];exact hl.2.2,?_⟩
     exact q2 _ _ ⟨_,rfl,((r.mono s1).mono s2).write e0 e1 ((h2'.take _).app (.cons h4 (h2'.drop _)))⟩
    ·exact q2.elim
   | _=>exact q2.elim
  ·exact q.elim
def CK (K:Frag) (C:Addr) (neg:Bool):R2:=fun v w H Q=>∃ x a vs ys,eqb 8 x=true/\ys.all (eqb 8)=true/\Has K C H v x/\w=.ref a/\H a=some (.lst vs)/\HasL K C H vs ys/\Q (.bl (if neg then !(ys.any fun y=>pyq 8 y x) else ys.any fun y=>pyq 8 y x)) H
open Classical in
theorem vX {pins:List (Addr × Obj)} {σ:St} {H:Hp} {s:Shared} (I:Inv X pins σ H s) {A:Around} (hu:A.units + 9 < cLine) {x:D} {v:V} {u:Value} {its:List Value} {vs:List V} {ys:List D} (e1:eqb 8 x=true) (e2:ys.all (eqb 8)=true) (h1:Has X.K C H v x) (rx:RelV v u)
  (h2:HasL X.K C H vs ys) (r:Vals vs its):∃ e:Value->Bool,(∀ y,y ∈ its.toArray->SeqAt.EqAt A.in1 s y u (e y))/\its.toArray.any e=ys.any fun y=>pyq 8 y x:=by
 have key:∀ (j:Nat) (t:Value) (d:D),its[j]?=some t->ys[j]?=some d->∃ w,RelV w t/\Has X.K C H w d:=fun j t d q1 q2=>by
  obtain ⟨w,g1,g2⟩:=h2.get q2
  obtain ⟨t',g3,g4⟩:=r.get g1
  rw [q1] at g3;cases g3
  exact ⟨w,g4,g2⟩
 have mem8:∀ (j:Nat) d,ys[j]?=some d->eqb 8 d=true:=fun j d q=>List.all_eq_true.mp e2 d (List.mem_of_getElem? q)
 refine ⟨fun t=>decide (∃ (j:Nat) (d:D),its[j]?=some t/\ys[j]?=some d/\pyq 8 d x=true),fun t ht=>?_,?_⟩
 ·have ht:t ∈ its:=by simpa using ht
  obtain ⟨j,hj,rfl⟩:=List.mem_iff_getElem.mp ht
  have hl:its.length=ys.length:=by rw [<- r.length,h2.len]
  have q1:its[j]?=some its[j]:=by simp [hj]
  have q2:ys[j]?=some (ys[j]'(by omega)):=by simp [show j < ys.length by omega]
  obtain ⟨w,g1,g2⟩:=key j _ _ q1 q2
  have ok:=(zw I 8 (A:=A.in1) (by show A.units + 1 + 8 < cLine;omega) (mem8 j _ q2) e1 g2 h1 g1 rx).2
  have:decide (∃ (j':Nat) (d:D),its[j']?=some its[j]/\ys[j']?=some d/\pyq 8 d x=true)=pyq 8 (ys[j]'(by omega)) x:=by
   cases hp:pyq 8 (ys[j]'(by omega)) x with
   | true=>exact decide_eq_true ⟨j,_,q1,q2,hp⟩
   | false =>
    refine decide_eq_false fun zz2=>?_
    obtain ⟨j',d,z1,z2,z3⟩:=zz2
    obtain ⟨w',g1',g2'⟩:=key j' _ _ z1 z2
    have ew:w'=w:=RelV.inj g1' g1
    subst ew
    have:=Has.inj (mem8 j' d z2) (mem8 j _ q2) g2' g2
    rw [<- this,z3] at hp;cases hp
  show SeqAt.EqAt A.in1 s its[j] u (decide (∃ (j':Nat) (d:D),its[j']?=some its[j]/\ys[j']?=some d/\pyq 8 d x=true))
  rw [this];exact ok
 ·have hl:its.length=ys.length:=by rw [<- r.length,h2.len]
  rw [Bool.eq_iff_iff]
  simp only [Array.any_eq_true,List.any_eq_true,decide_eq_true_eq]
  constructor
  ·rintro ⟨i,hi,j,d,q1,q2,q3⟩
   exact ⟨d,List.mem_of_getElem? q2,q3⟩
  ·rintro ⟨d,hd,q3⟩
   obtain ⟨j,hj,rfl⟩:=List.mem_iff_getElem.mp hd
   have hj':j < its.length:=by omega
   exact ⟨j,by simpa using hj',j,ys[j],by simp [hj'],by simp [hj],q3⟩
theorem Dp (hu:X.A.units + 9 < cLine):OpR X (compareOp .In) (CK X.K C false):=by
 intro pins s σ H x y v u Q I rx ry h
 obtain ⟨d,a,vs,ys,e1,e2,h1,rfl,hH,h2,q⟩:=h
 cases ry
 obtain ⟨its,r,pl,hz⟩:=I.list (SqL.of hH)
 obtain ⟨e,he,hany⟩:=vX I hu e1 e2 h1 rx h2 r
 exact SeqAt.in_listAt e pl.isList he ⟨.bl _,H,I,by rw [hany];rfl,q⟩
theorem wO (hu:X.A.units + 9 < cLine):OpR X (compareOp .NotIn) (CK X.K C true):=by
 intro pins s σ H x y v u Q I rx ry h
 obtain ⟨d,a,vs,ys,e1,e2,h1,rfl,hH,h2,q⟩:=h
 cases ry
 obtain ⟨its,r,pl,hz⟩:=I.list (SqL.of hH)
 obtain ⟨e,he,hany⟩:=vX I hu e1 e2 h1 rx h2 r
 exact SeqAt.notIn_listAt e pl.isList he ⟨.bl _,H,I,by rw [hany];rfl,q⟩
def fh (neg:Bool) (x y:D):R D:=match y with
 | .lst ys=>if eqb 8 x=true/\ys.all (eqb 8)=true then .val (.bl (if neg then !(ys.any fun y=>pyq 8 y x) else ys.any fun y=>pyq 8 y x)) else .bad
 | _=>.bad
theorem yz (neg:Bool):OpD C X (CK X.K C neg) (fh neg):=by
 intro ρ σ H v w x y z Q r hx hy e k
 unfold fh at e
 split at e
 ·rename_i ys
  split at e
  ·rename_i hh
   cases e
   obtain ⟨a,vs,rfl,e1,h2⟩:=hy.lst msk_sub
   exact ⟨x,a,vs,ys,hh.1,hh.2,hx.has msk_sub,rfl,e1,h2.mono msk_sub,k _ H (Same.refl _) (.bl _)⟩
  ·cases e
 ·cases e
theorem BW (neg:Bool):fx (fh neg):=fun x y c e=>by
 unfold fh at e
 split at e
 ·split at e <;> cases e
 ·cases e
theorem B9 {a b:Expr} {pos:Pos} {Fa Fb:Rho->R D} (hu:X.A.units + 9 < cLine) (ha:EB C X a Fa) (hb:EB C X b Fb) (hm:behindInMarks .In b=false:=by rfl):ED C X (.Compare a [.In] [b] pos) (bin (fh false) Fa Fb):=zC (Dp (C:=C) hu) (BW _) (yz _) ha hb hm
theorem uq {a b:Expr} {pos:Pos} {Fa Fb:Rho->R D} (hu:X.A.units + 9 < cLine) (ha:EB C X a Fa) (hb:EB C X b Fb) (hm:behindInMarks .NotIn b=false:=by rfl):TD C X (.Compare a [.NotIn] [b] pos) (tst (bin (fh true) Fa Fb)):=nC (wO (C:=C) hu) (BW _) (yz _) ha hb hm
end DL
namespace DL
open PySem PySem.Spec PyProof.Rows L2
open AutoSeq1 (wpAny_loadPart')
section
variable {prog:Program} {w:World} {A:Around} {E:Value->Shared->Prop} {s:Shared}
theorem lh {Q:List Value->Shared->Prop} {r:Addr} {a b c:Int} {t u v:Tok} {n:Nat} (hh:A.handled=none) (hr:IsRange s.heap r a b c t u v) (hsmall:Builtin.Range.small a b c=true)
  (hn:Builtin.Range.rangeSize a b c=n) (hlen:n<=2 ^ 24)
  (hQ:∀ h' tk acc,(∀ b o',s.heap.get? b=some o'->h'.get? b=some o')->ItemsOf (fun i v=>∃ t,v=.int (a + i * c) t) acc n->Q acc.toList { s with heap:=h',toks:=tk }) :
  wpAny (model prog w) A (collect (.ref r)) Q E s:=by
 unfold collect
 refine wpAny_bind (wpAny_runValue (codeAny_builtin F.entry_proto_collect ?_))
 rw [Around.under_plainId F.plain_proto_collect _]
 show wpAny _ A.in1 (newList [] >>= fun l=>again (.builtin "list.__iadd__" ⟨[l,.ref r],[]⟩)) _ _ s
 refine wpAny_bind (wpAny_newObj_type ?_)
 refine wpAny_pure ⟨plainId_quiet F.plain_list_iadd _,codeAny_builtin F.entry_list_iadd ?_⟩
 rw [Around.under_plainId F.plain_list_iadd _]
 show wpAny _ A.in1 (Builtin.List.listExtendWith (.ref s.heap.objs.size) (.ref r) (.ref s.heap.objs.size)) _ _ _
 have hS:(s.heap.push { cls:=.type "list",data:=.seq ([]:List Value).toArray }).get? s.heap.objs.size=some { cls:=.type "list",data:=.seq #[] 0 }:=Heap.get?_push_size _ rfl
 have fin':∀ h' tk acc c',(∀ b o',s.heap.get? b=some o'->h'.get? b=some o')->h'.get? s.heap.objs.size=some { cls:=.type "list",dict:=none,data:=.seq acc c',slots:=#[] }->ItemsOf (fun i v=>∃ t,v=.int (a + i * c) t) acc n ->
   wpAny (model prog w) A (match Value.ref s.heap.objs.size with
   | Value.ref a=>do
    match (<- load a).data with
     | Data.seq xs _=>pure xs.toList
     | _=>unsupported "internal:collect"
   | _=>unsupported "internal:collect") Q E { s with heap:=h',toks:=tk }:=fun h' tk acc c' hk hS' hacc=>by
  show wpAny _ A (load s.heap.objs.size >>= _) _ _ _
  refine wpAny_bind (wpAny_load hS' ?_)
  exact wpAny_pure (hQ h' tk acc hk hacc)
 refine wpAny_mono (wpAny_extend_range (A:=A) (R:=fun res s'=>∃ h' tk acc c',res=.ok (.ret (.ref s.heap.objs.size))/\s'={ s with heap:=h',toks:=tk }/\(∀ b o',s.heap.get? b=some o'->h'.get? b=some o') /\
   h'.get? s.heap.objs.size=some { cls:=.type "list",dict:=none,data:=.seq acc c',slots:=#[] }/\ItemsOf (fun i v=>∃ t,v=.int (a + i * c) t) acc n)
  (s:={ s with heap:=s.heap.push { cls:=.type "list",data:=.seq ([]:List Value).toArray } }) hh (Heap.get?_push_of_some _ hr) hsmall hn hlen s.heap.objs.size _ 0 hS fun h' tk acc' c' hk hS' hacc=>⟨h',tk,acc',c',rfl,rfl,fun b o' hb=>hk b o' (Nat.ne_of_lt (Heap.lt_size hb)) (Heap.get?_push_of_some _ hb),hS',hacc⟩) (fun fin s' h=>?_) (fun e s' h=>?_)
 ·cases fin with
  | done f =>
   obtain ⟨h',tk,acc,c',e,rfl,hk,hS',hacc⟩:=h
   cases e
   exact fin' h' tk acc c' hk hS' hacc
  | again c'=>exact ⟨h.1,codeAny_mono h.2 fun r s'' hr=>by obtain ⟨h',tk,acc,c',rfl,rfl,hk,hS',hacc⟩:=hr;exact fin' h' tk acc c' hk hS' hacc⟩
 ·obtain ⟨_,_,_,_,e,_⟩:=h
  exact absurd e (by simp)
theorem jx {Q₁:Value->Shared->Prop} {r:Addr} {a b c:Int} {t u v:Tok} {n:Nat} (hh:A.handled=none) (hr:IsRange s.heap r a b c t u v) (hsmall:Builtin.Range.small a b c=true)
  (hn:Builtin.Range.rangeSize a b c=n) (hlen:n<=2 ^ 24)
  (h:∀ (h':Heap) (tk:Nat) (acc:Array Value),(∀ b o',s.heap.get? b=some o'->h'.get? b=some o')->ItemsOf (fun i v=>∃ t,v=.int (a + i * c) t) acc n->Q₁ (.ref h'.objs.size) { s with heap:=h'.push { cls:=.type "tuple",data:=.seq acc },toks:=tk }) (hsz:n<=sizeLine) :
  codeAny (model prog w) A (.call (.builtin "tuple.__new__") ⟨[.type "tuple",.ref r],[]⟩) (wants Q₁ E) s:=by
 refine codeAny_of_tree ?_
 show wpAny _ A.in1 (do checkBuiltinCall "tuple.__new__" ⟨[.type "tuple",.ref r],[]⟩;again (.builtin "tuple.__new__" ⟨[.type "tuple",.ref r],[]⟩)) _ _ s
 refine wpAny_bind (wpAny_of_eq (F.newCall_tuple_1 _) (wpAny_pure ⟨plainId_quiet F.plain_tuple_new _,codeAny_builtin F.entry_tuple_new ?_⟩))
 rw [Around.under_plainId F.plain_tuple_new _]
 have hsub:=sub_tuple_self
 have hinit:=init_tuple_lookup
 have hmh:=madeHere_tuple
 have hTI:s.TypeIs (.ref r) "range":=⟨_,hr,rfl⟩
 have hhi:A.in1.handled=none:=hh
 wp_walk using wpAny_typeOf hTI,lh (A:=A.in1) hhi hr hsmall hn hlen
 intro h' tk acc hk hacc
 show wpAny _ _ (Builtin.Tuple.tupleExact acc.toList.toArray >>= fun v=>PySem.ret v) _ _ _
 unfold Builtin.Tuple.tupleExact
 refine wpAny_bind (wpAny_newObj_type ?_ (by show acc.toList.toArray.size<=sizeLine;simp only [Array.toArray_toList];rw [hacc.1];exact hsz))
 refine wpAny_pure ?_
 have e:acc.toList.toArray=acc:=by simp
 rw [e]
 exact h h' tk acc hk hacc
theorem lS {Q:Value->Shared->Prop} {r:Addr} {a b c:Int} {t u v:Tok} {n:Nat} (hh:A.handled=none) (hr:IsRange s.heap r a b c t u v) (hsmall:Builtin.Range.small a b c=true)
  (hn:Builtin.Range.rangeSize a b c=n) (hlen:n<=2 ^ 24)
  (h:∀ (h':Heap) (tk:Nat) (acc:Array Value),(∀ b o',s.heap.get? b=some o'->h'.get? b=some o')->ItemsOf (fun i v=>∃ t,v=.int (a + i * c) t) acc n->Q (.ref h'.objs.size) { s with heap:=h'.push { cls:=.type "tuple",data:=.seq acc },toks:=tk }) (hsz:n<=sizeLine) :
  wpAny (model prog w) A (call (.type "tuple") [.ref r]) Q E s:=by
 refine callType_codes (Q₁:=fun obj s₁=>s₁.TypeIs obj "tuple"/\Q obj s₁) F.called_tuple (F.typeCall_tuple_1 _) F.entry_object_init
  (jx hh hr hsmall hn hlen (fun h' tk acc hm hacc=>⟨⟨_,Heap.get?_push_size _ rfl,rfl⟩,h h' tk acc hm hacc⟩) hsz) fun obj s₁ h₁=>?_
 exact ⟨h₁.1,F.args_object_init_2 obj _,object_init_meets F.called_tuple.init.lookup F.called_tuple.made (by decide) prog w A.in1 _ s₁ ⟨h₁.1,rfl,h₁.2⟩⟩
end
section
variable {C:Addr} {X:Cx}
def FC (ta:TA):TE:=fun σ H Q=>ta σ H fun vs H1=>∃ j:Int,vs=[.int j]/\-(2 ^ 62)<=j/\j < 2 ^ 62/\∀ r,H1 r=none->Q (.ref r) (upd H1 r (.rng 0 j))
theorem C6 {a:Expr} {ta:TA} {p pos:Pos} (hg:Gl X "range") (hm:X.mg "range"=none) (ha:PA X [a] ta) (hs:starEach [a] X.env=[(false,eval a X.env)]:=by rfl):PE X (.Call (.Name "range" p) [a] [] pos) (FC ta):=by
 intro pins s σ H Q I h
 refine Call_ (j8 I hg hm boot_range (PyProof.Rows.callWith_type1 (thn (ha pos pins s σ H _ I h) fun us s1 zz0=>?_) hs rfl))
 obtain ⟨vs,H1,I1,r1,q1⟩:=zz0
 obtain ⟨j,e,q1,q2,q⟩:=q1
 subst e
 cases r1 with
 | cons r rr =>
  cases rr
  obtain ⟨t,rfl⟩:=r
  refine call_range_1 ?_
  exact ⟨.ref s1.heap.objs.size,_,I1.laid (a:=s1.heap.objs.size) (o:=.rng 0 j) (fun b u e=>Heap.get?_push_of_some _ e) (Nat.le_refl _) ⟨_,_,_,Heap.get?_push_size _ rfl⟩,rfl,q _ I1.fresh⟩
theorem uh {acc:List Value} {n:Nat} (h:acc.length=n) (hv:∀ (j:Nat) v,acc[j]?=some v->∃ t,v=.int (0 + (j:Int) * 1) t):Vals ((List.range n).map fun (k:Nat)=>V.int (0 + (k:Int))) acc:=by
 induction n generalizing acc with
 | zero=>cases acc with
  | nil=>exact .nil
  | cons x r=>simp at h
 | succ n ih =>
  have hne:acc ≠ []:=by intro z;rw [z] at h;cases h
  have e:acc=acc.dropLast ++ [acc.getLast hne]:=(List.dropLast_concat_getLast hne).symm
  have hl:acc.dropLast.length=n:=by rw [List.length_dropLast,h];rfl
  rw [List.range_succ,List.map_append,e]
  refine Vals.append (ih hl fun j v q=>?_) (.cons ?_ .nil)
  ·refine hv j v ?_
   rw [e,List.getElem?_append_left (List.getElem?_eq_some_iff.mp q).1];exact q
  ·obtain ⟨t,et⟩:=hv n (acc.getLast hne) (by rw [List.getLast_eq_getElem,List.getElem?_eq_getElem (by omega)];congr 1;simp [h])
   exact ⟨t,by rw [et];simp⟩
def yf:List V->Hp->VK->Prop:=fun xs H Q=>∃ r j,xs=[.ref r]/\H r=some (.rng 0 j)/\-(2 ^ 62)<=j/\j<=100000/\∀ p,H p=none->Q (.ref p) (upd H p (.tup ((List.range j.toNat).map fun (k:Nat)=>V.int (0 + (k:Int)))))
theorem jz (hc:X.calm=true):lg X (.type "tuple") yf:=by
 intro pins s σ H xs us Q I r h
 obtain ⟨ra,j,rfl,hq,hj0,hj,q⟩:=h
 obtain ⟨u,rfl,rx⟩:=p9 r
 cases rx
 obtain ⟨t,u',v',e⟩:=I.hok ra _ hq
 have hn:Builtin.Range.rangeSize 0 j 1=(j.toNat:Nat):=by rw [rangeSize_one];split <;> omega
 have hsm:Builtin.Range.small 0 j 1=true:=small_one (by decide) (by decide) hj0 (by omega)
 refine lS (n:=j.toNat) (I.ok.hd hc) e hsm hn (by omega) (fun h' tk acc hk hacc=>?_) (Nat.le_trans (show j.toNat<=100000 by omega) (by decide))
 have I1:Inv X pins σ H { s with heap:=h',toks:=tk }:=I.kept hk
 have hv:Vals ((List.range j.toNat).map fun (k:Nat)=>V.int (0 + (k:Int))) acc.toList:=uh (by simpa using hacc.1) fun i v q=>hacc.2 i v (by simpa using q)
 have I2:Inv X pins σ (upd H h'.objs.size (.tup ((List.range j.toNat).map fun (k:Nat)=>V.int (0 + (k:Int))))) { s with heap:=h'.push { cls:=.type "tuple",data:=.seq acc },toks:=tk } :=
  I1.laid (t':=tk) (fun b o e=>Heap.get?_push_of_some _ e) (Nat.le_refl _) (show ObjOk X.prog X.w _ _ _ (.tup _) from ⟨by rw [List.length_map,List.length_range];exact Nat.le_trans (show j.toNat<=100000 by omega) (by decide),acc.toList,hv,by simpa using IsTup.new _ _⟩)
 exact ⟨.ref h'.objs.size,_,I2,rfl,q _ I1.fresh⟩
def rgT:List D->R D
 | [.int j]=>if -(2 ^ 62)<=j/\j<=100000 then .val (.tup (rng 0 j.toNat)) else .bad
 | _=>.bad
def ke (F:Rho->R (List D)):Rho->R D:=fun ρ=>(F ρ).bind rgT
theorem yZ {K:Frag} {H:Hp} (n:Nat):HasL K C H ((List.range n).map fun (k:Nat)=>V.int (0 + (k:Int))) (rng 0 n):=by
 unfold rng
 induction List.range n with
 | nil=>exact .nil
 | cons x r ih=>exact .cons (.int _) ih
theorem tW {a : Expr} {p p2 pos pos2 : Pos} {F : Rho -> R (List D)} (hc : X.calm = true) (ha : AD C X [a] F) (hgr : Gl X "range") (hmr : X.mg "range" = none) (hgt : Gl X "tuple") (hmt : X.mg "tuple" = none)
    (hs : starEach [a] X.env = [(false, eval a X.env)] := by rfl) (hs2 : starEach [.Call (.Name "range" p2) [a] [] pos2] X.env = (false, eval (.Call (.Name "range" p2) [a] [] pos2) X.env) :: starEach [] X.env := by rfl)
    (hs3 : ∀ t : TA, PA X [.Call (.Name "range" p2) [a] [] pos2] t -> PE X (.Call (.Name "tuple" p) [.Call (.Name "range" p2) [a] [] pos2] [] pos) (tCB yf t) := by
      exact fun t ha => dB (jz (by assumption)) (by assumption) (by assumption) PySem.boot_tuple ha) :
    ED C X (.Call (.Name "tuple" p) [.Call (.Name "range" p2) [a] [] pos2] [] pos) (ke F) :=
  aQ (hs3 _ (dk (C6 hgr hmr ha hs) eX hs2)) fun σ H Q yy0 => by
   obtain ⟨ρ, ⟨H0, r⟩, q⟩ := yy0
   exact ⟨ρ, ⟨H0, r⟩, ff (P := fun z H => pV X (e9 C X ρ σ) z σ H Q) (fun _ h => h) (fun h => h) q fun ds vs H1 s1 h1 q1 => by
    unfold rgT at q1
    split at q1
    · rename_i j
      split at q1
      · rename_i hj
        cases h1 with
        | cons a b =>
          cases a; cases b
          refine ⟨j, rfl, hj.1, by omega, fun ra hra => ⟨ra, j, rfl, ba, hj.1, hj.2, fun pa hpa => q1 _ _ ((s1.trans (aX hra)).trans (aX hpa)) ?_⟩⟩
          exact .tup (((r.mono s1).mono (aX hra)).new hpa) (yZ _)
      · exact q1.elim
    · exact q1.elim⟩
end
end DL
namespace DL
open PySem PySem.Spec PyProof.Rows L2
def IsArr (h:Heap) (k:KA) (a:Addr):Prop:=∃ ta t1 t2 its,IsTup h a #[.int k.1 t1,.int k.2.1 t2,.ref ta]/\IsTup h ta its.toArray/\IntsAre its k.2.2
theorem tu {prog:Program} {w:World}:∀ {its:List Value} {ks:List Int},IntsAre its ks->ItemsAre (intKind prog w) ks its
 | _,_,.nil=>.nil
 | _,_,.cons n t h=>.cons (by show Value.isInt n (.int n t)=true;simp [Value.isInt]) (tu h)
theorem qD {prog:Program} {w:World} {h:Heap} {ta:Addr} {its:List Value} {ks:List Int} (h1:IsTup h ta its.toArray) (h2:IntsAre its ks):IsTupleKey (intKind prog w) h ks ta:=by
 obtain ⟨o,ho,hc,n,hd⟩:=h1
 exact ⟨o,its.toArray,n,ho,hc,hd,by simpa using tu h2⟩
theorem mB:∀ {its:List Value} {ks ls:List Int},IntsAre its ks->IntsAre its ls->ks=ls
 | _,_,_,.nil,.nil=>rfl
 | _,_,_,.cons n t h,.cons _ _ h'=>by rw [mB h h']
theorem qj {h:Heap} {a:Addr} {x y:Array Value} (h1:IsTup h a x) (h2:IsTup h a y):x=y:=by
 obtain ⟨o,ho,hc,n,hd⟩:=h1
 obtain ⟨o',ho',hc',n',hd'⟩:=h2
 rw [ho] at ho';cases ho'
 rw [hd] at hd';injection hd'
theorem IsArr.inj {h:Heap} {k l:KA} {a:Addr} (h1:IsArr h k a) (h2:IsArr h l a):k=l:=by
 obtain ⟨ta,t1,t2,its,q1,q2,q3⟩:=h1
 obtain ⟨tb,u1,u2,jts,p1,p2,p3⟩:=h2
 have e:=qj q1 p1
 have e':=congrArg Array.toList e
 simp only [List.cons.injEq,Value.int.injEq,Value.ref.injEq] at e'
 obtain ⟨⟨e1,_⟩,⟨e2,_⟩,e3,_⟩:=e'
 subst e3
 have e4:=qj q2 p2
 have e5:its=jts:=by simpa using congrArg Array.toList e4
 subst e5
 have e6:=mB q3 p3
 obtain ⟨a1,a2,a3⟩:=k
 obtain ⟨b1,b2,b3⟩:=l
 simp only at e1 e2 e6
 rw [e1,e2,e6]
theorem my {h h':Heap} {a d:Addr} {o:Obj} {es ep} {x:Array Value} (hx:IsTup h a x) (ho:h.get? d=some o) (hd:o.data=.dict es ep) (hs:Heap.SameBut d h h'):IsTup h' a x:=by
 obtain ⟨o',ho',hc,n,hd'⟩:=hx
 have hne:a ≠ d:=by
  rintro rfl
  rw [ho] at ho';cases ho'
  rw [hd] at hd';cases hd'
 exact ⟨o',(hs.2 a hne).trans ho',hc,n,hd'⟩
section
variable {prog:Program} {w:World} {A:Around} {E:Value->Shared->Prop} {s:Shared}
theorem uE {k:KA} {a:Addr} {Q:Int->Shared->Prop} (hu:A.units + 2 < cLine) (hk:IsArr s.heap k a) (h:Q (nl k) { s with toks:=s.toks + (k.2.2.length + 4) }):wpAny (model prog w) A (pyHash (.ref a)) Q E s:=by
 obtain ⟨ta,t1,t2,its,q1,q2,q3⟩:=hk
 have hT:s.TypeIs (.ref a) "tuple":=let ⟨o,ho,hc,_⟩:=q1;⟨o,ho,hc⟩
 obtain ⟨o,ho,_,n,hd⟩:=id q1
 unfold pyHash
 first | unfold pyHashByItsType | skip
 first | refine wpAny_bind (wpAny_cRoomFor_or (.inr (by omega)) ?_) | skip
 refine wpAny_bind (wpAny_specialOf hT F.slot_tuple_hash.lookup ?_)
 show wpAny _ _ (if (some (Value.builtin "tuple.__hash__") == some Value.none)=true then _ else _) Q E s
 rw [if_neg (by rw [beq_builtin_none];exact Bool.false_ne_true)]
 refine wpAny_bind (wpAny_specialOf hT F.slot_tuple_hash.lookup ?_)
 show wpAny _ _ (callSpecialIfBoundUnlessNone? (.ref a) "__hash__" _ >>= _) Q E s
 refine wpAny_bind (wpAny_callSpecialIfBoundUnlessNone?_slot hT F.slot_tuple_hash (wpAny_call_entry F.slot_tuple_hash hT F.entry_tuple_hash ?_ (F.args_tuple_hash_1 _)))
 show wpAny _ _ (Builtin.Tuple.tupleItemsOf (.ref a) >>= _) _ _ s
 refine wpAny_bind (wpAny_tupleItemsOf ho hd ?_)
 refine wpAny_bind ?_
 rw [<- Array.forIn_toList]
 simp only [List.forIn_cons,List.forIn_nil]
 refine wpAny_bind (wpAny_bind (wpAny_pyHash_int ?_))
 refine wpAny_pure ?_
 refine wpAny_bind (wpAny_bind (wpAny_pyHash_int ?_))
 refine wpAny_pure ?_
 refine wpAny_bind (wpAny_bind (wpAny_pyHash_tuple (knd:=intKind prog w) (ks:=k.2.2) (by show A.units + 1 < cLine;omega) (qD q2 q3) ?_))
 refine wpAny_pure (wpAny_pure ?_)
 show wpAny _ _ (retInt (Builtin.Tuple.tupleHashOf _)) _ _ _
 refine wpAny_ret_mkInt ?_
 have e:((((#[]:Array Int).push (hashInt k.1)).push (hashInt k.2.1)).push (tupleKeyHash (intKind prog w) k.2.2)).toList=[hashInt k.1,hashInt k.2.1,reduceHash (Builtin.Tuple.tupleHashOf (k.2.2.map hashInt))]:=rfl
 rw [e]
 unfold nl at h
 generalize hg:Builtin.Tuple.tupleHashOf [hashInt k.1,hashInt k.2.1,reduceHash (Builtin.Tuple.tupleHashOf (k.2.2.map hashInt))]=G at h ⊢
 show wpAny _ _ (if (decide (-(2:Int) ^ 63<=G) && decide (G < 2 ^ 63))=true then _ else _) Q E _
 unfold reduceHash at h
 by_cases hr:(decide (-(2:Int) ^ 63<=G) && decide (G < 2 ^ 63))=true
 ·rw [if_pos hr]
  rw [if_pos hr] at h
  refine wpAny_pure ?_
  simpa [Nat.add_assoc,Nat.add_comm,Nat.add_left_comm] using h
 ·rw [if_neg hr]
  rw [if_neg hr] at h
  refine wpAny_bind (wpAny_rule (wpAny_pure ?_))
  simpa [Nat.add_assoc,Nat.add_comm,Nat.add_left_comm] using h
theorem zx {k l:KA} {a b:Addr} (hu:A.units + 2 < cLine) (hk:IsArr s.heap k a) (hl:IsArr s.heap l b):SeqAt.EqAt A s (.ref a) (.ref b) (decide (k=l)):=by
 by_cases hab:a=b
 ·subst hab
  rw [hk.inj hl,decide_eq_true rfl]
  exact SeqAt.EqAt.same _
 ·refine SeqAt.EqAt.of_refs hab ?_
  obtain ⟨ta,t1,t2,its,q1,q2,q3⟩:=hk
  obtain ⟨tb,u1,u2,jts,p1,p2,p3⟩:=hl
  have z:=SeqAt.RcAt.tuples (A:=A) (s:=s) (e:=fun j=>if j=0 then k.1 == l.1 else if j=1 then k.2.1 == l.2.1 else decide (k.2.2=l.2.2)) q1 p1 (by omega) fun j h1 h2=>by
   have hj:j=0\/j=1\/j=2:=by
    have:j < 3:=h1
    omega
   rcases hj with rfl | rfl | rfl
   ·exact SeqAt.EqAt.int_int _ _ _ _
   ·exact SeqAt.EqAt.int_int _ _ _ _
   ·exact fun prog w E Q hq=>wpAny_eqBool_tuple (knd:=intKind prog w) (by show A.units + 1 < cLine;omega) (qD q2 q3) (qD p2 p3) hq
  have e:((List.range (min (#[Value.int k.1 t1,.int k.2.1 t2,.ref ta]:Array Value).size (#[Value.int l.1 u1,.int l.2.1 u2,.ref tb]:Array Value).size)).all (fun j=>if j=0 then k.1 == l.1 else if j=1 then k.2.1 == l.2.1 else decide (k.2.2=l.2.2)) &&
    (#[Value.int k.1 t1,.int k.2.1 t2,.ref ta]:Array Value).size == (#[Value.int l.1 u1,.int l.2.1 u2,.ref tb]:Array Value).size)=decide (k=l):=by
   obtain ⟨a1,a2,a3⟩:=k
   obtain ⟨b1,b2,b3⟩:=l
   show ((List.range 3).all _ && true)=_
   rw [Bool.eq_iff_iff]
   simp [List.range_succ]
  rw [e] at z
  exact z
theorem wK (n:Nat) {ks:List Int} {a:Addr} {Q:Bool->Shared->Prop} (hk:IsTupleKey (intKind prog w) s.heap ks a) (h:Q true s):wpAny (model prog w) A (eqIsQuiet (n + 1) (.ref a)) Q E s:=by
 have hT:=hk.typeIs
 obtain ⟨o,items,m,ho,_,hd,hi⟩:=hk
 unfold eqIsQuiet
 refine wpAny_bind (wpAny_specialOf hT F.slot_tuple_eq.lookup ?_)
 show wpAny _ _ (isInstance (.ref a) (.type "tuple") >>= _) _ _ s
 refine wpAny_bind (wpAny_isInstance hT isSubtype_tuple_tuple ?_)
 simp only [Bool.not_true,Bool.false_eq_true,if_false]
 refine wpAny_bind (wpAny_seqItems ho hd ?_)
 refine wpAny_bind ?_
 show wpAny _ _ (forIn items _ _) _ _ s
 rw [<- Array.forIn_toList]
 refine wpAny_forIn_list _ (fun rest r s'=>r.1=none/\s'=s/\∀ v ∈ rest,carriedByValue v=true) _ ?_ ?_ _ _ ⟨rfl,rfl,hi.byValue⟩
 ·rintro v rest r s' ⟨hr,rfl,hall⟩
  rw [eqIsQuiet_byValue _ (hall v List.mem_cons_self)]
  refine wpAny_bind (wpAny_pure ?_)
  simp only [Bool.not_true,Bool.false_eq_true,if_false]
  exact wpAny_pure ⟨rfl,rfl,fun u hu'=>hall u (List.mem_cons_of_mem _ hu')⟩
 ·rintro ⟨r1,r2⟩ s' ⟨hr,rfl,_⟩
  simp only at hr
  subst hr
  exact wpAny_pure h
theorem wL {k:KA} {a:Addr} {Q:Bool->Shared->Prop} (hk:IsArr s.heap k a) (h:Q true s):wpAny (model prog w) A (eqIsQuiet 8 (.ref a)) Q E s:=by
 obtain ⟨ta,t1,t2,its,q1,q2,q3⟩:=hk
 have hT:s.TypeIs (.ref a) "tuple":=let ⟨o,ho,hc,_⟩:=q1;⟨o,ho,hc⟩
 obtain ⟨o,ho,_,n,hd⟩:=id q1
 unfold eqIsQuiet
 refine wpAny_bind (wpAny_specialOf hT F.slot_tuple_eq.lookup ?_)
 show wpAny _ _ (isInstance (.ref a) (.type "tuple") >>= _) _ _ s
 refine wpAny_bind (wpAny_isInstance hT isSubtype_tuple_tuple ?_)
 simp only [Bool.not_true,Bool.false_eq_true,if_false]
 refine wpAny_bind (wpAny_seqItems ho hd ?_)
 refine wpAny_bind ?_
 show wpAny _ _ (forIn (#[Value.int k.1 t1,.int k.2.1 t2,.ref ta]:Array Value) _ _) _ _ s
 rw [<- Array.forIn_toList]
 refine wpAny_forIn_list _ (fun rest r s'=>r.1=none/\s'=s/\∀ v ∈ rest,carriedByValue v=true\/v=.ref ta) _ ?_ ?_ _ _ ⟨rfl,rfl,fun v hv=>?_⟩
 ·rintro v rest r s' ⟨hr,rfl,hall⟩
  rcases hall v List.mem_cons_self with hv | rfl
  ·rw [eqIsQuiet_byValue _ hv]
   refine wpAny_bind (wpAny_pure ?_)
   simp only [Bool.not_true,Bool.false_eq_true,if_false]
   exact wpAny_pure ⟨rfl,rfl,fun u hu'=>hall u (List.mem_cons_of_mem _ hu')⟩
  ·refine wpAny_bind (wK (prog:=prog) (w:=w) 6 (qD q2 q3) ?_)
   simp only [Bool.not_true,Bool.false_eq_true,if_false]
   exact wpAny_pure ⟨rfl,rfl,fun u hu'=>hall u (List.mem_cons_of_mem _ hu')⟩
 ·rintro ⟨r1,r2⟩ s' ⟨hr,rfl,_⟩
  simp only at hr
  subst hr
  exact wpAny_pure h
 ·have hv:v ∈ [Value.int k.1 t1,.int k.2.1 t2,.ref ta]:=hv
  simp only [List.mem_cons,List.not_mem_nil,or_false] at hv
  rcases hv with rfl | rfl | rfl
  ·exact .inl rfl
  ·exact .inl rfl
  ·exact .inr rfl
end
def nu (prog:Program) (w:World):HeapKind prog w KA where
 is:=IsArr
 hash:=nl
 draws:=fun k=>k.2.2.length + 4
 room:=fun A=>A.units + 2 < cLine
 inj:=fun hx hy=>hx.inj hy
 keeps:=fun hx ho hd hs=>by
  obtain ⟨ta,t1,t2,its,q1,q2,q3⟩:=hx
  exact ⟨ta,t1,t2,its,my q1 ho hd hs,my q2 ho hd hs,q3⟩
 pyHash:=fun hu hk h=>uE hu hk h
 eqBool:=fun hu hx hy h=>zx hu hx hy _ _ _ _ h
 quiet:=fun hk h=>wL hk h
variable {C:Addr} {X:Cx}
theorem kK {pins:List (Addr × Obj)} {σ:St} {H:Hp} {s:Shared} (I:Inv X pins σ H s) {k:KA} {kb:Addr} (h:KeyIn H k kb):IsArr s.heap k kb:=by
 obtain ⟨ta,h1,h2⟩:=h
 obtain ⟨its,r,p,_⟩:=I.tuple (SqT.of h1)
 obtain ⟨jts,r2,p2,_⟩:=I.tuple (SqT.of h2)
 cases r with
 | cons a b =>
  cases b with
  | cons c d =>
   cases d with
   | cons e f =>
    cases f
    obtain ⟨t1,rfl⟩:=a
    obtain ⟨t2,rfl⟩:=c
    cases e
    exact ⟨ta,t1,t2,jts,p,p2,uS r2⟩
theorem rV {pins:List (Addr × Obj)} {σ:St} {H:Hp} {s:Shared} (I:Inv X pins σ H s) {a:Addr} {xs:List (KA × Addr × Value)} (e:H a=some (kT a xs)) (hk:∀ x ∈ xs,KeyIn H x.1 x.2.1) (nd:(xs.map (·.1)).Nodup) :
  s.heap.DictOfH (nu X.prog X.w) a xs/\(a == sysModules)=false/\xs.length<=100001:=by
 obtain ⟨⟨h1,hl,o,es,ep,h2,h3,h4,h5⟩,_⟩:=I.hok a _ e
 exact ⟨⟨o,es,ep,h2,h3,h4,h5,fun x hx=>kK I (hk x hx),nd⟩,h1,hl⟩
def FO:R2:=fun x y H Q=>∃ a xs kb k p v,x=.ref a/\y=.ref kb/\H a=some (kT a xs)/\(∀ x ∈ xs,KeyIn H x.1 x.2.1)/\(xs.map (·.1)).Nodup/\KeyIn H k kb/\atKey xs k=some p/\RelV v p.2/\Q v H
theorem DI (hu:X.A.units + 3 < cLine):IxR X FO:=by
 intro value slice pins s σ H x y v u Q I rx ry h hs
 obtain ⟨a,xs,kb,k,p,v',rfl,rfl,e,hk,nd,hkey,hp,rp,q⟩:=h
 cases rx
 cases ry
 obtain ⟨hD,_,_⟩:=rV I e hk nd
 exact subscriptTail_builtinR (x:=p.2) hD.typeIs slot_dict_getitem.lookup
  (wpAny_getItem_heap (knd:=nu X.prog X.w) (Q:=fun r s'=>r=p.2/\EP X pins σ Q r s') (by show X.A.units + 1 + 2 < cLine;omega) (kK I hkey) hD hp ⟨rfl,v',H,I.tok _,rp,q⟩) hs
def FP (neg:Bool):R2:=fun x y H Q=>∃ a xs kb k,x=.ref kb/\y=.ref a/\H a=some (kT a xs)/\(∀ x ∈ xs,KeyIn H x.1 x.2.1)/\(xs.map (·.1)).Nodup/\KeyIn H k kb/\Q (.bl (if neg then !(atKey xs k).isSome else (atKey xs k).isSome)) H
theorem AU (hu:X.A.units + 3 < cLine):OpR X (compareOp .NotIn) (FP true):=by
 intro pins s σ H x y v u Q I rx ry h
 obtain ⟨a,xs,kb,k,rfl,rfl,e,hk,nd,hkey,q⟩:=h
 cases rx
 cases ry
 obtain ⟨hD,hs,_⟩:=rV I e hk nd
 exact wpAny_notIn_heap (knd:=nu X.prog X.w) (by show X.A.units + 1 + 2 < cLine;omega) (kK I hkey) hs hD ⟨.bl _,H,I.tok _,rfl,q⟩
def Ey:BP:=fun o i v H Q=>∃ a xs kb k,o=.ref a/\i=.ref kb/\H a=some (kT a xs)/\(∀ x ∈ xs,KeyIn H x.1 x.2.1)/\(xs.map (·.1)).Nodup/\KeyIn H k kb/\xs.length<=100000/\∀ u,RelV v u->((storedH xs k kb u).map (·.1)).Nodup->Q (upd H a (kT a (storedH xs k kb u)))
theorem o5 {a:Addr} {xs:List (KA × Addr × Value)}:∀ h1 h2:Heap,dOk a xs h1->(∀ o,h1.get? a=some o->h2.get? a=some o)->dOk a xs h2:=fun h1 h2 ⟨p1,p2,o,es,ep,e1,e2,e3,e4⟩ k=>⟨p1,p2,o,es,ep,k o e1,e2,e3,e4⟩
theorem vy (hu:X.A.units + 3 < cLine):D7 X Ey:=by
 intro pins s σ H o i v ov iv u Q I ro ri rv h
 obtain ⟨a,xs,kb,k,rfl,rfl,e,hk,nd,hkey,hl,q⟩:=h
 cases ro
 cases ri
 obtain ⟨hD,hs,_⟩:=rV I e hk nd
 refine wpAny_setItem_heap (knd:=nu X.prog X.w) (by show X.A.units + 1 + 2 < cLine;omega) (kK I hkey) hD (fun h' hD' sb=>?_) (Nat.le_trans hl (by decide))
 obtain ⟨o',es,ep,e1,e2,e3,e4,_,nd'⟩:=hD'
 have len:(storedH xs k kb u).length<=100001:=by
  cases z:atKey xs k with
  | none=>rw [storedH_new z];simp;omega
  | some p=>rw [storedH_old z];simp;omega
 refine ⟨_,I.write (x:=a) (e:=a) (by rw [e];exact True.intro) (.inl rfl) (fun b w hb z=>(sb.2 b hb).trans z) ⟨o',e1⟩ ?_,q u rv nd'⟩
 exact ⟨⟨hs,len,o',es,ep,e1,e2,e3,e4⟩,⟨o',e1⟩,o5⟩
def oy (kvs:List (KA × D)) (k:KA) (d:D):List (KA × D):=if (kvs.any fun p=>decide (p.1=k))=true then kvs.map (fun p=>if p.1=k then (p.1,d) else p) else kvs ++ [(k,d)]
def uR (kvs:List (KA × D)) (k:KA):Option D:=(kvs.find? fun p=>decide (p.1=k)).map (·.2)
def ik:List D->Option (List Int)
 | []=>some []
 | .int i :: r=>(ik r).map (i :: ·)
 | _=>none
def pP:D->Option KA
 | .tup [.int a,.int b,.tup xs]=>(ik xs).map fun l=>(a,b,l)
 | _=>none
theorem lJ {K:Frag} {M:Hp}:∀ {xs:List D} {l:List Int} {vs:List V},ik xs=some l->HasL K C M vs xs->vs=l.map V.int
 | [],l,vs,e,h=>by cases e;cases h;rfl
 | x :: r,l,vs,e,h=>by
  cases x with
  | int i =>
   rw [ik] at e
   cases z:ik r with
   | none=>rw [z] at e;cases e
   | some l' =>
    rw [z] at e;cases e
    cases h with
    | cons a b=>cases a;rw [lJ z b];rfl
  | _=>cases e
theorem rE {K:Frag} {M:Hp} {d:D} {k:KA} {v:V} (e:pP d=some k) (h:Has K C M v d):∃ kb,v=.ref kb/\KeyIn M k kb:=by
 unfold pP at e
 split at e
 ·rename_i a b xs
  cases z:ik xs with
  | none=>rw [z] at e;cases e
  | some l =>
   rw [z] at e;cases e
   cases h with
   | tup q hl =>
    cases hl with
    | cons h1 hl =>
     cases h1
     cases hl with
     | cons h2 hl =>
      cases h2
      cases hl with
      | cons h3 hl =>
       cases hl
       cases h3 with
       | tup q2 g=>rw [lJ z g] at q2;exact ⟨_,rfl,_,q,q2⟩
 ·cases e
section
variable {K:Frag} {M:Hp}
theorem rR:∀ {kvs:List (KA × D)} {xs:List (KA × Addr × Value)} {k:KA},Paired (EntOk K C M) kvs xs->(atKey xs k).isSome=kvs.any fun p=>decide (p.1=k)
 | _,_,k,.nil=>rfl
 | _,_,k,.cons (a:=p) (b:=q) h t=>by
  have ih:=rR (k:=k) t
  have e:=h.1
  unfold atKey at ih ⊢
  rw [List.find?_cons,List.any_cons,<- e]
  by_cases z:p.1=k
  ·rw [decide_eq_true z];rfl
  ·rw [decide_eq_false z];exact ih
theorem wg:∀ {kvs:List (KA × D)} {xs:List (KA × Addr × Value)} {k:KA} {d:D},Paired (EntOk K C M) kvs xs->uR kvs k=some d->∃ p v,atKey xs k=some p/\RelV v p.2/\Has K C M v d
 | _,_,k,d,.nil,e=>by cases e
 | _,_,k,d,.cons (a:=p) (b:=q) h t,e=>by
  obtain ⟨e1,_,v,h1,h2⟩:=h
  unfold uR at e
  unfold atKey
  rw [List.find?_cons] at e ⊢
  rw [<- e1]
  by_cases z:p.1=k
  ·rw [decide_eq_true z] at e ⊢
   cases e
   exact ⟨_,v,rfl,h1,h2⟩
  ·rw [decide_eq_false z] at e ⊢
   exact wg t e
theorem jq:∀ {kvs:List (KA × D)} {xs:List (KA × Addr × Value)},Paired (EntOk K C M) kvs xs->∀ x ∈ xs,KeyIn M x.1 x.2.1
 | _,_,.nil,x,hx=>by cases hx
 | _,_,.cons h t,x,hx=>by
  rcases List.mem_cons.mp hx with rfl | hx
  ·rw [<- h.1];exact h.2.1
  ·exact jq t x hx
theorem wf {k:KA} {d:D} {u:Value} {v:V} (rv:RelV v u) (hv:Has K C M v d):∀ {kvs:List (KA × D)} {xs:List (KA × Addr × Value)},Paired (EntOk K C M) kvs xs->Paired (EntOk K C M) (kvs.map fun p=>if p.1=k then (p.1,d) else p) (xs.map (putAt k u))
 | _,_,.nil=>.nil
 | _,_,.cons (a:=p) (b:=q) h t=>by
  refine .cons ?_ (wf rv hv t)
  obtain ⟨e1,h2,v',h3,h4⟩:=h
  show EntOk K C M (if p.1=k then (p.1,d) else p) (if q.1=k then (q.1,q.2.1,u) else q)
  rw [<- e1]
  by_cases z:p.1=k
  ·rw [if_pos z,if_pos z];exact ⟨rfl,h2,v,rv,hv⟩
  ·rw [if_neg z,if_neg z];exact ⟨e1,h2,v',h3,h4⟩
theorem we {k:KA} {d:D} {u:Value} {v:V} {kb:Addr} (rv:RelV v u) (hv:Has K C M v d) (hk:KeyIn M k kb) {kvs:List (KA × D)} {xs:List (KA × Addr × Value)} (h:Paired (EntOk K C M) kvs xs):Paired (EntOk K C M) (oy kvs k d) (storedH xs k kb u):=by
 unfold oy
 have e:=rR (k:=k) h
 by_cases z:(kvs.any fun p=>decide (p.1=k))=true
 ·rw [if_pos z]
  rw [z] at e
  obtain ⟨p,hp⟩:=Option.isSome_iff_exists.mp e
  rw [storedH_old hp]
  exact wf rv hv h
 ·rw [if_neg z]
  have:atKey xs k=none:=by
   cases q:atKey xs k with
   | none=>rfl
   | some p=>rw [q] at e;exact absurd e.symm z
  rw [storedH_new this]
  exact Paired.snoc h ⟨rfl,hk,v,rv,hv⟩
end
theorem Rel.setDic {K:Frag} {H0 H:Hp} {ρ:RB} {σ:St} (r:Rel K C H0 ρ σ H) {i:Nat} {a:Addr} (hn:H a=none):Rel K C H0 (ρ.put i (.dic []) [a]) (σ.set i (some (.ref a))) (upd H a (kT a [])) :=
 r.put m6 (fun j hj=>List.getElem?_set_ne fun z=>hj z.symm) (fun b hb=>.inr (by cases List.mem_singleton.mp hb;exact hn)) (fun j _=>.of (aX hn)) (fun b o e=>aX hn b o (msk_some.mp e).2)
  (fun b hb=>.inr (by cases List.mem_singleton.mp hb;exact ⟨[],ba⟩)) fun hi s=>⟨a,qJ (by rw [<- r.len];exact hi),List.mem_singleton.mpr rfl,[],ba,List.nodup_nil,.nil⟩
theorem Rel.putDic {K:Frag} {H0 H:Hp} {ρ:RB} {σ:St} (r:Rel K C H0 ρ σ H) {i:Nat} {a:Addr} {kvs kvs':List (KA × D)} {xs':List (KA × Addr × Value)} (e:ρ.rho[i]?=some (some (.dic kvs))) (q:σ[i]?=some (some (.ref a)))
  (nd:(xs'.map (·.1)).Nodup) (h:Paired (EntOk K C (msk ρ σ H)) kvs' xs'):Rel K C H0 (ρ.put i (.dic kvs') [a]) σ (upd H a (kT a xs')):=by
 obtain ⟨b,e1,ha,_⟩:=r.at_ i _ e
 rw [q] at e1;cases e1
 exact r.put rfl (fun j _=>rfl) (fun b hb=>.inl (by cases List.mem_singleton.mp hb;exact ha)) (fun j hj=>r.apart ha hj) (r.shown ha) (fun b hb=>.inr (by cases List.mem_singleton.mp hb;exact ⟨xs',ba⟩))
  fun hi s=>⟨a,q,List.mem_singleton.mpr rfl,xs',ba,nd,Paired.mapP h fun p q z=>z.mono s⟩
def zG (i:Nat):Rho->R Out:=fun ρ=>.val (.nx (ρ.set i (some (.dic []))))
theorem yu {pos:Pos}:PE X (.Dict [] [] pos) (fun _ H Q=>∀ p,H p=none->Q (.ref p) (upd H p (kT p []))):=fun pins s σ H Q I h=>by
 have big:sysModules < s.heap.objs.size:=Nat.lt_trans (by decide) (show mainGlobals < s.heap.objs.size from (I.mod.glob.keeps I.bk).lt)
 have e1:(s.heap.push { cls:=.type "dict",data:=.dict #[] }).get? s.heap.objs.size=some { cls:=.type "dict",data:=.dict #[] }:=Heap.get?_push_size _ rfl
 have ok:dOk s.heap.objs.size [] (s.heap.push { cls:=.type "dict",data:=.dict #[] }):=⟨by simpa using (Nat.ne_of_gt big),Nat.zero_le _,_,#[],_,e1,⟨rfl,rfl,rfl⟩,rfl,rfl⟩
 exact wpAny_Dict_empty ⟨.ref s.heap.objs.size,_,I.laid (a:=s.heap.objs.size) (o:=kT s.heap.objs.size []) (t':=s.toks) (fun _ _ q=>Heap.get?_push_of_some _ q) (Nat.le_refl _) ⟨ok,⟨_,e1⟩,o5⟩,rfl,h _ I.fresh⟩
theorem vA {i : Nat} {x : Str} {pos pos' dp : Pos} (hN : X.N.Nodup) (hi : X.N[i]? = some x) (hx : Loc X.env.scope x) (hs : swapsWith (.Dict [] [] dp) (some (.Name x pos')) pos.line X.env = pure false := by rfl)
    (hf : X.fn x = true \/ X.env.scope.names.lookup x = some .local := by first | exact .inl rfl | exact .inr rfl | assumption) : SD C X (.Assign [.Name x pos'] (.Dict [] [] dp) pos) (zG i) :=
  bF (nS hN hi hx yu hs hf) fun D σ H yy0 => by
   obtain ⟨_, H0, ⟨ρ, rfl, r⟩, q⟩ := yy0
   exact fun p hp => q _ _ ⟨_, rfl, r.setDic hp⟩
def rT (i:Nat) (k e:Rho->R D):Rho->R Out:=fun ρ=>(e ρ).bind fun d=>(noE (k ρ)).bind fun kd=>match pP kd with
 | some k=>match ρ[i]? with
  | some (some (.dic kvs))=>if kvs.length<=100000 then .val (.nx (ρ.set i (some (.dic (oy kvs k d))))) else .bad
  | _=>.bad
 | none=>.bad
theorem nW {K:Frag} {M:Hp} {kvs:List (KA × D)} {xs:List (KA × Addr × Value)} (h:Paired (EntOk K C M) kvs xs):kvs.length=xs.length:=Paired.length h
theorem uZ {K:Frag} {M M':Hp} {kvs:List (KA × D)} {xs:List (KA × Addr × Value)} (m:Same M M') (h:Paired (EntOk K C M) kvs xs):Paired (EntOk K C M') kvs xs:=Paired.mapP h fun p q z=>z.mono m
theorem vz {i : Nat} {x : Str} {k e : Expr} {p sp pos : Pos} {Fk F : Rho -> R D} (hu : X.A.units + 3 < cLine) (hv : PE X (.Name x p) (fy i)) (hk : ED C X k Fk) (he : ED C X e F)
    (ha : ∀ v, assign (.Subscript (.Name x p) k sp) X.env v = (do
      let ov <- holding [v] (eval (.Name x p) X.env)
      let iv <- holding [v, ov] (eval k X.env)
      standAt sp
      holding [v, ov, iv] (setItem ov iv v)
      release [v, ov, iv] []) := by intro _; rfl)
    (hs : swapsWithSole [.Subscript (.Name x p) k sp] e pos.line X.env = pure false := by rfl) (hw : swappedStores [.Subscript (.Name x p) k sp] e X.env = pure none := by rfl)
    (h1 : (assignEach [.Subscript (.Name x p) k sp] X.env).map (·.2) = [assign (.Subscript (.Name x p) k sp) X.env] := by rfl) :
    SD C X (.Assign [.Subscript (.Name x p) k sp] e pos) (rT i Fk F) :=
  bF (qX he (uG hv hk (vy hu) ha) hs hw h1) fun D σ H yy1 => by
   obtain ⟨_, H0, ⟨ρ, rfl, r⟩, q⟩ := yy1
   exact ⟨ρ, ⟨H0, r⟩, a_ (P := fun z _ => pS C X z H0 D) (fun c h => d9 r h) (fun h => h) q fun d v H1 s1 h1 q1 => by
    cases ek : Fk ρ with
    | exc c => rw [ek] at q1; exact q1.elim
    | bad => rw [ek] at q1; exact q1.elim
    | val kd =>
      rw [ek] at q1
      dsimp only [DL.R.bind, noE] at q1
      split at q1
      · rename_i kk ekk
        split at q1
        · rename_i kvs ei
          split at q1
          · rename_i hl
            obtain ⟨a, ea, _, xs, eH, nd, hp⟩ := r.at_ i _ ei
            refine ⟨_, ea, ρ, ⟨H0, r.mono s1⟩, ?_⟩
            rw [ek]
            intro kv H2 s2 h2
            obtain ⟨kb, rfl, hkey⟩ := rE ekk h2
            have hp2 := uZ (bc (s1.trans s2)) hp
            refine ⟨a, xs, kb, kk, rfl, rfl, s2 _ _ (s1 _ _ eH), fun x hx => (jq hp2 x hx).mono msk_sub, nd, hkey.mono msk_sub, by rw [<- nW hp]; exact hl, fun u ru nd' => ?_⟩
            exact q1 _ _ ⟨_, rfl, ((r.mono s1).mono s2).putDic ei ea nd' (we ru (h1.mono (bc s2)) hkey hp2)⟩
          · exact q1.elim
        · exact q1.elim
      · exact q1.elim⟩
def rX (i:Nat) (k:Rho->R D):Rho->R D:=fun ρ=>match ρ[i]? with
 | some (some (.dic kvs))=>(k ρ).bind fun kd=>match pP kd with
  | some k=>match uR kvs k with
   | some d=>.val d
   | none=>.bad
  | none=>.bad
 | _=>.bad
theorem wn {i:Nat} {x:Str} {k:Expr} {p pos:Pos} {Fk:Rho->R D} (hu:X.A.units + 3 < cLine) (hv:PE X (.Name x p) (fy i)) (hk:ED C X k Fk) (hs:nv k:=by exact fun _ _=>rfl) :
  ED C X (.Subscript (.Name x p) k pos) (rX i Fk) :=
 aQ (BZ (DI hu) hv hk hs) fun σ H Q zz1=>by
  obtain ⟨ρ,⟨H0,r⟩,q⟩:=zz1
  unfold rX at q
  split at q
  ·rename_i kvs ei
   obtain ⟨a,ea,_,xs,eH,nd,hp⟩:=r.at_ i _ ei
   refine ⟨_,ea,ρ,⟨H0,r⟩,a_ (P:=fun z H=>pV X (e9 C X ρ σ) z σ H Q) (fun _ h=>h) (fun h=>h) q fun kd kv H1 s1 h1 q1=>?_⟩
   split at q1
   ·rename_i kk ekk
    split at q1
    ·rename_i d eg
     obtain ⟨kb,rfl,hkey⟩:=rE ekk h1
     have hp2:=uZ (bc s1) hp
     obtain ⟨pr,v,e1,e2,e3⟩:=wg hp2 eg
     exact ⟨a,xs,kb,kk,pr,v,rfl,rfl,s1 _ _ eH,fun x hx=>(jq hp2 x hx).mono msk_sub,nd,hkey.mono msk_sub,e1,e2,q1 v H1 s1 e3⟩
    ·exact q1.elim
   ·exact q1.elim
  ·exact q.elim
def zF (i:Nat) (k:Rho->R D):Rho->R Bool:=fun ρ=>(k ρ).bind fun kd=>match ρ[i]? with
 | some (some (.dic kvs))=>match pP kd with
  | some k=>.val (!(kvs.any fun p=>decide (p.1=k)))
  | none=>.bad
 | _=>.bad
theorem Ab {i : Nat} {x : Str} {k : Expr} {p pos : Pos} {Fk : Rho -> R D} (hu : X.A.units + 3 < cLine) (hv : PE X (.Name x p) (fy i)) (hk : ED C X k Fk) (hm : behindInMarks .NotIn (.Name x p) = false := by rfl) :
    TD C X (.Compare k [.NotIn] [.Name x p] pos) (zF i Fk) :=
  iG (vF (AU hu) hk hv hm) fun σ H Q yy2 => by
   obtain ⟨ρ, ⟨H0, r⟩, q⟩ := yy2
   exact ⟨ρ, ⟨H0, r⟩, a_ (P := fun z H => pB X z σ H Q) (fun _ h => h) (fun h => h) q fun kd kv H1 s1 h1 q1 => by
    split at q1
    · rename_i kvs ei
      obtain ⟨a, ea, _, xs, eH, nd, hp⟩ := r.at_ i _ ei
      split at q1
      · rename_i kk ekk
        obtain ⟨kb, rfl, hkey⟩ := rE ekk h1
        have hp2 := uZ (bc s1) hp
        refine ⟨_, ea, a, xs, kb, kk, rfl, rfl, s1 _ _ eH, fun x hx => (jq hp2 x hx).mono msk_sub, nd, hkey.mono msk_sub, _, rfl, ?_⟩
        have := rR (k := kk) hp2
        rw [this]
        exact q1 H1 s1
      · exact q1.elim
    · exact q1.elim⟩
end DL
namespace DL
open PySem PySem.Spec PyProof.Rows L2
variable {C:Addr} {X:Cx}
def fz (i:Nat) (F:Rho->R Out):Rho->R Out:=fun ρ=>F (frz i ρ)
theorem iu {sts:List Stmt} {F:Rho->R Out} (i:Nat) (h:SDs C X sts F):SDs C X sts (fz i F):=Ah i h
def Fn (P:Program) (w:World) (K:Frag) (mg:Str->Option Value) (base:Heap) (C:Addr) (k:Nat) (x:Str) (n:Nat) (den:List D->R D):Prop :=
 ∃ f fd ps,FnOk P w K mg base CX0 k f fd ps (spD K C n den)/\mg x=some (.ref f)/\keepIn K (.ref f)=true/\Binds K fd ps []
theorem aP {k n:Nat} {den:List D->R D} {x:Str} {p pos:Pos} {e:Expr} {es:List Expr} {Fa:Rho->R (List D)} (F:Fn X.prog X.w X.K X.mg X.base C k x n den) (hr:Room k X.A) (hg:Gl X x) (ha:AD C X (e :: es) Fa) (hx:X.xe=fun _ _=>False)
  (hdb:(x == ("__debug__":Str))=false:=by decide) (he:starEach (e :: es) X.env=(false,eval e X.env) :: starEach es X.env:=by rfl) (hpl:(backTo pos (starEach es X.env)).any (·.1)=false:=by rfl) :
  ED C X (.Call (.Name x p) (e :: es) [] pos) (cal n den Fa):=by
 obtain ⟨f,fd,ps,h1,h2,h3,h4⟩:=F
 exact BC h1 hr hg h2 h3 h4 qh ha hdb he hpl
theorem br {k:Nat} {A:Around} (r:Room k A):A.units + 9 < cLine:=by have:=r.un;omega
theorem qe {k:Nat} {A:Around} (r:Room k A):A.units + 3 < cLine:=by have:=r.un;omega
theorem gP (m:Nat):∀ j ∈ [m],m<=j:=fun j hj=>by rw [List.mem_singleton.mp hj];exact Nat.le_refl _
theorem E5 (m:Nat):∀ j ∈ [m,m + 1],m<=j:=fun j hj=>by
 rcases List.mem_cons.mp hj with h | h
 ·rw [h];exact Nat.le_refl _
 ·rw [List.mem_singleton.mp h];exact Nat.le_succ _
def whD (c:Rho->R Bool) (F:Rho->R Out):Nat->Rho->R Out
 | 0,_=>.bad
 | n + 1,ρ=>(c ρ).bind fun b=>if b=true then (F ρ).bind fun o=>match o with
   | .nx ρ'=>whD c F n ρ'
   | .ct ρ'=>whD c F n ρ'
   | .bk ρ'=>.val (.nx ρ')
   | .rt d=>.val (.rt d)
  else .val (.nx ρ)
theorem xW {c : Expr} {body : List Stmt} {pos : Pos} {Fc : Rho -> R Bool} {F : Rho -> R Out} (n : Nat) (hp : PassesOwn (model X.prog X.w) X.A X.env X.xe) (hc : TD C X c Fc) (hb : SDs C X body F) : SD C X (.While c body [] pos) (whD Fc F n) :=
  bF (yi hp hc hb) fun D σ H yy0 => by
   obtain ⟨_, H0, ⟨ρ, rfl, r⟩, q⟩ := yy0
   exact ⟨fun m σ' H' => ∃ ρ' : RB, eD C X H0 ρ' σ' H' /\ pS C X (whD Fc F m ρ') H0 D, ⟨n, ρ, r, q⟩, fun m σ' H' zz0 => by
    obtain ⟨ρ', r', q'⟩ := zz0
    cases m with
    | zero => exact q'.elim
    | succ m =>
      unfold whD at q'
      refine ⟨ρ', ⟨H0, r'⟩, kD (P := fun z _ => pS C X z H0 D) (fun c h => d9 r' h) (fun h => h) q' fun b H1 s1 q1 => ?_⟩
      cases b with
      | false => exact DK (q1 σ' H1 (r'.mono s1).e)
      | true =>
        refine DJ ⟨fun σ2 H2 => ∃ ρ2 : RB, eD C X H0 ρ2 σ2 H2 /\ pS C X (whD Fc F m ρ2) H0 D, fun σ2 H2 z => ⟨m, Nat.lt_succ_self _, z⟩, ρ', H0, (r'.mono s1).e, ?_⟩
        rw [if_pos rfl] at q1
        cases eF : F ρ' with
        | val o =>
          rw [eF] at q1
          cases o with
          | nx ρ2 => exact fun σ4 H4 ⟨β4, e4, r4⟩ => ⟨β4, r4, by rw [e4]; exact q1⟩
          | ct ρ2 => exact fun σ4 H4 ⟨β4, e4, r4⟩ => ⟨β4, r4, by rw [e4]; exact q1⟩
          | bk ρ2 => exact fun σ4 H4 r4 => q1 σ4 H4 r4
          | rt d => exact fun v4 H4 s4 h4 => q1 v4 H4 s4 h4
        | exc c => rw [eF] at q1; exact q1
        | bad => rw [eF] at q1; exact q1⟩
end DL
namespace DL
open PySem PySem.Spec PyProof.Rows L2
section
variable {env:Env} {r:List Expr} {p:Pos}
theorem ab {x:Str}:starEach (.Name x p :: r) env=(false,eval (.Name x p) env) :: starEach r env:=rfl
theorem aD {a k}:starEach (.Constant a k p :: r) env=(false,eval (.Constant a k p) env) :: starEach r env:=rfl
theorem d5 {a}:starEach (.List a p :: r) env=(false,eval (.List a p) env) :: starEach r env:=rfl
theorem je {a k}:starEach (.Tuple a k p :: r) env=(false,eval (.Tuple a k p) env) :: starEach r env:=rfl
theorem aT {a b c}:starEach (.BinOp a b c p :: r) env=(false,eval (.BinOp a b c p) env) :: starEach r env:=rfl
theorem uw {a b}:starEach (.UnaryOp a b p :: r) env=(false,eval (.UnaryOp a b p) env) :: starEach r env:=rfl
theorem aj {a b}:starEach (.Subscript a b p :: r) env=(false,eval (.Subscript a b p) env) :: starEach r env:=rfl
theorem bC {a b}:starEach (.Attribute a b p :: r) env=(false,eval (.Attribute a b p) env) :: starEach r env:=rfl
theorem ay {a b c}:starEach (.Call a b c p :: r) env=(false,eval (.Call a b c p) env) :: starEach r env:=rfl
theorem bX {a b c}:starEach (.ListComp a b c p :: r) env=(false,eval (.ListComp a b c p) env) :: starEach r env:=rfl
theorem ax:(backTo p (starEach [] env)).any (·.1)=false:=rfl
theorem ar {e:Expr} (h:starEach (e :: r) env=(false,eval e env) :: starEach r env) (h2:(backTo p (starEach r env)).any (·.1)=false):(backTo p (starEach (e :: r) env)).any (·.1)=false:=by
 rw [h];exact h2
theorem bv {e:Expr} (h:starEach [e] env=(false,eval e env) :: starEach [] env):starEach [e] env=[(false,eval e env)]:=h.trans rfl
end
section
variable {K:Frag} {C:Addr} {H0 H:Hp} {ρ:RB} {σ:St}
def RB.del (ρ:RB) (i:Nat):RB:=⟨ρ.rho.set i none,fun j=>if j=i then [] else ρ.ad j⟩
theorem ql {l:Rho} {i j:Nat} {sl:Slt} (h:(l.set i none)[j]?=some (some sl)):i ≠ j/\l[j]?=some (some sl):=by
 rw [List.getElem?_set] at h
 split at h
 ·split at h <;> cases h
 ·exact ⟨by assumption,h⟩
theorem kh {i j:Nat} {a:Addr} (h:a ∈ (ρ.del i).ad j):j ≠ i/\a ∈ ρ.ad j:=by
 unfold RB.del at h
 dsimp only at h
 split at h
 ·cases h
 ·exact ⟨‹_›,h⟩
theorem no {i j:Nat} (h:j ≠ i):(ρ.del i).ad j=ρ.ad j:=by
 unfold RB.del
 dsimp only
 rw [if_neg h]
theorem Own.forget {i:Nat} {b:Addr} (h:Own (ρ.del i) σ b):Own ρ σ b:=by
 obtain ⟨j,h⟩:=h
 exact ⟨j,(kh h).2⟩
theorem Rel.forget (r:Rel K C H0 ρ σ H) (i:Nat):Rel K C H0 (ρ.del i) σ H:=by
 have sub:Same (msk ρ σ H) (msk (ρ.del i) σ H):=fun b o e=>msk_some.mpr ⟨fun z=>(msk_some.mp e).1 z.forget,(msk_some.mp e).2⟩
 refine ⟨?_,r.keep.trans sub,fun j sl e=>?_,fun j k a x y=>r.inj j k a (kh x).2 (kh y).2,fun j a x=>r.kin j a (kh x).2,fun j a x=>?_⟩
 ·show (ρ.rho.set i none).length=_
  rw [List.length_set];exact r.len
 ·obtain ⟨hj,e⟩:=ql e
  rw [no fun z=>hj z.symm]
  exact (r.at_ j sl e).mono (Same.refl _) sub
 ·show j < (ρ.rho.set i none).length
  rw [List.length_set];exact r.bnd j a (kh x).2
end
def spM (K:Frag) (C:Addr) (den:List D->R D):Sp:=fun vs H Q _=>∃ a us xs,vs=[.ref a]/\H a=some (.lst us)/\HasL K C (cut [a] H) us xs/\match den xs with
 | .val d=>∀ v H',Same (cut [a] H) H'->Has K C H' v d->Q v H'
 | _=>False
def Mv (P:Program) (w:World) (K:Frag) (mg:Str->Option Value) (base:Heap) (C:Addr) (k:Nat) (x:Str) (den:List D->R D):Prop :=
 ∃ f fd p,FnOk P w K mg base CX0 k f fd [p] (spM K C den)/\mg x=some (.ref f)/\keepIn K (.ref f)=true/\Binds K fd [p] []
def st1 (N:List Str) (xs:List D):Rho:=some (.own xs) :: List.replicate (N.length - 1) none
theorem CD {N:List Str} {xs:List D} {i:Nat} {sl:Slt} (h:(st1 N xs)[i]?=some (some sl)):i=0/\sl=.own xs:=by
 cases i with
 | zero=>unfold st1 at h;simp at h;exact ⟨rfl,h.symm⟩
 | succ n =>
  unfold st1 at h
  rw [List.getElem?_cons_succ,List.getElem?_replicate] at h
  split at h <;> cases h
section
variable {P:Program} {w:World} {K:Frag} {mg:Str->Option Value} {base:Heap} {C:Addr}
theorem uC {H:Hp} {N:List Str} {a:Addr} {us:List V} {xs:List D} (e:H a=some (.lst us)) (h:HasL K C (cut [a] H) us xs):xB K C (cut [a] H) (st1 N xs) (L2.start N [.ref a]) H:=by
 have s0:(L2.start N [V.ref a])[0]?=some (some (.ref a)):=by unfold L2.start;simp
 have own:∀ {i:Nat} {b:Addr},b ∈ (⟨st1 N xs,fun j=>if j=0 then [a] else []⟩:RB).ad i->i=0/\b=a:=fun {i b} z=>by
  dsimp only at z
  split at z
  ·exact ⟨‹_›,List.mem_singleton.mp z⟩
  ·cases z
 have sub:Same (cut [a] H) (msk ⟨st1 N xs,fun j=>if j=0 then [a] else []⟩ (L2.start N [.ref a]) H):=fun b o e1=>by
  obtain ⟨h1,h2⟩:=cut_some.mp e1
  exact msk_some.mpr ⟨fun ⟨i,z⟩=>h1 (List.mem_singleton.mpr (own z).2),h2⟩
 refine ⟨⟨st1 N xs,fun j=>if j=0 then [a] else []⟩,rfl,?_,sub,fun i sl e1=>?_,fun i j b x y=>(own x).1.trans (own y).1.symm,fun i b x=>.inl ?_,fun i b x=>?_⟩
 ·show (st1 N xs).length=_
  unfold st1 L2.start;simp
 ·obtain ⟨rfl,rfl⟩:=CD e1
  exact ⟨a,us,s0,List.mem_singleton.mpr rfl,e,h.mono sub⟩
 ·rw [(own x).2];exact ⟨us,e⟩
 ·rw [(own x).1];exact Nat.succ_pos _
theorem EV {x qual p:Str} {st:Stmt} {f:Addr} {fd:FuncData} {N:List Str} {k:Nat} {den:Rho->R Out} (F:Fun K x qual st f fd) (sc:aJ N [p] (ai st))
  (hb:∀ (cdv:Value) (A:Around) (outer:List Env) (s:Shared) (H:Hp) (E:XK),Room k (A.deeper (envOfC qual (ai st) s.heap.objs.size f cdv)) ->
   SDs C (bI CX0 P w K mg base N qual (ai st) f cdv A outer s H E).nox (aF st) den) :
  FnOk P w K mg base CX0 (k + 1) f fd [p] (spM K C fun xs=>fin (den (st1 N xs))):=by
 refine F.ok sc (fun vs H Q E h=>?_) (fun cdv A outer s H vs Q E hr h=>⟨_,hb cdv A outer s H E hr,?_⟩)
 ·obtain ⟨a,us,xs,rfl,_⟩:=h
  rfl
 obtain ⟨a,us,xs,rfl,e0,h,q⟩:=h
 refine ⟨st1 N xs,cut [a] H,uC e0 h,?_⟩
 dsimp only at q
 cases e:den (st1 N xs) with
 | val o =>
  rw [e] at q
  cases o with
  | nx ρ'=>exact fun σ' H' ⟨_,_,r⟩=>q _ H' (r.keep.trans msk_sub) .non
  | rt d=>exact fun v H' s' h'=>q v H' s' h'
  | bk ρ'=>exact q.elim
  | ct ρ'=>exact q.elim
 | exc c=>rw [e] at q;exact q.elim
 | bad=>rw [e] at q;exact q.elim
end
section
variable {C:Addr} {X:Cx}
def AX (i:Nat) (den:List D->R D):Rho->R Out:=fun ρ=>match ρ[i]? with
 | some (some (.own xs))=>(noex (den xs)).bind fun d=>.val (.nx (ρ.set i (some (.shr d))))
 | _=>.bad
theorem AF {k i:Nat} {x y:Str} {p p' pos:Pos} {den:List D->R D} (F:Mv X.prog X.w X.K X.mg X.base C k x den) (hr:Room k X.A) (hg:Gl X x) (hv:PE X (.Name y p') (fy i)) (hdb:(x == ("__debug__":Str))=false:=by decide) :
  PE X (.Call (.Name x p) [.Name y p'] [] pos) (fun σ H Q=>∃ (ρ:RB) (H0:Hp) (xs:List D) (d:D),eD C X H0 ρ σ H/\ρ.rho[i]?=some (some (.own xs))/\den xs=.val d/\∀ v H',eD C X H0 (ρ.del i) σ H'->e9 C X (ρ.del i) σ H' v d->Q v H'):=by
 obtain ⟨f,fd,pn,hF,hm,hk,hb⟩:=F
 rintro pins s σ H Q I ⟨ρ,H0,xs,d,r0,e0,ed,q⟩
 obtain ⟨a,vs,e1,ha,h1,h2⟩:=r0.at_ i _ e0
 refine wpAny_Call_Name_kw (iL I hg hm ?_ hdb)
 refine callWith_K (h₀:=X.base) I.ok.mod.kin hk (thn ((dk hv eX ab) pos pins s σ H (fun us H1=>us=[.ref a]/\H1=H) I ⟨_,e1,rfl,rfl⟩) fun us s1 ⟨ws,H1,I1,rv,ew,eh⟩=>⟨I1.kIn,?_⟩) ab ax
 subst ew;subst eh
 have rf:=r0.forget i
 have Z:=Rel.hid rf I1
 have J:=I1.hide Z
 have nz:a ∉ d_ (ρ.del i) σ:=fun z=>by
  obtain ⟨j,z⟩:=(gA rf.bnd).mp z
  exact (kh z).1 (r0.inj j i a (kh z).2 ha)
 have sub:Same (msk ρ σ H1) (cut [a] (cut (d_ (ρ.del i) σ) H1)):=fun b o eb=>by
  obtain ⟨g1,g2⟩:=msk_some.mp eb
  refine cut_some.mpr ⟨fun z=>g1 ?_,cut_some.mpr ⟨fun z=>g1 ((gA rf.bnd).mp z).forget,g2⟩⟩
  rw [List.mem_singleton.mp z]
  exact ⟨i,ha⟩
 refine thn (nO (E:=E0) (Q:=fun v M'=>Same (cut [a] (cut (d_ (ρ.del i) σ) H1)) M'/\Has X.K C M' v d) hF hr hb .nil qh J rv ?_) fun u s2 ⟨v,M',J2,ru,sm,hv'⟩=>?_
 ·rw [List.append_nil]
  refine ⟨a,vs,xs,rfl,cut_some.mpr ⟨nz,h1⟩,h2.mono sub,?_⟩
  rw [ed]
  exact fun v H' s2 h2=>⟨s2,h2⟩
 ·obtain ⟨I2,mz⟩:=I1.show' Z J2
  have em:msk (ρ.del i) σ (jn (d_ (ρ.del i) σ) H1 M')=M':=by
   rw [iJ rf.bnd]
   funext b
   by_cases hb:b ∈ d_ (ρ.del i) σ
   ·rw [gJ hb,mz b hb]
   ·unfold cut;rw [if_neg hb,ci hb]
  have sM:Same (msk ρ σ H1) M':=sub.trans sm
  have keep:∀ j b,b ∈ (ρ.del i).ad j->jn (d_ (ρ.del i) σ) H1 M' b=H1 b:=fun j b hb=>jX ((gA rf.bnd).mpr ⟨j,hb⟩)
  have tup:∀ b us,H1 b=some (.tup us)->jn (d_ (ρ.del i) σ) H1 M' b=some (.tup us):=fun b us eb=>by
   have nb:b ∉ d_ (ρ.del i) σ:=fun z=>rf.tups eb ((gA rf.bnd).mp z)
   rw [ci nb]
   exact sM b _ (msk_some.mpr ⟨r0.tups eb,eb⟩)
  refine ⟨v,_,I2,ru,q v _ ⟨rf.len,by rw [em];exact r0.keep.trans sM,fun j sl ej=>?_,rf.inj,fun j b hb=>by rw [keep j b hb];exact rf.kin j b hb,rf.bnd⟩ (by show Has _ _ (msk _ σ _) v d;rw [em];exact hv')⟩
  rw [em]
  obtain ⟨hj,ej'⟩:=ql ej
  have qq:=r0.at_ j sl ej'
  rw [<- no (ρ:=ρ) (i:=i) fun z=>hj z.symm] at qq
  exact qq.stay ⟨fun b hb o eo=>by rw [keep j b hb];exact eo,tup⟩ sM
theorem Al {k i:Nat} {x y:Str} {p p' cp pos pos':Pos} {den:List D->R D} (F:Mv X.prog X.w X.K X.mg X.base C k x den) (hr:Room k X.A) (hg:Gl X x) (hv:PE X (.Name y p') (fy i)) (hN:X.N.Nodup) (hi:X.N[i]?=some y) (hx:Loc X.env.scope y)
  (hs:swapsWith (.Call (.Name x p) [.Name y p'] [] cp) (some (.Name y pos')) pos.line X.env=pure false) (hdb:(x == ("__debug__":Str))=false:=by decide)
  (hf:X.fn y=true\/X.env.scope.names.lookup y=some .local:=by first | exact .inl rfl | exact .inr rfl | assumption):SD C X (.Assign [.Name y pos'] (.Call (.Name x p) [.Name y p'] [] cp) pos) (AX i den) :=
 bF (nS hN hi hx (AF F hr hg hv hdb) hs hf) fun D σ H zz1=>by
  obtain ⟨_,H0,⟨ρ,rfl,r⟩,q⟩:=zz1
  unfold AX at q
  split at q
  ·rename_i xs e0
   cases ed:den xs with
   | val d =>
    rw [ed] at q
    refine ⟨ρ,H0,xs,d,r,e0,ed,fun v H' r' h'=>?_⟩
    refine q _ _ ⟨_,?_,r'.setShr (i:=i) h'⟩
    show (ρ.rho.set i none).set i _=_
    rw [List.set_set]
   | exc c=>rw [ed] at q;exact q.elim
   | bad=>rw [ed] at q;exact q.elim
  ·exact q.elim
def s_:List D->List (KA × D)->Option (List (KA × D))
 | [],kvs=>some kvs
 | x :: r,kvs=>match pP x with
  | some k=>if kvs.length<=100000 then s_ r (oy kvs k (.bl true)) else none
  | none=>none
def oH (il ix idd:Nat):Rho->R Out:=fun ρ=>match ρ[il]?,ρ[idd]? with
 | some (some (.own xs)),some (some (.dic kvs))=>match s_ xs kvs with
  | some kvs'=>if ix < ρ.length then .val (.nx ((ρ.set ix none).set idd (some (.dic kvs')))) else .bad
  | none=>.bad
 | _,_=>.bad
theorem wG {il ix idd:Nat} {x l d:Str} {px pl pd px2 sp pos2 pos cp:Pos} {j:Nat} (hu:X.A.units + 3 < cLine) (hp:PassesOwn (model X.prog X.w) X.A X.env X.xe) (hc:X.calm=true) (hl:PE X (.Name l pl) (fy il)) (hg:PG X (.Name x px) (i6 ix)) (hd:PE X (.Name d pd) (fy idd)) (hx:PE X (.Name x px2) (fy ix))
  (n1:ix ≠ il:=by decide) (n2:ix ≠ idd:=by decide) (n3:il ≠ idd:=by decide)
  (ha:∀ v,assign (.Subscript (.Name d pd) (.Name x px2) sp) X.env v=(do
   let ov <- holding [v] (eval (.Name d pd) X.env)
   let iv <- holding [v,ov] (eval (.Name x px2) X.env)
   standAt sp
   holding [v,ov,iv] (setItem ov iv v)
   release [v,ov,iv] []):=by intro _;rfl)
  (hs:swapsWithSole [.Subscript (.Name d pd) (.Name x px2) sp] (.Constant (.bool true) j cp) pos2.line X.env=pure false:=by rfl) (hw:swappedStores [.Subscript (.Name d pd) (.Name x px2) sp] (.Constant (.bool true) j cp) X.env=pure none:=by rfl)
  (h1:(assignEach [.Subscript (.Name d pd) (.Name x px2) sp] X.env).map (·.2)=[assign (.Subscript (.Name d pd) (.Name x px2) sp) X.env]:=by rfl)
  (hfs:∀ x,foldedSetIterable (.Name l pl) X.env x=pure x:=by intro _;rfl) :
  SD C X (.For (.Name x px) (.Name l pl) [.Assign [.Subscript (.Name d pd) (.Name x px2) sp] (.Constant (.bool true) j cp) pos2] [] pos) (oH il ix idd) :=
 bF (ym hp hc (AB hl) hg (m8 (qX B0 (uG hd hx (vy hu) ha) hs hw h1)) hfs) fun Dn σ H zz2=>by
  obtain ⟨_,H0,⟨ρ,rfl,r⟩,q⟩:=zz2
  unfold oH at q
  split at q
  ·rename_i xs kvs el ed
   split at q
   ·rename_i kvsf em
    have hix:ix < ρ.rho.length:=by
     by_cases hix:ix < ρ.rho.length
     ·exact hix
     ·rw [if_neg hix] at q;exact q.elim
    rw [if_pos hix] at q
    obtain ⟨a,vs,ea,haA,eH,hL⟩:=r.at_ il _ el
    have hdl:idd < ρ.rho.length:=(List.getElem?_eq_some_iff.mp ed).1
    refine ⟨_,ea,a,rfl,⟨_,SqL.of eH⟩,zc (K:=X.K) (a:=a) (xs:=vs) (fun i σ' H'=>∃ kvs' β,β.rho=(ρ.rho.set ix none).set idd (some (.dic kvs'))/\eD C X H0 β σ' H'/\a ∈ β.ad il/\σ'[il]?=some (some (.ref a))/\H' a=some (.lst vs)/\s_ (xs.drop i) kvs'=some kvsf) ⟨kvs,ρ.del ix,?_,r.forget ix,by rw [no (Ne.symm n1)];exact haA,ea,eH,em⟩ (fun i σ' H' _ ⟨kvs',β,eb,r',hb,e1,e2,e3⟩=>SqL.of e2) ?_ ?_⟩
    ·have e1:(ρ.rho.set ix none)[idd]?=some (some (.dic kvs)):=by rw [List.getElem?_set_ne n2];exact ed
     show ρ.rho.set ix none=_
     apply List.ext_getElem?
     intro m
     by_cases hm:idd=m
     ·subst hm
      rw [List.getElem?_set_self (List.getElem?_eq_some_iff.mp e1).1,e1]
     ·rw [List.getElem?_set_ne hm]
    ·rintro i v σ' H' hi ⟨kvs',β,eβ,r',hbA,e1,e2,e3⟩
     have l1:β.rho[il]?=some (some (.own xs)):=by
      rw [eβ,List.getElem?_set_ne (Ne.symm n3),List.getElem?_set_ne n1];exact el
     obtain ⟨a',vs',g1,ga,g2,g3⟩:=r'.at_ il _ l1
     rw [e1] at g1;cases g1
     rw [e2] at g2;cases g2
     obtain ⟨x0,hx0,hv0⟩:=g3.get' hi
     have hlt:i < xs.length:=(List.getElem?_eq_some_iff.mp hx0).1
     have edr:xs.drop i=x0 :: xs.drop (i + 1):=by
      rw [List.drop_eq_getElem_cons hlt]
      have:=(List.getElem?_eq_some_iff.mp hx0).2
      rw [this]
     rw [edr] at e3
     unfold s_ at e3
     split at e3
     ·rename_i kk ekk
      split at e3
      ·rename_i hlen
       have rs:=r'.setShr (i:=ix) hv0
       have ed':(β.put ix (.shr x0) []).rho[idd]?=some (some (.dic kvs')):=by
        show (β.rho.set ix _)[idd]?=_
        rw [List.getElem?_set_ne n2,eβ,List.getElem?_set_self (by simpa using hdl)]
       obtain ⟨b,eb,hbb,ys,eY,nd,hpd⟩:=rs.at_ idd _ ed'
       rw [m7 (Ne.symm n2)] at hbb
       obtain ⟨kb,rfl,hkey⟩:=rE ekk hv0
       have hxl:ix < σ'.length:=by have:=r'.len;rw [eβ] at this;simp at this;omega
       have ex2:(σ'.set ix (some (V.ref kb)))[ix]?=some (some (.ref kb)):=List.getElem?_set_self hxl
       have hkey2:KeyIn (msk (β.put ix (.shr x0) []) (σ'.set ix (some (V.ref kb))) H') kk kb:=hkey.mono vO
       refine ⟨_,eb,_,ex2,b,ys,kb,kk,rfl,rfl,eY,fun z hz=>(jq hpd z hz).mono msk_sub,nd,hkey.mono msk_sub,by rw [<- nW hpd];exact hlen,fun u ru nd'=>?_⟩
       have r2:=(rs.putDic ed' eb nd' (we ru (.bl true) hkey2 hpd)).forget ix
       refine ⟨oy kvs' kk (.bl true),_,?_,r2,?_,?_,?_,e3⟩
       ·show (((β.rho.set ix (some (.shr x0))).set idd (some (.dic (oy kvs' kk (.bl true))))).set ix none)=_
        rw [eβ]
        apply List.ext_getElem?
        intro m
        simp only [List.getElem?_set,List.length_set]
        by_cases h1:ix=m
        ·subst h1
         simp [Ne.symm n2]
        ·by_cases h2:idd=m
         ·subst h2;simp [h1]
         ·simp [h1,h2]
       ·rw [no (Ne.symm n1),m7 n3,m7 (Ne.symm n1)];exact hbA
       ·rw [List.getElem?_set_ne n1];exact e1
       ·have:a ≠ b:=fun z=>n3 (r'.inj il idd a hbA (z ▸ hbb))
        rw [aH this];exact e2
      ·cases e3
     ·cases e3
    ·rintro σ' H' ⟨kvs',β,eβ,r',_,e1,e2,e3⟩
     have:vs.length=xs.length:=hL.len
     rw [this,List.drop_length] at e3
     cases e3
     exact q _ _ ⟨β,eβ,r'⟩
   ·exact q.elim
  ·exact q.elim
end
section
variable {K:Frag} {C:Addr} {H:Hp} {x C' dx:Addr} {fs:List (Str × V)} {o':HO}
theorem lu {a:Addr} {o:HO} (hx:H x=some (.ins C' dx fs)) (h:H a=some o) (ho:∀ c d f,o=.ins c d f->f.length=3) (hl:fs.length < 3):a ≠ x:=fun z=>by
 subst z;rw [hx] at h;cases h
 have:=ho _ _ _ rfl
 omega
mutual
theorem Has.upd_ins (hx:H x=some (.ins C' dx fs)) (hl:fs.length < 3):∀ {v:V} {d:D},Has K C H v d->Has K C (upd H x o') v d
 | _,_,.non=>.non
 | _,_,.bl b=>.bl b
 | _,_,.int i=>.int i
 | _,_,.lst q h=>.lst (by rw [aH (lu hx q (fun _ _ _ z=>by cases z) hl)];exact q) (HasL.upd_ins hx hl h)
 | _,_,.tup q h=>.tup (by rw [aH (lu hx q (fun _ _ _ z=>by cases z) hl)];exact q) (HasL.upd_ins hx hl h)
 | _,_,.scr q=>.scr (by
   rcases q with (h | ⟨o,h⟩) | h
   ·exact .inl (.inl (by rw [aH (lu hx h (fun _ _ _ z=>by cases z) hl)];exact h))
   ·exact .inl (.inr ⟨o,by rw [aH (lu hx h (fun _ _ _ z=>by cases z) hl)];exact h⟩)
   ·exact .inr h)
 | _,_,.exn q=>.exn (by rw [aH (lu hx q (fun _ _ _ z=>by cases z) hl)];exact q)
 | _,_,.ob q a b c=>.ob (by rw [aH (lu hx q (fun _ _ _ z=>by cases z;rfl) hl)];exact q) (Has.upd_ins hx hl a) (Has.upd_ins hx hl b) (Has.upd_ins hx hl c)
theorem HasL.upd_ins (hx:H x=some (.ins C' dx fs)) (hl:fs.length < 3):∀ {vs:List V} {ds:List D},HasL K C H vs ds->HasL K C (upd H x o') vs ds
 | _,_,.nil=>.nil
 | _,_,.cons a b=>.cons (Has.upd_ins hx hl a) (HasL.upd_ins hx hl b)
end
end
theorem tm (f:Str) (v:V):∀ fs:List (Str × V),(iE f v fs).length<=fs.length + 1
 | []=>Nat.le_refl _
 | (g,x) :: r=>by
  unfold iE
  split
  ·simp
  ·simpa using tm f v r
def xz:List (Rho->R D)->Rho->R Unit
 | [],_=>.val ()
 | c :: cs,ρ=>(c ρ).bind fun _=>xz cs ρ
def BE (cs:List (Rho->R D)) (f1 f2 f3:Rho->R (List D)):Rho->R D:=fun ρ=>(xz cs ρ).bind fun _=>(f1 ρ).bind fun es=>(f2 ρ).bind fun rs=>(f3 ρ).bind fun ts=>.val (.ob (.lst es) (.lst rs) (.lst ts))
def jV (e r t:D):Rho:=[none,some (.shr e),some (.shr r),some (.shr t)]
def spI (K:Frag) (C:Addr) (den:Rho->R D):Sp:=fun vs H Q _=>∃ x dx ve vr vt e r t,vs=[.ref x,ve,vr,vt]/\H x=some (.ins C dx [])/\Has K C H ve e/\Has K C H vr r/\Has K C H vt t/\match den (jV e r t) with
 | .val d=>∀ H',(∀ b o,H b=some o->b ≠ x->H' b=some o)->Has K C H' (.ref x) d->Q .non H'
 | _=>False
section
variable {C:Addr} {X:Cx}
variable (C X) in
def tCk:List (Rho->R D)->TS->TS
 | [],t=>t
 | c :: cs,t=>Ac (nF (teB C X c)) (tCk cs t)
theorem j4 {st:Stmt} {rest:List Stmt} {c:Rho->R D} {cs:List (Rho->R D)} {t:TS} (h1:PS X st (nF (teB C X c))) (h2:PSs X rest (tCk C X cs t)):PSs X (st :: rest) (tCk C X (c :: cs) t):=jh h1 h2
theorem nU {e:Expr} {pos:Pos} {F:Rho->R D} (he:EB C X e F) (hs:swapsWith e none pos.line X.env=pure false:=by rfl):PS X (.Expr e pos) (nF (teB C X F)):=kB he hs
theorem ww {ρ:RB} {t:TS} {Dn:ld} {σ:St}:∀ {cs:List (Rho->R D)} {H H0:Hp},eD C X H0 ρ σ H->xz cs ρ=.val ()->(∀ H1,Same H H1->t Dn σ H1)->tCk C X cs t Dn σ H
 | [],H,H0,r,_,k=>k H (Same.refl _)
 | c :: cs,H,H0,r,e,k=>by
  unfold xz at e
  cases ec:c ρ with
  | val d =>
   rw [ec] at e
   show teB C X c σ H _
   refine ⟨ρ,⟨H0,r⟩,?_⟩
   rw [ec]
   exact fun v H1 s1 _=>ww (r.mono s1) e fun H2 s2=>k H2 (s1.trans s2)
  | exc c=>rw [ec] at e;cases e
  | bad=>rw [ec] at e;cases e
variable (C X) in
def tI (f1 f2 f3:Rho->R (List D)):TS:=Ac (qO X.K (fy 0) (teF C X f1) "ends") (Ac (qO X.K (fy 0) (teF C X f2) "rests") (qO X.K (fy 0) (teF C X f3) "table"))
theorem EK {s1 s2 s3:Stmt} {f1 f2 f3:Rho->R (List D)} (h1:PS X s1 (qO X.K (fy 0) (teF C X f1) "ends")) (h2:PS X s2 (qO X.K (fy 0) (teF C X f2) "rests")) (h3:PS X s3 (qO X.K (fy 0) (teF C X f3) "table")):PSs X [s1,s2,s3] (tCk C X [] (tI C X f1 f2 f3)):=by
 have h:=jh h1 (jh h2 (m8 h3))
 exact h
theorem yj {o value:Expr} {f:Str} {pos pos':Pos} {i:Nat} {F:Rho->R (List D)} (ho:PE X o (fy i)) (hv:FD C X value F) (hs:swapsWith value (some (.Attribute o f pos')) pos.line X.env=pure false:=by rfl):PS X (.Assign [.Attribute o f pos'] value pos) (qO X.K (fy i) (teF C X F) f):=C0 ho hv hs
def rb3 (e r t:D):RB:=⟨jV e r t,fun _=>[]⟩
theorem Ew {K:Frag} {H:Hp} {x:Addr} {ve vr vt:V} {e r t:D} (h1:Has K C H ve e) (h2:Has K C H vr r) (h3:Has K C H vt t):Rel K C H (rb3 e r t) [some (.ref x),some ve,some vr,some vt] H:=by
 have sub:Same H (msk (rb3 e r t) [some (.ref x),some ve,some vr,some vt] H):=fun b o eb=>msk_some.mpr ⟨fun ⟨_,z⟩=>(List.not_mem_nil z).elim,eb⟩
 refine ⟨rfl,sub,fun i sl h=>?_,fun i j a z=>(List.not_mem_nil z).elim,fun i a z=>(List.not_mem_nil z).elim,fun i a z=>(List.not_mem_nil z).elim⟩
 match i,h with
 | 0,h=>cases h
 | 1,h=>cases h;exact ⟨ve,rfl,h1.mono sub⟩
 | 2,h=>cases h;exact ⟨vr,rfl,h2.mono sub⟩
 | 3,h=>cases h;exact ⟨vt,rfl,h3.mono sub⟩
 | n + 4,h=>unfold rb3 jV at h;simp at h
theorem oJ {F:Rho->R (List D)} {f:Str} {Dn:ld} {H:Hp} {x dx:Addr} {fs:List (Str × V)} {ve vr vt:V} {e r t:D} {xs:List D} (hx:H x=some (.ins C dx fs)) (hl:fs.length < 3) (c:Cls X.K C) (n:NoAttr X.K C f) (h1:Has X.K C H ve e) (h2:Has X.K C H vr r) (h3:Has X.K C H vt t)
  (eF:F (jV e r t)=.val xs)
  (k:∀ l H',H' x=some (.ins C dx (iE f (.ref l) fs))->(∀ b o,H b=some o->b ≠ x->H' b=some o)->(∀ v d,Has X.K C H v d->Has X.K C H' v d)->Has X.K C H' (.ref l) (.lst xs)->Dn.nx [some (.ref x),some ve,some vr,some vt] H') :
  qO X.K (fy 0) (teF C X F) f Dn [some (.ref x),some ve,some vr,some vt] H:=by
 refine ⟨rb3 e r t,⟨H,Ew h1 h2 h3⟩,?_⟩
 show pF _ (F (jV e r t)) _ _ _
 rw [eF]
 intro l vs H1 s1 hn hv
 have hv':HasL X.K C H1 vs xs:=hv.mono msk_sub
 have nx:l ≠ x:=fun z=>by subst z;rw [s1 _ _ hx] at hn;cases hn
 have hx2:(upd H1 l (.lst vs)) x=some (.ins C dx fs):=by rw [aH (Ne.symm nx)];exact s1 _ _ hx
 refine ⟨_,rfl,x,C,dx,fs,rfl,hx2,c,n,by omega,k l _ ba (fun b o eb nb=>?_) (fun v d hd=>?_) ?_⟩
 ·rw [aH nb];exact aX hn _ _ (s1 _ _ eb)
 ·exact ((hd.mono s1).mono (aX hn)).upd_ins hx2 hl
 ·exact Has.upd_ins hx2 hl (.lst ba (hv'.mono (aX hn)))
end
section
variable {P:Program} {w:World} {K:Frag} {mg:Str->Option Value} {base:Heap} {C:Addr}
theorem Bc {st:Stmt} {f:Addr} {fd:FuncData} {k:Nat} {cs:List (Rho->R D)} {f1 f2 f3:Rho->R (List D)} (F:Fun K "__init__" "Hall.__init__" st f fd) (sc:aJ ["self","ends","rests","table"] ["self","ends","rests","table"] (ai st))
  (cl:Cls K C) (nE:NoAttr K C "ends") (nR:NoAttr K C "rests") (nT:NoAttr K C "table")
  (hb:∀ (cdv:Value) (A:Around) (outer:List Env) (s:Shared) (H:Hp) (E:XK),Room k (A.deeper (envOfC "Hall.__init__" (ai st) s.heap.objs.size f cdv)) ->
   PSs (bI CX0 P w K mg base ["self","ends","rests","table"] "Hall.__init__" (ai st) f cdv A outer s H E).nox (aF st) (tCk C (bI CX0 P w K mg base ["self","ends","rests","table"] "Hall.__init__" (ai st) f cdv A outer s H E).nox cs (tI C (bI CX0 P w K mg base ["self","ends","rests","table"] "Hall.__init__" (ai st) f cdv A outer s H E).nox f1 f2 f3))) :
  FnOk P w K mg base CX0 (k + 1) f fd ["self","ends","rests","table"] (spI K C (BE cs f1 f2 f3)):=by
 refine F.ok sc (fun vs H Q E h=>?_) (fun cdv A outer s H vs Q E hr h=>⟨_,hb cdv A outer s H E hr,?_⟩)
 ·obtain ⟨x,dx,ve,vr,vt,e,r,t,rfl,_⟩:=h
  rfl
 obtain ⟨x,dx,ve,vr,vt,e,r,t,rfl,hx,h1,h2,h3,q⟩:=h
 unfold BE at q
 cases ec:xz cs (jV e r t) with
 | exc c=>rw [ec] at q;exact q.elim
 | bad=>rw [ec] at q;exact q.elim
 | val u =>
  rw [ec] at q
  cases e1:f1 (jV e r t) with
  | exc c=>dsimp only [DL.R.bind] at q;rw [e1] at q;exact q.elim
  | bad=>dsimp only [DL.R.bind] at q;rw [e1] at q;exact q.elim
  | val es =>
   cases e2:f2 (jV e r t) with
   | exc c=>dsimp only [DL.R.bind] at q;rw [e1,e2] at q;exact q.elim
   | bad=>dsimp only [DL.R.bind] at q;rw [e1,e2] at q;exact q.elim
   | val rs =>
    cases e3:f3 (jV e r t) with
    | exc c=>dsimp only [DL.R.bind] at q;rw [e1,e2,e3] at q;exact q.elim
    | bad=>dsimp only [DL.R.bind] at q;rw [e1,e2,e3] at q;exact q.elim
    | val ts =>
     dsimp only [DL.R.bind] at q
     rw [e1,e2,e3] at q
     dsimp only [DL.R.bind] at q
     refine ww (H0:=H) (ρ:=rb3 e r t) (Ew h1 h2 h3) ec fun H1 s1=>?_
     refine oJ (s1 _ _ hx) (by decide) cl nE (h1.mono s1) (h2.mono s1) (h3.mono s1) e1 fun l1 Ha xa fa ka ha=>?_
     refine oJ xa (by show 1 < 3;decide) cl nR (ka _ _ (h1.mono s1)) (ka _ _ (h2.mono s1)) (ka _ _ (h3.mono s1)) e2 fun l2 Hb xb fb kb hb2=>?_
     refine oJ xb (Nat.lt_of_le_of_lt (tm _ _ _) (by show 2 < 3;decide)) cl nT (kb _ _ (ka _ _ (h1.mono s1))) (kb _ _ (ka _ _ (h2.mono s1))) (kb _ _ (ka _ _ (h3.mono s1))) e3 fun l3 Hc xc fc kc hc=>?_
     refine q Hc (fun b o eb nb=>fc _ _ (fb _ _ (fa _ _ (s1 _ _ eb) nb) nb) nb) ?_
     exact .ob (dx:=dx) (ve:=.ref l1) (vr:=.ref l2) (vt:=.ref l3) xc (kc _ _ (kb _ _ ha)) (kc _ _ hb2) hc
end
def FnH (P:Program) (w:World) (K:Frag) (mg:Str->Option Value) (base:Heap) (C:Addr) (k:Nat) (den:Rho->R D):Prop :=
 ∃ f fd,Mk K C f/\FnOk P w K mg base CX0 k f fd ["self","ends","rests","table"] (spI K C den)/\mg "Hall"=some (.ref C)/\Binds K fd ["self","ends","rests","table"] []
section
variable {C:Addr} {X:Cx}
def mkH (den:Rho->R D) (Fa:Rho->R (List D)):Rho->R D:=fun ρ=>(Fa ρ).bind fun ds=>match ds with
 | [e,r,t]=>noex (den (jV e r t))
 | _=>.bad
theorem BB {k:Nat} {den:Rho->R D} {p pos:Pos} {e:Expr} {es:List Expr} {Fa:Rho->R (List D)} (F:FnH X.prog X.w X.K X.mg X.base C k den) (hr:Room (k + 1) X.A) (hg:Gl X "Hall") (ha:AD C X (e :: es) Fa) (hx:X.xe=fun _ _=>False)
  (he:starEach (e :: es) X.env=(false,eval e X.env) :: starEach es X.env:=by rfl) (hpl:(backTo pos (starEach es X.env)).any (·.1)=false:=by rfl):ED C X (.Call (.Name "Hall" p) (e :: es) [] pos) (mkH den Fa):=by
 obtain ⟨f,fd,hM,hF,hm,hb⟩:=F
 rintro pins s σ H Q I ⟨ρ,⟨H0,r0⟩,q⟩
 refine wpAny_Call_Name_kw (iL I hg hm ?_ (by decide))
 refine callWith_K (h₀:=X.base) I.ok.mod.kin hM.kp (thn (ha pos pins s σ H (fun vs H1=>∃ a b c d,Same H H1/\jK C X ρ σ H1 vs [a,b,c]/\den (jV a b c)=.val d/\∀ v H',Same H H'->e9 C X ρ σ H' v d->Q v H') I
  ⟨ρ,⟨H0,r0⟩,ff (P:=fun z H=>pV X (e9 C X ρ σ) z σ H Q) (fun _ h=>h) (fun h=>h) q fun ds vs H1 s1 h1 q1=>?_⟩) fun us s1 ⟨vs,H1,I1,rv,a,b,c,d,s1',h1,e1,q1⟩=>⟨I1.kIn,?_⟩) he hpl
 ·split at q1
  ·rename_i a b c
   cases e1:den (jV a b c) with
   | val d=>rw [e1] at q1;exact ⟨a,b,c,d,s1,h1,e1,q1⟩
   | exc c=>rw [e1] at q1;exact q1.elim
   | bad=>rw [e1] at q1;exact q1.elim
  ·exact q1.elim
 ·have r1:=r0.mono s1'
  have Z:=Rel.hid r1 I1
  have J:=I1.hide Z
  refine thn (xZ (E:=E0) (Q:=fun v M'=>Same (cut (d_ ρ σ) H1) M'/\Has X.K C M' v d) hM hF hr hb .nil qh J rv fun x dx nx ndx nex=>?_) fun u s2 ⟨v,M',J2,ru,sm,hv⟩=>?_
  ·rw [List.append_nil]
   have h1:HasL X.K C (msk ρ σ H1) vs [a,b,c]:=h1
   rw [iJ r0.bnd] at h1
   have s0:Same (cut (d_ ρ σ) H1) (upd (upd (cut (d_ ρ σ) H1) dx (.own x)) x (.ins C dx [])):=fun b o eb=>by
    rw [aH (bG eb nx),aH (bG eb ndx)];exact eb
   cases h1 with
   | @cons va _ _ _ ga h1=>cases h1 with
    | @cons vb _ _ _ gb h1=>cases h1 with
     | @cons vc _ _ _ gc h1 =>
      cases h1
      refine ⟨x,dx,va,vb,vc,a,b,c,rfl,ba,ga.mono s0,gb.mono s0,gc.mono s0,?_⟩
      rw [e1]
      exact fun H' fr hH=>⟨rfl,fun b o eb=>fr b o (s0 _ _ eb) (bG eb nx),hH⟩
  ·obtain ⟨I2,mz⟩:=I1.show' Z J2
   have sj:Same H1 (jn (d_ ρ σ) H1 M'):=fun b o eb=>by
    by_cases hb:b ∈ d_ ρ σ
    ·rw [jX hb];exact eb
    ·rw [ci hb];exact sm b o (cut_some.mpr ⟨hb,eb⟩)
   have em:msk ρ σ (jn (d_ ρ σ) H1 M')=M':=by
    rw [iJ r0.bnd]
    funext b
    by_cases hb:b ∈ d_ ρ σ
    ·rw [gJ hb,mz b hb]
    ·unfold cut;rw [if_neg hb,ci hb]
   exact ⟨v,_,I2,ru,q1 v _ (s1'.trans sj) (by show Has _ _ (msk ρ σ _) v d;rw [em];exact hv)⟩
structure IsH (K:Frag) (C:Addr):Prop where
 cl:Cls K C
 ha:findIn K (.ref C) "__class__"=some (some (.builtin "object.__class__"))
 hn:PySem.W.specialIn K (.builtin "object.__class__") "__get__"=some (some (.builtin "getset_descriptor.__get__"))
 htk:PySem.W.takesIn K (.builtin "object.__class__")=some true
 hm:PySem.W.mroIn K C (.type "object")=some true
end
section
variable {P:Program} {w:World} {K:Frag} {mg:Str->Option Value} {base:Heap} {C:Addr}
end
section
variable {C:Addr} {X:Cx}
end
section
variable {C:Addr} {X:Cx}
end
section
variable {prog:Program} {w:World} {A:Around} {E:Value->Shared->Prop} {K:Frag} {h:Heap} {g:Array GenState} {d:Drawn} {t:Nat} {os:OsState} {x Cc:Addr} {ox:Obj}
end
section
variable {C:Addr} {X:Cx}
theorem C_ {e:Expr} {T:Str} {T':String} {p p2 pos:Pos} {te:TE} (hg:Gl X "isinstance") (hm:X.mg "isinstance"=none) (hgT:Gl X T) (hmT:X.mg T=none) (hbT:bootBuiltins T=some (.type T')) (he:PE X e te) (hst:starEach [e,.Name T p2] X.env=(false,eval e X.env) :: starEach [.Name T p2] X.env)
  (hn:T ≠ "__name__":=by decide) (hdb:(T == ("__debug__":Str))=false:=by decide) :
  PE X (.Call (.Name "isinstance" p) [e,.Name T p2] [] pos) (fun σ H Q=>te σ H fun v H1=>∃ b,(∀ (pins:List (Addr × Obj)) (s:Shared) (u:Value) (Q':Value->Shared->Prop) (E':Value->Shared->Prop),Inv X pins σ H1 s->RelV v u->(∀ tk,Q' (.bool b) { s with toks:=tk })->wpAny (model X.prog X.w) X.A (call (.builtin "isinstance") [u,.type T']) Q' E' s)/\Q (.bl b) H1):=by
 intro pins s σ H Q I h
 refine wpAny_Call_Name_kw (j8 I hg hm boot_isinstance ?_)
 refine PyProof.Rows.callWith_builtin1 ?_ hst (ar ab ax)
 rw [hst]
 refine Calls.spliced_cons (thn (he pins s σ H _ I h) fun u s1 zz0=>?_)
 obtain ⟨v,H1,I1,rv,b,hb,q⟩:=zz0
 rw [ab]
 refine Calls.spliced_cons (j8 I1 hgT hmT hbT ?_ hn hdb)
 refine Calls.spliced_nil ?_
 exact hb pins s1 u _ _ I1 rv fun tk=>⟨.bl b,H1,I1.tok _,rfl,q⟩
def jA:List D->Option (List Bool)
 | []=>some []
 | .bl b :: r=>(jA r).map (b :: ·)
 | _=>none
theorem oB {K:Frag} {M:Hp}:∀ {xs:List D} {l:List Bool} {vs:List V},jA xs=some l->HasL K C M vs xs->vs=l.map V.bl
 | [],l,vs,e,h=>by cases e;cases h;rfl
 | x :: r,l,vs,e,h=>by
  cases x with
  | bl i =>
   rw [jA] at e
   cases z:jA r with
   | none=>rw [z] at e;cases e
   | some l' =>
    rw [z] at e;cases e
    cases h with
    | cons a b=>cases a;rw [oB z b];rfl
  | _=>cases e
theorem nw:∀ {bs:List Bool} {us:List Value},Vals (bs.map V.bl) us->us=bs.map Value.bool
 | [],_,.nil=>rfl
 | b :: bs,_,.cons r t=>by rw [nw t];cases (show _=Value.bool b from r);rfl
end
section
variable {X:Cx} {pins pins':List (Addr × Obj)} {σ:St} {H:Hp} {s:Shared} {A:Around} {cm:Bool} {xe:Value->Shared->Prop}
end
section
variable {P:Program} {w:World} {K:Frag} {mg:Str->Option Value} {base:Heap} {C:Addr}
end
section
variable {C:Addr} {X:Cx}
end
structure KTy (K:Frag) (T:String):Prop where
 i:kitOne K (.type "int") (.type T)=some (decide (T="int"))
 b:kitOne K (.type "bool") (.type T)=some (decide (T="int") || decide (T="bool"))
 n:kitOne K (.type "NoneType") (.type T)=some false
 l:kitOne K (.type "list") (.type T)=some (decide (T="list"))
 t:kitOne K (.type "tuple") (.type T)=some (decide (T="tuple"))
def DT (T:String):D->R D
 | .int _=>.val (.bl (decide (T="int")))
 | .bl _=>.val (.bl (decide (T="int") || decide (T="bool")))
 | .non=>.val (.bl false)
 | .lst _=>.val (.bl (decide (T="list")))
 | .tup _=>.val (.bl (decide (T="tuple")))
 | _=>.bad
section
variable {C:Addr} {X:Cx}
theorem zA {e : Expr} {T : Str} {T' : String} {p p2 pos : Pos} {F : Rho -> R D} (KT : KTy X.K T') (hg : Gl X "isinstance") (hm : X.mg "isinstance" = none) (hgT : Gl X T) (hmT : X.mg T = none) (hbT : bootBuiltins T = some (.type T')) (he : EB C X e F) (hst : starEach [e, .Name T p2] X.env = (false, eval e X.env) :: starEach [.Name T p2] X.env)
    (hn : T ≠ "__name__" := by decide) (hdb : (T == ("__debug__" : Str)) = false := by decide) : ED C X (.Call (.Name "isinstance" p) [e, .Name T p2] [] pos) (una (DT T') F) :=
  aQ (C_ hg hm hgT hmT hbT he hst hn hdb) fun σ H Q yy1 => by
   obtain ⟨ρ, r0, q⟩ := yy1
   exact ⟨ρ, r0, a_ (P := fun z H => pV X (e9 C X ρ σ) z σ H Q) (fun _ h => h) (fun h => h) q fun y v H1 s1 h1 q1 => by
    have go : ∀ {t : Value} {b : Bool}, mi X.K H1 v t -> kitOne X.K t (.type T') = some b -> (∀ v H', Same H H' -> e9 C X ρ σ H' v (.bl b) -> Q v H') -> ∃ b, (∀ (pins : List (Addr × Obj)) (s : Shared) (u : Value) (Q' : Value -> Shared -> Prop) (E' : Value -> Shared -> Prop), Inv X pins σ H1 s -> RelV v u -> (∀ tk, Q' (.bool b) { s with toks := tk }) -> wpAny (model X.prog X.w) X.A (call (.builtin "isinstance") [u, .type T']) Q' E' s) /\ Q (.bl b) H1 :=
      fun {t b} ty ek kq => ⟨b, fun pins s u Q' E' I rv hQ => w4 I rv ty ek hQ, kq _ H1 s1 (.bl b)⟩
    cases y with
    | int i => obtain rfl := h1.int; exact go (.int i) KT.i q1
    | bl i => obtain rfl := h1.bl; exact go (.bl i) KT.b q1
    | non =>
      have hv : v = .non := by cases h1 with | cl h => cases h; rfl
      subst hv
      exact go .non KT.n q1
    | lst xs =>
      obtain ⟨a, vs, rfl, e1, _⟩ := h1.lst msk_sub
      exact go (.lst e1) KT.l q1
    | tup xs =>
      obtain ⟨a, vs, rfl, e1, _⟩ := h1.tup msk_sub
      exact go (.tup e1) KT.t q1
    | _ => exact q1.elim⟩
end
def rN:D->R D
 | .lst xs=>match jA xs with
  | some bs=>.val (.bl (bs.all id))
  | none=>.bad
 | _=>.bad
section
variable {C:Addr} {X:Cx}
def FQ:List V->Hp->VK->Prop:=fun vs H Q=>∃ (l:Addr) (bs:List Bool),vs=[.ref l]/\H l=some (.lst (bs.map V.bl))/\Q (.bl (bs.all id)) H
theorem xy (bs:List Bool):(List.range bs.length).all (fun i=>bs.getD i false)=bs.all id:=by
 rw [Bool.eq_iff_iff,List.all_eq_true,List.all_eq_true]
 constructor
 ·intro h b hb
  obtain ⟨i,hi,rfl⟩:=List.mem_iff_getElem.mp hb
  have:=h i (List.mem_range.mpr hi)
  rw [List.getD_eq_getElem?_getD,List.getElem?_eq_getElem hi] at this
  exact this
 ·intro h i hi
  have hi:=List.mem_range.mp hi
  rw [List.getD_eq_getElem?_getD,List.getElem?_eq_getElem hi]
  exact h _ (List.getElem_mem hi)
theorem zO (hc:X.calm=true):lg X (.builtin "all") FQ:=by
 intro pins s σ H xs us Q I rv h
 obtain ⟨l,bs,rfl,e,q⟩:=h
 obtain ⟨u,rfl,ru⟩:=p9 rv
 obtain rfl:=(show u=Value.ref l from ru)
 obtain ⟨z,its,m,r,hl,eo⟩:=I.lstM e
 obtain rfl:=nw r
 have hL:s.heap.IsList l (bs.map Value.bool).toArray:=⟨_,eo,rfl,m,rfl⟩
 have hne:l ≠ s.heap.objs.size:=Nat.ne_of_lt (Heap.lt_size eo)
 have W:=Walks.list (prog:=X.prog) (w:=X.w) (A:=X.A.in1) (I.ok.hd hc) s.heap.objs.size l hne (bs.map Value.bool).toArray
 refine call_all_walk (wpAny_pyIter_list hL ⟨_,_,_,_,_,_,fun i=>bs.getD i false,rfl,W,⟨⟨_,Heap.get?_push_size _ rfl,rfl,rfl⟩,hL.push _⟩,fun i v s2 Q2 E2 hP hQ=>?_,fun h' tk hk=>?_⟩)
 ·have hP':(bs.map Value.bool)[i]?=some v:=by simpa using hP
  rw [List.getElem?_map] at hP'
  cases z2:bs[i]? with
  | none=>rw [z2] at hP';cases hP'
  | some b =>
   rw [z2] at hP'
   cases hP'
   have hb:bs.getD i false=b:=by rw [List.getD_eq_getElem?_getD,z2];rfl
   dsimp only at hQ
   rw [hb] at hQ
   exact wpAny_truthy_bool hQ
 ·have hz:(bs.map Value.bool).toArray.size=bs.length:=by simp
  rw [hz,xy]
  refine ⟨.bl (bs.all id),H,I.kept fun b o eo2=>hk b o (fun hm=>?_) (Heap.get?_push_of_some _ eo2),rfl,q⟩
  have:=Heap.lt_size eo2
  rw [List.mem_singleton.mp hm] at this
  exact Nat.lt_irrefl _ this
theorem zE {e : Expr} {p pos : Pos} {F : Rho -> R D} (hc : X.calm = true) (hg : Gl X "all") (hm : X.mg "all" = none) (hst : starEach [e] X.env = (false, eval e X.env) :: starEach [] X.env) (he : EB C X e F) :
    ED C X (.Call (.Name "all" p) [e] [] pos) (una rN F) :=
  aQ (gw (zO hc) hg hm boot_all (dk he eX hst) (he := hst) (hpl := ax)) fun σ H Q yy0 => by
   obtain ⟨ρ, r0, q⟩ := yy0
   exact ⟨ρ, r0, a_ (P := fun z H => pV X (e9 C X ρ σ) z σ H Q) (fun _ h => h) (fun h => h) q fun y v H1 s1 h1 q1 => by
    cases y with
    | lst xs =>
      unfold rN at q1
      dsimp only at q1
      cases eb : jA xs with
      | none => rw [eb] at q1; exact q1.elim
      | some bs =>
        rw [eb] at q1
        obtain ⟨a, vs, rfl, e1, h2⟩ := h1.lst msk_sub
        obtain rfl := oB eb h2
        exact ⟨a, bs, rfl, e1, q1 _ H1 s1 (.bl _)⟩
    | _ => exact q1.elim⟩
end
section
variable (C:Addr) (X:Cx)
abbrev D9 (H:Hp) (v:V) (d:D):Prop:=Has X.K C H v d
abbrev ug (H:Hp) (v:List V) (d:List D):Prop:=HasL X.K C H v d
def teR (F:Rho->R D):TE:=fun σ H Q=>∃ ρ:RB,(∃ H0,eD C X H0 ρ σ H)/\pV X (D9 C X) (F ρ) σ H Q
def taR (F:Rho->R (List D)):TA:=fun σ H Q=>∃ ρ:RB,(∃ H0,eD C X H0 ρ σ H)/\pL X (ug C X) (F ρ) σ H Q
def ER (e:Expr) (F:Rho->R D):Prop:=PE X e (teR C X F)
def AR (es:List Expr) (F:Rho->R (List D)):Prop:=PA X es (taR C X F)
end
section
variable {C:Addr} {X:Cx} {ρ:RB} {σ:St} {H H':Hp}
theorem jp {e:Expr} {F:Rho->R D} (h:EB C X e F):ER C X e F:=aQ h fun σ H Q ⟨ρ,r,q⟩=>⟨ρ,r,by
 cases z:F ρ with
 | val d=>rw [z] at q;exact fun v H' s h=>q v H' s (h.has msk_sub)
 | exc c=>rw [z] at q;exact q
 | bad=>rw [z] at q;exact q⟩
def va (i:Nat):Rho->R D:=fun ρ=>match ρ[i]? with
 | some (some (.shr d))=>.val d
 | some (some (.own xs))=>.val (.lst xs)
 | some (some (.tre _ d))=>.val d
 | _=>.bad
theorem uX {i:Nat} {x:Str} {pos:Pos} (h:PE X (.Name x pos) (fy i)):ER C X (.Name x pos) (va i):=by
 refine aQ h fun σ H Q zz1=>?_
 obtain ⟨ρ,⟨H0,r⟩,q⟩:=zz1
 unfold va at q
 split at q
 ·rename_i d e
  obtain ⟨v,e1,h1⟩:=r.at_ i _ e
  exact ⟨v,e1,q v H (Same.refl _) (h1.mono msk_sub)⟩
 ·rename_i xs e
  obtain ⟨a,vs,e1,_,h1,h2⟩:=r.at_ i _ e
  exact ⟨_,e1,q _ H (Same.refl _) (.lst h1 (h2.mono msk_sub))⟩
 ·rename_i k d e
  obtain ⟨v,B,e1,_,h1⟩:=r.at_ i _ e
  exact ⟨_,e1,q _ H (Same.refl _) (h1.has msk_sub)⟩
 ·exact q.elim
def flF (F:Rho->R D):Rho->R D:=fun ρ=>(F ρ).bind fun d=>match d with
 | .int i=>.val (.int i)
 | .bl b=>.val (.bl b)
 | .non=>.val .non
 | _=>.bad
theorem wl {e:Expr} {F:Rho->R D} (h:ER C X e F):ED C X e (flF F):=aQ h fun σ H Q ⟨ρ,r,q⟩=>⟨ρ,r,by
 unfold flF at q
 cases z:F ρ with
 | val d =>
  rw [z] at q
  intro v H' s h
  cases d with
  | int i=>cases h;exact q _ H' s (.int i)
  | bl i=>cases h;exact q _ H' s (.bl i)
  | non=>cases h;exact q _ H' s .non
  | _=>exact q.elim
 | exc c=>rw [z] at q;exact q
 | bad=>rw [z] at q;exact q⟩
theorem u_:AR C X [] aN:=nc eX fun σ H Q ⟨ρ,r0,q⟩=>q [] H (Same.refl _) .nil
theorem eN {e:Expr} {es:List Expr} {Fa:Rho->R D} {Fr:Rho->R (List D)} (ha:ER C X e Fa) (hr:AR C X es Fr) (hs:starEach (e :: es) X.env=(false,eval e X.env) :: starEach es X.env:=by rfl):AR C X (e :: es) (aC Fa Fr) :=
 nc (dk ha hr hs) fun σ H Q ⟨ρ,⟨H0,r0⟩,q⟩=>⟨ρ,⟨H0,r0⟩,a_ (P:=fun z H=>pL X (ug C X) z σ H Q) (fun _ h=>h) (fun h=>h) q fun x v H1 s1 h1 q1 =>
  ⟨ρ,⟨H0,r0.mono s1⟩,ff (P:=fun z H=>pL X (ug C X) z σ H Q) (fun _ h=>h) (fun h=>h) (q1.mono s1) fun xs vs H2 s2 h2 q2=>q2 _ H2 s2 (.cons (h1.mono s2) h2)⟩⟩
theorem B7 {k n:Nat} {den:List D->R D} {x:Str} {p pos:Pos} {e:Expr} {es:List Expr} {Fa:Rho->R (List D)} (F:Fn X.prog X.w X.K X.mg X.base C k x n den) (hr:Room k X.A) (hg:Gl X x) (ha:AR C X (e :: es) Fa)
  (hdb:(x == ("__debug__":Str))=false:=by decide) (he:starEach (e :: es) X.env=(false,eval e X.env) :: starEach es X.env:=by rfl) (hpl:(backTo pos (starEach es X.env)).any (·.1)=false:=by rfl) :
  ER C X (.Call (.Name x p) (e :: es) [] pos) (cal n den Fa):=by
 obtain ⟨f,fd,ps,F,hm,hk,hb⟩:=F
 rintro pins s σ H Q I ⟨ρ,⟨H0,r0⟩,q⟩
 refine wpAny_Call_Name_kw (iL I hg hm ?_ hdb)
 refine callWith_K (h₀:=X.base) I.ok.mod.kin hk (thn (ha pos pins s σ H (fun vs H1=>∃ ds d,ds.length=n/\Same H H1/\ug C X H1 vs ds/\den ds=.val d/\∀ v H',Same H H'->D9 C X H' v d->Q v H') I
  ⟨ρ,⟨H0,r0⟩,ff (P:=fun z H=>pV X (D9 C X) z σ H Q) (fun _ h=>h) (fun h=>h) q fun ds vs H1 s1 h1 q1=>?_⟩) fun us s1 ⟨vs,H1,I1,rv,ds,d,hl,s1',h1,e1,q1⟩=>⟨I1.kIn,?_⟩) he hpl
 ·split at q1
  ·rename_i hl
   cases e1:den ds with
   | val d=>rw [e1] at q1;exact ⟨ds,d,hl,s1,h1,e1,q1⟩
   | exc c=>rw [e1] at q1;exact q1.elim
   | bad=>rw [e1] at q1;exact q1.elim
  ·exact q1.elim
 ·refine thn (nO (E:=E0) (Q:=fun v M'=>Same H1 M'/\Has X.K C M' v d) F hr hb .nil qh I1 rv ?_) fun u s2 ⟨v,M',J2,ru,sm,hv⟩=>⟨v,M',J2,ru,q1 v M' (s1'.trans sm) hv⟩
  rw [List.append_nil]
  refine ⟨h1.len.trans hl,ds,h1,?_⟩
  rw [e1]
  exact fun v H' s2 h2=>⟨s2,h2⟩
end
def spK (K:Frag) (C:Addr) (n:Nat) (kr:OK) (den:List D->R D):Sp:=fun vs H Q _=>vs.length=n/\∃ ds,HasL K C H vs ds/\match den ds with
 | .val d=>∀ v H' A,Same H H'->(∀ a ∈ A,H a=none)->Tre K C (cut A H') H' kr v d A->Q v H'
 | _=>False
def FnK (P:Program) (w:World) (K:Frag) (mg:Str->Option Value) (base:Heap) (C:Addr) (k:Nat) (x:Str) (n:Nat) (kr:OK) (den:List D->R D):Prop :=
 ∃ f fd ps,FnOk P w K mg base CX0 k f fd ps (spK K C n kr den)/\mg x=some (.ref f)/\keepIn K (.ref f)=true/\Binds K fd ps []
section
variable (C:Addr) (X:Cx)
def pR (kr:OK) (r:R D) (H0:Hp) (Q:VK):Prop:=match r with
 | .val d=>∀ v H' A,Same H0 H'->(∀ a ∈ A,H0 a=none)->Tre X.K C (cut A H') H' kr v d A->Q v H'
 | _=>False
def tsK (kr:OK) (F:Rho->R D):TS:=fun Dn σ H=>∃ ρ H0,vi C X H0 ρ σ H/\pR C X kr (F ρ) H0 Dn.rt
def vg (kr:OK) (st:List Stmt) (F:Rho->R D):Prop:=PSs X st (tsK C X kr F)
end
def sqK (F:Rho->R Out) (G:Rho->R D):Rho->R D:=fun ρ=>match F ρ with
 | .val (.nx ρ')=>G ρ'
 | _=>.bad
def rtK (i:Nat) (kr:OK):Rho->R D:=fun ρ=>match ρ[i]? with
 | some (some (.tre k d))=>if k=kr then .val d else .bad
 | _=>.bad
section
variable {C:Addr} {X:Cx}
theorem kx {kr:OK} {st:Stmt} {rest:List Stmt} {F:Rho->R Out} {G:Rho->R D} (h1:SD C X st F) (h2:vg C X kr rest G):vg C X kr (st :: rest) (sqK F G) :=
 jg (jh h1 h2) fun D σ H ⟨ρ,H0,r,q⟩=>by
  refine ⟨ρ,H0,r,?_⟩
  unfold sqK at q
  cases e:F ρ with
  | val o =>
   rw [e] at q
   cases o with
   | nx ρ'=>exact fun σ' H' r'=>⟨ρ',H0,r',q⟩
   | rt d=>exact q.elim
   | bk ρ'=>exact q.elim
   | ct ρ'=>exact q.elim
  | exc c=>rw [e] at q;exact q.elim
  | bad=>rw [e] at q;exact q.elim
theorem sE {kr:OK} {i:Nat} {x:Str} {p pos:Pos} (hv:PE X (.Name x p) (fy i)):vg C X kr [.Return (some (.Name x p)) pos] (rtK i kr) :=
 jg (m8 (yk hv)) fun D σ H ⟨_,H0,⟨ρ,er,r⟩,q⟩=>by
  subst er
  unfold rtK at q
  split at q
  ·rename_i k d e
   split at q
   ·rename_i ek
    subst ek
    obtain ⟨v,B,e1,hB,h⟩:=r.at_ i _ e
    refine ⟨v,e1,q v H B (r.keep.trans msk_sub) (fun a ha=>?_) (h.stay (fun b o eb=>cut_some.mpr ⟨fun hb=>(msk_some.mp eb).1 ⟨i,hB b hb⟩,(msk_some.mp eb).2⟩) (.of (Same.refl _)))⟩
    cases z:H0 a with
    | none=>rfl
    | some o=>exact absurd ⟨i,hB a ha⟩ (msk_some.mp (r.keep a o z)).1
   ·exact q.elim
  ·exact q.elim
theorem E1 {k n:Nat} {kr:OK} {den:List D->R D} {x:Str} {p pos:Pos} {e:Expr} {es:List Expr} {Fa:Rho->R (List D)} (F:FnK X.prog X.w X.K X.mg X.base C k x n kr den) (hr:Room k X.A) (hg:Gl X x) (ha:AD C X (e :: es) Fa)
  (hdb:(x == ("__debug__":Str))=false:=by decide) (he:starEach (e :: es) X.env=(false,eval e X.env) :: starEach es X.env:=by rfl) (hpl:(backTo pos (starEach es X.env)).any (·.1)=false:=by rfl) :
  KD C X kr (.Call (.Name x p) (e :: es) [] pos) (cal n den Fa):=by
 obtain ⟨f,fd,ps,F,hm,hk,hb⟩:=F
 rintro pins s σ H Q I ⟨ρ,⟨H0,r0⟩,q⟩
 refine wpAny_Call_Name_kw (iL I hg hm ?_ hdb)
 refine callWith_K (h₀:=X.base) I.ok.mod.kin hk (thn (ha pos pins s σ H (fun vs H1=>∃ ds d,ds.length=n/\Same H H1/\jK C X ρ σ H1 vs ds/\den ds=.val d/\∀ v H' A,Same H H'->(∀ a ∈ A,H a=none)->Tre X.K C (cut A (msk ρ σ H')) H' kr v d A->Q v H') I
  ⟨ρ,⟨H0,r0⟩,ff (P:=fun z H=>pK C X kr ρ z σ H Q) (fun _ h=>h) (fun h=>h) q fun ds vs H1 s1 h1 q1=>?_⟩) fun us s1 ⟨vs,H1,I1,rv,ds,d,hl,s1',h1,e1,q1⟩=>⟨I1.kIn,?_⟩) he hpl
 ·split at q1
  ·rename_i hl
   cases e1:den ds with
   | val d=>rw [e1] at q1;exact ⟨ds,d,hl,s1,h1,e1,q1⟩
   | exc c=>rw [e1] at q1;exact q1.elim
   | bad=>rw [e1] at q1;exact q1.elim
  ·exact q1.elim
 ·have r1:=r0.mono s1'
  have Z:=Rel.hid r1 I1
  have J:=I1.hide Z
  refine thn (nO (E:=E0) (Q:=fun v M'=>∃ A,Same (cut (d_ ρ σ) H1) M'/\(∀ a ∈ A,cut (d_ ρ σ) H1 a=none)/\Tre X.K C (cut A M') M' kr v d A) F hr hb .nil qh J rv ?_) fun u s2 ⟨v,M',J2,ru,A,sm,hA,hv⟩=>?_
  ·rw [List.append_nil]
   refine ⟨h1.len.trans hl,ds,by rw [<- iJ r0.bnd];exact h1,?_⟩
   rw [e1]
   exact fun v H' A s2 hA h2=>⟨A,s2,hA,h2⟩
  ·obtain ⟨I2,mz⟩:=I1.show' Z J2
   have sj:Same H1 (jn (d_ ρ σ) H1 M'):=fun b o eb=>by
    by_cases hb:b ∈ d_ ρ σ
    ·rw [jX hb];exact eb
    ·rw [ci hb];exact sm b o (cut_some.mpr ⟨hb,eb⟩)
   have em:msk ρ σ (jn (d_ ρ σ) H1 M')=M':=by
    rw [iJ r0.bnd]
    funext b
    by_cases hb:b ∈ d_ ρ σ
    ·rw [gJ hb,mz b hb]
    ·unfold cut;rw [if_neg hb,ci hb]
   have nz:∀ b o,M' b=some o->jn (d_ ρ σ) H1 M' b=some o:=fun b o eb=>by
    rw [ci fun hb=>by rw [mz b hb] at eb;cases eb];exact eb
   refine ⟨v,_,I2,ru,q1 v _ A (s1'.trans sj) (fun a ha=>?_) (by rw [em];exact hv.stay (Same.refl _) (.of nz))⟩
   obtain ⟨us,ea⟩:=hv.lists a ha
   have na:a ∉ d_ ρ σ:=fun hb=>by rw [mz a hb] at ea;cases ea
   have:=hA a ha
   unfold cut at this
   rw [if_neg na] at this
   exact gm s1' this
def tJ:D->Bool
 | .int _=>true
 | .bl _=>true
 | .non=>true
 | _=>false
def fw:OK->D->Bool
 | .s,d=>tJ d
 | .l k,.lst xs=>xs.all (fw k)
 | .p j k,.tup [a,b]=>fw j a && fw k b
 | _,_=>false
def tH:List OK->List D->Bool
 | k :: ks,d :: ds=>fw k d && tH ks ds
 | [],[]=>true
 | _,_=>false
theorem qm {k:OK} {α:Type}:∀ {vs:List α} {ds:List D},vs.length=ds.length->ds.all (fw k)=true->tH (vs.map fun _=>k) ds=true
 | [],[],_,_=>rfl
 | _ :: vs,d :: ds,hl,h=>by
  rw [List.all_cons,Bool.and_eq_true] at h
  show (fw k d && tH _ ds)=true
  rw [h.1,qm (Nat.succ.inj hl) h.2];rfl
 | [],_ :: _,hl,_=>by cases hl
 | _ :: _,[],hl,_=>by cases hl
mutual
theorem Tre.remask {K:Frag} {M M' H:Hp}:∀ {k:OK} {v:V} {d:D} {A:List Addr},Tre K C M H k v d A->fw k d=true->Tre K C M' H k v d A
 | _,_,d,_,.s h,f=>by
  unfold fw at f
  cases h with
  | int i=>exact .s (.int i)
  | bl i=>exact .s (.bl i)
  | non=>exact .s .non
  | _=>cases f
 | _,_,_,_,.l (k:=k) e h n,f=>by
  unfold fw at f
  exact .l e (TreP.remask h (qm h.len.1 f)) n
 | _,_,_,_,.p (j:=j) (k:=k) e h,f=>by
  refine .p e (TreP.remask h ?_)
  cases h with
  | cons h1 t _=>cases t with
   | cons h2 t _=>cases t with
    | nil =>
     unfold fw at f
     rw [Bool.and_eq_true] at f
     show (fw j _ && (fw k _ && true))=true
     rw [f.1,f.2];rfl
theorem TreP.remask {K:Frag} {M M' H:Hp}:∀ {ks:List OK} {vs:List V} {ds:List D} {A:List Addr},TreP K C M H ks vs ds A->tH ks ds=true->TreP K C M' H ks vs ds A
 | _,_,_,_,.nil,_=>.nil
 | _,_,_,_,.cons h t n,f=>by
  have f:(fw _ _ && tH _ _)=true:=f
  rw [Bool.and_eq_true] at f
  exact .cons (Tre.remask h f.1) (TreP.remask t f.2) n
end
def flK (k:OK) (F:Rho->R D):Rho->R D:=fun ρ=>(F ρ).bind fun d=>if fw k d=true then .val d else .bad
theorem DF {k n:Nat} {kr:OK} {den:List D->R D} {x:Str} {p pos:Pos} {e:Expr} {es:List Expr} {Fa:Rho->R (List D)} (F:FnK X.prog X.w X.K X.mg X.base C k x n kr den) (hr:Room k X.A) (hg:Gl X x) (ha:AR C X (e :: es) Fa)
  (hdb:(x == ("__debug__":Str))=false:=by decide) (he:starEach (e :: es) X.env=(false,eval e X.env) :: starEach es X.env:=by rfl) (hpl:(backTo pos (starEach es X.env)).any (·.1)=false:=by rfl) :
  KD C X kr (.Call (.Name x p) (e :: es) [] pos) (flK kr (cal n den Fa)):=by
 obtain ⟨f,fd,ps,F,hm,hk,hb⟩:=F
 rintro pins s σ H Q I ⟨ρ,⟨H0,r0⟩,q⟩
 refine wpAny_Call_Name_kw (iL I hg hm ?_ hdb)
 refine callWith_K (h₀:=X.base) I.ok.mod.kin hk (thn (ha pos pins s σ H (fun vs H1=>∃ ds d,ds.length=n/\Same H H1/\ug C X H1 vs ds/\den ds=.val d/\fw kr d=true/\∀ v H' A,Same H H'->(∀ a ∈ A,H a=none)->Tre X.K C (cut A (msk ρ σ H')) H' kr v d A->Q v H') I
  ⟨ρ,⟨H0,r0⟩,?_⟩) fun us s1 ⟨vs,H1,I1,rv,ds,d,hl,s1',h1,e1,hf,q1⟩=>⟨I1.kIn,?_⟩) he hpl
 ·unfold flK cal at q
  cases ea:Fa ρ with
  | exc c=>rw [ea] at q;exact q
  | bad=>rw [ea] at q;exact q
  | val ds =>
   rw [ea] at q
   dsimp only [DL.R.bind] at q
   intro vs H1 s1 h1
   by_cases hl:ds.length=n
   ·rw [if_pos hl] at q
    cases e1:den ds with
    | val d =>
     rw [e1] at q
     dsimp only [noex,DL.R.bind] at q
     by_cases hf:fw kr d=true
     ·rw [if_pos hf] at q;exact ⟨ds,d,hl,s1,h1,e1,hf,q⟩
     ·rw [if_neg hf] at q;exact q.elim
    | exc c=>rw [e1] at q;exact q.elim
    | bad=>rw [e1] at q;exact q.elim
   ·rw [if_neg hl] at q;exact q.elim
 ·refine thn (nO (E:=E0) (Q:=fun v M'=>∃ A,Same H1 M'/\(∀ a ∈ A,H1 a=none)/\Tre X.K C (cut A M') M' kr v d A) F hr hb .nil qh I1 rv ?_) fun u s2 ⟨v,M',J2,ru,A,sm,hA,hv⟩=>⟨v,M',J2,ru,q1 v M' A (s1'.trans sm) (fun a ha=>gm s1' (hA a ha)) (hv.remask hf)⟩
  rw [List.append_nil]
  refine ⟨h1.len.trans hl,ds,h1,?_⟩
  rw [e1]
  exact fun v H' A s2 hA h2=>⟨A,s2,hA,h2⟩
end
section
variable {P:Program} {w:World} {K:Frag} {mg:Str->Option Value} {base:Heap} {C:Addr}
theorem wt {x qual:Str} {st:Stmt} {f:Addr} {fd:FuncData} {N ps:List Str} {k:Nat} {kr:OK} {den:Rho->R D} (F:Fun K x qual st f fd) (sc:aJ N ps (ai st))
  (hb:∀ (cdv:Value) (A:Around) (outer:List Env) (s:Shared) (H:Hp) (E:XK),Room k (A.deeper (envOfC qual (ai st) s.heap.objs.size f cdv)) ->
   vg C (bI CX0 P w K mg base N qual (ai st) f cdv A outer s H E).nox kr (aF st) den) :
  FnOk P w K mg base CX0 (k + 1) f fd ps (spK K C ps.length kr fun ds=>den (st0 N ds)):=by
 refine F.ok sc (fun vs H Q E h=>h.1) (fun cdv A outer s H vs Q E hr h=>⟨_,hb cdv A outer s H E hr,?_⟩)
 obtain ⟨_,ds,h,q⟩:=h
 exact ⟨st0 N ds,H,qf h,q⟩
end
def pA:D->List Nat->Option D
 | d,[]=>some d
 | .lst xs,j :: p=>match xs[j]? with
  | some d=>pA d p
  | none=>none
 | .tup xs,j :: p=>match xs[j]? with
  | some d=>pA d p
  | none=>none
 | _,_ :: _=>none
def mE:D->List Nat->D->D
 | _,[],e=>e
 | .lst xs,j :: p,e=>match xs[j]? with
  | some d=>.lst (xs.set j (mE d p e))
  | none=>.lst xs
 | .tup xs,j :: p,e=>match xs[j]? with
  | some d=>.tup (xs.set j (mE d p e))
  | none=>.tup xs
 | d,_ :: _,_=>d
def jc:OK->List Nat->Option OK
 | k,[]=>some k
 | .l k,_ :: p=>jc k p
 | .p j _,0 :: p=>jc j p
 | .p _ k,1 :: p=>jc k p
 | _,_ :: _=>none
inductive Reach (H:Hp):V->List Nat->V->Prop where
 | nil {v:V}:Reach H v [] v
 | lst {a:Addr} {vs:List V} {j:Nat} {p:List Nat} {v w:V}:H a=some (.lst vs)->vs[j]?=some v->Reach H v p w->Reach H (.ref a) (j :: p) w
 | tup {a:Addr} {vs:List V} {j:Nat} {p:List Nat} {v w:V}:H a=some (.tup vs)->vs[j]?=some v->Reach H v p w->Reach H (.ref a) (j :: p) w
section
variable {K:Frag} {C:Addr} {M M' H H':Hp}
theorem Reach.mono (s:Same H H') {v w:V} {p:List Nat} (h:Reach H v p w):Reach H' v p w:=by
 induction h with
 | nil=>exact .nil
 | lst e q _ ih=>exact .lst (s _ _ e) q ih
 | tup e q _ ih=>exact .tup (s _ _ e) q ih
structure Fs (A B:List Addr) (H H':Hp):Prop where
 at_:∀ a ∈ A,a ∉ B->∀ o,H a=some o->H' a=some o
 tup:∀ a vs,H a=some (.tup vs)->H' a=some (.tup vs)
theorem TreP.pick:∀ {ks:List OK} {vs:List V} {ds:List D} {A:List Addr} {j:Nat} {d:D},TreP K C M H ks vs ds A->ds[j]?=some d->∃ k v A1,ks[j]?=some k/\vs[j]?=some v/\Tre K C M H k v d A1/\(∀ a ∈ A1,a ∈ A) /\
  ∀ {M' H':Hp} {d':D} {A2:List Addr},Same M M'->Fs A A1 H H'->Tre K C M' H' k v d' A2->(∀ a ∈ A2,a ∈ A1\/a ∉ A)->∃ A',TreP K C M' H' ks vs (ds.set j d') A'/\∀ a ∈ A',a ∈ A\/a ∈ A2
 | _,_,_,_,_,_,.nil,e=>by simp at e
 | _,_,_,_,0,d,.cons (k:=k) (v:=v) (A:=A1) (B:=A3) h t n,e=>by
  rw [List.getElem?_cons_zero] at e
  cases e
  refine ⟨k,v,A1,rfl,rfl,h,fun a ha=>List.mem_append_left _ ha,fun {M' H' d' A2} s w h2 f=>⟨A2 ++ A3,.cons h2 (t.stay s ⟨fun a ha o q=>w.at_ a (List.mem_append_right _ ha) (fun z=>n a z ha) o q,w.tup⟩) fun a ha hb=>?_,fun a ha=>?_⟩⟩
  ·rcases f a ha with z | z
   ·exact n a z hb
   ·exact z (List.mem_append_right _ hb)
  ·rcases List.mem_append.mp ha with z | z
   ·exact .inr z
   ·exact .inl (List.mem_append_right _ z)
 | _,_,_,_,j + 1,d,.cons (k:=k0) (v:=v0) (d:=d0) (A:=A0) (B:=A3) h t n,e=>by
  rw [List.getElem?_cons_succ] at e
  obtain ⟨k,v,A1,e1,e2,h1,s1,up⟩:=TreP.pick t e
  refine ⟨k,v,A1,e1,e2,h1,fun a ha=>List.mem_append_right _ (s1 a ha),fun {M' H' d' A2} s w h2 f=>?_⟩
  obtain ⟨A',h3,s3⟩:=up (M':=M') (H':=H') s ⟨fun a ha na o q=>w.at_ a (List.mem_append_right _ ha) na o q,w.tup⟩ h2 fun a ha=>(f a ha).imp id fun z y=>z (List.mem_append_right _ y)
  refine ⟨A0 ++ A',.cons (h.stay s ⟨fun a ha o q=>w.at_ a (List.mem_append_left _ ha) (fun z=>n a ha (s1 a z)) o q,w.tup⟩) h3 fun a ha hb=>?_,fun a ha=>?_⟩
  ·rcases s3 a hb with z | z
   ·exact n a ha z
   ·rcases f a z with y | y
    ·exact n a ha (s1 a y)
    ·exact y (List.mem_append_left _ ha)
  ·rcases List.mem_append.mp ha with z | z
   ·exact .inl (List.mem_append_left _ z)
   ·exact (s3 a z).imp (fun y=>List.mem_append_right _ y) id
theorem A_ {α:Type} {k k':OK} {vs:List α} {j:Nat} (h:(vs.map fun _=>k)[j]?=some k'):k'=k:=by
 rw [List.getElem?_map] at h
 cases e:vs[j]? with
 | none=>rw [e] at h;cases h
 | some v=>rw [e] at h;exact (Option.some.inj h).symm
theorem Tre.path:∀ {pp:List Nat} {k k':OK} {v:V} {d d':D} {A:List Addr},Tre K C M H k v d A->pA d pp=some d'->jc k pp=some k'->∃ v' A1,Tre K C M H k' v' d' A1/\(∀ a ∈ A1,a ∈ A)/\Reach H v pp v' /\
  ∀ {M' H':Hp} {e:D} {A2:List Addr},Same M M'->Fs A A1 H H'->Tre K C M' H' k' v' e A2->(∀ a ∈ A2,a ∈ A1\/a ∉ A)->∃ A',Tre K C M' H' k v (mE d pp e) A'/\∀ a ∈ A',a ∈ A\/a ∈ A2
 | [],k,k',v,d,d',A,h,ed,ek=>by
  unfold pA at ed
  unfold jc at ek
  cases ed;cases ek
  exact ⟨v,A,h,fun a ha=>ha,.nil,fun {M' H' e A2} _ _ h2 _=>⟨A2,by unfold mE;exact h2,fun a ha=>.inr ha⟩⟩
 | j :: pp,_,k',_,_,d',_,.s h,ed,ek=>by unfold jc at ek;cases ek
 | j :: pp,_,k',_,_,d',_,.l (k:=k) (a:=a) (vs:=vs) (xs:=xs) (A:=A) ha hp hn,ed,ek=>by
  unfold pA at ed
  unfold jc at ek
  split at ed
  ·rename_i d0 e0
   obtain ⟨k0,v0,A0,q1,q2,h0,s0,up0⟩:=hp.pick e0
   have:=A_ q1
   subst this
   obtain ⟨v',A1,h1,s1,rc,up1⟩:=Tre.path h0 ed ek
   refine ⟨v',A1,h1,fun b hb=>List.mem_cons_of_mem _ (s0 b (s1 b hb)),.lst ha q2 rc,fun {M' H' e A2} s w h2 f=>?_⟩
   obtain ⟨A3,h3,s3⟩:=up1 (M':=M') (H':=H') s ⟨fun b hb nb o q=>w.at_ b (List.mem_cons_of_mem _ (s0 b hb)) nb o q,w.tup⟩ h2 fun b hb=>(f b hb).imp id fun z y=>z (List.mem_cons_of_mem _ (s0 b y))
   have f3:∀ b ∈ A3,b ∈ A0\/b ∉ A:=fun b hb=>by
    rcases s3 b hb with z | z
    ·exact .inl z
    ·rcases f b z with y | y
     ·exact .inl (s1 b y)
     ·exact .inr fun x=>y (List.mem_cons_of_mem _ x)
   obtain ⟨A4,h4,s4⟩:=up0 (M':=M') (H':=H') s ⟨fun b hb nb o q=>w.at_ b (List.mem_cons_of_mem _ hb) (fun z=>nb (s1 b z)) o q,w.tup⟩ h3 f3
   have na:a ∉ A2:=fun z=>by
    rcases f a z with y | y
    ·exact hn (s0 a (s1 a y))
    ·exact y List.mem_cons_self
   refine ⟨a :: A4,?_,fun b hb=>?_⟩
   ·unfold mE
    rw [e0]
    refine .l (w.at_ a List.mem_cons_self (fun z=>hn (s0 a (s1 a z))) _ ha) h4 fun z=>?_
    rcases s4 a z with y | y
    ·exact hn y
    ·rcases s3 a y with x | x
     ·exact hn (s0 a x)
     ·exact na x
   ·rcases List.mem_cons.mp hb with rfl | hb
    ·exact .inl List.mem_cons_self
    ·rcases s4 b hb with y | y
     ·exact .inl (List.mem_cons_of_mem _ y)
     ·exact (s3 b y).imp (fun x=>List.mem_cons_of_mem _ (s0 b x)) id
  ·cases ed
 | j :: pp,_,k',_,_,d',_,.p (j:=k1) (k:=k2) (a:=a) (vs:=vs) (xs:=xs) (A:=A) ha hp,ed,ek=>by
  unfold pA at ed
  split at ed
  ·rename_i d0 e0
   obtain ⟨k0,v0,A0,q1,q2,h0,s0,up0⟩:=hp.pick e0
   have ek0:jc k0 pp=some k':=by
    match j,q1,ek with
    | 0,q1,ek=>cases q1;unfold jc at ek;exact ek
    | 1,q1,ek=>cases q1;unfold jc at ek;exact ek
    | n + 2,q1,ek=>cases q1
   obtain ⟨v',A1,h1,s1,rc,up1⟩:=Tre.path h0 ed ek0
   refine ⟨v',A1,h1,fun b hb=>s0 b (s1 b hb),.tup ha q2 rc,fun {M' H' e A2} s w h2 f=>?_⟩
   obtain ⟨A3,h3,s3⟩:=up1 (M':=M') (H':=H') s ⟨fun b hb nb o q=>w.at_ b (s0 b hb) nb o q,w.tup⟩ h2 fun b hb=>(f b hb).imp id fun z y=>z (s0 b y)
   have f3:∀ b ∈ A3,b ∈ A0\/b ∉ A:=fun b hb=>by
    rcases s3 b hb with z | z
    ·exact .inl z
    ·rcases f b z with y | y
     ·exact .inl (s1 b y)
     ·exact .inr y
   obtain ⟨A4,h4,s4⟩:=up0 (M':=M') (H':=H') s ⟨fun b hb nb o q=>w.at_ b hb (fun z=>nb (s1 b z)) o q,w.tup⟩ h3 f3
   refine ⟨A4,?_,fun b hb=>?_⟩
   ·unfold mE
    rw [e0]
    exact .p (w.tup _ _ ha) h4
   ·rcases s4 b hb with y | y
    ·exact .inl y
    ·exact (s3 b y).imp (fun x=>s0 b x) id
  ·cases ed
end
section
variable {K:Frag} {C:Addr} {H0 H:Hp} {ρ:RB} {σ:St}
theorem Rel.node (r:Rel K C H0 ρ σ H) {i:Nat} {k k':OK} {d:D} {pp:List Nat} {xs:List D} (e:ρ.rho[i]?=some (some (.tre k d))) (ek:jc k pp=some (.l k')) (ed:pA d pp=some (.lst xs)) :
  ∃ v a vs A0,σ[i]?=some (some v)/\Reach H v pp (.ref a)/\H a=some (.lst vs)/\TreP K C (msk ρ σ H) H (vs.map fun _=>k') vs xs A0/\a ∉ A0 /\
   ∀ {H2:Hp} {ws:List V} {ys:List D} {N B:List Addr},Same H H2->(∀ b ∈ N,H b=none)->TreP K C (cut N (msk ρ σ H2)) (upd H2 a (.lst ws)) (ws.map fun _=>k') ws ys B->(∀ b ∈ B,b ∈ A0\/b ∈ N) ->
    Rel K C H0 (ρ.put i (.tre k (mE d pp (.lst ys))) (ρ.ad i ++ B)) σ (upd H2 a (.lst ws)):=by
 obtain ⟨v,Bt,e1,hB,h⟩:=r.at_ i _ e
 obtain ⟨v',A1,h1,s1,rc,up⟩:=h.path ed ek
 cases h1 with
 | @l _ a vs _ A0 ha hp hn =>
  have aI:a ∈ ρ.ad i:=hB a (s1 a List.mem_cons_self)
  have A0I:∀ b ∈ A0,b ∈ ρ.ad i:=fun b hb=>hB b (s1 b (List.mem_cons_of_mem _ hb))
  refine ⟨v,a,vs,A0,e1,rc,ha,hp,hn,fun {H2 ws ys N B} s hN ht hs=>?_⟩
  have nN:∀ b,b ∈ ρ.ad i->b ∉ N:=fun b hb z=>by
   have:=r.ownAt (σ:=σ) ⟨i,hb⟩
   exact this (hN b z)
  have ne:∀ b vs',H b=some (.tup vs')->b ≠ a:=fun b vs' q z=>by rw [z,ha] at q;cases q
  refine r.put rfl (fun j _=>rfl) (fun b hb=>?_) (fun j hj=>⟨fun b hb o q=>?_,fun b vs' q=>?_⟩) (fun b o q=>?_) (fun b hb=>?_) fun hi sub=>?_
  ·rcases List.mem_append.mp hb with hb | hb
   ·exact .inl hb
   ·rcases hs b hb with z | z
    ·exact .inl (A0I b z)
    ·exact .inr (hN b z)
  ·rw [aH fun (z:b=a)=>hj (r.inj j i b hb (z ▸ aI))];exact s b o q
  ·rw [aH (ne b vs' q)];exact s b _ q
  ·obtain ⟨g1,g2⟩:=msk_some.mp q
   rw [aH fun (z:b=a)=>g1 ⟨i,z ▸ aI⟩];exact s b o g2
  ·by_cases z:b=a
   ·exact .inl ⟨ws,by rw [z];exact ba⟩
   ·rcases List.mem_append.mp hb with hb | hb
    ·rw [aH z]
     exact (r.kin i b hb).imp (fun ⟨us,q⟩=>⟨us,s _ _ q⟩) fun ⟨us,q⟩=>⟨us,s _ _ q⟩
    ·exact .inl (ht.lists b hb)
  ·have aB:a ∉ B:=fun z=>by
    rcases hs a z with y | y
    ·exact hn y
    ·exact nN a aI y
   obtain ⟨A',h3,s3⟩:=up (M':=msk (ρ.put i (.tre k (mE d pp (.lst ys))) (ρ.ad i ++ B)) σ (upd H2 a (.lst ws))) (H':=upd H2 a (.lst ws)) sub ⟨fun b hb nb o q=>by rw [aH fun (z:b=a)=>nb (z ▸ List.mem_cons_self)];exact s b o q,fun b vs' q=>by rw [aH (ne b vs' q)];exact s b _ q⟩
    (.l (k:=k') ba (ht.stay (fun b o q=>by
     obtain ⟨g1,g2⟩:=cut_some.mp q
     obtain ⟨g3,g4⟩:=msk_some.mp g2
     refine msk_some.mpr ⟨fun ⟨j,z⟩=>?_,by rw [aH fun (z:b=a)=>g3 ⟨i,z ▸ aI⟩];exact g4⟩
     rcases fS z with ⟨_,_,z⟩ | ⟨_,z⟩
     ·rcases List.mem_append.mp z with z | z
      ·exact g3 ⟨i,z⟩
      ·rcases hs b z with y | y
       ·exact g3 ⟨i,A0I b y⟩
       ·exact g1 y
     ·exact g3 ⟨j,z⟩) (.of (Same.refl _))) aB) (fun b hb=>by
     rcases List.mem_cons.mp hb with z | z
     ·exact .inl (z ▸ List.mem_cons_self)
     ·rcases hs b z with y | y
      ·exact .inl (List.mem_cons_of_mem _ y)
      ·exact .inr fun x=>nN b (hB b x) y)
   refine ⟨v,A',e1,fun b hb=>?_,h3⟩
   rcases s3 b hb with z | z
   ·exact List.mem_append_left _ (hB b z)
   ·rcases List.mem_cons.mp z with z | z
    ·exact List.mem_append_left _ (z ▸ aI)
    ·exact List.mem_append_right _ z
theorem Reach.det {v:V} {pp:List Nat} {w w':V} (h:Reach H v pp w) (h':Reach H v pp w'):w=w':=by
 induction h with
 | nil=>cases h';rfl
 | lst e q _ ih =>
  cases h' with
  | lst e' q' h'=>rw [e] at e';cases e';rw [q] at q';cases q';exact ih h'
  | tup e' q' h'=>rw [e] at e';cases e'
 | tup e q _ ih =>
  cases h' with
  | lst e' q' h'=>rw [e] at e';cases e'
  | tup e' q' h'=>rw [e] at e';cases e';rw [q] at q';cases q';exact ih h'
end
section
variable {C:Addr} {X:Cx}
def pN0 (i:Nat):Rho->R (List Nat):=fun ρ=>match ρ[i]? with
 | some (some (.tre _ _))=>.val []
 | _=>.bad
variable (C X) in
def teN (i:Nat) (P:Rho->R (List Nat)):TE:=fun σ H Q=>∃ ρ:RB,(∃ H0,eD C X H0 ρ σ H)/\match P ρ with
 | .val pp=>∀ v w H',σ[i]?=some (some v)->Same H H'->Reach H' v pp w->Q w H'
 | .exc c=>XE X c σ H
 | .bad=>False
variable (C X) in
def ND (i:Nat) (o:Expr) (P:Rho->R (List Nat)):Prop:=PE X o (teN C X i P)
theorem vM {i:Nat} {x:Str} {pos:Pos} (h:PE X (.Name x pos) (fy i)):ND C X i (.Name x pos) (pN0 i):=by
 refine aQ h fun σ H Q ⟨ρ,⟨H0,r⟩,q⟩=>?_
 unfold pN0 at q
 split at q
 ·rename_i e
  split at e
  ·rename_i k d e0
   cases e
   obtain ⟨v,B,e1,_,_⟩:=r.at_ i _ e0
   exact ⟨v,e1,q v v H e1 (Same.refl _) .nil⟩
  ·cases e
 ·rename_i e
  split at e <;> cases e
 ·exact q.elim
end
section
variable (C:Addr) (X:Cx)
def pI (σ:St) (z:R Rho) (H0:Hp) (Dn:ld):Prop:=match z with
 | .val ρ'=>∀ H',vi C X H0 ρ' σ H'->Dn.nx σ H'
 | .exc c=>XS X c H0
 | .bad=>False
def tsI (F:Rho->R Rho):TS:=fun Dn σ H=>∃ ρ H0,vi C X H0 ρ σ H/\pI C X σ (F ρ) H0 Dn
def SDi (st:Stmt) (F:Rho->R Rho):Prop:=PS X st (tsI C X F)
end
section
variable {K:Frag} {C:Addr} {M H:Hp}
theorem TreP.setK {k:OK} {v:V} {d:D} {B:List Addr} (h:Tre K C M H k v d B):∀ {ks:List OK} {vs:List V} {ds:List D} {A:List Addr} (j:Nat),TreP K C M H ks vs ds A->(∀ a ∈ A,a ∉ B)->∃ A',(∀ a ∈ A',a ∈ A\/a ∈ B)/\TreP K C M H (ks.set j k) (vs.set j v) (ds.set j d) A'
 | _,_,_,_,_,.nil,_=>⟨[],fun a ha=>.inl ha,.nil⟩
 | _,_,_,_,0,.cons (A:=A1) (B:=A2) g t n,f=>⟨B ++ A2,fun a ha=>(List.mem_append.mp ha).elim .inr fun z=>.inl (List.mem_append_right _ z),.cons h t fun a ha hb=>f a (List.mem_append_right _ hb) ha⟩
 | _,_,_,_,j + 1,.cons (A:=A1) (B:=A2) g t n,f=>by
  obtain ⟨A',h1,h2⟩:=TreP.setK h j t fun a ha=>f a (List.mem_append_right _ ha)
  refine ⟨A1 ++ A',fun a ha=>?_,.cons g h2 fun a ha hb=>?_⟩
  ·rcases List.mem_append.mp ha with z | z
   ·exact .inl (List.mem_append_left _ z)
   ·exact (h1 a z).imp (fun y=>List.mem_append_right _ y) id
  ·rcases h1 a hb with z | z
   ·exact n a ha z
   ·exact f a (List.mem_append_left _ ha) z
end
def Aa (i:Nat) (k':OK) (pp:List Nat) (f:List D->R (List D)):Rho->R Rho:=fun ρ=>match ρ[i]? with
 | some (some (.tre k d))=>if jc k pp=some (.l k') then (match pA d pp with
  | some (.lst xs)=>(f xs).bind fun ys=>.val (ρ.set i (some (.tre k (mE d pp (.lst ys)))))
  | _=>.bad) else .bad
 | _=>.bad
def stF (n:D) (x:D) (xs:List D):R (List D):=match n with
 | .int n=>match ixN xs.length n with
  | some j=>.val (xs.set j x)
  | none=>.bad
 | _=>.bad
theorem CC {n x:D}:∀ xs c,stF n x xs ≠ .exc c:=fun xs c e=>by
 unfold stF at e
 split at e
 ·split at e <;> cases e
 ·cases e
def stP (i:Nat) (k':OK) (P:Rho->R (List Nat)) (b e:Rho->R D):Rho->R Rho:=fun ρ=>(e ρ).bind fun x=>(P ρ).bind fun pp=>(b ρ).bind fun n=>Aa i k' pp (stF n x) ρ
section
variable {C:Addr} {X:Cx}
def asO (F:Rho->R Rho):Rho->R Out:=fun ρ=>(F ρ).bind fun ρ'=>.val (.nx ρ')
theorem Ev {st:Stmt} {F:Rho->R Rho} (h:SDi C X st F):SD C X st (asO F):=bF h fun D σ H ⟨ρ,H0,r,q⟩=>⟨ρ,H0,r,by
 unfold asO at q
 cases e:F ρ with
 | val ρ'=>rw [e] at q;exact fun H' r'=>q σ H' r'
 | exc c=>rw [e] at q;exact q
 | bad=>rw [e] at q;exact q⟩
theorem q_ {H0:Hp} {Dn:ld} {c:Nat} {ρ:RB} {σ:St} {H:Hp} (r:eD C X H0 ρ σ H) (h:pI C X σ (.exc c) H0 Dn):XE X c σ H:=XS.xe (r.keep.trans msk_sub) h
theorem xM {i:Nat} {k':OK} {pp:List Nat} {f:List D->R (List D)} {ρ:RB} {σ:St} {H H0:Hp} {D:ld} (hf:∀ xs c,f xs ≠ .exc c) (r:eD C X H0 ρ σ H) (q:pI C X σ (Aa i k' pp f ρ) H0 D) :
  ∃ xs ys v a vs A0,f xs=.val ys/\σ[i]?=some (some v)/\Reach H v pp (.ref a)/\H a=some (.lst vs)/\TreP X.K C (msk ρ σ H) H (vs.map fun _=>k') vs xs A0/\a ∉ A0 /\
   ∀ {H2:Hp} {ws:List V} {N B:List Addr},Same H H2->(∀ b ∈ N,H b=none)->TreP X.K C (cut N (msk ρ σ H2)) (upd H2 a (.lst ws)) (ws.map fun _=>k') ws ys B->(∀ b ∈ B,b ∈ A0\/b ∈ N)->D.nx σ (upd H2 a (.lst ws)):=by
 unfold Aa at q
 split at q
 ·rename_i k d er
  by_cases ek:jc k pp=some (.l k')
  ·rw [if_pos ek] at q
   split at q
   ·rename_i xs ed
    cases ef:f xs with
    | val ys =>
     rw [ef] at q
     obtain ⟨v,a,vs,A0,e1,rc,ha,hp,hn,up⟩:=r.node er ek ed
     exact ⟨xs,ys,v,a,vs,A0,ef,e1,rc,ha,hp,hn,fun {H2 ws N B} s hN ht hs=>q _ ⟨_,rfl,up s hN ht hs⟩⟩
    | exc c=>exact (hf xs c ef).elim
    | bad=>rw [ef] at q;exact q.elim
   ·exact q.elim
  ·rw [if_neg ek] at q;exact q.elim
 ·exact q.elim
theorem wP {k':OK} {ρ:RB} {σ:St} {H H0 H2:Hp} {a:Addr} {vs ws:List V} {xs:List D} {A0 N:List Addr} (r:eD C X H0 ρ σ H) (s:Same H H2) (ha:H a=some (.lst vs)) (hn:a ∉ A0) (hN:∀ b ∈ N,H b=none) (hp:TreP X.K C (msk ρ σ H) H (vs.map fun _=>k') vs xs A0) :
  TreP X.K C (cut N (msk ρ σ H2)) (upd H2 a (.lst ws)) (vs.map fun _=>k') vs xs A0 :=
 hp.stay (fun b o e=>cut_some.mpr ⟨fun z=>Option.some_ne_none _ ((msk_some.mp e).2.symm.trans (hN b z)),bc s b o e⟩)
  ⟨fun b hb o e=>by rw [aH fun (z:b=a)=>hn (z ▸ hb)];exact s b o e,fun b us e=>by rw [aH fun (z:b=a)=>by rw [z,ha] at e;cases e];exact s b _ e⟩
theorem yF {k':OK} {ρ:RB} {σ:St} {H H1 H2:Hp} {a:Addr} {vs ws:List V} {y:V} {x:D} {N:List Addr} (ha:H a=some (.lst vs)) (s1:Same H H1) (s2:Same H1 H2) (hN:∀ b ∈ N,H b=none) (h:Tre X.K C (cut N (msk ρ σ H1)) H1 k' y x N) :
  Tre X.K C (cut N (msk ρ σ H2)) (upd H2 a (.lst ws)) k' y x N :=
 h.stay (fun b o e=>cut_some.mpr ⟨(cut_some.mp e).1,bc s2 b o (cut_some.mp e).2⟩)
  ⟨fun b hb o e=>by rw [aH fun (z:b=a)=>Option.some_ne_none _ (ha.symm.trans (z ▸ hN b hb))];exact s2 b o e,fun b us e=>by rw [aH fun (z:b=a)=>by rw [z,s1 _ _ ha] at e;cases e];exact s2 b _ e⟩
theorem xw {k':OK} {ρ:RB} {σ:St} {H:Hp} {vs:List V} {xs:List D} {A0 N:List Addr} (hN:∀ b ∈ N,H b=none) (hp:TreP X.K C (msk ρ σ H) H (vs.map fun _=>k') vs xs A0):∀ b ∈ A0,b ∉ N:=fun b hb z=>by
 obtain ⟨us,e⟩:=hp.lists b hb
 rw [hN b z] at e;cases e
theorem Ai {i:Nat} {k':OK} {o b e:Expr} {sp pos:Pos} {P:Rho->R (List Nat)} {Fb F:Rho->R D} (ho:ND C X i o P) (hb:ED C X b Fb) (he:KD C X k' e F)
  (ha:∀ v,assign (.Subscript o b sp) X.env v=(do
   let ov <- holding [v] (eval o X.env)
   let iv <- holding [v,ov] (eval b X.env)
   standAt sp
   holding [v,ov,iv] (setItem ov iv v)
   release [v,ov,iv] []):=by intro _;rfl)
  (hs:swapsWithSole [.Subscript o b sp] e pos.line X.env=pure false:=by rfl) (hw:swappedStores [.Subscript o b sp] e X.env=pure none:=by rfl)
  (h1:(assignEach [.Subscript o b sp] X.env).map (·.2)=[assign (.Subscript o b sp) X.env]:=by rfl) :
  SDi C X (.Assign [.Subscript o b sp] e pos) (stP i k' P Fb F) :=
 bF (qX he (uG ho hb xU ha) hs hw h1) fun D σ H ⟨_,H0,⟨ρ,er,r⟩,q⟩=>by
  subst er
  refine ⟨ρ,⟨H0,r⟩,?_⟩
  unfold stP at q
  cases eF:F ρ with
  | exc c=>rw [eF] at q;exact q_ r q
  | bad=>rw [eF] at q;exact q.elim
  | val x =>
   rw [eF] at q
   dsimp only [DL.R.bind] at q
   intro y H1 N s1 hN hy
   refine ⟨ρ,⟨H0,r.mono s1⟩,?_⟩
   cases eP:P ρ with
   | exc c=>rw [eP] at q;exact q_ (r.mono s1) q
   | bad=>rw [eP] at q;exact q.elim
   | val pp =>
    rw [eP] at q
    dsimp only at q
    intro v w H2 e1 s2 rc
    refine ⟨ρ,⟨H0,(r.mono s1).mono s2⟩,?_⟩
    cases eb:Fb ρ with
    | exc c=>rw [eb] at q;exact q_ ((r.mono s1).mono s2) q
    | bad=>rw [eb] at q;exact q.elim
    | val n =>
     rw [eb] at q
     dsimp only at q
     intro iv H3 s3 hiv
     obtain ⟨xs,ys,v0,a,vs,A0,ef,e2,rc0,hA,hp,hn,up⟩:=xM CC r q
     rw [e1] at e2;cases e2
     have:=Reach.det (rc0.mono (s1.trans s2)) rc
     subst this
     unfold stF at ef
     cases n with
     | int n =>
      cases hiv
      dsimp only at ef
      cases ej:ixN xs.length n with
      | none=>rw [ej] at ef;cases ef
      | some j =>
       rw [ej] at ef
       cases ef
       have s:Same H H3:=(s1.trans s2).trans s3
       refine ⟨a,vs,n,j,rfl,rfl,s _ _ hA,by rw [hp.len.1];exact ej,?_⟩
       obtain ⟨B,hB,h3⟩:=TreP.setK (yF (ws:=vs.set j y) hA s1 (s2.trans s3) hN hy) j (wP (ws:=vs.set j y) r s hA hn hN hp) (xw hN hp)
       exact up s hN (by rw [List.map_set];exact h3) hB
     | _=>cases ef
end
section
variable {K:Frag} {C:Addr} {M M' H:Hp}
end
section
variable (C:Addr) (X:Cx)
end
section
variable {C:Addr} {X:Cx} {m:Nat}
end
section
variable {P:Program} {w:World} {K:Frag} {mg:Str->Option Value} {base:Heap} {C:Addr}
end
section
variable {C:Addr} {X:Cx}
end
section
variable {C:Addr} {X:Cx}
theorem mq:∀ {is:List Int} {us:List Value} {m:Nat} {y:Value},Vals (is.map V.int) us->us[m]?=some y->∃ i t,is[m]?=some i/\y=.int i t
 | [],_,_,_,.nil,e=>by simp at e
 | i :: is,_,0,y,.cons r t,e=>by
  rw [List.getElem?_cons_zero] at e;cases e
  obtain ⟨tk,rfl⟩:=(show ∃ t,_=Value.int i t from r)
  exact ⟨i,tk,rfl,rfl⟩
 | i :: is,_,m + 1,y,.cons r t,e=>by
  rw [List.getElem?_cons_succ] at e
  obtain ⟨i',t',e1,e2⟩:=mq t e
  exact ⟨i',t',by rw [List.getElem?_cons_succ];exact e1,e2⟩
end
section
variable {C:Addr} {X:Cx}
def pFR (C:Addr) (X:Cx) (r:R (List D)) (σ:St) (H:Hp) (Q:VK):Prop:=match r with
 | .val xs=>∀ a vs H1,Same H H1->H1 a=none->HasL X.K C H1 vs xs->Q (.ref a) (upd H1 a (.lst vs))
 | .exc c=>XE X c σ H
 | .bad=>False
variable (C X) in
def FA (F:Rho->R (List D)):TE:=fun σ H Q=>∃ ρ:RB,(∃ H0,eD C X H0 ρ σ H)/\pFR C X (F ρ) σ H Q
variable (C X) in
def FR (e:Expr) (F:Rho->R (List D)):Prop:=PE X e (FA C X F)
theorem tG {K:Frag} {H H':Hp}:∀ {vs:List V} {xs:List D},xs.all tJ=true->HasL K C H vs xs->HasL K C H' vs xs
 | _,_,_,.nil=>.nil
 | _,_,f,.cons a b=>by
  rw [List.all_cons,Bool.and_eq_true] at f
  refine .cons ?_ (tG f.2 b)
  cases a with
  | int i=>exact .int i
  | bl i=>exact .bl i
  | non=>exact .non
  | _=>cases f.1
def flL (F:Rho->R (List D)):Rho->R (List D):=fun ρ=>(F ρ).bind fun xs=>if xs.all tJ=true then .val xs else .bad
theorem E_ {e:Expr} {F:Rho->R (List D)} (h:FR C X e F):FD C X e (flL F):=aQ h fun σ H Q ⟨ρ,r0,q⟩=>⟨ρ,r0,by
 unfold flL at q
 cases z:F ρ with
 | val xs =>
  rw [z] at q
  dsimp only [DL.R.bind] at q
  by_cases hf:xs.all tJ=true
  ·rw [if_pos hf] at q;exact fun a vs H1 s1 hn h1=>q a vs H1 s1 hn (tG hf h1)
  ·rw [if_neg hf] at q;exact q.elim
 | exc c=>rw [z] at q;exact q
 | bad=>rw [z] at q;exact q⟩
def xg (Fa Fb:Rho->R D):Rho->R (List D):=fun ρ=>(Fa ρ).bind fun x=>(Fb ρ).bind fun y=>match x,y with
 | .lst xs,.lst ys=>if xs.length + ys.length<=LIM then .val (xs ++ ys) else .bad
 | _,_=>.bad
theorem DR {a b:Expr} {pos:Pos} {Fa Fb:Rho->R D} (ha:ER C X a Fa) (hb:ER C X b Fb):FR C X (.BinOp a .Add b pos) (xg Fa Fb) :=
 aQ (BY yC ha hb) fun σ H Q ⟨ρ,⟨H0,r0⟩,q⟩=>⟨ρ,⟨H0,r0⟩,a_ (P:=fun z H=>pFR C X z σ H Q) (fun _ h=>h) (fun h=>h) q fun x v H1 s1 h1 q1=>by
  refine ⟨ρ,⟨H0,r0.mono s1⟩,?_⟩
  cases z:Fb ρ with
  | exc c=>rw [z] at q1;exact XE.mono s1 q1
  | bad=>rw [z] at q1;exact q1
  | val y =>
   rw [z] at q1
   dsimp only [DL.R.bind] at q1
   intro w H2 s2 h2
   cases h1 with
   | lst e1 g1 =>
    cases h2 with
    | lst e2 g2 =>
     dsimp only at q1
     split at q1
     ·rename_i hl
      exact ⟨_,_,_,_,rfl,rfl,s2 _ _ e1,e2,by rw [g1.len,g2.len];exact ow hl,fun p hp=>q1 p _ H2 (s1.trans s2) hp ((g1.mono s2).app g2)⟩
     ·exact q1.elim
    | _=>exact q1.elim
   | _=>cases h2 <;> exact q1.elim⟩
def xq (xs:List D) (lo hi:Option Int):List D:=(xs.drop (HT.sIx xs.length 0 lo)).take (HT.sIx xs.length xs.length hi - HT.sIx xs.length 0 lo)
theorem HasL.cut {K:Frag} {H:Hp} {vs:List V} {xs:List D} {lo hi:Option Int} (h:HasL K C H vs xs):HasL K C H (xp vs lo hi) (xq xs lo hi):=by
 unfold xp xq
 rw [h.len]
 exact (h.drop _).take _
variable (C X) in
def toP (F:Rho->R (Option Int)):TO:=fun σ H Q=>∃ ρ:RB,(∃ H0,eD C X H0 ρ σ H)/\match F ρ with
 | .val o=>∀ H',Same H H'->Q o H'
 | .exc c=>XE X c σ H
 | .bad=>False
variable (C X) in
def PD (e:Option Expr) (F:Rho->R (Option Int)):Prop:=PO X e (toP C X F)
def oN:Rho->R (Option Int):=fun _=>.val none
def oS (F:Rho->R D):Rho->R (Option Int):=fun ρ=>(F ρ).bind fun d=>match d with
 | .int i=>.val (some i)
 | _=>.bad
theorem vJ:PD C X none oN:=fun pins s σ H Q I ⟨ρ,r,q⟩=>Ax pins s σ H Q I (q H (Same.refl _))
theorem vI {e:Expr} {F:Rho->R D} (h:ED C X e F):PD C X (some e) (oS F):=fun pins s σ H Q I ⟨ρ,r,q⟩=>Aw h pins s σ H Q I ⟨ρ,r,by
 unfold oS at q
 cases z:F ρ with
 | val d =>
  rw [z] at q
  intro v H' s' hv
  cases d with
  | int i=>cases hv;exact ⟨i,rfl,q H' s'⟩
  | _=>exact q.elim
 | exc c=>rw [z] at q;exact q
 | bad=>rw [z] at q;exact q⟩
def fSl (F:Rho->R D) (Fl Fh:Rho->R (Option Int)):Rho->R (List D):=fun ρ=>(F ρ).bind fun x=>(Fl ρ).bind fun l=>(Fh ρ).bind fun h=>match x with
 | .lst xs=>.val (xq xs l h)
 | _=>.bad
theorem tM {e:Expr} {lo hi:Option Expr} {p2 pos:Pos} {F:Rho->R D} {Fl Fh:Rho->R (Option Int)} (he:EB C X e F) (hl:PD C X lo Fl) (hh:PD C X hi Fh):FD C X (.Subscript e (.Slice lo hi none p2) pos) (fSl F Fl Fh) :=
 aQ (yt Af he hl hh) fun σ H Q ⟨ρ,⟨H0,r0⟩,q⟩=>⟨ρ,⟨H0,r0⟩,a_ (P:=fun z H=>pF (X:=X) (jK C X ρ σ) z σ H Q) (fun _ h=>h) (fun h=>h) q fun x v H1 s1 h1 q1=>by
  refine ⟨ρ,⟨H0,r0.mono s1⟩,?_⟩
  cases zl:Fl ρ with
  | exc c=>rw [zl] at q1;exact XE.mono s1 q1
  | bad=>rw [zl] at q1;exact q1
  | val l =>
   rw [zl] at q1
   dsimp only [DL.R.bind] at q1
   intro H2 s2
   refine ⟨ρ,⟨H0,(r0.mono s1).mono s2⟩,?_⟩
   cases zh:Fh ρ with
   | exc c=>rw [zh] at q1;exact XE.mono (s1.trans s2) q1
   | bad=>rw [zh] at q1;exact q1
   | val h =>
    rw [zh] at q1
    dsimp only at q1
    intro H3 s3
    cases x with
    | lst xs =>
     obtain ⟨a,vs,rfl,e1,h2⟩:=h1.lst msk_sub
     exact ⟨a,vs,rfl,SqL.of (s3 _ _ (s2 _ _ e1)),fun p hp=>q1 p _ H3 ((s1.trans s2).trans s3) hp (HasL.cut (h2.mono (bc (s2.trans s3))))⟩
    | _=>exact q1.elim⟩
end
theorem BK:bootBuiltins "int"=some (.type "int"):=by decide +kernel
theorem zS:bootBuiltins "bool"=some (.type "bool"):=by decide +kernel
section
variable {C:Addr} {X:Cx}
def eL1 (F:Rho->R D):Rho->R D:=fun ρ=>(F ρ).bind fun d=>.val (.lst [d])
theorem Ba {k:OK} {e:Expr} {pos:Pos} {F:Rho->R D} (h:KD C X k e F) (hst:starEach [e] X.env=(false,eval e X.env) :: starEach [] X.env:=by rfl):KD C X (.l k) (.List [e] pos) (eL1 F) :=
 aQ (q8 (dk h eX hst)) fun σ H Q yy=>by
  obtain ⟨ρ,⟨H0,r0⟩,q⟩:=yy
  refine ⟨ρ,⟨H0,r0⟩,?_⟩
  unfold eL1 at q
  cases z:F ρ with
  | exc c=>rw [z] at q;exact q
  | bad=>rw [z] at q;exact q
  | val d =>
   rw [z] at q
   intro v H1 A s1 hA ht
   refine ⟨(show 1<=sizeLine by decide),fun p hp=>?_⟩
   have np:p ∉ A:=fun hm=>by
    obtain ⟨us,e⟩:=ht.lists p hm
    rw [hp] at e;cases e
   refine q (.ref p) (upd H1 p (.lst [v])) (p :: (A ++ [])) (s1.trans (aX hp)) (fun b hb=>?_) (.l ba (.cons (ht.stay (fun b o e=>?_) (.of (aX hp))) .nil fun a _=>List.not_mem_nil) (by rw [List.append_nil];exact np))
   ·rcases List.mem_cons.mp hb with rfl | hb
    ·exact gm s1 hp
    ·rw [List.append_nil] at hb;exact hA b hb
   ·obtain ⟨e1,e2⟩:=cut_some.mp e
    refine cut_some.mpr ⟨fun hb=>?_,bc (aX hp) b o e2⟩
    rcases List.mem_cons.mp hb with rfl | hb
    ·rw [(msk_some.mp e2).2] at hp;cases hp
    ·rw [List.append_nil] at hb;exact e1 hb
end
section
variable {K:Frag} {C:Addr} {H0 H M:Hp} {ρ:RB} {σ:St}
theorem SlotOk.wide {A B:List Addr} {sl:Slt} {o:Option (Option V)} (s:∀ a ∈ A,a ∈ B) (h:SlotOk K C M H A sl o):SlotOk K C M H B sl o:=by
 cases sl with
 | shr d=>exact h
 | own xs=>obtain ⟨a,vs,e,n,q,h⟩:=h;exact ⟨a,vs,e,s a n,q,h⟩
 | dic kvs=>obtain ⟨a,e,n,h⟩:=h;exact ⟨a,e,s a n,h⟩
 | tre k d=>obtain ⟨v,B',e,n,h⟩:=h;exact ⟨v,B',e,fun b hb=>s b (n b hb),h⟩
def RB.give (ρ:RB) (i j:Nat):RB:=⟨ρ.rho.set j none,fun m=>if m=i then ρ.ad i ++ ρ.ad j else if m=j then [] else ρ.ad m⟩
theorem iN {i j m:Nat} {a:Addr} (h:a ∈ (ρ.give i j).ad m):(m=i/\(a ∈ ρ.ad i\/a ∈ ρ.ad j))\/(m ≠ i/\m ≠ j/\a ∈ ρ.ad m):=by
 have h:a ∈ (if m=i then ρ.ad i ++ ρ.ad j else if m=j then [] else ρ.ad m):=h
 by_cases e:m=i
 ·rw [if_pos e] at h
  exact .inl ⟨e,List.mem_append.mp h⟩
 ·rw [if_neg e] at h
  by_cases e2:m=j
  ·rw [if_pos e2] at h;cases h
  ·rw [if_neg e2] at h;exact .inr ⟨e,e2,h⟩
theorem oG {i j:Nat} (hij:i ≠ j) {b:Addr}:Own (ρ.give i j) σ b ↔ Own ρ σ b:=by
 constructor
 ·rintro ⟨m,z⟩
  rcases iN z with ⟨_,z | z⟩ | ⟨_,_,z⟩
  ·exact ⟨i,z⟩
  ·exact ⟨j,z⟩
  ·exact ⟨m,z⟩
 ·rintro ⟨m,z⟩
  by_cases e:m=i
  ·subst e
   exact ⟨m,by show b ∈ (if m=m then _ else _);rw [if_pos rfl];exact List.mem_append_left _ z⟩
  ·by_cases e2:m=j
   ·subst e2
    exact ⟨i,by show b ∈ (if i=i then _ else _);rw [if_pos rfl];exact List.mem_append_right _ z⟩
   ·exact ⟨m,by show b ∈ (if m=i then _ else _);rw [if_neg e,if_neg e2];exact z⟩
theorem kL {i j:Nat} (hij:i ≠ j):msk (ρ.give i j) σ H=msk ρ σ H:=by
 funext b
 unfold msk
 by_cases h:Own ρ σ b
 ·rw [if_pos h,if_pos ((oG hij).mpr h)]
 ·rw [if_neg h,if_neg fun z=>h ((oG hij).mp z)]
theorem Rel.give (r:Rel K C H0 ρ σ H) {i j:Nat} (hij:i ≠ j) (hi:i < ρ.rho.length):Rel K C H0 (ρ.give i j) σ H:=by
 refine ⟨?_,by rw [kL hij];exact r.keep,fun m sl e=>?_,fun m n a x y=>?_,fun m a x=>?_,fun m a x=>?_⟩
 ·show (ρ.rho.set j none).length=_
  rw [List.length_set];exact r.len
 ·have e:(ρ.rho.set j none)[m]?=some (some sl):=e
  rw [kL hij]
  by_cases ej:j=m
  ·subst ej
   rw [List.getElem?_set] at e
   simp only [if_true] at e
   split at e <;> cases e
  ·rw [List.getElem?_set_ne ej] at e
   refine (r.at_ m sl e).wide fun a ha=>?_
   show a ∈ (if m=i then _ else _)
   by_cases e1:m=i
   ·subst e1;rw [if_pos rfl];exact List.mem_append_left _ ha
   ·rw [if_neg e1,if_neg fun z=>ej z.symm];exact ha
 ·rcases iN x with ⟨em,u⟩ | ⟨x1,x2,u⟩
  ·rcases iN y with ⟨en,_⟩ | ⟨y1,y2,w⟩
   ·rw [em,en]
   ·rcases u with u | u
    ·rw [em];exact r.inj _ _ a u w
    ·exact absurd (r.inj _ _ a u w).symm y2
  ·rcases iN y with ⟨en,w | w⟩ | ⟨y1,y2,w⟩
   ·rw [en];exact r.inj _ _ a u w
   ·exact absurd (r.inj _ _ a u w) x2
   ·exact r.inj _ _ a u w
 ·rcases iN x with ⟨_,x | x⟩ | ⟨_,_,x⟩
  ·exact r.kin _ a x
  ·exact r.kin _ a x
  ·exact r.kin _ a x
 ·show m < (ρ.rho.set j none).length
  rw [List.length_set]
  rcases iN x with ⟨rfl,_⟩ | ⟨_,_,x⟩
  ·exact hi
  ·exact r.bnd _ a x
end
section
variable {K:Frag} {C:Addr} {H0 H M:Hp} {ρ:RB} {σ:St}
theorem DQ {i j:Nat}:(ρ.give i j).ad i=ρ.ad i ++ ρ.ad j:=if_pos rfl
theorem Rel.nodeM (r:Rel K C H0 ρ σ H) {i j:Nat} (hij:i ≠ j) {k k':OK} {d:D} {pp:List Nat} {xs:List D} (e:ρ.rho[i]?=some (some (.tre k d))) (ek:jc k pp=some (.l k')) (ed:pA d pp=some (.lst xs)) :
  ∃ v a vs A0,σ[i]?=some (some v)/\Reach H v pp (.ref a)/\H a=some (.lst vs)/\TreP K C (msk ρ σ H) H (vs.map fun _=>k') vs xs A0/\a ∉ A0/\a ∈ ρ.ad i/\(∀ b ∈ A0,b ∈ ρ.ad i) /\
   ∀ {H2:Hp} {ws:List V} {ys:List D} {B:List Addr},Same H H2->TreP K C (msk ρ σ H2) (upd H2 a (.lst ws)) (ws.map fun _=>k') ws ys B->(∀ b ∈ B,b ∈ A0\/b ∈ ρ.ad j) ->
    Rel K C H0 ((ρ.give i j).put i (.tre k (mE d pp (.lst ys))) (ρ.ad i ++ ρ.ad j)) σ (upd H2 a (.lst ws)):=by
 obtain ⟨v,Bt,e1,hB,h⟩:=r.at_ i _ e
 obtain ⟨v',A1,h1,s1,rc,up⟩:=h.path ed ek
 have hi:i < ρ.rho.length:=(List.getElem?_eq_some_iff.mp e).1
 have r':=r.give hij hi
 cases h1 with
 | @l _ a vs _ A0 ha hp hn =>
  have aI:a ∈ ρ.ad i:=hB a (s1 a List.mem_cons_self)
  have A0I:∀ b ∈ A0,b ∈ ρ.ad i:=fun b hb=>hB b (s1 b (List.mem_cons_of_mem _ hb))
  refine ⟨v,a,vs,A0,e1,rc,ha,hp,hn,aI,A0I,fun {H2 ws ys B} s ht hs=>?_⟩
  have ne:∀ b vs',H b=some (.tup vs')->b ≠ a:=fun b vs' q z=>by rw [z,ha] at q;cases q
  have nj:∀ b,b ∈ ρ.ad i->b ∉ ρ.ad j:=fun b hb z=>hij (r.inj _ _ b hb z)
  refine r'.put rfl (fun m _=>rfl) (fun b hb=>?_) (fun m hm=>⟨fun b hb o q=>?_,fun b vs' q=>?_⟩) (fun b o q=>?_) (fun b hb=>?_) fun hi' sub=>?_
  ·exact .inl (by rw [DQ];exact hb)
  ·rcases iN hb with ⟨z,_⟩ | ⟨_,_,z⟩
   ·exact absurd z hm
   ·rw [aH fun (y:b=a)=>hm (r.inj m i b z (y ▸ aI))];exact s b o q
  ·rw [aH (ne b vs' q)];exact s b _ q
  ·rw [kL hij] at q
   obtain ⟨g1,g2⟩:=msk_some.mp q
   rw [aH fun (z:b=a)=>g1 ⟨i,z ▸ aI⟩];exact s b o g2
  ·by_cases z:b=a
   ·exact .inl ⟨ws,by rw [z];exact ba⟩
   ·rw [aH z]
    rcases List.mem_append.mp hb with hb | hb
    ·exact (r.kin i b hb).imp (fun ⟨us,q⟩=>⟨us,s _ _ q⟩) fun ⟨us,q⟩=>⟨us,s _ _ q⟩
    ·exact (r.kin j b hb).imp (fun ⟨us,q⟩=>⟨us,s _ _ q⟩) fun ⟨us,q⟩=>⟨us,s _ _ q⟩
  ·have aB:a ∉ B:=fun z=>by
    rcases hs a z with y | y
    ·exact hn y
    ·exact nj a aI y
   rw [kL hij] at sub
   obtain ⟨A',h3,s3⟩:=up (M':=msk ((ρ.give i j).put i (.tre k (mE d pp (.lst ys))) (ρ.ad i ++ ρ.ad j)) σ (upd H2 a (.lst ws))) (H':=upd H2 a (.lst ws)) sub ⟨fun b hb nb o q=>by rw [aH fun (z:b=a)=>nb (z ▸ List.mem_cons_self)];exact s b o q,fun b vs' q=>by rw [aH (ne b vs' q)];exact s b _ q⟩
    (.l (k:=k') ba (ht.stay (fun b o q=>by
     obtain ⟨g3,g4⟩:=msk_some.mp q
     refine msk_some.mpr ⟨fun ⟨m,z⟩=>?_,by rw [aH fun (z:b=a)=>g3 ⟨i,z ▸ aI⟩];exact g4⟩
     rcases fS z with ⟨_,_,z⟩ | ⟨_,z⟩
     ·rcases List.mem_append.mp z with z | z
      ·exact g3 ⟨i,z⟩
      ·exact g3 ⟨j,z⟩
     ·exact g3 ((oG hij).mp ⟨m,z⟩)) (.of (Same.refl _))) aB) (fun b hb=>by
     rcases List.mem_cons.mp hb with z | z
     ·exact .inl (z ▸ List.mem_cons_self)
     ·rcases hs b z with y | y
      ·exact .inl (List.mem_cons_of_mem _ y)
      ·exact .inr fun w=>nj b (hB b w) y)
   refine ⟨v,A',e1,fun b hb=>?_,h3⟩
   rcases s3 b hb with z | z
   ·exact List.mem_append_left _ (hB b z)
   ·rcases List.mem_cons.mp z with z | z
    ·exact List.mem_append_left _ (z ▸ aI)
    ·rcases hs b z with y | y
     ·exact List.mem_append_left _ (A0I b y)
     ·exact List.mem_append_right _ y
end
section
variable {C:Addr} {X:Cx}
def apM (i j:Nat) (k':OK) (P:Rho->R (List Nat)):Rho->R Rho:=fun ρ=>(P ρ).bind fun pp=>match ρ[i]?,ρ[j]? with
 | some (some (.tre k d)),some (some (.tre kj dj))=>if i ≠ j/\kj=k'/\jc k pp=some (.l k') then (match pA d pp with
  | some (.lst xs)=>if xs.length < LIM then .val ((ρ.set j none).set i (some (.tre k (mE d pp (.lst (xs ++ [dj])))))) else .bad
  | _=>.bad) else .bad
 | _,_=>.bad
theorem xV {i j:Nat} {k':OK} {o:Expr} {y:Str} {p ap cp pos:Pos} {P:Rho->R (List Nat)} (ho:ND C X i o P) (hy:PE X (.Name y p) (fy j))
  (hs:∀ {to:TE} {t:TA},PE X o to->PA X [.Name y p] t->PS X (.Expr (.Call (.Attribute o "append" ap) [.Name y p] [] cp) pos) (nF (tBM X.K "list" qS to t)):=by
   exact fun ho ha=>kB (sQ PySem.F.plainAttrs_list PySem.F.slot_list_append PySem.F.type_list_append lE ho ha))
  (hst:starEach [.Name y p] X.env=(false,eval (.Name y p) X.env) :: starEach [] X.env:=by rfl) :
  SDi C X (.Expr (.Call (.Attribute o "append" ap) [.Name y p] [] cp) pos) (apM i j k' P) :=
 bF (hs ho (dk hy eX hst)) fun D σ H ⟨_,H0,⟨ρ,er,r⟩,q⟩=>by
  subst er
  refine ⟨ρ,⟨H0,r⟩,?_⟩
  unfold apM at q
  cases eP:P ρ with
  | exc c=>rw [eP] at q;exact q_ r q
  | bad=>rw [eP] at q;exact q.elim
  | val pp =>
   rw [eP] at q
   dsimp only [DL.R.bind] at q
   intro v w H1 e1 s1 rc
   split at q
   ·rename_i k d kj dj ei ej
    by_cases hc:i ≠ j/\kj=k'/\jc k pp=some (.l k')
    ·rw [if_pos hc] at q
     obtain ⟨hij,ekj,ek⟩:=hc
     subst ekj
     split at q
     ·rename_i xs ed
      by_cases hl:xs.length < LIM
      ·rw [if_pos hl] at q
       obtain ⟨v0,a,vs,A0,e2,rc0,ha,hp,hn,aI,A0I,up⟩:=r.nodeM hij ei ek ed
       rw [e1] at e2;cases e2
       have:=Reach.det (rc0.mono s1) rc
       subst this
       obtain ⟨u,Bj,eu,hBj,htj⟩:=r.at_ j _ ej
       refine ⟨.inl ⟨rfl,_,SqL.of (s1 _ _ ha)⟩,u,eu,?_⟩
       refine ⟨a,vs,u,rfl,rfl,s1 _ _ ha,by rw [hp.len.1];exact Nat.lt_of_lt_of_le hl (by decide),?_⟩
       have ne:∀ b us,H b=some (.tup us)->b ≠ a:=fun b us q z=>by rw [z,ha] at q;cases q
       have st:∀ A:List Addr,(∀ b ∈ A,b ≠ a)->Stay A H (upd H1 a (.lst (vs ++ [u]))):=fun A hA=>⟨fun b hb o q=>by rw [aH (hA b hb)];exact s1 b o q,fun b us q=>by rw [aH (ne b us q)];exact s1 b _ q⟩
       obtain ⟨B,hB,h3⟩:=TreP.app (htj.stay (bc s1) (st Bj fun b hb z=>hij (r.inj _ _ a aI (z ▸ hBj b hb)))) (hp.stay (bc s1) (st A0 fun b hb z=>hn (z ▸ hb))) fun b hb z=>hij (r.inj _ _ b (A0I b hb) (hBj b z))
       exact q _ ⟨_,rfl,up s1 (by rw [List.map_append];exact h3) fun b hb=>((hB b).mp hb).imp id (hBj b)⟩
      ·rw [if_neg hl] at q;exact q.elim
     ·exact q.elim
    ·rw [if_neg hc] at q;exact q.elim
   ·exact q.elim
end
section
variable {C:Addr} {X:Cx}
theorem DE {k:OK} {pos:Pos}:KD C X (.l k) (.List [] pos) (eLs (fU aN)) :=
 aQ (q8 eX) fun σ H Q yy=>by
  obtain ⟨ρ,⟨H0,r0⟩,q⟩:=yy
  exact ⟨(show 0<=sizeLine by decide),fun p hp=>q (.ref p) (upd H p (.lst [])) [p] (aX hp) (fun b hb=>by cases List.mem_singleton.mp hb;exact hp) (.l ba .nil List.not_mem_nil)⟩
end
end DL
namespace DL
def cV:List Int->List Int->Bool
 | [],[]=>false
 | [],_ :: _=>true
 | _ :: _,[]=>false
 | a :: x,b :: y=>if a=b then cV x y else decide (a < b)
theorem kI:∀ x:List Int,cV x x=false
 | []=>rfl
 | a :: x=>by unfold cV;rw [if_pos rfl];exact kI x
theorem iK:∀ {x y z:List Int},cV x y=true->cV y z=true->cV x z=true
 | [],[],_,h,_=>by cases h
 | [],_ :: _,[],_,h=>by cases h
 | [],_ :: _,_ :: _,_,_=>rfl
 | _ :: _,[],_,h,_=>by cases h
 | _ :: _,_ :: _,[],_,h=>by cases h
 | a :: x,b :: y,c :: z,h1,h2=>by
  unfold cV at h1 h2 ⊢
  by_cases e1:a=b
  ·subst e1
   rw [if_pos rfl] at h1
   by_cases e2:a=c
   ·subst e2
    rw [if_pos rfl] at h2 ⊢
    exact iK h1 h2
   ·rw [if_neg e2] at h2 ⊢;exact h2
  ·rw [if_neg e1] at h1
   have h1:=of_decide_eq_true h1
   by_cases e2:b=c
   ·subst e2
    rw [if_neg e1];exact decide_eq_true h1
   ·rw [if_neg e2] at h2
    have h2:=of_decide_eq_true h2
    rw [if_neg (by omega)]
    exact decide_eq_true (by omega)
theorem kH:∀ {x y:List Int},cV x y=false->cV y x=false->x=y
 | [],[],_,_=>rfl
 | [],_ :: _,h,_=>by cases h
 | _ :: _,[],_,h=>by cases h
 | a :: x,b :: y,h1,h2=>by
  unfold cV at h1 h2
  by_cases e:a=b
  ·subst e
   rw [if_pos rfl] at h1 h2
   rw [kH h1 h2]
  ·rw [if_neg e] at h1
   rw [if_neg (fun z=>e z.symm)] at h2
   have h1:=of_decide_eq_false h1
   have h2:=of_decide_eq_false h2
   omega
theorem vT {x y:List Int} (h:cV x y=true):cV y x=false:=by
 cases e:cV y x with
 | false=>rfl
 | true=>have:=iK h e;rw [kI] at this;cases this
def leL (a b:List Int):Bool:=!cV b a
theorem wY (a b c:List Int) (h1:leL a b=true) (h2:leL b c=true):leL a c=true:=by
 unfold leL at *
 simp only [Bool.not_eq_true'] at *
 cases e:cV c a with
 | false=>rfl
 | true =>
  by_cases q:cV b a=true
  ·rw [q] at h1;cases h1
  ·have q:cV b a=false:=by simpa using q
   by_cases p:cV a b=true
   ·rw [iK e p] at h2;cases h2
   ·have p:cV a b=false:=by simpa using p
    rw [kH p q,h2] at e;cases e
theorem wZ (a b:List Int):(leL a b || leL b a)=true:=by
 unfold leL
 cases e:cV b a with
 | false=>rfl
 | true=>rw [vT e];rfl
theorem yP {a b:List Int} (h1:leL a b=true) (h2:leL b a=true):a=b:=by
 unfold leL at *
 simp only [Bool.not_eq_true'] at *
 exact kH h2 h1
def i8 (xs:List (List Int)):List (List Int):=xs.mergeSort leL
theorem qd (xs:List (List Int)):(i8 xs).Perm xs:=List.mergeSort_perm _ _
theorem jM {xs ys:List (List Int)} (hp:ys.Perm xs) (ho:ys.Pairwise fun a b=>leL a b=true):i8 xs=ys :=
 List.Perm.eq_of_pairwise (fun a b _ _=>yP) (List.pairwise_mergeSort wY wZ xs) ho ((qd xs).trans hp.symm)
end DL
namespace DL
open PySem.W PyProof.Rows
def gC {α:Type} (ok:Nat->Nat->Prop) (lt:Nat->Nat->Bool):KasT α->(α->Prop)->Prop
 | .ret a,Q=>Q a
 | .ask i j k,Q=>ok i j/\gC ok lt (k (lt i j)) Q
theorem fD {α β:Type} {ok:Nat->Nat->Prop} {lt:Nat->Nat->Bool} {f:α->KasT β} {Q:β->Prop}:∀ {t:KasT α},gC ok lt t (fun a=>gC ok lt (f a) Q)->gC ok lt (t.bind f) Q
 | .ret _,h=>h
 | .ask _ _ _,h=>⟨h.1,fD h.2⟩
theorem cL {α:Type} {ok:Nat->Nat->Prop} {lt:Nat->Nat->Bool} {Q Q':α->Prop} (hq:∀ a,Q a->Q' a):∀ {t:KasT α},gC ok lt t Q->gC ok lt t Q'
 | .ret _,h=>hq _ h
 | .ask _ _ _,h=>⟨h.1,cL hq h.2⟩
section
variable {n:Nat} {r:Nat->Nat}
abbrev okN (n:Nat):Nat->Nat->Prop:=fun i j=>i < n/\j < n
abbrev ltR (r:Nat->Nat):Nat->Nat->Bool:=fun i j=>decide (r i < r j)
structure PN (n:Nat) (p:Array Nat):Prop where
 pe:p.Perm (List.range n).toArray
def gk (r:Nat->Nat) (p:Array Nat) (k:Nat):Nat:=r (p.getD k 0)
theorem PN.size {p:Array Nat} (h:PN n p):p.size=n:=by rw [h.pe.size_eq];simp
theorem PN.bd {p:Array Nat} (h:PN n p) (hn:0 < n) (k:Nat):p.getD k 0 < n:=by
 by_cases hk:k < p.size
 ·have:p[k] ∈ p:=Array.getElem_mem hk
  have:=h.pe.mem_iff.mp this
  simp at this
  rw [Array.getD_eq_getD_getElem?,Array.getElem?_eq_getElem hk]
  exact this
 ·rw [Array.getD_eq_getD_getElem?,Array.getElem?_eq_none (by omega)]
  exact hn
theorem PN.mir {p:Array Nat} (h:PN n p) (i j d:Nat):PN n (mirror p i j d):=⟨(mirror_perm _ _ _ _).trans h.pe⟩
theorem PN.bub {p:Array Nat} (h:PN n p) (i d:Nat):PN n (bubble p i d):=⟨(bubble_perm _ _ _).trans h.pe⟩
theorem tx {p q:Array Nat} {i j:Nat} (h:p[i]?=q[j]?):gk r p i=gk r q j:=by
 unfold gk;rw [Array.getD_eq_getD_getElem?,Array.getD_eq_getD_getElem?,h]
theorem oF {p:Array Nat} {i j:Nat} (hj:j<=p.size) (k:Nat):gk r (kas_rev p i j) k=if i<=k/\k < j then gk r p (i + j - 1 - k) else gk r p k:=by
 have e:=getElem?_mirror_all (i:=i) hj k
 unfold kas_rev
 by_cases h1:i<=k/\k < j
 ·rw [if_pos h1] at e ⊢;exact tx e
 ·rw [if_neg h1] at e ⊢;exact tx e
theorem za {p:Array Nat} {s d:Nat} (hs:s < p.size) (hd:d<=s) (k:Nat):gk r (bubble p s d) k=if k=s - d then gk r p s else if s - d < k/\k<=s then gk r p (k - 1) else gk r p k:=by
 have e:=getElem?_bubble hs d hd k
 by_cases h1:k=s - d
 ·rw [if_pos h1] at e ⊢;exact tx e
 ·rw [if_neg h1] at e ⊢
  by_cases h2:s - d < k/\k<=s
  ·rw [if_pos h2] at e ⊢;exact tx e
  ·rw [if_neg h2] at e ⊢;exact tx e
def Up (r:Nat->Nat) (p:Array Nat) (k:Nat):Prop:=∀ i j,i<=j->j < k->gk r p i<=gk r p j
def Dn (r:Nat->Nat) (p:Array Nat) (k:Nat):Prop:=∀ i j,i<=j->j < k->gk r p j<=gk r p i
theorem oE (hn:0 < n) {p:Array Nat} (h:PN n p):∀ (f a:Nat),1<=a->a + f<=n->Up r p a->gC (okN n) (ltR r) (kas_asc p f a) (fun m=>a<=m/\m<=a + f/\Up r p m/\(∀ i,m < a + f->i=m->gk r p i < gk r p (i - 1)))
 | 0,a,_,_,u=>⟨Nat.le_refl _,Nat.le_refl _,u,fun i h=>absurd h (by omega)⟩
 | f + 1,a,h1,h2,u=>by
  refine ⟨⟨h.bd hn _,h.bd hn _⟩,?_⟩
  by_cases c:r (p.getD a 0) < r (p.getD (a - 1) 0)
  ·rw [show ltR r (p.getD a 0) (p.getD (a - 1) 0)=true from decide_eq_true c]
   dsimp only
   rw [if_pos rfl]
   exact ⟨Nat.le_refl _,by omega,u,fun i _ e=>by subst e;exact c⟩
  ·rw [show ltR r (p.getD a 0) (p.getD (a - 1) 0)=false from decide_eq_false c]
   dsimp only
   rw [if_neg (by decide)]
   have u':Up r p (a + 1):=fun i j hij hj=>by
    by_cases e:j=a
    ·subst e
     by_cases e2:i=j
     ·subst e2;exact Nat.le_refl _
     ·have:=u i (j - 1) (by omega) (by omega)
      have c:¬ gk r p j < gk r p (j - 1):=c
      omega
    ·exact u i j hij (by omega)
   refine cL (fun m hm=>⟨by omega,by omega,hm.2.2.1,fun i h e=>hm.2.2.2 i (by omega) e⟩) (oE hn h f (a + 1) (by omega) (by omega) u')
theorem jQ (hn:0 < n):∀ (f:Nat) (p:Array Nat) (a q:Nat),PN n p->a + f<=n->q + 1<=a->Dn r p a->(∀ k,a - (q + 1)<=k->k < a->gk r p k=gk r p (a - 1)) ->
  gC (okN n) (ltR r) (kas_desc f p a q) (fun z=>PN n z.1/\a<=z.2.1/\z.2.1<=a + f/\z.2.2 + 1<=z.2.1/\Dn r z.1 z.2.1/\(∀ k,z.2.1 - (z.2.2 + 1)<=k->k < z.2.1->gk r z.1 k=gk r z.1 (z.2.1 - 1)))
 | 0,p,a,q,h,h1,h2,d,e=>⟨h,Nat.le_refl _,Nat.le_refl _,h2,d,e⟩
 | f + 1,p,a,q,h,h1,h2,d,e=>by
  have sz:=h.size
  refine ⟨⟨h.bd hn _,h.bd hn _⟩,?_⟩
  by_cases c:r (p.getD a 0) < r (p.getD (a - 1) 0)
  ·rw [show ltR r (p.getD a 0) (p.getD (a - 1) 0)=true from decide_eq_true c]
   dsimp only
   rw [if_pos rfl]
   have c:gk r p a < gk r p (a - 1):=c
   have d':Dn r p (a + 1):=fun i j hij hj=>by
    by_cases ej:j=a
    ·subst ej
     by_cases ei:i=j
     ·subst ei;exact Nat.le_refl _
     ·have:=d i (j - 1) (by omega) (by omega)
      omega
    ·exact d i j hij (by omega)
   by_cases hq:q > 0
   ·rw [if_pos hq]
    have same:∀ k,gk r (kas_rev p (a - (q + 1)) a) k=gk r p k:=fun k=>by
     rw [oF (by omega)]
     split
     ·rw [e _ (by omega) (by omega),e k (by omega) (by omega)]
     ·rfl
    refine cL (fun z hz=>⟨hz.1,by omega,by omega,hz.2.2.2.1,hz.2.2.2.2⟩) (jQ hn f (kas_rev p (a - (q + 1)) a) (a + 1) 0 (h.mir _ _ _) (by omega) (by omega) (fun i j hij hj=>by rw [same,same];exact d' i j hij hj) (fun k h1 h2=>by rw [show k=a + 1 - 1 by omega]))
   ·rw [if_neg hq]
    refine cL (fun z hz=>⟨hz.1,by omega,by omega,hz.2.2.2.1,hz.2.2.2.2⟩) (jQ hn f p (a + 1) 0 h (by omega) (by omega) d' (fun k h1 h2=>by rw [show k=a + 1 - 1 by omega]))
  ·rw [show ltR r (p.getD a 0) (p.getD (a - 1) 0)=false from decide_eq_false c]
   dsimp only
   rw [if_neg (by decide)]
   have c:¬ gk r p a < gk r p (a - 1):=c
   refine ⟨⟨h.bd hn _,h.bd hn _⟩,?_⟩
   by_cases c2:r (p.getD (a - 1) 0) < r (p.getD a 0)
   ·rw [show ltR r (p.getD (a - 1) 0) (p.getD a 0)=true from decide_eq_true c2]
    dsimp only
    rw [if_pos rfl]
    exact ⟨h,Nat.le_refl _,Nat.le_add_right _ _,h2,d,e⟩
   ·rw [show ltR r (p.getD (a - 1) 0) (p.getD a 0)=false from decide_eq_false c2]
    dsimp only
    rw [if_neg (by decide)]
    have c2:¬ gk r p (a - 1) < gk r p a:=c2
    have ee:gk r p a=gk r p (a - 1):=by omega
    refine cL (fun z hz=>⟨hz.1,by omega,by omega,hz.2.2.2.1,hz.2.2.2.2⟩) (jQ hn f p (a + 1) (q + 1) h (by omega) (by omega) (fun i j hij hj=>by
     by_cases ej:j=a
     ·subst ej
      by_cases ei:i=j
      ·subst ei;exact Nat.le_refl _
      ·have:=d i (j - 1) (by omega) (by omega)
       omega
     ·exact d i j hij (by omega)) (fun k h1 h2=>by
     rw [show a + 1 - 1=a by omega]
     by_cases ek:k=a
     ·rw [ek]
     ·rw [e k (by omega) (by omega),ee]))
def Cnt (n:Nat) (r:Nat->Nat) (z:Nat × Array Nat):Prop:=PN n z.2/\1<=z.1/\z.1<=n/\Up r z.2 z.1
theorem Ct {p:Array Nat} {a:Nat} (ha:a<=p.size) (d:Dn r p a):Up r (kas_rev p 0 a) a:=fun i j hij hj=>by
 rw [oF ha,oF ha,if_pos (by omega),if_pos (by omega)]
 exact d _ _ (by omega) (by omega)
theorem oC (hn:0 < n) {p:Array Nat} {a:Nat} (h:PN n p) (h1:1<=a) (h2:a<=n) (d:Dn r p a):gC (okN n) (ltR r) (kas_tail3 a n p) (Cnt n r):=by
 unfold kas_tail3
 refine fD (cL (fun m hm=>?_) (oE hn (h.mir 0 a _) (n - a) a h1 (by omega) (Ct (by rw [h.size];exact h2) d)))
 exact ⟨h.mir _ _ _,by omega,by omega,hm.2.2.1⟩
theorem jY (hn:0 < n) {p:Array Nat} {a:Nat} (h:PN n p) (h1:1<=a) (h2:a < n) (d:Dn r p (a + 1)):gC (okN n) (ltR r) (kas_descPart a n p) (Cnt n r):=by
 unfold kas_descPart
 refine fD (cL (fun z hz=>?_) (jQ hn (n - (a + 1)) p (a + 1) 0 h (by omega) (by omega) d (fun k h1 h2=>by rw [show k=a + 1 - 1 by omega])))
 obtain ⟨z1,z2,z3,z4,z5,z6⟩:=hz
 have sz:=z1.size
 by_cases c:z.2.2 > 0
 ·rw [if_pos c]
  have same:∀ k,gk r (kas_rev z.1 (z.2.1 - (z.2.2 + 1)) z.2.1) k=gk r z.1 k:=fun k=>by
   rw [oF (by omega)]
   split
   ·rw [z6 _ (by omega) (by omega),z6 k (by omega) (by omega)]
   ·rfl
  exact oC hn (z1.mir _ _ _) (by omega) (by omega) (fun i j hij hj=>by
   show gk r (kas_rev _ _ _) j<=gk r (kas_rev _ _ _) i
   rw [same,same];exact z5 i j hij hj)
 ·rw [if_neg c]
  exact oC hn z1 (by omega) (by omega) z5
theorem uT (hn:0 < n) {p:Array Nat} (h:PN n p):gC (okN n) (ltR r) (kas_count n p) (Cnt n r):=by
 unfold kas_count
 refine fD (cL (fun m hm=>?_) (oE hn h (n - 1) 1 (Nat.le_refl _) (by omega) (fun i j hij hj=>by rw [show i=j by omega];exact Nat.le_refl _)))
 obtain ⟨m1,m2,m3,m4⟩:=hm
 have sz:=h.size
 by_cases c:m=n
 ·rw [if_pos (by simpa using c)]
  exact ⟨h,by omega,by omega,m3⟩
 ·rw [if_neg (by simpa using c)]
  have lt:=m4 m (by omega) rfl
  by_cases c1:m > 1
  ·rw [if_pos c1]
   refine ⟨⟨h.bd hn _,h.bd hn _⟩,?_⟩
   by_cases c2:r (p.getD 0 0) < r (p.getD (m - 1) 0)
   ·rw [show ltR r (p.getD 0 0) (p.getD (m - 1) 0)=true from decide_eq_true c2]
    dsimp only
    rw [if_pos rfl]
    exact ⟨h,by omega,by omega,m3⟩
   ·rw [show ltR r (p.getD 0 0) (p.getD (m - 1) 0)=false from decide_eq_false c2]
    dsimp only
    rw [if_neg (by decide)]
    have c2:¬ gk r p 0 < gk r p (m - 1):=c2
    have eq:∀ k,k < m->gk r p k=gk r p 0:=fun k hk=>by
     have a:=m3 0 k (by omega) hk
     have b:=m3 k (m - 1) (by omega) (by omega)
     omega
    have same:∀ k,gk r (kas_rev p 0 m) k=gk r p k:=fun k=>by
     rw [oF (by omega)]
     split
     ·rw [eq _ (by omega),eq k (by omega)]
     ·rfl
    exact jY hn (h.mir _ _ _) m1 (by omega) (fun i j hij hj=>by
     show gk r (kas_rev _ _ _) j<=gk r (kas_rev _ _ _) i
     rw [same,same]
     by_cases ej:j=m
     ·subst ej
      by_cases ei:i=j
      ·subst ei;exact Nat.le_refl _
      ·have:=eq i (by omega)
       have:=eq (j - 1) (by omega)
       omega
     ·rw [eq i (by omega),eq j (by omega)];exact Nat.le_refl _)
  ·rw [if_neg c1]
   have em:m=1:=by omega
   subst em
   exact jY hn h m1 (by omega) (fun i j hij hj=>by
    by_cases ei:i=j
    ·subst ei;exact Nat.le_refl _
    ·have:i=0:=by omega
     have:j=1:=by omega
     subst i;subst j
     exact Nat.le_of_lt lt)
theorem j9 (hn:0 < n) {p:Array Nat} (h:PN n p) {k:Nat} (u:Up r p k):∀ (f l t:Nat),t<=k->l<=t->t - l<=f->(∀ i,i < l->gk r p i<=gk r p k)->(∀ i,t<=i->i < k->gk r p k < gk r p i) ->
  gC (okN n) (ltR r) (kas_place p k f l t) (fun m=>m<=k/\(∀ i,i < m->gk r p i<=gk r p k)/\(∀ i,m<=i->i < k->gk r p k < gk r p i))
 | 0,l,t,h1,h2,h3,a,b=>⟨by omega,a,fun i hi hk=>b i (by omega) hk⟩
 | f + 1,l,t,h1,h2,h3,a,b=>by
  unfold kas_place
  by_cases c:l ≥ t
  ·rw [if_pos c]
   exact ⟨by omega,a,fun i hi hk=>b i (by omega) hk⟩
  ·rw [if_neg c]
   refine ⟨⟨h.bd hn _,h.bd hn _⟩,?_⟩
   by_cases c2:r (p.getD k 0) < r (p.getD ((l + t) / 2) 0)
   ·rw [show ltR r (p.getD k 0) (p.getD ((l + t) / 2) 0)=true from decide_eq_true c2]
    dsimp only
    rw [if_pos rfl]
    have c2:gk r p k < gk r p ((l + t) / 2):=c2
    exact j9 hn h u f l _ (by omega) (by omega) (by omega) a (fun i hi hk=>by
     have:=u ((l + t) / 2) i hi hk
     omega)
   ·rw [show ltR r (p.getD k 0) (p.getD ((l + t) / 2) 0)=false from decide_eq_false c2]
    dsimp only
    rw [if_neg (by decide)]
    have c2:¬ gk r p k < gk r p ((l + t) / 2):=c2
    exact j9 hn h u f _ t h1 (by omega) (by omega) (fun i hi=>by
     have:=u i ((l + t) / 2) (by omega) (by omega)
     omega) b
theorem tw (hn:0 < n):∀ (f:Nat) (p:Array Nat) (k:Nat),PN n p->k + f=n->Up r p k->gC (okN n) (ltR r) (kas_bin f p k) (fun z=>PN n z/\Up r z n)
 | 0,p,k,h,e,u=>⟨h,(show k=n from e) ▸ u⟩
 | f + 1,p,k,h,e,u=>by
  have sz:=h.size
  unfold kas_bin
  refine fD (cL (fun m hm=>?_) (j9 hn h u k 0 k (Nat.le_refl _) (by omega) (by omega) (fun i hi=>absurd hi (by omega)) (fun i hi hk=>absurd hi (by omega))))
  obtain ⟨m1,m2,m3⟩:=hm
  refine tw hn f _ (k + 1) (h.bub _ _) (by omega) (fun i j hij hj=>?_)
  rw [za (by omega) (by omega),za (by omega) (by omega)]
  have e1:k - (k - m)=m:=by omega
  rw [e1]
  by_cases i1:i=m
  ·rw [if_pos i1]
   by_cases j1:j=m
   ·rw [if_pos j1];exact Nat.le_refl _
   ·rw [if_neg j1,if_pos (by omega)]
    exact Nat.le_of_lt (m3 (j - 1) (by omega) (by omega))
  ·rw [if_neg i1]
   by_cases i2:m < i/\i<=k
   ·rw [if_pos i2,if_neg (by omega),if_pos (by omega)]
    exact u _ _ (by omega) (by omega)
   ·rw [if_neg i2]
    by_cases j1:j=m
    ·rw [if_pos j1]
     exact m2 i (by omega)
    ·rw [if_neg j1]
     by_cases j2:m < j/\j<=k
     ·rw [if_pos j2]
      exact u _ _ (by omega) (by omega)
     ·rw [if_neg j2]
      exact u _ _ hij (by omega)
theorem w9 (hn:0 < n):gC (okN n) (ltR r) (kas_sort n) (fun z=>PN n z/\Up r z n):=by
 unfold kas_sort
 refine fD (cL (fun z hz=>?_) (uT hn ⟨Array.Perm.refl _⟩))
 obtain ⟨z1,z2,z3,z4⟩:=hz
 by_cases c:z.1 < n
 ·rw [if_pos c]
  have:max z.1 1=z.1:=by omega
  rw [this]
  exact tw hn _ _ _ z1 (by omega) z4
 ·rw [if_neg c]
  have:z.1=n:=by omega
  rw [this] at z4
  exact ⟨z1,z4⟩
end
theorem qs {p q:Nat->Bool}:∀ {l:List Nat},(∀ x ∈ l,p x=true->q x=true)->(∃ x ∈ l,q x=true/\p x=false)->l.countP p < l.countP q
 | [],_,⟨_,h,_⟩=>by cases h
 | a :: l,h,⟨x,hx,h1,h2⟩=>by
  rw [List.countP_cons,List.countP_cons]
  have mono:=List.countP_mono_left (l:=l) fun x hx=>h x (List.mem_cons_of_mem _ hx)
  rcases List.mem_cons.mp hx with rfl | hx
  ·rw [h1,h2];simp;omega
  ·have:=qs (l:=l) (fun x hx=>h x (List.mem_cons_of_mem _ hx)) ⟨x,hx,h1,h2⟩
   have:=h a (by simp)
   split <;> split <;> simp_all <;> omega
def rk (xs:List (List Int)) (i:Nat):Nat:=(List.range xs.length).countP fun j=>cV (xs.getD j []) (xs.getD i [])
theorem BU {xs:List (List Int)} {i j:Nat} (hi:i < xs.length) (h:cV (xs.getD i []) (xs.getD j [])=true):rk xs i < rk xs j :=
 qs (fun k _ hk=>iK hk h) ⟨i,List.mem_range.mpr hi,h,kI _⟩
theorem yc {xs:List (List Int)} {i j:Nat} (hi:i < xs.length) (hj:j < xs.length):cV (xs.getD i []) (xs.getD j [])=decide (rk xs i < rk xs j):=by
 cases e:cV (xs.getD i []) (xs.getD j []) with
 | true=>exact (decide_eq_true (BU hi e)).symm
 | false =>
  refine (decide_eq_false ?_).symm
  cases e2:cV (xs.getD j []) (xs.getD i []) with
  | true=>have:=BU hj e2;omega
  | false =>
   have:xs.getD i []=xs.getD j []:=kH e e2
   unfold rk
   rw [this];omega
theorem CF {xs:List (List Int)} {p:Array Nat} (h:PN xs.length p) (u:Up (rk xs) p xs.length):p.toList.map (fun i=>xs.getD i [])=i8 xs:=by
 have sz:=h.size
 refine (jM ?_ ?_).symm
 ·have e:xs=(List.range xs.length).map fun i=>xs.getD i []:=by
   apply List.ext_getElem
   ·simp
   ·intro i h1 h2
    simp [h1]
  have:=(Array.perm_iff_toList_perm.mp h.pe).map fun i=>xs.getD i []
  rw [List.toList_toArray] at this
  refine this.trans ?_
  rw [<- e]
 ·rw [List.pairwise_map,List.pairwise_iff_getElem]
  intro i j hi hj hij
  have hi':i < p.size:=by simpa using hi
  have hj':j < p.size:=by simpa using hj
  have:=u i j (by omega) (by omega)
  unfold gk at this
  rw [Array.getD_eq_getD_getElem?,Array.getD_eq_getD_getElem?,Array.getElem?_eq_getElem hi',Array.getElem?_eq_getElem hj'] at this
  have b:∀ k (hk:k < p.size),p[k] < xs.length:=fun k hk=>by
   have:=h.pe.mem_iff.mp (Array.getElem_mem hk)
   simpa using this
  unfold leL
  rw [Array.getElem_toList,Array.getElem_toList,yc (b j hj') (b i hi'),decide_eq_false (by simpa using this)]
  rfl
end DL
namespace DL
open PySem PySem.Spec PyProof.Rows L2
def ms:List D->Option (List (List Int))
 | []=>some []
 | .lst xs :: r=>match ik xs with
  | some l=>(ms r).map (l :: ·)
  | none=>none
 | _=>none
def rwI (l:List Int):D:=.lst (l.map D.int)
def Bg:D->R (List D)
 | .lst xs=>match ms xs with
  | some ls=>if ls.length < 64 then .val ((i8 ls).map rwI) else .bad
  | none=>.bad
 | _=>.bad
def zj (F:Rho->R D):Rho->R (List D):=fun ρ=>(F ρ).bind Bg
def Bn:D->D->R D
 | .lst xs,y=>if xs.all (eqb 8)=true/\eqb 8 y=true/\xs.length<=100000 then .val (.int ((xs.countP fun x=>pyq 8 x y:Nat):Int)) else .bad
 | _,_=>.bad
def xr (Fo F:Rho->R D):Rho->R D:=fun ρ=>(Fo ρ).bind fun x=>match x with
 | .lst xs=>(F ρ).bind (Bn (.lst xs))
 | _=>.bad
theorem tq {α:Type} {prog:Program} {w:World} {A:Around} {κ:SortKind} {it:Array Keyed} {ok:Nat->Nat->Prop} {lt:Nat->Nat->Bool} {s:Shared} (hc:∀ i j (C:Bool->Shared->Prop),ok i j->C (lt i j) s->PySem.W.kas_cmp prog w A κ it i j C s) {Q:α->Prop} :
  ∀ {t:PySem.W.KasT α},gC ok lt t Q->t.kasWp (PySem.W.kas_cmp prog w A κ it) (fun a s'=>s'=s/\Q a) s
 | .ret a,h=>⟨rfl,h⟩
 | .ask i j k,h=>hc i j _ h.1 (tq hc h.2)
theorem B4 {xs:List Int} {i:Nat} (h:i < xs.length):xs.getD i 0=xs[i]:=by rw [List.getD_eq_getElem?_getD,List.getElem?_eq_getElem h];rfl
open PySem.MeetsSeq3 in
open PySem.AutoSeq1 (wpAny_loadPart') in
theorem A6 (l b:Addr) (items items2:Array Value) (n n2:Nat) (dd dd2:Option Addr) (sl sl2:Array (Option Value)) (xs ys:List Int) (hx:xs.length=items.size) (hy:ys.length=items2.size)
  (ix:∀ j,j < items.size->∃ t,items[j]?=some (.int (xs.getD j 0) t)) (iy:∀ j,j < items2.size->∃ t,items2[j]?=some (.int (ys.getD j 0) t)) (k:Nat) :
  ∀ i:Nat,items.size - i=k->i<=items.size->i<=items2.size->Meets (Builtin.«list.__eq__.loop» ⟨[.ref l,.ref b,rawInt i,rawInt 0],[]⟩)
   (fun A R s=>s.heap.get? l=some { cls:=.type "list",dict:=dd,data:=.seq items n,slots:=sl }/\s.heap.get? b=some { cls:=.type "list",dict:=dd2,data:=.seq items2 n2,slots:=sl2 } /\
    R (.ok (.ret (.bool (cV (xs.drop i) (ys.drop i))))) s):=by
 induction k with
 | zero =>
  intro i hk h1 h2 prog w A R s h
  obtain ⟨hp,g,d,tk,os⟩:=s;obtain ⟨hl,hb,h⟩:=h
  wp_walk using wpAny_loadPart' hl,wpAny_loadPart' hb
  have hi1:items[((i:Nat):Int).toNat]?=none:=by simp;omega
  have e1:xs.drop i=[]:=List.drop_eq_nil_of_le (by omega)
  rw [hi1]
  wp_walk using wpAny_loadPart' hl,wpAny_loadPart' hb
  show R (.ok (.ret (.bool (decide (items.size < items2.size))))) _
  rw [e1] at h
  by_cases c:items.size < items2.size
  ·rw [List.drop_eq_getElem_cons (by omega:i < ys.length)] at h
   rw [decide_eq_true c];exact h
  ·rw [List.drop_eq_nil_of_le (by omega:ys.length<=i)] at h
   rw [decide_eq_false c];exact h
 | succ k ih =>
  intro i hk h1 h2 prog w A R s h
  obtain ⟨hp,g,d,tk,os⟩:=s;obtain ⟨hl,hb,h⟩:=h
  wp_walk using wpAny_loadPart' hl,wpAny_loadPart' hb
  have hlt:i < items.size:=by omega
  obtain ⟨t,ht⟩:=ix i hlt
  have hi1:items[((i:Nat):Int).toNat]?=some (.int (xs.getD i 0) t):=by rw [Int.toNat_natCast];exact ht
  have gx:xs.drop i=xs.getD i 0 :: xs.drop (i + 1):=by rw [List.drop_eq_getElem_cons (by omega:i < xs.length),B4 (by omega:i < xs.length)]
  have hc:((i:Int) + 1)=((i + 1:Nat):Int):=by push_cast;rfl
  rw [hi1]
  rw [gx] at h
  by_cases c:i < items2.size
  ·obtain ⟨u,hu⟩:=iy i c
   have hi2:items2[((i:Nat):Int).toNat]?=some (.int (ys.getD i 0) u):=by rw [Int.toNat_natCast];exact hu
   have gy:ys.drop i=ys.getD i 0 :: ys.drop (i + 1):=by rw [List.drop_eq_getElem_cons (by omega:i < ys.length),B4 (by omega:i < ys.length)]
   rw [gy] at h
   rw [hi2]
   refine wpAny_bind (PySem.SeqAt.EqAt.int_int (xs.getD i 0) t (ys.getD i 0) u prog w _ _ ?_)
   by_cases e:xs.getD i 0=ys.getD i 0
   ·rw [show (xs.getD i 0 == ys.getD i 0)=true from beq_iff_eq.mpr e]
    wp_walk
    rw [hc]
    exact ⟨plainId_quiet plain_eq_loop _,codeAny_builtin entry_eq_loop (by
     rw [Around.under_plainId plain_eq_loop _]
     refine ih (i + 1) (by omega) (by omega) (by omega) prog w A R _ ⟨hl,hb,?_⟩
     have q:cV (xs.getD i 0 :: xs.drop (i + 1)) (ys.getD i 0 :: ys.drop (i + 1))=cV (xs.drop (i + 1)) (ys.drop (i + 1)):=if_pos e
     rw [q] at h;exact h)⟩
   ·rw [show (xs.getD i 0 == ys.getD i 0)=false from beq_eq_false_iff_ne.mpr e]
    wp_walk using wpAny_loadPart' hl,wpAny_loadPart' hb
    rw [hi1,hi2]
    have q:cV (xs.getD i 0 :: xs.drop (i + 1)) (ys.getD i 0 :: ys.drop (i + 1))=decide (xs.getD i 0 < ys.getD i 0):=if_neg e
    rw [q] at h
    dsimp only
    refine wpAny_bind (wpAny_lt_int ?_)
    wp_walk
    exact h
  ·have hi2:items2[((i:Nat):Int).toNat]?=none:=by simp;omega
   rw [hi2]
   rw [List.drop_eq_nil_of_le (by omega:ys.length<=i)] at h
   wp_walk using wpAny_loadPart' hl,wpAny_loadPart' hb
   show R (.ok (.ret (.bool (decide (items.size < items2.size))))) _
   rw [decide_eq_false (by omega)];exact h
open PySem.MeetsSeq3 in
open PySem.AutoSeq1 (wpAny_loadPart') in
theorem A7 (l b:Addr) (items items2:Array Value) (n n2:Nat) (dd dd2:Option Addr) (sl sl2:Array (Option Value)) (xs ys:List Int) (hx:xs.length=items.size) (hy:ys.length=items2.size)
  (ix:∀ j,j < items.size->∃ t,items[j]?=some (.int (xs.getD j 0) t)) (iy:∀ j,j < items2.size->∃ t,items2[j]?=some (.int (ys.getD j 0) t)) :
  Meets (Builtin.«list.__lt__» ⟨[.ref l,.ref b],[]⟩)
   (fun A R s=>s.heap.get? l=some { cls:=.type "list",dict:=dd,data:=.seq items n,slots:=sl }/\s.heap.get? b=some { cls:=.type "list",dict:=dd2,data:=.seq items2 n2,slots:=sl2 } /\
    R (.ok (.ret (.bool (cV xs ys)))) s):=by
 intro prog w A R s h
 obtain ⟨hp,g,d,tk,os⟩:=s;obtain ⟨hl,hb,h⟩:=h
 have f3:=PySem.AutoSeq1.sub_list_list
 wp_walk using wpAny_loadPart' hl,wpAny_loadPart' hb
 exact ⟨plainId_quiet plain_eq_loop _,codeAny_builtin entry_eq_loop (by
  rw [Around.under_plainId plain_eq_loop _]
  exact A6 l b items items2 n n2 dd dd2 sl sl2 xs ys hx hy ix iy _ 0 rfl (Nat.zero_le _) (Nat.zero_le _) prog w A R _ ⟨hl,hb,h⟩)⟩
def RowAt (h:Heap) (v:Value) (xs:List Int):Prop:=∃ (l:Addr) (items:Array Value) (n:Nat),v=.ref l/\h.get? l=some { cls:=.type "list",dict:=none,data:=.seq items n,slots:=#[] }/\xs.length=items.size/\∀ j,j < items.size->∃ t,items[j]?=some (.int (xs.getD j 0) t)
section
variable {prog:Program} {w:World} {A:Around} {E:Value->Shared->Prop} {s:Shared}
theorem Dr {u v:Value} {xs ys:List Int} {Q:Bool->Shared->Prop} (hu:RowAt s.heap u xs) (hv:RowAt s.heap v ys) (ha:A.units < cLine) (h:Q (cV xs ys) s):wpAny (model prog w) A (oneLt' true u v) Q E s:=by
 obtain ⟨l,items,n,rfl,hl,hx,ix⟩:=hu
 obtain ⟨b,items2,n2,rfl,hb,hy,iy⟩:=hv
 rw [oneLt'_eq]
 simp only [if_true]
 refine wpAny_bind (wpAny_cRoomFor ha ?_)
 refine wpAny_bind (wpAny_callSpecialIfBound?_slot (name:="__lt__") ⟨_,hl,rfl⟩ PySem.F.slot_list_lt (call_meets PySem.F.slot_list_lt ⟨_,hl,rfl⟩ PySem.F.entry_list_lt (PySem.F.args_list_lt_2 _ _) (A7 l b items items2 n n2 none none #[] #[] xs ys hx hy ix iy) ⟨hl,hb,?_⟩))
 exact wpAny_truthy_bool h
end
section
variable {prog:Program} {w:World} {A:Around} {E:Value->Shared->Prop} {s:Shared}
def vh (h:Heap) (vs:List Value) (ls:List (List Int)):Prop:=vs.length=ls.length/\∀ i,i < ls.length->RowAt h (vs.getD i Value.none) (ls.getD i [])
theorem RowAt.kept {h h':Heap} {v:Value} {xs:List Int} (r:RowAt h v xs) (k:∀ b o,h.get? b=some o->h'.get? b=some o):RowAt h' v xs:=by
 obtain ⟨l,items,n,e,hl,hx⟩:=r
 exact ⟨l,items,n,e,k _ _ hl,hx⟩
theorem yx (vs:List Value):Array.map (fun x=>x.2) (vs.toArray.zip vs.toArray)=vs.toArray:=by
 apply Array.toList_inj.mp
 rw [Array.toList_map,Array.toList_zip,List.map_snd_zip (by simp)]
theorem uD (vs:List Value):(List.range vs.length).map (fun i=>vs.getD i Value.none)=vs:=by
 apply List.ext_getElem
 ·simp
 ·intro i h1 h2
  simp [h2]
theorem wJ {a:Addr} {vs:List Value} {ls:List (List Int)} {n:Nat} {P:PySem.Fin->Shared->Prop} (ho:s.heap.get? a=some (seqObj "list" vs.toArray n)) (hr:vh s.heap vs ls) (hna:∀ i,i < ls.length->vs.getD i Value.none ≠ .ref a) (h64:vs.length < 64) (ha:A.units < cLine)
  (h:∀ p:List Nat,p.Perm (List.range ls.length)->p.map (fun i=>ls.getD i [])=i8 ls->P (.done (.ret .none)) { s with heap:=sortedHeap s.heap a vs (p.map fun i=>vs.getD i Value.none).toArray }) :
  wpAny (model prog w) A (Builtin.«list.sort» ⟨[.ref a],[]⟩) P E s:=by
 rw [list_sort_plain]
 have hlt:a < s.heap.objs.size:=Heap.lt_size ho
 refine wpAny_bind (listItems_at ho rfl ?_)
 refine wpAny_bind (listUpdate_at ho rfl ?_ (by rw [List.size_toArray,sizeLine_eq];omega) (Nat.zero_le _))
 obtain ⟨e1,ho1⟩:∃ e1,(s.heap.update a (Obj.mapSeq fun _=>#[])).get? a=some (seqObj "list" #[] e1):=⟨_,get?_update_seq ho (fun _=>#[])⟩
 refine wpAny_bind (seqEpoch_at ho1 rfl ?_)
 refine wpAny_bind (wpAny_newTuple ?_ (by show vs.length<=_;rw [sizeLine_eq];omega))
 refine wpAny_bind (wpAny_newList ?_ (Nat.zero_le _))
 refine wpAny_holding ?_
 have ho6:(((s.heap.update a (Obj.mapSeq fun _=>#[])).push (seqObj "tuple" vs.toArray 0)).push (seqObj "list" #[] 0)).get? a=some (seqObj "list" #[] e1):=by
  rw [Heap.get?_push_ne _ _ _ (by rw [size_push',Heap.size_update];exact Nat.ne_of_lt (Nat.lt_succ_of_lt hlt)),Heap.get?_push_ne _ _ _ (by rw [Heap.size_update];exact Nat.ne_of_lt hlt)]
  exact ho1
 show wpAny (model prog w) A _ P E { s with heap:=((s.heap.update a (Obj.mapSeq fun _=>#[])).push (seqObj "tuple" vs.toArray 0)).push (seqObj "list" #[] 0) }
 dsimp only
 have keep:∀ b o,b ≠ a->s.heap.get? b=some o->(((s.heap.update a (Obj.mapSeq fun _=>#[])).push (seqObj "tuple" vs.toArray 0)).push (seqObj "list" #[] 0)).get? b=some o:=fun b o hb e=>by
  refine Heap.get?_push_of_some _ (Heap.get?_push_of_some _ ?_)
  rw [Heap.get?_update_ne _ _ _ _ hb];exact e
 have rows:∀ i,i < ls.length->RowAt (((s.heap.update a (Obj.mapSeq fun _=>#[])).push (seqObj "tuple" vs.toArray 0)).push (seqObj "list" #[] 0)) (vs.getD i Value.none) (ls.getD i []):=fun i hi=>by
  obtain ⟨l,items,m,e,hl,hx⟩:=hr.2 i hi
  exact ⟨l,items,m,e,keep _ _ (fun z=>hna i hi (by rw [e,z])) hl,hx⟩
 have hl:=hr.1
 by_cases h2:vs.toArray.size < 2
 ·rw [if_pos h2,if_pos h2]
  refine wpAny_bind (wpAny_pure ?_)
  rw [StateT.run_pure]
  refine wpAny_bind (wpAny_pure ?_)
  dsimp only
  refine wpAny_bind (seqEpoch_at ho6 rfl ?_)
  refine wpAny_bind (listUpdate_at ho6 rfl ?_ (hsz2:=by rw [Array.size_map];show (pairsOf vs).size<=_;rw [pairsOf_size,sizeLine_eq];omega))
  simp only [bne_self_eq_false,Bool.false_eq_true,if_false]
  refine wpAny_pure ?_
  have h2:vs.length < 2:=by simpa using h2
  have out:Array.map (fun x=>x.2) (arrOf (SortSt.mk' general' (vs.toArray.zip vs.toArray) #[] 7 none))=((List.range ls.length).map fun i=>vs.getD i Value.none).toArray:=by
   show Array.map (fun x=>x.2) (vs.toArray.zip vs.toArray)=_
   rw [yx,<- hl,uD]
  have srt:(List.range ls.length).map (fun i=>ls.getD i [])=i8 ls:=by
   match ls,hl,h2 with
   | [],_,_=>exact (jM (List.Perm.refl _) List.Pairwise.nil).symm
   | [x],_,_=>exact (jM (xs:=[x]) (ys:=[x]) (List.Perm.refl _) (List.pairwise_singleton _ _)).symm
   | _ :: _ :: _,h,h'=>rw [h] at h';simp at h';omega
  have:=h (List.range ls.length) (List.Perm.refl _) srt
  rw [<- out] at this
  exact this
 ·rw [if_neg h2,if_neg h2]
  have h2:2<=vs.length:=by simpa using h2
  have mem:∀ v ∈ vs,∃ i,i < ls.length/\vs.getD i Value.none=v:=fun v hv=>by
   obtain ⟨i,hi,e⟩:=List.mem_iff_getElem.mp hv
   exact ⟨i,by omega,by rw [List.getD_eq_getElem?_getD,List.getElem?_eq_getElem hi,e];rfl⟩
  refine wpAny_bind (PySem.W.kas_kind (T:=.type "list") h2 (fun v hv=>?_) rfl rfl ?_)
  ·obtain ⟨i,hi,rfl⟩:=mem v hv
   obtain ⟨l,items,m,e,hg,_⟩:=rows i hi
   rw [e]
   exact fun A Q E s' kp q=>wpAny_typeOf (T:="list") ⟨_,kp _ _ hg,rfl⟩ q
  have est:SortSt.mk' oneType' (vs.toArray.zip vs.toArray) #[] 7 none=PySem.W.kas_st oneType' (pairsOf vs) (List.toArray (List.range vs.length)):=by
   have e:=PySem.W.kas_range (pairsOf vs)
   rw [pairsOf_size] at e
   show SortSt.mk' oneType' (pairsOf vs) #[] 7 none=SortSt.mk' oneType' ((List.toArray (List.range vs.length)).map (PySem.W.kas_item (pairsOf vs))) #[] 7 none
   rw [e]
  have gs:=w9 (n:=ls.length) (r:=rk ls) (by omega)
  have ask:=tq (prog:=prog) (w:=w) (A:=A) (κ:=oneType') (it:=pairsOf vs) (s:={ s with heap:=((s.heap.update a (Obj.mapSeq fun _=>#[])).push (seqObj "tuple" vs.toArray 0)).push (seqObj "list" #[] 0) }) (fun i j C hij hC=>by
   unfold PySem.W.kas_cmp
   rw [PySem.W.kas_item_eq,PySem.W.kas_item_eq,keyLt'_oneType]
   refine Dr (rows i hij.1) (rows j hij.2) ha ?_
   rw [yc hij.1 hij.2];exact hC) gs
  rw [<- hl] at ask
  have run:=PySem.W.kas_runs (E:=E) (Q:=fun _ st' s'=>∃ p:Array Nat,arrOf st'=p.map (PySem.W.kas_item (pairsOf vs))/\failedOf st'=none/\s'={ s with heap:=((s.heap.update a (Obj.mapSeq fun _=>#[])).push (seqObj "tuple" vs.toArray 0)).push (seqObj "list" #[] 0) }/\PN vs.length p/\Up (rk ls) p vs.length)
   h2 h64 (fun p' st' s' a1 a2 a3 a4=>⟨p',a2,a3,a4.1,a4.2⟩) ask
  rw [<- est] at run
  refine wpAny_bind (wpAny_mono run ?_ fun _ _ e=>e)
  rintro ⟨⟨⟩,st'⟩ s' ⟨p,har,hf,rfl,hpn,hup⟩
  rw [hl] at hpn hup
  dsimp only
  have hout:(arrOf st').map (·.2)=(p.toList.map fun i=>vs.getD i Value.none).toArray:=by
   apply Array.toList_inj.mp
   rw [har,Array.map_map,Array.toList_map]
   exact List.map_congr_left fun i _=>by show (PySem.W.kas_item (pairsOf vs) i).2=_;rw [PySem.W.kas_item_eq]
  have hsz:(p.toList.map fun i=>vs.getD i Value.none).toArray.size=ls.length:=by rw [List.size_toArray,List.length_map,Array.length_toList,hpn.size]
  rw [hout]
  refine wpAny_bind (seqEpoch_at ho6 rfl ?_)
  refine wpAny_bind (listUpdate_at ho6 rfl ?_ (Nat.zero_le _) (Nat.le_trans (Nat.le_of_eq hsz) (by rw [sizeLine_eq];omega)))
  rw [hf]
  simp only [bne_self_eq_false,Bool.false_eq_true,if_false]
  refine wpAny_pure (h p.toList ?_ (CF hpn hup))
  have:=Array.perm_iff_toList_perm.mp hpn.pe
  rwa [List.toList_toArray] at this
theorem sJ {l:Addr} {vs:List Value} {ls:List (List Int)} {Q:Value->Shared->Prop} (hl:s.heap.IsList l vs.toArray) (hr:vh s.heap vs ls) (h64:vs.length < 64) (ha:A.units + 2 < cLine)
  (h:∀ p:List Nat,p.Perm (List.range ls.length)->p.map (fun i=>ls.getD i [])=i8 ls->Q (.ref (s.heap.objs.size + 1)) { s with heap:=sortedAll s.heap vs (p.map fun i=>vs.getD i Value.none).toArray }) :
  wpAny (model prog w) A (call (.builtin "sorted") [.ref l]) Q E s:=by
 refine Calls.call_function_entry kind_sorted plain_sorted entry_sorted (args_sorted1 _) ?_
 unfold Builtin.«sorted»
 refine wpAny_bind (m:=checkCount "sorted" 1 1 _) (wpAny_pure ?_)
 refine wpAny_bind (collect_list hl ?_ (by rw [sizeLine_eq];omega))
 refine wpAny_bind (wpAny_newList ?_ (by rw [sizeLine_eq];omega))
 have hsz:((s.heap.push (seqObj "list" #[] 0)).update s.heap.objs.size (Obj.mapSeq (· ++ vs.toArray))).objs.size=s.heap.objs.size + 1:=by
  rw [Heap.size_update,size_push']
 have hoL:(((s.heap.push (seqObj "list" #[] 0)).update s.heap.objs.size (Obj.mapSeq (· ++ vs.toArray))).push (seqObj "list" vs.toArray 0)).get? (s.heap.objs.size + 1)=some (seqObj "list" vs.toArray 0):=by
  rw [<- hsz];exact Heap.get?_push_size _ rfl
 have keep:∀ b o,s.heap.get? b=some o->(((s.heap.push (seqObj "list" #[] 0)).update s.heap.objs.size (Obj.mapSeq (· ++ vs.toArray))).push (seqObj "list" vs.toArray 0)).get? b=some o:=fun b o q=>by
  have hlt:b < s.heap.objs.size:=Heap.lt_size q
  rw [Heap.get?_push_ne _ _ _ (by rw [hsz];exact Nat.ne_of_lt (Nat.lt_succ_of_lt hlt)),Heap.get?_update_ne _ _ _ _ (Nat.ne_of_lt hlt),Heap.get?_push_ne _ _ _ (Nat.ne_of_lt hlt)]
  exact q
 show wpAny _ _ _ _ _ { s with heap:=((s.heap.push (seqObj "list" #[] 0)).update s.heap.objs.size (Obj.mapSeq (· ++ vs.toArray))).push (seqObj "list" vs.toArray 0) }
 rw [hsz]
 refine wpAny_bind (wpAny_holding (wpAny_call_entry slot_list_sort ⟨_,hoL,rfl⟩ entry_list_sort (wJ (ls:=ls) hoL ⟨hr.1,fun i hi=>(hr.2 i hi).kept keep⟩ (fun i hi e=>?_) h64 ?_ fun p a1 a2=>⟨_,rfl,?_⟩) (args_list_sort _)))
 ·obtain ⟨b,items,m,e',hg,_⟩:=hr.2 i hi
  rw [e'] at e
  have e2:b=s.heap.objs.size + 1:=by injection e
  have e3:=Heap.lt_size hg
  rw [e2] at e3
  exact absurd e3 (Nat.not_lt_of_ge (Nat.le_succ _))
 ·exact ha
 ·exact wpAny_pure ⟨_,rfl,h p a1 a2⟩
end
section
variable {C:Addr} {X:Cx}
open Classical in
theorem zM {pins:List (Addr × Obj)} {σ:St} {H:Hp} {s:Shared} (I:Inv X pins σ H s) {A:Around} (hu:A.units + 9 < cLine) {x:D} {v:V} {u:Value} {its:List Value} {vs:List V} {ys:List D} (e1:eqb 8 x=true) (e2:ys.all (eqb 8)=true) (h1:Has X.K C H v x) (rx:RelV v u)
  (h2:HasL X.K C H vs ys) (r:Vals vs its):∃ e:Value->Bool,(∀ y,y ∈ its.toArray->SeqAt.EqAt A.in1 s y u (e y))/\its.countP e=ys.countP fun y=>pyq 8 y x:=by
 have key:∀ (j:Nat) (t:Value) (d:D),its[j]?=some t->ys[j]?=some d->∃ w,RelV w t/\Has X.K C H w d:=fun j t d q1 q2=>by
  obtain ⟨w,g1,g2⟩:=h2.get q2
  obtain ⟨t',g3,g4⟩:=r.get g1
  rw [q1] at g3;cases g3
  exact ⟨w,g4,g2⟩
 have mem8:∀ (j:Nat) d,ys[j]?=some d->eqb 8 d=true:=fun j d q=>List.all_eq_true.mp e2 d (List.mem_of_getElem? q)
 have hl:its.length=ys.length:=by rw [<- r.length,h2.len]
 have pt:∀ (j:Nat) (hj:j < its.length),decide (∃ (j':Nat) (d:D),its[j']?=some its[j]/\ys[j']?=some d/\pyq 8 d x=true)=pyq 8 (ys[j]'(by omega)) x:=fun j hj=>by
  have q1:its[j]?=some its[j]:=by simp [hj]
  have q2:ys[j]?=some (ys[j]'(by omega)):=by simp [show j < ys.length by omega]
  obtain ⟨w,g1,g2⟩:=key j _ _ q1 q2
  cases hp:pyq 8 (ys[j]'(by omega)) x with
  | true=>exact decide_eq_true ⟨j,_,q1,q2,hp⟩
  | false =>
   refine decide_eq_false fun zz2=>?_
   obtain ⟨j',d,z1,z2,z3⟩:=zz2
   obtain ⟨w',g1',g2'⟩:=key j' _ _ z1 z2
   have ew:w'=w:=RelV.inj g1' g1
   subst ew
   have:=Has.inj (mem8 j' d z2) (mem8 j _ q2) g2' g2
   rw [<- this,z3] at hp;cases hp
 refine ⟨fun t=>decide (∃ (j:Nat) (d:D),its[j]?=some t/\ys[j]?=some d/\pyq 8 d x=true),fun t ht=>?_,?_⟩
 ·have ht:t ∈ its:=by simpa using ht
  obtain ⟨j,hj,rfl⟩:=List.mem_iff_getElem.mp ht
  have q1:its[j]?=some its[j]:=by simp [hj]
  have q2:ys[j]?=some (ys[j]'(by omega)):=by simp [show j < ys.length by omega]
  obtain ⟨w,g1,g2⟩:=key j _ _ q1 q2
  have ok:=(zw I 8 (A:=A.in1) (by show A.units + 1 + 8 < cLine;omega) (mem8 j _ q2) e1 g2 h1 g1 rx).2
  show SeqAt.EqAt A.in1 s its[j] u (decide (∃ (j':Nat) (d:D),its[j']?=some its[j]/\ys[j']?=some d/\pyq 8 d x=true))
  rw [pt j hj];exact ok
 ·have:its.map (fun t=>decide (∃ (j:Nat) (d:D),its[j]?=some t/\ys[j]?=some d/\pyq 8 d x=true))=ys.map fun y=>pyq 8 y x:=by
   apply List.ext_getElem
   ·rw [List.length_map,List.length_map,hl]
   ·intro j q1 q2
    rw [List.getElem_map,List.getElem_map]
    exact pt j (by simpa using q1)
  have c:=congrArg (List.countP id) this
  rw [List.countP_map,List.countP_map] at c
  exact c
def BV (K:Frag) (C:Addr):V->List V->Hp->VK->Prop:=fun x vs H Q=>∃ (l:Addr) (v:V) (ws:List V) (d:D) (ys:List D),x=.ref l/\vs=[v]/\H l=some (.lst ws)/\HasL K C H ws ys/\Has K C H v d/\ys.all (eqb 8)=true/\eqb 8 d=true/\Q (.int ((ys.countP fun y=>pyq 8 y d:Nat):Int)) H
theorem vN (hu:X.A.units + 9 < cLine):MtM X "list.count" (BV X.K C):=by
 intro pins s σ H x vs v us Q I rx rv h
 obtain ⟨l,v1,ws,d,ys,rfl,rfl,hH,h2,h1,e2,e1,q⟩:=h
 cases rx
 obtain ⟨u1,rfl,r1⟩:=rv.one
 obtain ⟨z,its,n,r,hl,e⟩:=I.lstM hH
 obtain ⟨f,hf,hc⟩:=zM I (A:=X.A) hu e1 e2 h1 r1 h2 r
 refine call_meets PySem.F.slot_list_count ⟨_,e,rfl⟩ PySem.F.entry_list_count (PySem.F.args_list_count_2 _ _) (SeqAt.list_countAt l _ n none #[] u1 f) ⟨e,hf,?_⟩
 refine ⟨.int _,H,I.tok _,⟨_,rfl⟩,?_⟩
 simp only [hc]
 exact q
theorem zB {o e:Expr} {ap cp:Pos} {Fo F:Rho->R D} (hu:X.A.units + 9 < cLine) (ho:EB C X o Fo) (he:ED C X e F) (hst:starEach [e] X.env=(false,eval e X.env) :: starEach [] X.env)
  (hs:∀ {to:TE} {t:TA},PE X o to->PA X [e] t->PE X (.Call (.Attribute o "count" ap) [e] [] cp) (tBM X.K "list" (BV X.K C) to t):=by
   exact fun ho ha=>sQ PySem.F.plainAttrs_list PySem.F.slot_list_count PySem.F.type_list_count (vN (by assumption)) ho ha) :
  ED C X (.Call (.Attribute o "count" ap) [e] [] cp) (xr Fo F) :=
 aQ (hs ho (dk he eX hst)) fun σ H Q ⟨ρ,⟨H0,r0⟩,q⟩=>⟨ρ,⟨H0,r0⟩,a_ (P:=fun z H=>pV X (e9 C X ρ σ) z σ H Q) (fun _ h=>h) (fun h=>h) q fun y v H1 s1 h1 q1=>by
  cases y with
  | lst xs =>
   obtain ⟨a,vs,rfl,e1,h2⟩:=h1.lst msk_sub
   refine ⟨.inl ⟨rfl,_,SqL.of e1⟩,ρ,⟨H0,r0.mono s1⟩,a_ (P:=fun z H=>pV X (e9 C X ρ σ) z σ H Q) (fun _ h=>h) (fun h=>h) (q1.mono s1) fun y w H2 s2 h3 q2=>?_⟩
   unfold Bn at q2
   dsimp only at q2
   by_cases c:xs.all (eqb 8)=true/\eqb 8 y=true/\xs.length<=100000
   ·rw [if_pos c] at q2
    exact ⟨a,w,vs,y,xs,rfl,rfl,s2 _ _ e1,(h2.mono msk_sub).mono s2,h3.mono msk_sub,c.1,c.2.1,q2 _ H2 s2 (.int _)⟩
   ·rw [if_neg c] at q2;exact q2.elim
  | _=>exact q1.elim⟩
def FM:List V->Hp->VK->Prop:=fun vs H Q=>∃ (l:Addr) (as:List V) (ls:List (List Int)),vs=[.ref l]/\H l=some (.lst as)/\as.length=ls.length/\(∀ i,i < ls.length->∃ b,as.getD i .non=.ref b/\H b=some (.lst ((ls.getD i []).map V.int)))/\ls.length < 64 /\
 ∀ (p:List Nat) (l':Addr),p.Perm (List.range ls.length)->p.map (fun i=>ls.getD i [])=i8 ls->H l'=none->Q (.ref l') (upd H l' (.lst (p.map fun i=>as.getD i .non)))
theorem Vals.of_getD {as:List V} {its:List Value} (r:Vals as its):∀ {p:List Nat},(∀ i ∈ p,i < as.length)->Vals (p.map fun i=>as.getD i .non) (p.map fun i=>its.getD i Value.none)
 | [],_=>.nil
 | i :: p,h=>by
  have hi:=h i (by simp)
  have q:as[i]?=some (as.getD i .non):=by rw [List.getD_eq_getElem?_getD,List.getElem?_eq_getElem hi];rfl
  obtain ⟨t,g1,g2⟩:=r.get q
  have:its.getD i Value.none=t:=by rw [List.getD_eq_getElem?_getD,g1];rfl
  rw [List.map_cons,List.map_cons,this]
  exact .cons g2 (Vals.of_getD r fun j hj=>h j (by simp [hj]))
theorem Am {pins:List (Addr × Obj)} {σ:St} {H:Hp} {s:Shared} (I:Inv X pins σ H s) {b:Addr} {xs:List Int} (hH:H b=some (.lst (xs.map V.int))):RowAt s.heap (.ref b) xs:=by
 obtain ⟨z,its,n,r,hl,e⟩:=I.lstM hH
 have hx:xs.length=its.length:=by rw [<- hl,List.length_map]
 refine ⟨b,its.toArray,n,rfl,e,by simpa using hx,fun j hj=>?_⟩
 have hj:j < its.length:=by simpa using hj
 obtain ⟨i,t,e1,e2⟩:=mq r (List.getElem?_eq_getElem hj)
 refine ⟨t,?_⟩
 have:xs.getD j 0=i:=by rw [List.getD_eq_getElem?_getD,e1];rfl
 rw [this]
 simp [hj,e2]
theorem sD {h:Heap} {vs:List Value} {out:Array Value} (b:Addr) (o:Obj) (q:h.get? b=some o):(sortedAll h vs out).get? b=some o:=by
 have hlt:b < h.objs.size:=Heap.lt_size q
 have hsz:((h.push (seqObj "list" #[] 0)).update h.objs.size (Obj.mapSeq (· ++ vs.toArray))).objs.size=h.objs.size + 1:=by
  rw [Heap.size_update,size_push']
 have hb:b ≠ h.objs.size + 1:=Nat.ne_of_lt (Nat.lt_succ_of_lt hlt)
 unfold sortedAll sortedHeap
 rw [Heap.get?_update_ne _ _ _ _ hb]
 refine Heap.get?_push_of_some _ (Heap.get?_push_of_some _ ?_)
 rw [Heap.get?_update_ne _ _ _ _ hb]
 refine Heap.get?_push_of_some _ ?_
 rw [Heap.get?_update_ne _ _ _ _ (Nat.ne_of_lt hlt)]
 exact Heap.get?_push_of_some _ q
theorem ux {h:Heap} {vs:List Value} {out:Array Value}:∃ c,(sortedAll h vs out).get? (h.objs.size + 1)=some (seqObj "list" out c):=by
 have hsz:((h.push (seqObj "list" #[] 0)).update h.objs.size (Obj.mapSeq (· ++ vs.toArray))).objs.size=h.objs.size + 1:=by
  rw [Heap.size_update,size_push']
 have hoL:(((h.push (seqObj "list" #[] 0)).update h.objs.size (Obj.mapSeq (· ++ vs.toArray))).push (seqObj "list" vs.toArray 0)).get? (h.objs.size + 1)=some (seqObj "list" vs.toArray 0):=by
  rw [<- hsz];exact Heap.get?_push_size _ rfl
 have h1:=get?_update_seq hoL (fun _=>(#[]:Array Value))
 have h2:=get?_update_seq (Heap.get?_push_of_some (seqObj "list" #[] 0) (Heap.get?_push_of_some (seqObj "tuple" vs.toArray 0) h1)) (fun _=>out)
 exact ⟨_,h2⟩
theorem t8 (hu:X.A.units + 9 < cLine):lg X (.builtin "sorted") FM:=by
 intro pins s σ H xs us Q I rv h
 obtain ⟨l,as,ls,rfl,e,hl,hrow,h64,q⟩:=h
 obtain ⟨u,rfl,ru⟩:=p9 rv
 obtain rfl:=(show u=Value.ref l from ru)
 obtain ⟨z,its,m,r,hlen,eo⟩:=I.lstM e
 have rows:vh s.heap its ls:=by
  refine ⟨by omega,fun i hi=>?_⟩
  obtain ⟨b,g1,g2⟩:=hrow i hi
  have q:as[i]?=some (.ref b):=by rw [<- g1,List.getD_eq_getElem?_getD,List.getElem?_eq_getElem (by omega:i < as.length)];rfl
  obtain ⟨t,g3,g4⟩:=r.get q
  have et:t=Value.ref b:=g4
  have:its.getD i Value.none=.ref b:=by rw [List.getD_eq_getElem?_getD,g3,et];rfl
  rw [this]
  exact Am I g2
 refine sJ (s:=s) (l:=l) (vs:=its) ⟨_,eo,rfl,m,rfl⟩ rows (by omega) (by omega) fun p hp hsrt=>?_
 obtain ⟨c,hc⟩:=ux (h:=s.heap) (vs:=its) (out:=(p.map fun i=>its.getD i Value.none).toArray)
 have inr:∀ i ∈ p,i < as.length:=fun i hi=>by
  have:=hp.mem_iff.mp hi
  rw [List.mem_range] at this
  omega
 have rr:=Vals.of_getD r inr
 have pl:p.length=ls.length:=by rw [hp.length_eq,List.length_range]
 exact ⟨.ref (s.heap.objs.size + 1),upd H (s.heap.objs.size + 1) (.lst (p.map fun i=>as.getD i .non)),I.laid (t':=s.toks) (fun b o e=>sD b o e) (Nat.le_succ _) (show ObjOk X.prog X.w _ _ _ (.lst _) from ⟨by rw [List.length_map,sizeLine_eq];omega,_,c,rr,hc⟩),rfl,q p _ hp hsrt (I.hok.fresh (Nat.le_succ _))⟩
theorem sK {K:Frag} {M:Hp}:∀ {xs:List D} {ls:List (List Int)} {vs:List V},ms xs=some ls->HasL K C M vs xs->vs.length=ls.length/\∀ i,i < ls.length->∃ b,vs.getD i .non=.ref b/\M b=some (.lst ((ls.getD i []).map V.int))
 | [],ls,vs,e,h=>by cases e;cases h;exact ⟨rfl,fun i hi=>by cases hi⟩
 | x :: r,ls,vs,e,h=>by
  cases x with
  | lst ys =>
   unfold ms at e
   cases z:ik ys with
   | none=>rw [z] at e;cases e
   | some l =>
    rw [z] at e
    dsimp only at e
    cases z2:ms r with
    | none=>rw [z2] at e;cases e
    | some l' =>
     rw [z2] at e;cases e
     cases h with
     | cons a b =>
      cases a with
      | lst q hh =>
       obtain ⟨i1,i2⟩:=sK z2 b
       refine ⟨by rw [List.length_cons,List.length_cons,i1],fun i hi=>?_⟩
       cases i with
       | zero=>exact ⟨_,rfl,by rw [q,lJ z hh];rfl⟩
       | succ i=>exact i2 i (by simpa using hi)
  | _=>cases e
theorem x_ {K:Frag} {M:Hp} {b:Addr} {l:List Int} (h:M b=some (.lst (l.map V.int))):Has K C M (.ref b) (rwI l):=.lst h (HasL.ints l)
theorem vq {K:Frag} {M:Hp} {ls:List (List Int)} {vs:List V} (h:∀ i,i < ls.length->∃ b,vs.getD i .non=.ref b/\M b=some (.lst ((ls.getD i []).map V.int))):∀ {p:List Nat},(∀ i ∈ p,i < ls.length)->HasL K C M (p.map fun i=>vs.getD i .non) ((p.map fun i=>ls.getD i []).map rwI)
 | [],_=>.nil
 | i :: p,hp=>by
  obtain ⟨b,g1,g2⟩:=h i (hp i (by simp))
  rw [List.map_cons,List.map_cons,List.map_cons,g1]
  exact .cons (x_ g2) (vq h fun j hj=>hp j (by simp [hj]))
theorem xf {e : Expr} {p pos : Pos} {F : Rho -> R D} (hu : X.A.units + 9 < cLine) (hg : Gl X "sorted") (hm : X.mg "sorted" = none) (hst : starEach [e] X.env = (false, eval e X.env) :: starEach [] X.env) (he : EB C X e F) :
    FD C X (.Call (.Name "sorted" p) [e] [] pos) (zj F) :=
  aQ (gw (t8 hu) hg hm boot_sorted (dk he eX hst) (he := hst) (hpl := ax)) fun σ H Q yy5 => by
   obtain ⟨ρ, r0, q⟩ := yy5
   exact ⟨ρ, r0, a_ (P := fun z H => pF (X := X) (jK C X ρ σ) z σ H Q) (fun _ h => h) (fun h => h) q fun x v H1 s1 h1 q1 => by
    cases x with
    | lst xs =>
      obtain ⟨a, vs, rfl, e1, h2⟩ := h1.lst msk_sub
      unfold Bg at q1
      dsimp only at q1
      cases z : ms xs with
      | none => rw [z] at q1; exact q1.elim
      | some ls =>
        rw [z] at q1
        dsimp only at q1
        by_cases c : ls.length < 64
        · rw [if_pos c] at q1
          obtain ⟨i1, i2⟩ := sK z h2
          refine ⟨a, vs, ls, rfl, e1, i1, fun i hi => ?_, c, fun p l hp hs hl => ?_⟩
          · obtain ⟨b, g1, g2⟩ := i2 i hi
            exact ⟨b, g1, msk_sub _ _ g2⟩
          · refine q1 l _ H1 s1 hl ?_
            rw [<- hs]
            exact vq i2 fun i hi => List.mem_range.mp (hp.mem_iff.mp hi)
        · rw [if_neg c] at q1; exact q1.elim
    | _ => exact q1.elim⟩
end
end DL
namespace Ar
abbrev Arr:=Nat × Nat × List Nat
def Ok (sz:List Nat) (x:Arr):Prop:=∃ n m,sz[x.1]?=some n/\sz[x.2.1]?=some m/\x.2.2.length=n/\∀ y ∈ x.2.2,y < m
def comp (x y:Arr):Arr:=(x.1,y.2.1,x.2.2.map fun i=>y.2.2.getD i 0)
def idm (sz:List Nat) (b:Nat):Arr:=(b,b,List.range (sz.getD b 0))
def funs:Nat->Nat->List (List Nat)
 | 0,_=>[[]]
 | n + 1,m=>(List.range m).flatMap fun y=>(funs n m).map fun l=>y :: l
theorem tf:∀ {l:List Nat} {m:Nat},(∀ y ∈ l,y < m)->l ∈ funs l.length m
 | [],m,_=>by simp [funs]
 | y :: l,m,h=>by
  have h1:y < m:=h y (by simp)
  have h2:l ∈ funs l.length m:=tf fun z hz=>h z (by simp [hz])
  show y :: l ∈ funs (l.length + 1) m
  simp only [funs,List.mem_flatMap,List.mem_map,List.mem_range]
  exact ⟨y,h1,l,h2,rfl⟩
def Cu (sz:List Nat):List Arr:=(List.range sz.length).flatMap fun a=>(List.range sz.length).flatMap fun b=>(funs (sz.getD a 0) (sz.getD b 0)).map fun f=>(a,b,f)
theorem td {sz:List Nat} {x:Arr} (h:Ok sz x):x ∈ Cu sz:=by
 obtain ⟨a,b,f⟩:=x
 obtain ⟨n,m,h1,h2,h3,h4⟩:=h
 have ha:a < sz.length:=(List.getElem?_eq_some_iff.mp h1).1
 have hb:b < sz.length:=(List.getElem?_eq_some_iff.mp h2).1
 simp only [Cu,List.mem_flatMap,List.mem_map,List.mem_range]
 refine ⟨a,ha,b,hb,f,?_,rfl⟩
 have e1:sz.getD a 0=n:=by simp only [List.getD,h1];rfl
 have e2:sz.getD b 0=m:=by simp only [List.getD,h2];rfl
 rw [e1,e2,<- h3]
 exact tf h4
theorem gZ {α:Type} [DecidableEq α]:∀ {l u:List α},l.Nodup->(∀ x ∈ l,x ∈ u)->l.length<=u.length
 | [],_,_,_=>by simp
 | x :: l,u,nd,h=>by
  obtain ⟨h1,h2⟩:=List.nodup_cons.mp nd
  have hx:x ∈ u:=h x (by simp)
  have hl:l.length<=(u.erase x).length:=gZ h2 fun y hy=>by
   have:y ≠ x:=fun e=>h1 (e ▸ hy)
   exact (List.mem_erase_of_ne this).mpr (h y (by simp [hy]))
  rw [List.length_erase_of_mem hx] at hl
  have:0 < u.length:=List.length_pos_of_mem hx
  simp only [List.length_cons];omega
def szs:List (List Nat):=[[1],[1,1],[1,1,1],[1,1,1,1],[1,2],[2,1],[2,2],[0,2],[2],[3],[1,1,2],[0,1,2],[1,2,2],[2,1,0]]
theorem sA:∀ sz ∈ szs,(Cu sz).length<=27:=by decide +kernel
theorem jL:∀ sz ∈ szs,1<=sz.length/\sz.length<=4/\∀ n ∈ sz,n<=3:=by decide +kernel
def p5 (kn:List Arr) (x:Arr):List Arr:=if x ∈ kn then kn else kn ++ [x]
def jd (kn:List Arr) (f s:Arr):List Arr:=if f.2.1=s.1 then p5 kn (comp f s) else kn
def li (k:Arr) (kn:List Arr) (o:Arr):List Arr:=jd (jd kn k o) o k
def q9 (k:Arr) (kn snap:List Arr):List Arr:=snap.foldl (li k) kn
theorem uc (kn:List Arr) (x:Arr):kn <+: p5 kn x:=by
 unfold p5;split
 ·exact List.prefix_refl _
 ·exact List.prefix_append _ _
theorem zW (kn:List Arr) (x:Arr):x ∈ p5 kn x:=by
 unfold p5;split
 ·assumption
 ·simp
theorem ll (kn:List Arr) (f s:Arr):kn <+: jd kn f s:=by
 unfold jd;split
 ·exact uc _ _
 ·exact List.prefix_refl _
theorem sx (k:Arr) (kn:List Arr) (o:Arr):kn <+: li k kn o:=(ll kn k o).trans (ll _ o k)
theorem jj (k:Arr):∀ (snap kn:List Arr),kn <+: q9 k kn snap
 | [],kn=>List.prefix_refl _
 | o :: r,kn=>(sx k kn o).trans (jj k r _)
structure Kn (sz:List Nat) (kn:List Arr):Prop where
 nd:kn.Nodup
 ok:∀ x ∈ kn,Ok sz x
theorem BH {sz:List Nat} {x y:Arr} (hx:Ok sz x) (hy:Ok sz y) (e:x.2.1=y.1):Ok sz (comp x y):=by
 obtain ⟨n,m,h1,h2,h3,h4⟩:=hx
 obtain ⟨n',m',g1,g2,g3,g4⟩:=hy
 refine ⟨n,m',h1,g2,by simp [comp,h3],fun z hz=>?_⟩
 simp only [comp,List.mem_map] at hz
 obtain ⟨i,hi,rfl⟩:=hz
 have hm:m=n':=by rw [e] at h2;rw [h2] at g1;exact Option.some.inj g1
 have:i < y.2.2.length:=by rw [g3,<- hm];exact h4 i hi
 have e3:y.2.2.getD i 0=y.2.2[i]:=by simp [List.getD,List.getElem?_eq_getElem this]
 rw [e3]
 exact g4 _ (List.getElem_mem this)
theorem wA {sz kn x} (h:Kn sz kn) (hx:Ok sz x):Kn sz (p5 kn x):=by
 unfold p5;split
 ·exact h
 ·rename_i hn
  refine ⟨?_,fun y hy=>?_⟩
  ·rw [List.nodup_append]
   refine ⟨h.nd,by simp,fun a ha b hb=>?_⟩
   simp at hb;subst hb
   exact fun e=>hn (e ▸ ha)
  ·rcases List.mem_append.mp hy with q | q
   ·exact h.ok y q
   ·simp at q;subst q;exact hx
theorem nG {sz kn f s} (h:Kn sz kn) (hf:Ok sz f) (hs:Ok sz s):Kn sz (jd kn f s):=by
 unfold jd;split
 ·exact wA h (BH hf hs ‹_›)
 ·exact h
theorem vo {sz k kn o} (h:Kn sz kn) (hk:Ok sz k) (ho:Ok sz o):Kn sz (li k kn o):=nG (nG h hk ho) ho hk
theorem vK {sz k} (hk:Ok sz k):∀ {snap kn:List Arr},Kn sz kn->(∀ o ∈ snap,Ok sz o)->Kn sz (q9 k kn snap)
 | [],kn,h,_=>h
 | o :: r,kn,h,hs=>vK hk (snap:=r) (vo h hk (hs o (by simp))) fun q hq=>hs q (by simp [hq])
theorem qb {kn f s} (e:f.2.1=s.1):comp f s ∈ jd kn f s:=by
 unfold jd;rw [if_pos e];exact zW _ _
theorem xN {k kn o}:(k.2.1=o.1->comp k o ∈ li k kn o)/\(o.2.1=k.1->comp o k ∈ li k kn o) :=
 ⟨fun e=>(ll _ o k).subset (qb e),fun e=>qb e⟩
theorem nV {k}:∀ {snap kn:List Arr} {o:Arr},o ∈ snap->(k.2.1=o.1->comp k o ∈ q9 k kn snap)/\(o.2.1=k.1->comp o k ∈ q9 k kn snap)
 | q :: r,kn,o,h=>by
  rcases List.mem_cons.mp h with e | h
  ·subst e
   have t:=xN (k:=k) (kn:=kn) (o:=o)
   exact ⟨fun e=>(jj k r _).subset (t.1 e),fun e=>(jj k r _).subset (t.2 e)⟩
  ·exact nV (snap:=r) (kn:=li k kn q) h
def Cl (kn:List Arr) (n:Nat):Prop:=∀ i j x y,i < n->j < n->kn[i]?=some x->kn[j]?=some y->x.2.1=y.1->comp x y ∈ kn
theorem vG {α:Type} {l l':List α} (h:l <+: l') {i:Nat} {x:α} (e:l[i]?=some x):l'[i]?=some x:=by
 obtain ⟨t,rfl⟩:=h
 rw [List.getElem?_append_left (List.getElem?_eq_some_iff.mp e).1];exact e
theorem AJ {kn:List Arr} {n:Nat} {k:Arr} (h:Cl kn n) (hk:kn[n]?=some k):Cl (q9 k kn kn) (n + 1):=by
 have pre:=jj k kn kn
 have hn:n < kn.length:=(List.getElem?_eq_some_iff.mp hk).1
 have back:∀ {i x},i < n + 1->(q9 k kn kn)[i]?=some x->kn[i]?=some x:=fun {i x} hi e=>by
  have hl:i < kn.length:=by omega
  have:kn[i]?=some kn[i]:=by simp [hl]
  rw [vG pre this] at e;rw [this];exact e
 intro i j x y hi hj hx hy e
 have hx':=back hi hx
 have hy':=back hj hy
 by_cases ei:i=n
 ·subst ei
  rw [hk] at hx';cases hx'
  exact (nV (List.mem_of_getElem? hy')).1 e
 ·by_cases ej:j=n
  ·subst ej
   rw [hk] at hy';cases hy'
   exact (nV (List.mem_of_getElem? hx')).2 e
  ·exact pre.subset (h i j x y (by omega) (by omega) hx' hy' e)
theorem D2 {kn:List Arr} (h:Cl kn kn.length):∀ x ∈ kn,∀ y ∈ kn,x.2.1=y.1->comp x y ∈ kn:=by
 intro x hx y hy e
 obtain ⟨i,hi,rfl⟩:=List.mem_iff_getElem.mp hx
 obtain ⟨j,hj,rfl⟩:=List.mem_iff_getElem.mp hy
 exact h i j _ _ hi hj (by simp [hi]) (by simp [hj]) e
structure Good (sz:List Nat) (kn:List Arr):Prop where
 szm:sz ∈ szs
 nd:kn.Nodup
 ok:∀ x ∈ kn,Ok sz x
 rest:∀ b,b < sz.length->idm sz b ∈ kn
 cl:∀ x ∈ kn,∀ y ∈ kn,x.2.1=y.1->comp x y ∈ kn
theorem Good.few {sz kn} (g:Good sz kn):kn.length<=27 :=
 Nat.le_trans (gZ g.nd fun x hx=>td (g.ok x hx)) (sA sz g.szm)
theorem Good.perm {sz kn kn'} (g:Good sz kn) (p:kn'.Perm kn):Good sz kn' :=
 ⟨g.szm,p.nodup_iff.mpr g.nd,fun x hx=>g.ok x (p.mem_iff.mp hx),fun b hb=>p.mem_iff.mpr (g.rest b hb),fun x hx y hy e=>p.mem_iff.mpr (g.cl x (p.mem_iff.mp hx) y (p.mem_iff.mp hy) e)⟩
end Ar
namespace Ar
theorem bA {α:Type} {l:List α} {i:Nat} {d:α} (h:i < l.length):l.getD i d=l[i]:=by
 rw [List.getD_eq_getElem?_getD,List.getElem?_eq_getElem h];rfl
structure HallN (en:List (Nat × Nat)) (re:List Nat) (tb:List (List Int)):Prop where
 nb1:1<=re.length
 nb6:re.length<=6
 na1:1<=en.length
 na40:en.length<=40
 eb:∀ i,i < en.length->(en.getD i (0,0)).1 < re.length/\(en.getD i (0,0)).2 < re.length
 rs:∀ b,b < re.length->re.getD b 0 < en.length/\en.getD (re.getD b 0) (0,0)=(b,b)
 tl:tb.length=en.length
 rl:∀ i,i < en.length->(tb.getD i []).length=en.length
 tp:∀ i j,i < en.length->j < en.length->(en.getD i (0,0)).2=(en.getD j (0,0)).1 ->
  ∃ k,k < en.length/\(tb.getD i []).getD j (-1)=(k:Int)/\en.getD k (0,0)=((en.getD i (0,0)).1,(en.getD j (0,0)).2)
 tn:∀ i j,i < en.length->j < en.length->(en.getD i (0,0)).2 ≠ (en.getD j (0,0)).1->(tb.getD i []).getD j (-1)=-1
 ul:∀ i,i < en.length->(tb.getD (re.getD (en.getD i (0,0)).1 0) []).getD i (-1)=(i:Int)
 ur:∀ i,i < en.length->(tb.getD i []).getD (re.getD (en.getD i (0,0)).2 0) (-1)=(i:Int)
 as:∀ i j k x y:Nat,i < en.length->j < en.length->k < en.length->(tb.getD i []).getD j (-1)=(x:Int)->(tb.getD j []).getD k (-1)=(y:Int) ->
  (tb.getD x []).getD k (-1)=(tb.getD i []).getD y (-1)
def jb (kn:List Arr):List (Nat × Nat):=kn.map fun x=>(x.1,x.2.1)
def iD (sz:List Nat) (kn:List Arr):List Nat:=(List.range sz.length).map fun b=>kn.idxOf (idm sz b)
def mk (kn:List Arr) (x y:Arr):Int:=if x.2.1=y.1 then (kn.idxOf (comp x y):Int) else -1
def ib (kn:List Arr):List (List Int):=kn.map fun x=>kn.map fun y=>mk kn x y
theorem u6 {sz:List Nat} {x y z:Arr} (hx:Ok sz x) (hy:Ok sz y) (hz:Ok sz z) (e:x.2.1=y.1) (e':y.2.1=z.1):comp (comp x y) z=comp x (comp y z):=by
 obtain ⟨n,m,h1,h2,h3,h4⟩:=hx
 obtain ⟨n',m',g1,g2,g3,g4⟩:=hy
 have hm:m=n':=by rw [e] at h2;rw [h2] at g1;exact Option.some.inj g1
 simp only [comp,List.map_map,Prod.mk.injEq,true_and]
 refine List.map_congr_left fun i hi=>?_
 have hl:i < y.2.2.length:=by rw [g3,<- hm];exact h4 i hi
 simp only [Function.comp,List.getD_eq_getElem?_getD,List.getElem?_map]
 rw [List.getElem?_eq_getElem hl]
 simp
theorem oq (l:List Nat):(List.range l.length).map (fun i=>l.getD i 0)=l:=by
 apply List.ext_getElem
 ·simp
 ·intro i h1 h2
  simp only [List.getElem_map,List.getElem_range]
  exact bA h2
theorem zL {sz:List Nat} {x:Arr} (hx:Ok sz x):comp (idm sz x.1) x=x:=by
 obtain ⟨n,m,h1,h2,h3,h4⟩:=hx
 have e:sz.getD x.1 0=x.2.2.length:=by rw [List.getD_eq_getElem?_getD,h1,h3];rfl
 simp only [comp,idm,e,oq]
theorem zK {sz:List Nat} {x:Arr} (hx:Ok sz x):comp x (idm sz x.2.1)=x:=by
 obtain ⟨n,m,h1,h2,h3,h4⟩:=hx
 have e:sz.getD x.2.1 0=m:=by rw [List.getD_eq_getElem?_getD,h2];rfl
 have:(x.2.2.map fun i=>(List.range m).getD i 0)=x.2.2:=by
  conv=>rhs;rw [<- List.map_id x.2.2]
  refine List.map_congr_left fun i hi=>?_
  have:=h4 i hi
  rw [bA (by simpa using this)];simp
 simp only [comp,idm,e,this]
section
variable {sz:List Nat} {kn:List Arr}
theorem fm:(jb kn).length=kn.length:=by simp [jb]
theorem nQ:(iD sz kn).length=sz.length:=by simp [iD]
theorem jr {i:Nat} (h:i < kn.length):(jb kn).getD i (0,0)=(kn[i].1,kn[i].2.1):=by
 rw [bA (by rw [fm];exact h)];simp [jb]
theorem xR {i:Nat} (h:i < kn.length):(ib kn).getD i []=kn.map fun y=>mk kn kn[i] y:=by
 rw [bA (by simp [ib];exact h)];simp [ib]
theorem mr {i j:Nat} (h:i < kn.length) (h':j < kn.length):((ib kn).getD i []).getD j (-1)=mk kn kn[i] kn[j]:=by
 rw [xR h,bA (by simpa using h')];simp
theorem yd {b:Nat} (h:b < sz.length):(iD sz kn).getD b 0=kn.idxOf (idm sz b):=by
 rw [bA (by rw [nQ];exact h)];simp [iD]
theorem sS {x:Arr} (h:Ok sz x):x.1 < sz.length/\x.2.1 < sz.length:=by
 obtain ⟨n,m,h1,h2,_⟩:=h
 exact ⟨(List.getElem?_eq_some_iff.mp h1).1,(List.getElem?_eq_some_iff.mp h2).1⟩
theorem lI {x:Arr} (h:x ∈ kn):∃ hl:kn.idxOf x < kn.length,kn[kn.idxOf x]=x :=
 ⟨List.idxOf_lt_length_of_mem h,List.getElem_idxOf _⟩
theorem yI {x y:Arr} {k:Nat} (h:mk kn x y=(k:Int)):x.2.1=y.1/\k=kn.idxOf (comp x y):=by
 unfold mk at h
 split at h
 ·exact ⟨‹_›,by omega⟩
 ·omega
theorem vY (g:Good sz kn):HallN (jb kn) (iD sz kn) (ib kn):=by
 have few:=g.few
 obtain ⟨s1,s4,_⟩:=jL sz g.szm
 have okat:∀ {i} (h:i < kn.length),Ok sz kn[i]:=fun h=>g.ok _ (List.getElem_mem h)
 have n1:1<=kn.length:=List.length_pos_of_mem (g.rest 0 (by omega))
 have idn:∀ {i} (h:i < kn.length),kn.idxOf kn[i]=i:=fun {i} h=>g.nd.idxOf_getElem i h
 refine ⟨by rw [nQ];exact s1,by rw [nQ];omega,by rw [fm];exact n1,by rw [fm];omega,?_,?_,?_,?_,?_,?_,?_,?_,?_⟩
 ·intro i h
  rw [fm] at h
  rw [jr h,nQ]
  exact sS (okat h)
 ·intro b h
  rw [nQ] at h
  obtain ⟨hl,e⟩:=lI (g.rest b h)
  rw [yd h,fm,jr hl,e]
  exact ⟨hl,rfl⟩
 ·simp [ib,fm]
 ·intro i h
  rw [fm] at h
  rw [xR h,fm];simp
 ·intro i j hi hj e
  rw [fm] at hi hj
  rw [jr hi,jr hj] at e
  obtain ⟨hl,ek⟩:=lI (g.cl _ (List.getElem_mem hi) _ (List.getElem_mem hj) e)
  refine ⟨kn.idxOf (comp kn[i] kn[j]),by rw [fm];exact hl,?_,?_⟩
  ·rw [mr hi hj,mk,if_pos e]
  ·rw [jr hl,ek,jr hi,jr hj];rfl
 ·intro i j hi hj e
  rw [fm] at hi hj
  rw [jr hi,jr hj] at e
  rw [mr hi hj,mk,if_neg e]
 ·intro i h
  rw [fm] at h
  have o:=okat h
  obtain ⟨hl,e⟩:=lI (g.rest _ (sS o).1)
  rw [jr h,yd (sS o).1,mr hl h,e,mk,if_pos (show (idm sz kn[i].1).2.1=kn[i].1 from rfl),zL o,idn h]
 ·intro i h
  rw [fm] at h
  have o:=okat h
  obtain ⟨hl,e⟩:=lI (g.rest _ (sS o).2)
  rw [jr h,yd (sS o).2,mr h hl,e,mk,if_pos (show kn[i].2.1=(idm sz kn[i].2.1).1 from rfl),zK o,idn h]
 ·intro i j k x y hi hj hk hx hy
  rw [fm] at hi hj hk
  rw [mr hi hj] at hx
  rw [mr hj hk] at hy
  obtain ⟨e1,rfl⟩:=yI hx
  obtain ⟨e2,rfl⟩:=yI hy
  obtain ⟨l1,q1⟩:=lI (g.cl _ (List.getElem_mem hi) _ (List.getElem_mem hj) e1)
  obtain ⟨l2,q2⟩:=lI (g.cl _ (List.getElem_mem hj) _ (List.getElem_mem hk) e2)
  rw [mr l1 hk,mr hi l2,q1,q2]
  have a1:(comp kn[i] kn[j]).2.1=kn[k].1:=e2
  have a2:kn[i].2.1=(comp kn[j] kn[k]).1:=e1
  rw [mk,mk,if_pos a1,if_pos a2,u6 (okat hi) (okat hj) (okat hk) e1 e2]
end
end Ar
namespace Ar
abbrev ent (tb:List (List Int)) (a b:Nat):Int:=(tb.getD a []).getD b (-1)
def inR (re:List Nat) (z:Int):Bool:=re.any fun r=>decide (z=(r:Int))
def und (re:List Nat) (tb:List (List Int)) (a b:Nat):Bool:=inR re (ent tb a b) && inR re (ent tb b a)
def bk (en:List (Nat × Nat)) (re:List Nat) (tb:List (List Int)) (a b:Nat):Bool :=
 decide (en.getD b (0,0)=((en.getD a (0,0)).2,(en.getD a (0,0)).1)) && (decide (ent tb a b=(re.getD (en.getD a (0,0)).1 0:Nat)) && decide (ent tb b a=(re.getD (en.getD a (0,0)).2 0:Nat)))
theorem yK {re:List Nat} {b:Nat} (h:b < re.length):re.getD b 0 ∈ re:=by rw [bA h];exact List.getElem_mem h
theorem Bd {re:List Nat} {z:Int}:inR re z=true ↔ ∃ c,c < re.length/\z=(re.getD c 0:Nat):=by
 unfold inR
 rw [List.any_eq_true]
 constructor
 ·rintro ⟨r,hr,e⟩
  obtain ⟨c,hc,rfl⟩:=List.mem_iff_getElem.mp hr
  exact ⟨c,hc,by rw [bA hc];simpa using e⟩
 ·rintro ⟨c,hc,e⟩
  exact ⟨_,yK hc,by simpa using e⟩
section
variable {en:List (Nat × Nat)} {re:List Nat} {tb:List (List Int)}
theorem HallN.fol (h:HallN en re tb) {i j k:Nat} (hi:i < en.length) (hj:j < en.length) (e:ent tb i j=(k:Int)):(en.getD i (0,0)).2=(en.getD j (0,0)).1/\k < en.length/\en.getD k (0,0)=((en.getD i (0,0)).1,(en.getD j (0,0)).2):=by
 by_cases e0:(en.getD i (0,0)).2=(en.getD j (0,0)).1
 ·obtain ⟨k',k1,k2,k3⟩:=h.tp i j hi hj e0
  have:k'=k:=by have e:(tb.getD i []).getD j (-1)=(k:Int):=e;rw [k2] at e;omega
  subst this
  exact ⟨e0,k1,k3⟩
 ·have e:(tb.getD i []).getD j (-1)=(k:Int):=e
  rw [h.tn i j hi hj e0] at e;omega
theorem HallN.rst (h:HallN en re tb) {a b c:Nat} (ha:a < en.length) (hb:b < en.length) (hc:c < re.length) (e:ent tb a b=(re.getD c 0:Nat)):(en.getD a (0,0)).2=(en.getD b (0,0)).1/\(en.getD a (0,0)).1=c/\(en.getD b (0,0)).2=c:=by
 obtain ⟨e1,_,e3⟩:=h.fol ha hb e
 rw [(h.rs c hc).2] at e3
 have:=congrArg Prod.fst e3
 have:=congrArg Prod.snd e3
 exact ⟨e1,by simp_all,by simp_all⟩
theorem Cv (h:HallN en re tb) {a b:Nat} (ha:a < en.length) (hb:b < en.length):und re tb a b=bk en re tb a b:=by
 rw [Bool.eq_iff_iff]
 unfold und bk
 simp only [Bool.and_eq_true,decide_eq_true_eq,Bd]
 constructor
 ·rintro ⟨⟨c,hc,e⟩,⟨d,hd,e'⟩⟩
  obtain ⟨a1,a2,a3⟩:=h.rst ha hb hc e
  obtain ⟨b1,b2,b3⟩:=h.rst hb ha hd e'
  refine ⟨?_,by rw [e,a2],by rw [e',b3]⟩
  rw [a1,<- b1]
 ·rintro ⟨e0,e1,e2⟩
  exact ⟨⟨_,(h.eb a ha).1,e1⟩,⟨_,(h.eb a ha).2,e2⟩⟩
theorem D4 (h:HallN en re tb) {a b b':Nat} (ha:a < en.length) (hb:b < en.length) (hb':b' < en.length) (e:bk en re tb a b=true) (e':bk en re tb a b'=true):b=b':=by
 unfold bk at e e'
 simp only [Bool.and_eq_true,decide_eq_true_eq] at e e'
 obtain ⟨e0,e1,e2⟩:=e
 obtain ⟨d0,d1,d2⟩:=e'
 have q:=h.as b a b' _ _ hb ha hb' e2 d1
 have u:=h.ul b' hb'
 have v:=h.ur b hb
 have w1:(en.getD b' (0,0)).1=(en.getD a (0,0)).2:=by rw [d0]
 have w2:(en.getD b (0,0)).2=(en.getD a (0,0)).1:=by rw [e0]
 rw [w1] at u
 rw [w2] at v
 rw [u,v] at q
 omega
def ud (re:List Nat) (tb:List (List Int)) (n a:Nat):Option Nat:=(List.range n).find? (und re tb a)
def bks (en:List (Nat × Nat)) (re:List Nat) (tb:List (List Int)) (a:Nat):List Nat:=(List.range en.length).filter (bk en re tb a)
theorem xv (h:HallN en re tb) {a:Nat} (ha:a < en.length):(bks en re tb a=[]/\ud re tb en.length a=none)\/∃ b,b < en.length/\bks en re tb a=[b]/\ud re tb en.length a=some b:=by
 have eq:ud re tb en.length a=(List.range en.length).find? (bk en re tb a):=by
  unfold ud
  have:∀ l:List Nat,(∀ b ∈ l,b < en.length)->l.find? (und re tb a)=l.find? (bk en re tb a):=by
   intro l
   induction l with
   | nil=>intro _;rfl
   | cons x r ih =>
    intro hl
    rw [List.find?_cons,List.find?_cons,Cv h ha (hl x (by simp)),ih fun b hb=>hl b (by simp [hb])]
  exact this _ fun b hb=>List.mem_range.mp hb
 rw [eq]
 have hd:(bks en re tb a).head?=(List.range en.length).find? (bk en re tb a):=by unfold bks;rw [List.head?_filter]
 cases hb:bks en re tb a with
 | nil=>rw [hb] at hd;exact .inl ⟨rfl,hd.symm⟩
 | cons b r =>
  rw [hb] at hd
  have mem:∀ x ∈ b :: r,x < en.length/\bk en re tb a x=true:=fun x hx=>by
   rw [<- hb] at hx
   unfold bks at hx
   rw [List.mem_filter] at hx
   exact ⟨List.mem_range.mp hx.1,hx.2⟩
  have nd:(b :: r).Nodup:=by rw [<- hb];exact List.nodup_range.sublist (List.filter_sublist)
  have rn:r=[]:=by
   cases r with
   | nil=>rfl
   | cons c r' =>
    obtain ⟨m1,m2⟩:=mem b (by simp)
    obtain ⟨m3,m4⟩:=mem c (by simp)
    have:=D4 h ha m1 m3 m2 m4
    subst this
    simp at nd
  subst rn
  exact .inr ⟨b,(mem b (by simp)).1,rfl,hd.symm⟩
end
end Ar
namespace DL
open L2
section
variable {α β:Type}
@[simp] theorem af (a:α) (f:α->R β):(R.val a).bind f=f a:=Eq.trans rfl rfl
@[simp] theorem rb (a:α):noE (R.val a)=.val a:=Eq.trans rfl rfl
@[simp] theorem ET (a:D):noex (R.val a)=.val a:=Eq.trans rfl rfl
end
section
variable (ρ:Rho)
@[simp] theorem be (a b:Rho->R Out):sq a b ρ=(a ρ).bind fun o=>match o with
 | .nx ρ'=>b ρ'
 | o=>.val o:=Eq.trans rfl rfl
@[simp] theorem jk:nxt ρ=.val (.nx ρ):=Eq.trans rfl rfl
@[simp] theorem gK (i:Nat) (e:Rho->R D):asg i e ρ=(e ρ).bind fun d=>.val (.nx (ρ.set i (some (.shr d)))):=Eq.trans rfl rfl
@[simp] theorem De (i:Nat) (e:Rho->R (List D)):own i e ρ=(e ρ).bind fun d=>.val (.nx (ρ.set i (some (.own d)))):=Eq.trans rfl rfl
@[simp] theorem eW (e:Rho->R D):ret e ρ=(e ρ).bind fun d=>.val (.rt d):=Eq.trans rfl rfl
@[simp] theorem D1 (e:Rho->R D):drp e ρ=(e ρ).bind fun _=>.val (.nx ρ):=Eq.trans rfl rfl
@[simp] theorem cM (t:Rho->R Bool) (a b:Rho->R Out):DL.iff t a b ρ=(t ρ).bind fun c=>if c=true then a ρ else b ρ:=Eq.trans rfl rfl
@[simp] theorem bx (F:Rho->R D):tst F ρ=(F ρ).bind asB:=Eq.trans rfl rfl
@[simp] theorem jC (b:Bool):asB (.bl b)=.val b:=Eq.trans rfl rfl
@[simp] theorem jU (a b:Rho->R Bool):pq a b ρ=(a ρ).bind fun x=>if x=true then b ρ else .val false:=Eq.trans rfl rfl
@[simp] theorem lq (a b:Rho->R Bool):orB a b ρ=(a ρ).bind fun x=>if x=true then .val true else b ρ:=Eq.trans rfl rfl
@[simp] theorem iH (a:Rho->R Bool):gO a ρ=(a ρ).bind fun x=>.val (!x):=Eq.trans rfl rfl
@[simp] theorem Gj (i:Nat):vr i ρ=match ρ[i]? with
 | some (some (.shr d))=>.val d
 | _=>.bad:=Eq.trans rfl rfl
@[simp] theorem vn (i:Nat):vb i ρ=match ρ[i]? with
 | some (some (.shr d))=>.val d
 | some (some (.own xs))=>.val (.lst xs)
 | some (some (.tre (.l .s) (.lst xs)))=>.val (.lst xs)
 | _=>.bad:=Eq.trans rfl rfl
@[simp] theorem e7 (d:D):kd d ρ=.val d:=Eq.trans rfl rfl
@[simp] theorem aE (f:D->D->R D) (a b:Rho->R D):bin f a b ρ=(a ρ).bind fun x=>(b ρ).bind fun y=>f x y:=Eq.trans rfl rfl
@[simp] theorem gY (f:D->R D) (a:Rho->R D):una f a ρ=(a ρ).bind f:=Eq.trans rfl rfl
@[simp] theorem jZ:aN ρ=.val []:=Eq.trans rfl rfl
@[simp] theorem cR (a:Rho->R D) (r:Rho->R (List D)):aC a r ρ=(a ρ).bind fun x=>(r ρ).bind fun xs=>.val (x :: xs):=Eq.trans rfl rfl
@[simp] theorem oZ (a:Rho->R (List D)):eT a ρ=(a ρ).bind mkT:=Eq.trans rfl rfl
@[simp] theorem Fi (a:Rho->R (List D)):eL a ρ=(a ρ).bind mkL:=Eq.trans rfl rfl
@[simp] theorem Go (a b:D):mkT [a,b]=.val (.tup [a,b]):=Eq.trans rfl rfl
@[simp] theorem Gn (a b c:D):mkT [a,b,c]=.val (.tup [a,b,c]):=Eq.trans rfl rfl
@[simp] theorem Gm (a b c d e:D):mkT [a,b,c,d,e]=.val (.tup [a,b,c,d,e]):=Eq.trans rfl rfl
@[simp] theorem Gp (a b:D):mkL [a,b]=.val (.lst [a,b]):=Eq.trans rfl rfl
@[simp] theorem bN (F:Rho->R (List D)):eLs F ρ=(F ρ).bind fun xs=>.val (.lst xs):=Eq.trans rfl rfl
@[simp] theorem Fd:fU aN ρ=.val []:=Eq.trans rfl rfl
@[simp] theorem iQ (F:Rho->R D):fIt F ρ=(F ρ).bind itD:=Eq.trans rfl rfl
@[simp] theorem Fv (xs:List D):itD (.lst xs)=.val xs:=Eq.trans rfl rfl
@[simp] theorem Fu (xs:List D):itD (.tup xs)=.val xs:=Eq.trans rfl rfl
@[simp] theorem zP (n:Nat) (den:List D->R D) (a:Rho->R (List D)):cal n den a ρ=(a ρ).bind fun ds=>if ds.length=n then noex (den ds) else .bad:=Eq.trans rfl rfl
@[simp] theorem B5 (i:Nat) (F:Rho->R Out):fz i F ρ=F (frz i ρ):=Eq.trans rfl rfl
@[simp] theorem cz (src:Rho->R (List D)) (T:D->Rho->Option Rho) (F:Rho->R Out):bn src T F ρ=(src ρ).bind fun xs=>bR T F xs ρ:=Eq.trans rfl rfl
@[simp] theorem gT (F:Rho->R (List D)):bV F ρ=(F ρ).bind pD:=Eq.trans rfl rfl
@[simp] theorem Fx (F:Rho->R (List D)):fu F ρ=(F ρ).bind DV:=Eq.trans rfl rfl
@[simp] theorem Eb (F:Rho->R (List D)):ke F ρ=(F ρ).bind rgT:=Eq.trans rfl rfl
@[simp] theorem wo (F:Rho->R (List D)):tX F ρ=(F ρ).bind Bk:=Eq.trans rfl rfl
@[simp] theorem v6 (i j:Int):Bk [.int i,.int j]=.val (.int (if j > i then j else i)):=Eq.trans rfl rfl
@[simp] theorem Gb (d:D):fin (.val (.rt d))=.val d:=Eq.trans rfl rfl
@[simp] theorem Gc (ρ:Rho):fin (.val (.nx ρ))=.val .non:=Eq.trans rfl rfl
@[simp] theorem Dv (den:Rho->R D) (Fa:Rho->R (List D)):mkH den Fa ρ=(Fa ρ).bind fun ds=>match ds with
 | [e,r,t]=>noex (den (jV e r t))
 | _=>.bad:=Eq.trans rfl rfl
@[simp] theorem oI (xs:List D):aA (.lst xs)=.val (.int xs.length):=Eq.trans rfl rfl
@[simp] theorem FW (xs:List D):kM (.lst xs)=.val (.tup xs):=Eq.trans rfl rfl
@[simp] theorem Fw (i:Int):i_ (.int i)=.val (.int (-i)):=Eq.trans rfl rfl
@[simp] theorem fv (f:Int->Int->R D) (i j:Int):iI f (.int i) (.int j)=f i j:=Eq.trans rfl rfl
@[simp] theorem FX (i j:Int):flt i j=.val (.bl (decide (i < j))):=Eq.trans rfl rfl
@[simp] theorem Gd (i j:Int):fgt i j=.val (.bl (decide (j < i))):=Eq.trans rfl rfl
@[simp] theorem nn (i j:Int):bH (.int i) (.int j)=.val (.int (i + j)):=Eq.trans rfl rfl
theorem fi {i j:Int} (h:0 < j):aV i j=.val (.int (i % j)):=if_pos h
theorem rM {i j:Int} (h:0 < j/\j < 1073741824):eG i j=.val (.int (i / j)):=if_pos h
theorem kN {i j:Int} (h:-(2 ^ 64) < j/\j < 2 ^ 64):fE i j=.val (.int (i * j)):=if_pos (.inr h)
@[simp] theorem Gf (f g:Int->Int->Bool) (a b c:Rho->R D):chn f g a b c ρ=(a ρ).bind fun x=>(b ρ).bind fun y=>match x,y with
 | .int i,.int j=>if f i j=true then (c ρ).bind fun z=>match z with
   | .int k=>.val (.bl (g j k))
   | _=>.bad
  else .val (.bl false)
 | _,_=>.bad:=Eq.trans rfl rfl
end
theorem ss {α:Type} (xs:List α) (i:Nat):atI xs (i:Int)=xs[i]?:=by
 unfold atI ixN
 rw [if_pos (Int.natCast_nonneg i)]
 by_cases h:i < xs.length
 ·rw [if_pos (by exact_mod_cast h)];simp
 ·rw [if_neg (by intro z;exact h (by exact_mod_cast z))]
  simp at h
  simp [List.getElem?_eq_none h]
theorem i7 {xs:List D} {i:Nat} {d:D} (h:xs[i]?=some d):fix (.lst xs) (.int (i:Int))=.val d:=by
 show (match atI xs (i:Int) with | some d=>R.val d | none=>.bad)=_
 rw [ss,h]
theorem v7 {xs:List D} {i:Nat} {d:D} (h:xs[i]?=some d):fix (.tup xs) (.int (i:Int))=.val d:=by
 show (match atI xs (i:Int) with | some d=>R.val d | none=>.bad)=_
 rw [ss,h]
theorem B6 {xs:List Int} {i:Nat} {d:Int} (h:xs[i]?=some d):fix (.scr xs) (.int (i:Int))=.val (.int d):=by
 show (match atI xs (i:Int) with | some d=>R.val (D.int d) | none=>R.bad)=_
 rw [ss,h]
@[simp] theorem fF (a:D) (r:List D):fix (.tup (a :: r)) (.int 0)=.val a:=v7 (i:=0) rfl
@[simp] theorem fk (a b:D) (r:List D):fix (.tup (a :: b :: r)) (.int 1)=.val b:=v7 (i:=1) rfl
@[simp] theorem oK (a b c:D) (r:List D):fix (.tup (a :: b :: c :: r)) (.int 2)=.val c:=v7 (i:=2) rfl
theorem t6 {T:D->Rho->Option Rho} {e:Rho->R D} {g:D->D} {ρ:Rho}:∀ {xs:List D},(∀ x ∈ xs,∃ ρ1,T x ρ=some ρ1/\e ρ1=.val (g x))->jy T tT e xs ρ=.val (xs.map g)
 | [],_=>rfl
 | x :: r,h=>by
  obtain ⟨ρ1,h1,h2⟩:=h x (by simp)
  have ih:=t6 (T:=T) (e:=e) (g:=g) (ρ:=ρ) (xs:=r) fun y hy=>h y (by simp [hy])
  unfold jy
  rw [h1]
  show (noE (tT ρ1)).bind _=_
  simp [tT,h2,ih]
theorem ig {T:D->Rho->Option Rho} {F:Rho->R Out} (I:Nat->Rho->Prop) {xs:List D} (step:∀ (i:Nat) x ρ,xs[i]?=some x->I i ρ->∃ ρ1 ρ2,T x ρ=some ρ1/\F ρ1=.val (.nx ρ2)/\I (i + 1) ρ2) {ρ:Rho} (h:I 0 ρ):∃ ρ',bR T F xs ρ=.val (.nx ρ')/\I xs.length ρ':=by
 suffices ∀ (n k:Nat) (ρ:Rho),k + n=xs.length->I k ρ->∃ ρ',bR T F (xs.drop k) ρ=.val (.nx ρ')/\I xs.length ρ' by
  have:=this xs.length 0 ρ (by omega) h
  rwa [List.drop_zero] at this
 intro n
 induction n with
 | zero =>
  intro k ρ hk hI
  have hk:k=xs.length:=by omega
  subst hk
  rw [List.drop_length]
  exact ⟨ρ,rfl,hI⟩
 | succ n ih =>
  intro k ρ hk hI
  have hlt:k < xs.length:=by omega
  obtain ⟨ρ1,ρ2,h1,h2,h3⟩:=step k xs[k] ρ (by simp [hlt]) hI
  rw [List.drop_eq_getElem_cons hlt]
  unfold bR
  rw [h1]
  show ∃ ρ',(F ρ1).bind _=_/\_
  rw [h2]
  exact ih (k + 1) ρ2 (by omega) h3
end DL
namespace DL
open L2 Ar
def pln:Nat->D->Bool
 | _,.non=>true
 | _,.int _=>true
 | n + 1,.lst xs=>xs.all (pln n)
 | n + 1,.tup xs=>xs.all (pln n)
 | _,_=>false
theorem cT:∀ {n:Nat} {x:D},pln n x=true->eqb n x=true:=by
 intro n
 induction n with
 | zero =>
  intro x h
  cases x with
  | non=>rfl
  | int _=>rfl
  | _=>cases h
 | succ n ih =>
  intro x h
  cases x with
  | non=>rfl
  | int _=>rfl
  | lst xs=>exact List.all_eq_true.mpr fun y hy=>ih (List.all_eq_true.mp h y hy)
  | tup xs=>exact List.all_eq_true.mpr fun y hy=>ih (List.all_eq_true.mp h y hy)
  | _=>cases h
theorem sO {n:Nat} (ih:∀ {x y:D},pln n x=true->pln n y=true->(pyq n x y=true ↔ x=y)) {xs ys:List D} (hx:xs.all (pln n)=true) (hy:ys.all (pln n)=true) :
  (decide (xs.length=ys.length) && (List.range xs.length).all fun j=>pyq n (xs.getD j .non) (ys.getD j .non))=true ↔ xs=ys:=by
 rw [Bool.and_eq_true,decide_eq_true_iff,List.all_eq_true]
 rw [List.all_eq_true] at hx hy
 constructor
 ·rintro ⟨hl,h⟩
  apply List.ext_getElem hl
  intro j h1 h2
  have:=h j (List.mem_range.mpr h1)
  rw [bA h1,bA h2] at this
  exact (ih (hx _ (List.getElem_mem h1)) (hy _ (List.getElem_mem h2))).mp this
 ·rintro rfl
  refine ⟨rfl,fun j hj=>?_⟩
  have h1:=List.mem_range.mp hj
  rw [bA h1]
  exact (ih (hx _ (List.getElem_mem h1)) (hx _ (List.getElem_mem h1))).mpr rfl
theorem fg {p q:Prop} (h:¬ p) (g:¬ q):p ↔ q:=⟨fun x=>absurd x h,fun x=>absurd x g⟩
theorem vW {a b:Int}:(a == b)=true ↔ D.int a=D.int b:=beq_iff_eq.trans ⟨congrArg D.int,fun h=>by cases h;rfl⟩
theorem gR:∀ (n:Nat) {x y:D},pln n x=true->pln n y=true->(pyq n x y=true ↔ x=y):=by
 intro n
 induction n with
 | zero =>
  intro x y hx hy
  cases x with
  | non =>
   cases y with
   | non=>exact ⟨fun _=>rfl,fun _=>rfl⟩
   | int b=>exact fg Bool.false_ne_true (fun h=>by cases h)
   | _=>cases hy
  | int a =>
   cases y with
   | int b=>exact vW
   | non=>exact fg Bool.false_ne_true (fun h=>by cases h)
   | _=>cases hy
  | _=>cases hx
 | succ n ih =>
  intro x y hx hy
  cases x with
  | lst xs =>
   cases y with
   | lst ys=>rw [qV,sO ih hx hy];exact ⟨congrArg D.lst,fun h=>by cases h;rfl⟩
   | non=>exact fg Bool.false_ne_true (fun h=>by cases h)
   | int _=>exact fg Bool.false_ne_true (fun h=>by cases h)
   | tup _=>exact fg Bool.false_ne_true (fun h=>by cases h)
   | _=>cases hy
  | tup xs =>
   cases y with
   | tup ys=>rw [qT,sO ih hx hy];exact ⟨congrArg D.tup,fun h=>by cases h;rfl⟩
   | non=>exact fg Bool.false_ne_true (fun h=>by cases h)
   | int _=>exact fg Bool.false_ne_true (fun h=>by cases h)
   | lst _=>exact fg Bool.false_ne_true (fun h=>by cases h)
   | _=>cases hy
  | non =>
   cases y with
   | non=>exact ⟨fun _=>rfl,fun _=>rfl⟩
   | int b=>exact fg Bool.false_ne_true (fun h=>by cases h)
   | lst _=>exact fg Bool.false_ne_true (fun h=>by cases h)
   | tup _=>exact fg Bool.false_ne_true (fun h=>by cases h)
   | _=>cases hy
  | int a =>
   cases y with
   | int b=>exact vW
   | non=>exact fg Bool.false_ne_true (fun h=>by cases h)
   | lst _=>exact fg Bool.false_ne_true (fun h=>by cases h)
   | tup _=>exact fg Bool.false_ne_true (fun h=>by cases h)
   | _=>cases hy
  | _=>cases hx
theorem kO {x:D} (h:pln 9 x=true):feq x x=.val (.bl true):=by
 unfold feq;rw [if_pos ⟨cT h,cT h⟩,(gR 9 h h).mpr rfl]
theorem oM {x y:D} (h:pln 9 x=true) (h':pln 9 y=true) (e:x ≠ y):feq x y=.val (.bl false):=by
 unfold feq;rw [if_pos ⟨cT h,cT h'⟩]
 cases q:pyq 9 x y with
 | false=>rfl
 | true=>exact absurd ((gR 9 h h').mp q) e
theorem im {x:D} (h:pln 9 x=true):fne x x=.val (.bl false):=by
 unfold fne;rw [if_pos ⟨cT h,cT h⟩,(gR 9 h h).mpr rfl];rfl
theorem tD {x y:D} (h:pln 9 x=true) (h':pln 9 y=true) (e:x ≠ y):fne x y=.val (.bl true):=by
 unfold fne;rw [if_pos ⟨cT h,cT h'⟩]
 cases q:pyq 9 x y with
 | false=>rfl
 | true=>exact absurd ((gR 9 h h').mp q) e
@[simp] theorem lM (a b:Int):feq (.int a) (.int b)=.val (.bl (decide (a=b))):=by
 by_cases h:a=b
 ·subst h;rw [kO rfl];simp
 ·rw [oM rfl rfl (by simpa using h)];simp [h]
@[simp] theorem lL (a b:Int):fne (.int a) (.int b)=.val (.bl (decide (a ≠ b))):=by
 by_cases h:a=b
 ·subst h;rw [im rfl];simp
 ·rw [tD rfl rfl (by simpa using h)];simp [h]
abbrev nD (n:Nat):D:=.int (n:Int)
def az (x:Arr):D:=.tup [nD x.1,nD x.2.1,.tup (x.2.2.map nD)]
def fV (p:Nat × Nat):D:=.tup [nD p.1,nD p.2]
def cS (en:List (Nat × Nat)):D:=.lst (en.map fV)
def al (re:List Nat):D:=.lst (re.map nD)
def aG (r:List Int):D:=.lst (r.map D.int)
def aW (tb:List (List Int)):D:=.lst (tb.map aG)
theorem nD_inj {a b:Nat}:nD a=nD b ↔ a=b:=by
 simp only [nD,D.int.injEq];omega
theorem endD_inj {p q:Nat × Nat}:fV p=fV q ↔ p=q:=by
 obtain ⟨a,b⟩:=p
 obtain ⟨c,d⟩:=q
 simp only [fV,nD,D.tup.injEq,List.cons.injEq,D.int.injEq,and_true,Prod.mk.injEq];omega
theorem nh {α:Type} {f:α->D} (hf:∀ a b,f a=f b->a=b):∀ {l m:List α},l.map f=m.map f->l=m
 | [],[],_=>rfl
 | [],_ :: _,h=>by simp at h
 | _ :: _,[],h=>by simp at h
 | a :: l,b :: m,h=>by
  simp only [List.map_cons,List.cons.injEq] at h
  rw [hf _ _ h.1,nh hf h.2]
theorem arrD_inj {x y:Arr}:az x=az y ↔ x=y:=by
 obtain ⟨a,b,l⟩:=x
 obtain ⟨c,d,m⟩:=y
 constructor
 ·intro h
  simp only [az,nD,D.tup.injEq,List.cons.injEq,D.int.injEq,Int.natCast_inj,and_true] at h
  obtain ⟨h1,h2,h3⟩:=h
  rw [h1,h2,nh (fun a b e=>nD_inj.mp e) h3]
 ·rintro h;rw [h]
theorem all_map {α:Type} {f:α->D} {n:Nat} (h:∀ a,pln n (f a)=true) (l:List α):(l.map f).all (pln n)=true:=by
 rw [List.all_eq_true]
 intro y hy
 obtain ⟨a,_,rfl⟩:=List.mem_map.mp hy
 exact h a
theorem qg {k:Nat} (n:Nat):pln k (nD n)=true:=by unfold nD pln;rfl
theorem EM {k:Nat} (n:Int):pln k (.int n)=true:=by cases k <;> rfl
theorem kC {k:Nat} {xs:List D} (h:xs.all (pln k)=true):pln (k + 1) (.tup xs)=true:=h
theorem m_ {k:Nat} {xs:List D} (h:xs.all (pln k)=true):pln (k + 1) (.lst xs)=true:=h
theorem jN {k:Nat} (p:Nat × Nat):pln (k + 1) (fV p)=true:=kC (by simp [qg])
theorem jO {k:Nat} (x:Arr):pln (k + 2) (az x)=true:=kC (by simp [qg];exact kC (all_map (fun a=>qg a) _))
theorem Ay {k:Nat} (en:List (Nat × Nat)):pln (k + 2) (cS en)=true:=m_ (all_map (fun p=>jN p) _)
theorem qY {k:Nat} (re:List Nat):pln (k + 1) (al re)=true:=m_ (all_map (fun p=>qg p) _)
theorem fL {k:Nat} (r:List Int):pln (k + 1) (aG r)=true:=m_ (all_map (fun p=>EM p) _)
theorem m9 {k:Nat} (tb:List (List Int)):pln (k + 2) (aW tb)=true:=m_ (all_map (fun p=>fL p) _)
theorem gB {α:Type} {f:α->D} {l:List α} {i:Nat} {d:α} (h:i < l.length):(l.map f)[i]?=some (f (l.getD i d)):=by
 rw [bA h];simp [h]
theorem gS {en:List (Nat × Nat)} {i:Nat} (h:i < en.length):fix (cS en) (.int (i:Int))=.val (fV (en.getD i (0,0))):=i7 (gB h)
theorem eM {re:List Nat} {i:Nat} (h:i < re.length):fix (al re) (.int (i:Int))=.val (nD (re.getD i 0)):=i7 (gB h)
theorem fj {tb:List (List Int)} {i:Nat} (h:i < tb.length):fix (aW tb) (.int (i:Int))=.val (aG (tb.getD i [])):=i7 (gB h)
theorem fO {r:List Int} {i:Nat} (h:i < r.length):fix (aG r) (.int (i:Int))=.val (.int (r.getD i (-1))):=i7 (gB h)
@[simp] theorem FZ (p:Nat × Nat):fix (fV p) (.int 0)=.val (nD p.1):=fF _ _
@[simp] theorem FY (p:Nat × Nat):fix (fV p) (.int 1)=.val (nD p.2):=fk _ _ _
@[simp] theorem Ga (x:Arr):fix (az x) (.int 0)=.val (nD x.1):=fF _ _
@[simp] theorem F_ (x:Arr):fix (az x) (.int 1)=.val (nD x.2.1):=fk _ _ _
@[simp] theorem F0 (x:Arr):fix (az x) (.int 2)=.val (.tup (x.2.2.map nD)):=oK _ _ _ _
@[simp] theorem jm (en:List (Nat × Nat)):aA (cS en)=.val (.int en.length):=by unfold cS;simp
@[simp] theorem dA (re:List Nat):aA (al re)=.val (.int re.length):=by unfold al;simp
@[simp] theorem zg (r:List Int):aA (aG r)=.val (.int r.length):=by unfold aG;simp
@[simp] theorem tE (r:List (List Int)):aA (aW r)=.val (.int r.length):=by unfold aW;simp
@[simp] theorem E8 (p:Nat × Nat):aA (fV p)=.val (.int 2):=Eq.trans rfl rfl
theorem ot {F:Rho->R Out} {i j:Nat} (I:Rho->Prop) {xs:List D} (step:∀ (k:Nat) x ρ,xs[k]?=some x->I ρ->∃ ρ2,F ((ρ.set i (some (.shr (.int (k:Int))))).set j (some (.shr x)))=.val (.nx ρ2)/\I ρ2) {ρ:Rho} (h:I ρ) :
  ∃ ρ',bR (tg2 i j) F (enu 0 xs) ρ=.val (.nx ρ')/\I ρ':=by
 refine ig (fun _=>I) (fun k y ρ e hI=>?_) h
 obtain ⟨x,e1,rfl⟩:=uY e
 rw [Nat.zero_add]
 obtain ⟨ρ2,h1,h2⟩:=step k x ρ e1 hI
 exact ⟨_,ρ2,rfl,h1,h2⟩
theorem jl {F:Rho->R Out} {i n:Nat} (I:Nat->Rho->Prop) (step:∀ (k:Nat) ρ,k < n->I k ρ->∃ ρ2,F (ρ.set i (some (.shr (.int (k:Int)))))=.val (.nx ρ2)/\I (k + 1) ρ2) {ρ:Rho} (h:I 0 ρ) :
  ∃ ρ',bR (tgN i) F (rng 0 n) ρ=.val (.nx ρ')/\I n ρ':=by
 have hl:(rng 0 n).length=n:=by unfold rng;simp
 obtain ⟨ρ',h1,h2⟩:=ig (T:=tgN i) (F:=F) I (xs:=rng 0 n) (fun k y ρ e hI=>by
  have hk:k < n:=by rw [<- hl];exact (List.getElem?_eq_some_iff.mp e).1
  have:y=.int (k:Int):=by
   unfold rng at e
   rw [List.getElem?_map,List.getElem?_range hk] at e
   simp at e;exact e.symm
  subst this
  obtain ⟨ρ2,h1,h2⟩:=step k ρ hk hI
  exact ⟨_,ρ2,rfl,h1,h2⟩) h
 exact ⟨ρ',h1,by rw [hl] at h2;exact h2⟩
theorem dz {n:Nat} (h:n<=100000):pD [.int (n:Int)]=.val (rng 0 n):=by
 have:-(2 ^ 62)<=(n:Int)/\(n:Int) < 2 ^ 62:=by constructor <;> omega
 unfold pD
 dsimp only
 rw [if_pos this,Int.toNat_natCast]
theorem yb {z:Int} (h:0<=z) (h':z<=100000):pD [.int z]=.val (rng 0 z.toNat):=by
 have:-(2 ^ 62)<=z/\z < 2 ^ 62:=by constructor <;> omega
 unfold pD
 dsimp only
 rw [if_pos this]
theorem Aq (n:Nat):(rng 0 n).length=n:=by unfold rng;simp
theorem A5 {n:Nat} {x:D} (h:x ∈ rng 0 n):∃ k:Nat,k < n/\x=.int (k:Int):=by
 unfold rng at h
 obtain ⟨k,hk,rfl⟩:=List.mem_map.mp h
 exact ⟨k,List.mem_range.mp hk,by simp⟩
theorem gD {src:Rho->R (List D)} {m n:Nat} {e:Rho->R D} {g:Nat->D} {ρ:Rho} {i:Nat} (hs:src ρ=.val (rng 0 m)) (hl:m<=100000) (h:∀ k:Nat,k < m->e ((ρ ++ List.replicate n none).set i (some (.shr (.int (k:Int)))))=.val (g k)) :
  bo src n (tgN i) tT e ρ=.val ((List.range m).map g):=by
 unfold bo
 rw [hs,af,if_pos (show (rng 0 m).length<=LIM by rw [Aq];exact hl)]
 have:jy (tgN i) tT e (rng 0 m) (ρ ++ List.replicate n none)=.val ((rng 0 m).map fun x=>match x with | .int z=>g z.toNat | _=>.non):=t6 fun x hx=>by
  obtain ⟨k,hk,rfl⟩:=A5 hx
  exact ⟨_,rfl,by rw [h k hk];simp⟩
 rw [this,rb]
 unfold rng
 rw [List.map_map]
 congr 1
 apply List.map_congr_left
 intro k hk
 simp
theorem eI {α:Type} {src:Rho->R (List D)} {n:Nat} {e:Rho->R D} {f g:α->D} {l:List α} {ρ:Rho} {i:Nat} (hs:src ρ=.val (l.map f)) (hl:l.length<=100000) (h:∀ a ∈ l,e ((ρ ++ List.replicate n none).set i (some (.shr (f a))))=.val (g a)) :
  bo src n (tgN i) tT e ρ=.val (l.map g):=by
 unfold bo
 rw [hs,af,if_pos (show (l.map f).length<=LIM by rw [List.length_map];exact hl)]
 suffices ∀ l:List α,(∀ a ∈ l,e ((ρ ++ List.replicate n none).set i (some (.shr (f a))))=.val (g a))->jy (tgN i) tT e (l.map f) (ρ ++ List.replicate n none)=.val (l.map g) by
  rw [this l h];rfl
 intro l
 induction l with
 | nil=>intro _;rfl
 | cons a r ih =>
  intro h
  have h1:=h a (by simp)
  have h2:=ih fun b hb=>h b (by simp [hb])
  rw [List.map_cons]
  unfold jy
  show (noE (tT _)).bind _=_
  rw [h2]
  simp only [tT,rb,af,if_true]
  rw [h1];rfl
end DL
namespace DL
open PySem PySem.Spec PyProof.Rows L2
structure Txt (K:Frag) (mg:Str->Option Value) (C:Addr):Prop where
 cl:Cls K C
 nE:NoAttr K C "ends"
 nR:NoAttr K C "rests"
 nT:NoAttr K C "table"
 len:mg "len"=none
 list:mg "list"=none
 tuple:mg "tuple"=none
 range:mg "range"=none
 enumerate:mg "enumerate"=none
 max:mg "max"=none
 isinstance:mg "isinstance"=none
 all:mg "all"=none
 sorted:mg "sorted"=none
 int:mg "int"=none
 bool:mg "bool"=none
 ih:IsH K C
 hall:mg "Hall"=some (.ref C)
 most_boxes:∃ t,mg "MOST_BOXES"=some (.int 6 t)
 most_arrows:∃ t,mg "MOST_ARROWS"=some (.int 40 t)
 most_places:∃ t,mg "MOST_PLACES"=some (.int 3 t)
 most_ties:∃ t,mg "MOST_TIES"=some (.int 4 t)
 kt_int:KTy K "int"
 kt_bool:KTy K "bool"
abbrev sAt (i:Nat):Stmt:=PySem.Challenge.pw_arrowhall_k08_whole_just_one_arrow.main.body.getD i (.Pass ⟨0,0,0,0⟩)
section
variable {C:Addr} {X:Cx} {e:Expr} {p pos:Pos} {F:Rho->R D}
theorem edl (h:EB C X e F) (hg:Gl X "len") (hm:X.mg "len"=none) (hst:starEach [e] X.env=(false,eval e X.env) :: starEach [] X.env):ED C X (.Call (.Name "len" p) [e] [] pos) (una aA F):=D0 h hg hm hst (fun t ha=>gw kW hg hm PySem.boot_len ha (he:=hst) (hpl:=ax))
theorem fdl (h:EB C X e F) (hg:Gl X "list") (hm:X.mg "list"=none) (hst:starEach [e] X.env=(false,eval e X.env) :: starEach [] X.env):FD C X (.Call (.Name "list" p) [e] [] pos) (fIt F):=Bm h hg hm hst (fun t ha=>dB kU hg hm boot_list ha (he:=hst) (hpl:=ax))
end
seal ED EB TD AD FD ID GD WD uf SD SDs ER AR FR KD PD ND SDi vg
variable {P:Program} {w:World} {K:Frag} {mg:Str->Option Value} {base:Heap} {C:Addr}
variable {f a:Addr} {fd:FuncData} (cdv:Value) (A:Around) (outer:List Env) (s:Shared) (H:Hp) (E:XK) (T:Txt K mg C)
abbrev eV:Stmt:=sAt 9
abbrev ku:List Str:=["number","count"]
theorem sI:aJ ku ["number","count"] (ai eV):=by constructor <;> first | rfl | decide +kernel
def iX:Rho->R Out:=(ret (chn (fun i j=>decide (i<=j)) (fun i j=>decide (i < j)) (kd (.int 0)) (vb 0) (vb 1)))
def aZ (ds:List D):R D:=fin (iX (st0 ku ds))
include T in
theorem p4 (hr:Room 0 (A.deeper (envOfC "is_below" (ai eV) s.heap.objs.size f cdv))) :
  SDs C (bI CX0 P w K mg base ku "is_below" (ai eV) f cdv A outer s H E).nox (aF eV) iX :=
 (ao (aY (zD (f:=fun i j=>decide (i<=j)) (g:=fun i j=>decide (i < j)) sR B1 (EB.of ak) (ag (pv 0)) (ag (pv 1)))))
include T in
theorem sZ (F:Fun K "is_below" "is_below" eV a fd) (hm:mg "is_below"=some (.ref a)) (hb:Binds K fd ["number","count"] []):Fn P w K mg base C 1 "is_below" 2 aZ :=
 ⟨a,fd,_,bm F sI (fun cdv A outer s H E hr=>p4 cdv A outer s H E T hr),hm,F.kp,hb⟩
abbrev cb:Stmt:=sAt 10
abbrev gN:List Str:=["ends","rests"]
theorem mD:aJ gN ["ends","rests"] (ai cb):=by constructor <;> first | rfl | decide +kernel
def fJ:Rho->R Out:=(sq (iff (gO (tst (chn (fun i j=>decide (i<=j)) (fun i j=>decide (i<=j)) (kd (.int 1)) (una aA (vb 1)) (kd (.int 6)))))
 bad
 nxt)
 (iff (gO (tst (chn (fun i j=>decide (i<=j)) (fun i j=>decide (i<=j)) (kd (.int 1)) (una aA (vb 0)) (kd (.int 40)))))
 bad
 nxt))
def cx (ds:List D):R D:=fin (fJ (st0 gN ds))
include T in
theorem k_ (hr:Room 0 (A.deeper (envOfC "check_counts" (ai cb) s.heap.objs.size f cdv))) :
  SDs C (bI CX0 P w K mg base gN "check_counts" (ai cb) f cdv A outer s H E).nox (aF cb) fJ :=
 (au (bh (e_ (sy (f:=fun i j=>decide (i<=j)) (g:=fun i j=>decide (i<=j)) sR sR (EB.of ak) (EB.of (edl (ag (pv 1)) rfl T.len ab)) (EB.of (kS rfl T.most_boxes.choose_spec))))
 (ao eO)
 aK)
 (ao (bh (e_ (sy (f:=fun i j=>decide (i<=j)) (g:=fun i j=>decide (i<=j)) sR sR (EB.of ak) (EB.of (edl (ag (pv 0)) rfl T.len ab)) (EB.of (kS rfl T.most_arrows.choose_spec))))
 (ao eO)
 aK)))
include T in
theorem mL (F:Fun K "check_counts" "check_counts" cb a fd) (hm:mg "check_counts"=some (.ref a)) (hb:Binds K fd ["ends","rests"] []):Fn P w K mg base C 1 "check_counts" 2 cx :=
 ⟨a,fd,_,bm F mD (fun cdv A outer s H E hr=>k_ cdv A outer s H E T hr),hm,F.kp,hb⟩
abbrev di:Stmt:=sAt 11
abbrev i4:List Str:=["ends","boxes","arrow","pair"]
theorem sc_check_ends:aJ i4 ["ends","boxes"] (ai di):=by constructor <;> first | rfl | decide +kernel
def gI:Rho->R Out:=(bn (fu (aC (vr 0) aN)) (tg2 2 3)
 (iff (orB (tst (bin fne (una aA (vb 3)) (kd (.int 2)))) (orB (gO (tst (cal 2 aZ (aC (bin fix (vb 3) (kd (.int 0))) (aC (vr 1) aN))))) (gO (tst (cal 2 aZ (aC (bin fix (vb 3) (kd (.int 1))) (aC (vr 1) aN)))))))
 bad
 nxt))
def dE (ds:List D):R D:=fin (gI (st0 i4 ds))
variable (fn_is_below:Fn P w K mg base C 1 "is_below" 2 aZ)
include T fn_is_below in
theorem mW (hr:Room 1 (A.deeper (envOfC "check_ends" (ai di) s.heap.objs.size f cdv))) :
  SDs C (bI CX0 P w K mg base i4 "check_ends" (ai di) f cdv A outer s H E).nox (aF di) gI :=
 (ao (bf PassesOwn.never rfl (cU rfl T.enumerate (ae (ah (pv 0)) aq ab) (bv ab)) (dG rfl (aL (i:=2) sc_check_ends.nd rfl (Or.inl rfl)) (aL (i:=3) sc_check_ends.nd rfl (Or.inl rfl)))
 (ao (bh (lj (i5 (eE (br hr) (EB.of (edl (ag (pv 3)) rfl T.len ab)) (EB.of ak)) (i5 (e_ (dL (aP fn_is_below (hr.mono (by decide)) rfl (ae (aw (ag (pv 3)) (EB.of ak)) (ae (ah (pv 1)) aq ab) aj) rfl (he:=aj) (hpl:=(ar ab ax))))) (ir (e_ (dL (aP fn_is_below (hr.mono (by decide)) rfl (ae (aw (ag (pv 3)) (EB.of ak)) (ae (ah (pv 1)) aq ab) aj) rfl (he:=aj) (hpl:=(ar ab ax)))))))))
 (ao eO)
 aK))))
include T fn_is_below in
theorem pO (F:Fun K "check_ends" "check_ends" di a fd) (hm:mg "check_ends"=some (.ref a)) (hb:Binds K fd ["ends","boxes"] []):Fn P w K mg base C 2 "check_ends" 2 dE :=
 ⟨a,fd,_,bm F sc_check_ends (fun cdv A outer s H E hr=>mW cdv A outer s H E T fn_is_below hr),hm,F.kp,hb⟩
abbrev cI:Stmt:=sAt 12
abbrev h9:List Str:=["ends","rests","box","rest"]
theorem sc_check_rests:aJ h9 ["ends","rests"] (ai cI):=by constructor <;> first | rfl | decide +kernel
def ge:Rho->R Out:=(bn (fu (aC (vr 1) aN)) (tg2 2 3)
 (iff (orB (gO (tst (cal 2 aZ (aC (vr 3) (aC (una aA (vb 0)) aN))))) (tst (bin fne (bin fix (vb 0) (vb 3)) (eT (aC (vr 2) (aC (vr 2) aN))))))
 bad
 nxt))
def cY (ds:List D):R D:=fin (ge (st0 h9 ds))
include T fn_is_below in
theorem l_ (hr:Room 1 (A.deeper (envOfC "check_rests" (ai cI) s.heap.objs.size f cdv))) :
  SDs C (bI CX0 P w K mg base h9 "check_rests" (ai cI) f cdv A outer s H E).nox (aF cI) ge :=
 (ao (bf PassesOwn.never rfl (cU rfl T.enumerate (ae (ah (pv 1)) aq ab) (bv ab)) (dG rfl (aL (i:=2) sc_check_rests.nd rfl (Or.inl rfl)) (aL (i:=3) sc_check_rests.nd rfl (Or.inl rfl)))
 (ao (bh (lj (i5 (e_ (dL (aP fn_is_below (hr.mono (by decide)) rfl (ae (ah (pv 3)) (ae (edl (ag (pv 0)) rfl T.len ab) aq ay) ab) rfl (he:=ab) (hpl:=(ar ay ax))))) (ir (eE (br hr) (EB.of (aw (ag (pv 0)) (ag (pv 3)))) (EB.of (cn (ae (ah (pv 2)) (ae (ah (pv 2)) aq ab) ab)))))))
 (ao eO)
 aK))))
include T fn_is_below in
theorem ol (F:Fun K "check_rests" "check_rests" cI a fd) (hm:mg "check_rests"=some (.ref a)) (hb:Binds K fd ["ends","rests"] []):Fn P w K mg base C 2 "check_rests" 2 cY :=
 ⟨a,fd,_,bm F sc_check_rests (fun cdv A outer s H E hr=>l_ cdv A outer s H E T fn_is_below hr),hm,F.kp,hb⟩
abbrev dh:Stmt:=sAt 13
abbrev gl:List Str:=["table","arrows","one","row"]
theorem sc_check_form:aJ gl ["table","arrows"] (ai dh):=by constructor <;> first | rfl | decide +kernel
def gH:Rho->R Out:=(sq (iff (tst (bin fne (una aA (vb 0)) (vb 1)))
 bad
 nxt)
 (bn (fu (aC (vr 0) aN)) (tg2 2 3)
 (iff (tst (bin fne (una aA (vb 3)) (vb 1)))
 bad
 nxt)))
def dD (ds:List D):R D:=fin (gH (st0 gl ds))
include T in
theorem mV (hr:Room 0 (A.deeper (envOfC "check_form" (ai dh) s.heap.objs.size f cdv))) :
  SDs C (bI CX0 P w K mg base gl "check_form" (ai dh) f cdv A outer s H E).nox (aF dh) gH :=
 (au (bh (eE (br hr) (EB.of (edl (ag (pv 0)) rfl T.len ab)) (ag (pv 1)))
 (ao eO)
 aK)
 (ao (bf PassesOwn.never rfl (cU rfl T.enumerate (ae (ah (pv 0)) aq ab) (bv ab)) (dG rfl (aL (i:=2) sc_check_form.nd rfl (Or.inl rfl)) (aL (i:=3) sc_check_form.nd rfl (Or.inl rfl)))
 (ao (bh (eE (br hr) (EB.of (edl (ag (pv 3)) rfl T.len ab)) (ag (pv 1)))
 (ao eO)
 aK)))))
include T in
theorem pN (F:Fun K "check_form" "check_form" dh a fd) (hm:mg "check_form"=some (.ref a)) (hb:Binds K fd ["table","arrows"] []):Fn P w K mg base C 1 "check_form" 2 dD :=
 ⟨a,fd,_,bm F sc_check_form (fun cdv A outer s H E hr=>mV cdv A outer s H E T hr),hm,F.kp,hb⟩
abbrev cJ:Stmt:=sAt 15
abbrev h_:List Str:=["ends","one","other","made"]
theorem nK:aJ h_ ["ends","one","other","made"] (ai cJ):=by constructor <;> first | rfl | decide +kernel
def gf:Rho->R Out:=(iff (tst (bin fne (bin fix (bin fix (vb 0) (vb 1)) (kd (.int 1))) (bin fix (bin fix (vb 0) (vb 2)) (kd (.int 0)))))
 (iff (tst (bin fne (vb 3) (una i_ (kd (.int 1)))))
 bad
 nxt)
 (iff (orB (gO (tst (cal 2 aZ (aC (vr 3) (aC (una aA (vb 0)) aN))))) (tst (bin fne (bin fix (vb 0) (vb 3)) (eT (aC (bin fix (bin fix (vb 0) (vb 1)) (kd (.int 0))) (aC (bin fix (bin fix (vb 0) (vb 2)) (kd (.int 1))) aN))))))
 bad
 nxt))
def cZ (ds:List D):R D:=fin (gf (st0 h_ ds))
include T fn_is_below in
theorem me (hr:Room 1 (A.deeper (envOfC "check_entry" (ai cJ) s.heap.objs.size f cdv))) :
  SDs C (bI CX0 P w K mg base h_ "check_entry" (ai cJ) f cdv A outer s H E).nox (aF cJ) gf :=
 (ao (bh (eE (br hr) (EB.of (aw (EB.of (aw (ag (pv 0)) (ag (pv 1)))) (EB.of ak))) (EB.of (aw (EB.of (aw (ag (pv 0)) (ag (pv 2)))) (EB.of ak))))
 (ao (bh (eE (br hr) (ag (pv 3)) (EB.of (lO (EB.of ak))))
 (ao eO)
 aK))
 (ao (bh (lj (i5 (e_ (dL (aP fn_is_below (hr.mono (by decide)) rfl (ae (ah (pv 3)) (ae (edl (ag (pv 0)) rfl T.len ab) aq ay) ab) rfl (he:=ab) (hpl:=(ar ay ax))))) (ir (eE (br hr) (EB.of (aw (ag (pv 0)) (ag (pv 3)))) (EB.of (cn (ae (aw (EB.of (aw (ag (pv 0)) (ag (pv 1)))) (EB.of ak)) (ae (aw (EB.of (aw (ag (pv 0)) (ag (pv 2)))) (EB.of ak)) aq aj) aj)))))))
 (ao eO)
 aK))))
include T fn_is_below in
theorem om (F:Fun K "check_entry" "check_entry" cJ a fd) (hm:mg "check_entry"=some (.ref a)) (hb:Binds K fd ["ends","one","other","made"] []):Fn P w K mg base C 2 "check_entry" 4 cZ :=
 ⟨a,fd,_,bm F nK (fun cdv A outer s H E hr=>me cdv A outer s H E T fn_is_below hr),hm,F.kp,hb⟩
abbrev cH:Stmt:=sAt 14
abbrev h8:List Str:=["ends","table","one","row","other","made"]
theorem sc_check_table:aJ h8 ["ends","table"] (ai cH):=by constructor <;> first | rfl | decide +kernel
def gd:Rho->R Out:=(bn (fu (aC (vr 1) aN)) (tg2 2 3)
 (bn (fu (aC (vr 3) aN)) (tg2 4 5)
 (drp (cal 4 cZ (aC (vr 0) (aC (vr 2) (aC (vr 4) (aC (vr 5) aN))))))))
def cX (ds:List D):R D:=fin (gd (st0 h8 ds))
variable (fn_check_entry:Fn P w K mg base C 2 "check_entry" 4 cZ)
include T fn_check_entry in
theorem lZ (hr:Room 2 (A.deeper (envOfC "check_table" (ai cH) s.heap.objs.size f cdv))) :
  SDs C (bI CX0 P w K mg base h8 "check_table" (ai cH) f cdv A outer s H E).nox (aF cH) gd :=
 (ao (bf PassesOwn.never rfl (cU rfl T.enumerate (ae (ah (pv 1)) aq ab) (bv ab)) (dG rfl (aL (i:=2) sc_check_table.nd rfl (Or.inl rfl)) (aL (i:=3) sc_check_table.nd rfl (Or.inl rfl)))
 (ao (bf PassesOwn.never rfl (cU rfl T.enumerate (ae (ah (pv 3)) aq ab) (bv ab)) (dG rfl (aL (i:=4) sc_check_table.nd rfl (Or.inl rfl)) (aL (i:=5) sc_check_table.nd rfl (Or.inl rfl)))
 (ao (iz (EB.of (aP fn_check_entry (hr.mono (by decide)) rfl (ae (ah (pv 0)) (ae (ah (pv 2)) (ae (ah (pv 4)) (ae (ah (pv 5)) aq ab) ab) ab) ab) rfl (he:=ab) (hpl:=(ar ab (ar ab (ar ab ax))))))))))))
include T fn_check_entry in
theorem oj (F:Fun K "check_table" "check_table" cH a fd) (hm:mg "check_table"=some (.ref a)) (hb:Binds K fd ["ends","table"] []):Fn P w K mg base C 3 "check_table" 2 cX :=
 ⟨a,fd,_,bm F sc_check_table (fun cdv A outer s H E hr=>lZ cdv A outer s H E T fn_check_entry hr),hm,F.kp,hb⟩
abbrev bq:Stmt:=sAt 16
abbrev dZ:List Str:=["ends","rests","table","arrow","pair"]
theorem sc_check_beside_rests:aJ dZ ["ends","rests","table"] (ai bq):=by constructor <;> first | rfl | decide +kernel
def dw:Rho->R Out:=(bn (fu (aC (vr 0) aN)) (tg2 3 4)
 (iff (orB (tst (bin fne (bin fix (bin fix (vb 2) (bin fix (vb 1) (bin fix (vb 4) (kd (.int 0))))) (vb 3)) (vb 3))) (tst (bin fne (bin fix (bin fix (vb 2) (vb 3)) (bin fix (vb 1) (bin fix (vb 4) (kd (.int 1))))) (vb 3))))
 bad
 nxt))
def bw (ds:List D):R D:=fin (dw (st0 dZ ds))
include T in
theorem iq (hr:Room 0 (A.deeper (envOfC "check_beside_rests" (ai bq) s.heap.objs.size f cdv))) :
  SDs C (bI CX0 P w K mg base dZ "check_beside_rests" (ai bq) f cdv A outer s H E).nox (aF bq) dw :=
 (ao (bf PassesOwn.never rfl (cU rfl T.enumerate (ae (ah (pv 0)) aq ab) (bv ab)) (dG rfl (aL (i:=3) sc_check_beside_rests.nd rfl (Or.inl rfl)) (aL (i:=4) sc_check_beside_rests.nd rfl (Or.inl rfl)))
 (ao (bh (lj (i5 (eE (br hr) (EB.of (aw (EB.of (aw (ag (pv 2)) (EB.of (aw (ag (pv 1)) (EB.of (aw (ag (pv 4)) (EB.of ak))))))) (ag (pv 3)))) (ag (pv 3))) (ir (eE (br hr) (EB.of (aw (EB.of (aw (ag (pv 2)) (ag (pv 3)))) (EB.of (aw (ag (pv 1)) (EB.of (aw (ag (pv 4)) (EB.of ak))))))) (ag (pv 3))))))
 (ao eO)
 aK))))
include T in
theorem i9 (F:Fun K "check_beside_rests" "check_beside_rests" bq a fd) (hm:mg "check_beside_rests"=some (.ref a)) (hb:Binds K fd ["ends","rests","table"] []):Fn P w K mg base C 1 "check_beside_rests" 3 bw :=
 ⟨a,fd,_,bm F sc_check_beside_rests (fun cdv A outer s H E hr=>iq cdv A outer s H E T hr),hm,F.kp,hb⟩
abbrev ca:Stmt:=sAt 18
abbrev ft:List Str:=["table","one","other","made","third","later"]
theorem sc_check_thirds:aJ ft ["table","one","other","made"] (ai ca):=by constructor <;> first | rfl | decide +kernel
def fI:Rho->R Out:=(bn (fu (aC (bin fix (vb 0) (vb 2)) aN)) (tg2 4 5)
 (iff (pq (tst (bin fne (vb 5) (una i_ (kd (.int 1))))) (tst (bin fne (bin fix (bin fix (vb 0) (vb 3)) (vb 4)) (bin fix (bin fix (vb 0) (vb 1)) (vb 5)))))
 bad
 nxt))
def cw (ds:List D):R D:=fin (fI (st0 ft ds))
include T in
theorem kZ (hr:Room 0 (A.deeper (envOfC "check_thirds" (ai ca) s.heap.objs.size f cdv))) :
  SDs C (bI CX0 P w K mg base ft "check_thirds" (ai ca) f cdv A outer s H E).nox (aF ca) fI :=
 (ao (bf PassesOwn.never rfl (cU rfl T.enumerate (ae (aw (ag (pv 0)) (ag (pv 2))) aq aj) (bv aj)) (dG rfl (aL (i:=4) sc_check_thirds.nd rfl (Or.inl rfl)) (aL (i:=5) sc_check_thirds.nd rfl (Or.inl rfl)))
 (ao (bh (lj (qC (eE (br hr) (ag (pv 5)) (EB.of (lO (EB.of ak)))) (mY (eE (br hr) (EB.of (aw (EB.of (aw (ag (pv 0)) (ag (pv 3)))) (ag (pv 4)))) (EB.of (aw (EB.of (aw (ag (pv 0)) (ag (pv 1)))) (ag (pv 5))))))))
 (ao eO)
 aK))))
include T in
theorem mK (F:Fun K "check_thirds" "check_thirds" ca a fd) (hm:mg "check_thirds"=some (.ref a)) (hb:Binds K fd ["table","one","other","made"] []):Fn P w K mg base C 1 "check_thirds" 4 cw :=
 ⟨a,fd,_,bm F sc_check_thirds (fun cdv A outer s H E hr=>kZ cdv A outer s H E T hr),hm,F.kp,hb⟩
abbrev b_:Stmt:=sAt 17
abbrev gM:List Str:=["table","one","row","other","made"]
theorem sc_check_threes:aJ gM ["table"] (ai b_):=by constructor <;> first | rfl | decide +kernel
def fH:Rho->R Out:=(bn (fu (aC (vr 0) aN)) (tg2 1 2)
 (bn (fu (aC (vr 2) aN)) (tg2 3 4)
 (iff (tst (bin fne (vb 4) (una i_ (kd (.int 1)))))
 (drp (cal 4 cw (aC (vr 0) (aC (vr 1) (aC (vr 3) (aC (vr 4) aN))))))
 nxt)))
def cu (ds:List D):R D:=fin (fH (st0 gM ds))
variable (fn_check_thirds:Fn P w K mg base C 1 "check_thirds" 4 cw)
include T fn_check_thirds in
theorem kY (hr:Room 1 (A.deeper (envOfC "check_threes" (ai b_) s.heap.objs.size f cdv))) :
  SDs C (bI CX0 P w K mg base gM "check_threes" (ai b_) f cdv A outer s H E).nox (aF b_) fH :=
 (ao (bf PassesOwn.never rfl (cU rfl T.enumerate (ae (ah (pv 0)) aq ab) (bv ab)) (dG rfl (aL (i:=1) sc_check_threes.nd rfl (Or.inl rfl)) (aL (i:=2) sc_check_threes.nd rfl (Or.inl rfl)))
 (ao (bf PassesOwn.never rfl (cU rfl T.enumerate (ae (ah (pv 2)) aq ab) (bv ab)) (dG rfl (aL (i:=3) sc_check_threes.nd rfl (Or.inl rfl)) (aL (i:=4) sc_check_threes.nd rfl (Or.inl rfl)))
 (ao (bh (eE (br hr) (ag (pv 4)) (EB.of (lO (EB.of ak))))
 (ao (iz (EB.of (aP fn_check_thirds (hr.mono (by decide)) rfl (ae (ah (pv 0)) (ae (ah (pv 1)) (ae (ah (pv 3)) (ae (ah (pv 4)) aq ab) ab) ab) ab) rfl (he:=ab) (hpl:=(ar ab (ar ab (ar ab ax))))))))
 aK))))))
include T fn_check_thirds in
theorem mJ (F:Fun K "check_threes" "check_threes" b_ a fd) (hm:mg "check_threes"=some (.ref a)) (hb:Binds K fd ["table"] []):Fn P w K mg base C 2 "check_threes" 1 cu :=
 ⟨a,fd,_,bm F sc_check_threes (fun cdv A outer s H E hr=>kY cdv A outer s H E T fn_check_thirds hr),hm,F.kp,hb⟩
abbrev bJ:Stmt:=Be (sAt 19) 0
abbrev fQ:List Str:=["self","ends","rests","table"]
theorem nM:aJ fQ ["self","ends","rests","table"] (ai bJ):=by constructor <;> first | rfl | decide +kernel
abbrev Nc_Hall___init_0:List Str:=["self","ends","rests","table","row"]
theorem lD:Nc_Hall___init_0.Nodup:=by decide +kernel
def jw:Rho->R D:=BE [(cal 2 cx (aC (vr 1) (aC (vr 2) aN))),(cal 2 dE (aC (vr 1) (aC (una aA (vb 2)) aN))),(cal 2 cY (aC (vr 1) (aC (vr 2) aN))),(cal 2 dD (aC (vr 3) (aC (una aA (vb 1)) aN))),(cal 2 cX (aC (vr 1) (aC (vr 3) aN))),(cal 3 bw (aC (vr 1) (aC (vr 2) (aC (vr 3) aN)))),(cal 1 cu (aC (vr 3) aN))] (fIt (vb 1)) (fIt (vb 2)) (bo (fIt (vr 3)) 1 (tgN 4) tT (eLs (fIt (vb 4))))
variable (fn_check_beside_rests:Fn P w K mg base C 1 "check_beside_rests" 3 bw)
variable (fn_check_counts:Fn P w K mg base C 1 "check_counts" 2 cx)
variable (fn_check_ends:Fn P w K mg base C 2 "check_ends" 2 dE)
variable (fn_check_form:Fn P w K mg base C 1 "check_form" 2 dD)
variable (fn_check_rests:Fn P w K mg base C 2 "check_rests" 2 cY)
variable (fn_check_table:Fn P w K mg base C 3 "check_table" 2 cX)
variable (fn_check_threes:Fn P w K mg base C 2 "check_threes" 1 cu)
include T fn_check_beside_rests fn_check_counts fn_check_ends fn_check_form fn_check_rests fn_check_table fn_check_threes in
theorem mh (hr:Room 3 (A.deeper (envOfC "Hall.__init__" (ai bJ) s.heap.objs.size f cdv))) :
  PSs (bI CX0 P w K mg base fQ "Hall.__init__" (ai bJ) f cdv A outer s H E).nox (aF bJ) (tCk C (bI CX0 P w K mg base fQ "Hall.__init__" (ai bJ) f cdv A outer s H E).nox [(cal 2 cx (aC (vr 1) (aC (vr 2) aN))),(cal 2 dE (aC (vr 1) (aC (una aA (vb 2)) aN))),(cal 2 cY (aC (vr 1) (aC (vr 2) aN))),(cal 2 dD (aC (vr 3) (aC (una aA (vb 1)) aN))),(cal 2 cX (aC (vr 1) (aC (vr 3) aN))),(cal 3 bw (aC (vr 1) (aC (vr 2) (aC (vr 3) aN)))),(cal 1 cu (aC (vr 3) aN))] (tI C (bI CX0 P w K mg base fQ "Hall.__init__" (ai bJ) f cdv A outer s H E).nox (fIt (vb 1)) (fIt (vb 2)) (bo (fIt (vr 3)) 1 (tgN 4) tT (eLs (fIt (vb 4)))))) :=
 (j4 (nU (EB.of (aP fn_check_counts (hr.mono (by decide)) rfl (ae (ah (pv 1)) (ae (ah (pv 2)) aq ab) ab) rfl (he:=ab) (hpl:=(ar ab ax)))))
 (j4 (nU (EB.of (aP fn_check_ends (hr.mono (by decide)) rfl (ae (ah (pv 1)) (ae (edl (ag (pv 2)) rfl T.len ab) aq ay) ab) rfl (he:=ab) (hpl:=(ar ay ax)))))
 (j4 (nU (EB.of (aP fn_check_rests (hr.mono (by decide)) rfl (ae (ah (pv 1)) (ae (ah (pv 2)) aq ab) ab) rfl (he:=ab) (hpl:=(ar ab ax)))))
 (j4 (nU (EB.of (aP fn_check_form (hr.mono (by decide)) rfl (ae (ah (pv 3)) (ae (edl (ag (pv 1)) rfl T.len ab) aq ay) ab) rfl (he:=ab) (hpl:=(ar ay ax)))))
 (j4 (nU (EB.of (aP fn_check_table (hr.mono (by decide)) rfl (ae (ah (pv 1)) (ae (ah (pv 3)) aq ab) ab) rfl (he:=ab) (hpl:=(ar ab ax)))))
 (j4 (nU (EB.of (aP fn_check_beside_rests (hr.mono (by decide)) rfl (ae (ah (pv 1)) (ae (ah (pv 2)) (ae (ah (pv 3)) aq ab) ab) ab) rfl (he:=ab) (hpl:=(ar ab (ar ab ax))))))
 (j4 (nU (EB.of (aP fn_check_threes (hr.mono (by decide)) rfl (ae (ah (pv 3)) aq ab) rfl (he:=ab) (hpl:=ax))))
 (EK (yj (pv 0) (fdl (ag (pv 1)) rfl T.list ab)) (yj (pv 0) (fdl (ag (pv 2)) rfl T.list ab)) (yj (pv 0) (dl (N':=Nc_Hall___init_0) (n:=1) rfl rfl rfl (gP 4) cB (bz (ah (pv 3))) (fun L cs s H fp=>(aM (i:=4) lD rfl (Or.inl rfl))) (fun L cs s H fp=>bS) (fun L cs s H fp=>(cA (fdl (ag (pv 4)) rfl T.list ab)))))))))))))
include T fn_check_beside_rests fn_check_counts fn_check_ends fn_check_form fn_check_rests fn_check_table fn_check_threes in
theorem oo (F:Fun K "__init__" "Hall.__init__" bJ a fd) (M:Mk K C a) (hb:Binds K fd ["self","ends","rests","table"] []):FnH P w K mg base C 4 jw :=
 ⟨a,fd,M,Bc F nM T.cl T.nE T.nR T.nT (fun cdv A outer s H E hr=>mh cdv A outer s H E T fn_check_beside_rests fn_check_counts fn_check_ends fn_check_form fn_check_rests fn_check_table fn_check_threes hr),T.hall,hb⟩
abbrev cK:Stmt:=sAt 20
abbrev ia:List Str:=["hall","arrow"]
theorem nL:aJ ia ["hall","arrow"] (ai cK):=by constructor <;> first | rfl | decide +kernel
def gh:Rho->R Out:=(iff (gO (tst (cal 2 aZ (aC (vr 1) (aC (una aA (una (dH 0) (vb 0))) aN)))))
 bad
 nxt)
def c_ (ds:List D):R D:=fin (gh (st0 ia ds))
include T fn_is_below in
theorem mf (hr:Room 1 (A.deeper (envOfC "check_arrow" (ai cK) s.heap.objs.size f cdv))) :
  SDs C (bI CX0 P w K mg base ia "check_arrow" (ai cK) f cdv A outer s H E).nox (aF cK) gh :=
 (ao (bh (e_ (dL (aP fn_is_below (hr.mono (by decide)) rfl (ae (ah (pv 1)) (ae (edl (EB.of (dW (k:=0) (ag (pv 0)) T.cl T.nE rfl (fun _ _ _=>rfl))) rfl T.len bC) aq ay) ab) rfl (he:=ab) (hpl:=(ar ay ax)))))
 (ao eO)
 aK))
include T fn_is_below in
theorem on (F:Fun K "check_arrow" "check_arrow" cK a fd) (hm:mg "check_arrow"=some (.ref a)) (hb:Binds K fd ["hall","arrow"] []):Fn P w K mg base C 2 "check_arrow" 2 c_ :=
 ⟨a,fd,_,bm F nL (fun cdv A outer s H E hr=>mf cdv A outer s H E T fn_is_below hr),hm,F.kp,hb⟩
abbrev dS:Stmt:=sAt 21
abbrev jJ:List Str:=["hall","box"]
theorem qN:aJ jJ ["hall","box"] (ai dS):=by constructor <;> first | rfl | decide +kernel
def hU:Rho->R Out:=(iff (gO (tst (cal 2 aZ (aC (vr 1) (aC (una aA (una (dH 1) (vb 0))) aN)))))
 bad
 nxt)
def bL (ds:List D):R D:=fin (hU (st0 jJ ds))
include T fn_is_below in
theorem pj (hr:Room 1 (A.deeper (envOfC "check_box" (ai dS) s.heap.objs.size f cdv))) :
  SDs C (bI CX0 P w K mg base jJ "check_box" (ai dS) f cdv A outer s H E).nox (aF dS) hU :=
 (ao (bh (e_ (dL (aP fn_is_below (hr.mono (by decide)) rfl (ae (ah (pv 1)) (ae (edl (EB.of (dW (k:=1) (ag (pv 0)) T.cl T.nR rfl (fun _ _ _=>rfl))) rfl T.len bC) aq ay) ab) rfl (he:=ab) (hpl:=(ar ay ax)))))
 (ao eO)
 aK))
include T fn_is_below in
theorem rB (F:Fun K "check_box" "check_box" dS a fd) (hm:mg "check_box"=some (.ref a)) (hb:Binds K fd ["hall","box"] []):Fn P w K mg base C 2 "check_box" 2 bL :=
 ⟨a,fd,_,bm F qN (fun cdv A outer s H E hr=>pj cdv A outer s H E T fn_is_below hr),hm,F.kp,hb⟩
abbrev fC:Stmt:=sAt 22
abbrev mo:List Str:=["hall","box","other"]
theorem uA:aJ mo ["hall","box","other"] (ai fC):=by constructor <;> first | rfl | decide +kernel
abbrev Nc_between_0:List Str:=["hall","box","other","arrow","pair"]
theorem kF:Nc_between_0.Nodup:=by decide +kernel
def jv:Rho->R Out:=(sq (drp (cal 2 bL (aC (vr 0) (aC (vr 1) aN))))
 (sq (drp (cal 2 bL (aC (vr 0) (aC (vr 2) aN))))
 (ret (eLs (bo (fu (aC (una (dH 0) (vb 0)) aN)) 2 (tg2 3 4) (tst (bin feq (vb 4) (eT (aC (vr 1) (aC (vr 2) aN))))) (vr 3))))))
def bu (ds:List D):R D:=fin (jv (st0 mo ds))
variable (fn_check_box:Fn P w K mg base C 2 "check_box" 2 bL)
include T fn_check_box in
theorem so (hr:Room 2 (A.deeper (envOfC "between" (ai fC) s.heap.objs.size f cdv))) :
  SDs C (bI CX0 P w K mg base mo "between" (ai fC) f cdv A outer s H E).nox (aF fC) jv :=
 (au (iz (EB.of (aP fn_check_box (hr.mono (by decide)) rfl (ae (ah (pv 0)) (ae (ah (pv 1)) aq ab) ab) rfl (he:=ab) (hpl:=(ar ab ax)))))
 (au (iz (EB.of (aP fn_check_box (hr.mono (by decide)) rfl (ae (ah (pv 0)) (ae (ah (pv 2)) aq ab) ab) rfl (he:=ab) (hpl:=(ar ab ax)))))
 (ao (aY (cA (dl (N':=Nc_between_0) (n:=2) rfl rfl rfl (E5 3) xP (cU rfl T.enumerate (ae (dW (k:=0) (ag (pv 0)) T.cl T.nE rfl (fun _ _ _=>rfl)) aq bC) (bv bC)) (fun L cs s H fp=>(dG rfl (aL (i:=3) kF rfl (Or.inl rfl)) (aL (i:=4) kF rfl (Or.inl rfl)))) (fun L cs s H fp=>(ni (gQ (br hr) (ag (pv 4)) (EB.of (cn (ae (ah (pv 1)) (ae (ah (pv 2)) aq ab) ab)))))) (fun L cs s H fp=>(ah (pv 3)))))))))
include T fn_check_box in
theorem uM (F:Fun K "between" "between" fC a fd) (hm:mg "between"=some (.ref a)) (hb:Binds K fd ["hall","box","other"] []):Fn P w K mg base C 3 "between" 3 bu :=
 ⟨a,fd,_,bm F uA (fun cdv A outer s H E hr=>so cdv A outer s H E T fn_check_box hr),hm,F.kp,hb⟩
abbrev gv:Stmt:=sAt 27
abbrev pz:List Str:=["hall","places","tie"]
theorem wI:aJ pz ["hall","places","tie"] (ai gv):=by constructor <;> first | rfl | decide +kernel
def kg:Rho->R Out:=(sq (iff (orB (tst (bin fne (una aA (vb 2)) (kd (.int 3)))) (orB (gO (tst (cal 2 aZ (aC (bin fix (vb 2) (kd (.int 0))) (aC (una aA (vb 1)) aN))))) (gO (tst (cal 2 aZ (aC (bin fix (vb 2) (kd (.int 1))) (aC (una aA (vb 1)) aN)))))))
 (ret (kd (.bl false)))
 nxt)
 (ret (zV (cal 2 aZ (aC (bin fix (vb 2) (kd (.int 2))) (aC (una aA (una (dH 0) (vb 0))) aN))) (bin feq (bin fix (una (dH 0) (vb 0)) (bin fix (vb 2) (kd (.int 2)))) (eT (aC (bin fix (vb 1) (bin fix (vb 2) (kd (.int 0)))) (aC (bin fix (vb 1) (bin fix (vb 2) (kd (.int 1)))) aN)))))))
def gq (ds:List D):R D:=fin (kg (st0 pz ds))
include T fn_is_below in
theorem ua (hr:Room 1 (A.deeper (envOfC "is_tie" (ai gv) s.heap.objs.size f cdv))) :
  SDs C (bI CX0 P w K mg base pz "is_tie" (ai gv) f cdv A outer s H E).nox (aF gv) kg :=
 (au (bh (lj (i5 (eE (br hr) (EB.of (edl (ag (pv 2)) rfl T.len ab)) (EB.of ak)) (i5 (e_ (dL (aP fn_is_below (hr.mono (by decide)) rfl (ae (aw (ag (pv 2)) (EB.of ak)) (ae (edl (ag (pv 1)) rfl T.len ab) aq ay) aj) rfl (he:=aj) (hpl:=(ar ay ax))))) (ir (e_ (dL (aP fn_is_below (hr.mono (by decide)) rfl (ae (aw (ag (pv 2)) (EB.of ak)) (ae (edl (ag (pv 1)) rfl T.len ab) aq ay) aj) rfl (he:=aj) (hpl:=(ar ay ax)))))))))
 (ao (aY gW))
 aK)
 (ao (aY (u4 (aP fn_is_below (hr.mono (by decide)) rfl (ae (aw (ag (pv 2)) (EB.of ak)) (ae (edl (EB.of (dW (k:=0) (ag (pv 0)) T.cl T.nE rfl (fun _ _ _=>rfl))) rfl T.len bC) aq ay) aj) rfl (he:=aj) (hpl:=(ar ay ax))) (u0 (wm (br hr) (EB.of (aw (EB.of (dW (k:=0) (ag (pv 0)) T.cl T.nE rfl (fun _ _ _=>rfl))) (EB.of (aw (ag (pv 2)) (EB.of ak))))) (EB.of (cn (ae (aw (ag (pv 1)) (EB.of (aw (ag (pv 2)) (EB.of ak)))) (ae (aw (ag (pv 1)) (EB.of (aw (ag (pv 2)) (EB.of ak)))) aq aj) aj)))))))))
include T fn_is_below in
theorem wV (F:Fun K "is_tie" "is_tie" gv a fd) (hm:mg "is_tie"=some (.ref a)) (hb:Binds K fd ["hall","places","tie"] []):Fn P w K mg base C 2 "is_tie" 3 gq :=
 ⟨a,fd,_,bm F wI (fun cdv A outer s H E hr=>ua cdv A outer s H E T fn_is_below hr),hm,F.kp,hb⟩
abbrev bT:Stmt:=sAt 26
abbrev gi:List Str:=["hall","places","ties","place","box","number","tie"]
theorem sc_check_picture:aJ gi ["hall","places","ties"] (ai bT):=by constructor <;> first | rfl | decide +kernel
def fo:Rho->R Out:=(sq (iff (orB (tst (bin (iI fgt) (una aA (vb 1)) (kd (.int 3)))) (tst (bin (iI fgt) (una aA (vb 2)) (kd (.int 4)))))
 bad
 nxt)
 (sq (bn (fu (aC (vr 1) aN)) (tg2 3 4)
 (iff (gO (tst (cal 2 aZ (aC (vr 4) (aC (una aA (una (dH 1) (vb 0))) aN)))))
 bad
 nxt))
 (bn (fu (aC (vr 2) aN)) (tg2 5 6)
 (iff (gO (tst (cal 3 gq (aC (vr 0) (aC (vr 1) (aC (vr 6) aN))))))
 bad
 nxt))))
def bY (ds:List D):R D:=fin (fo (st0 gi ds))
variable (fn_is_tie:Fn P w K mg base C 2 "is_tie" 3 gq)
include T fn_is_below fn_is_tie in
theorem ki (hr:Room 2 (A.deeper (envOfC "check_picture" (ai bT) s.heap.objs.size f cdv))) :
  SDs C (bI CX0 P w K mg base gi "check_picture" (ai bT) f cdv A outer s H E).nox (aF bT) fo :=
 (au (bh (lj (i5 (nB (EB.of (edl (ag (pv 1)) rfl T.len ab)) (EB.of (kS rfl T.most_places.choose_spec))) (ir (nB (EB.of (edl (ag (pv 2)) rfl T.len ab)) (EB.of (kS rfl T.most_ties.choose_spec))))))
 (ao eO)
 aK)
 (au (bf PassesOwn.never rfl (cU rfl T.enumerate (ae (ah (pv 1)) aq ab) (bv ab)) (dG rfl (aL (i:=3) sc_check_picture.nd rfl (Or.inl rfl)) (aL (i:=4) sc_check_picture.nd rfl (Or.inl rfl)))
 (ao (bh (e_ (dL (aP fn_is_below (hr.mono (by decide)) rfl (ae (ah (pv 4)) (ae (edl (EB.of (dW (k:=1) (ag (pv 0)) T.cl T.nR rfl (fun _ _ _=>rfl))) rfl T.len bC) aq ay) ab) rfl (he:=ab) (hpl:=(ar ay ax)))))
 (ao eO)
 aK)))
 (ao (bf PassesOwn.never rfl (cU rfl T.enumerate (ae (ah (pv 2)) aq ab) (bv ab)) (dG rfl (aL (i:=5) sc_check_picture.nd rfl (Or.inl rfl)) (aL (i:=6) sc_check_picture.nd rfl (Or.inl rfl)))
 (ao (bh (e_ (dL (aP fn_is_tie (hr.mono (by decide)) rfl (ae (ah (pv 0)) (ae (ah (pv 1)) (ae (ah (pv 6)) aq ab) ab) ab) rfl (he:=ab) (hpl:=(ar ab (ar ab ax))))))
 (ao eO)
 aK))))))
include T fn_is_below fn_is_tie in
theorem lF (F:Fun K "check_picture" "check_picture" bT a fd) (hm:mg "check_picture"=some (.ref a)) (hb:Binds K fd ["hall","places","ties"] []):Fn P w K mg base C 3 "check_picture" 3 bY :=
 ⟨a,fd,_,bm F sc_check_picture (fun cdv A outer s H E hr=>ki cdv A outer s H E T fn_is_below fn_is_tie hr),hm,F.kp,hb⟩
abbrev dR:Stmt:=sAt 28
abbrev jI:List Str:=["hall","arrows","tie"]
theorem qM:aJ jI ["hall","arrows","tie"] (ai dR):=by constructor <;> first | rfl | decide +kernel
def hJ:Rho->R Out:=(ret (bin feq (bin fix (bin fix (una (dH 2) (vb 0)) (bin fix (vb 1) (bin fix (vb 2) (kd (.int 0))))) (bin fix (vb 2) (kd (.int 2)))) (bin fix (vb 1) (bin fix (vb 2) (kd (.int 1))))))
def dv (ds:List D):R D:=fin (hJ (st0 jI ds))
include T in
theorem pi (hr:Room 0 (A.deeper (envOfC "keeps_tie" (ai dR) s.heap.objs.size f cdv))) :
  SDs C (bI CX0 P w K mg base jI "keeps_tie" (ai dR) f cdv A outer s H E).nox (aF dR) hJ :=
 (ao (aY (wm (br hr) (EB.of (aw (EB.of (aw (EB.of (dW (k:=2) (ag (pv 0)) T.cl T.nT rfl (fun _ _ _=>rfl))) (EB.of (aw (ag (pv 1)) (EB.of (aw (ag (pv 2)) (EB.of ak))))))) (EB.of (aw (ag (pv 2)) (EB.of ak))))) (EB.of (aw (ag (pv 1)) (EB.of (aw (ag (pv 2)) (EB.of ak))))))))
include T in
theorem rz (F:Fun K "keeps_tie" "keeps_tie" dR a fd) (hm:mg "keeps_tie"=some (.ref a)) (hb:Binds K fd ["hall","arrows","tie"] []):Fn P w K mg base C 1 "keeps_tie" 3 dv :=
 ⟨a,fd,_,bm F qM (fun cdv A outer s H E hr=>pi cdv A outer s H E T hr),hm,F.kp,hb⟩
abbrev iB:Stmt:=sAt 30
abbrev sw:List Str:=["hall","begun","arrows","due","longer","told","arrow","more"]
theorem sc_grown:aJ sw ["hall","begun","arrows","due"] (ai iB):=by constructor <;> first | rfl | decide +kernel
abbrev Nc_grown_0:List Str:=["hall","begun","arrows","due","longer","told","arrow","more","tie"]
theorem uI:Nc_grown_0.Nodup:=by decide +kernel
def lP:Rho->R D:=(sqK (trS 4 (.l (.l .s)) (eLs (fU aN)))
 (sqK (bn (fIt (vr 1)) (tgN 5)
 (bn (fIt (vr 2)) (tgN 6)
 (sq (trS 7 (.l .s) (eLs (flL (xg (vb 5) (eL (aC (vr 6) aN))))))
 (iff (tst (una rN (eLs (bo (fIt (vr 3)) 1 (tgN 8) tT (flF (cal 3 dv (aC (vb 0) (aC (va 7) (aC (vb 8) aN)))))))))
 (asO (apM 4 7 (.l .s) (pN0 4)))
 nxt))))
 (rtK 4 (.l (.l .s)))))
def fR (ds:List D):R D:=lP (st0 sw ds)
variable (fn_keeps_tie:Fn P w K mg base C 1 "keeps_tie" 3 dv)
include T fn_keeps_tie in
theorem u9 (hr:Room 1 (A.deeper (envOfC "grown" (ai iB) s.heap.objs.size f cdv))) :
  vg C (bI CX0 P w K mg base sw "grown" (ai iB) f cdv A outer s H E).nox (.l (.l .s)) (aF iB) lP :=
 (kx (qK (i:=4) sc_grown.nd rfl (Or.inl rfl) DE)
 (kx (bf PassesOwn.never rfl (bz (ah (pv 1))) (aM (i:=5) sc_grown.nd rfl (Or.inl rfl))
 (ao (bf PassesOwn.never rfl (bz (ah (pv 2))) (aM (i:=6) sc_grown.nd rfl (Or.inl rfl))
 (au (qK (i:=7) sc_grown.nd rfl (Or.inr rfl) (B3 (E_ (DR (jp (ag (pv 5))) (jp (EB.of (cq (ae (ah (pv 6)) aq ab))))))))
 (ao (bh (dL (zE rfl rfl T.all bX (EB.of (cA (dl (N':=Nc_grown_0) (n:=1) rfl rfl rfl (gP 8) cB (bz (ah (pv 3))) (fun L cs s H fp=>(aM (i:=8) uI rfl (Or.inl rfl))) (fun L cs s H fp=>bS) (fun L cs s H fp=>(wl (B7 fn_keeps_tie (hr.mono (by decide)) rfl (eN (jp (ag (pv 0))) (eN (uX (pv 7)) (eN (jp (ag (pv 8))) u_ ab) ab) ab) (he:=ab) (hpl:=(ar ab (ar ab ax)))))))))))
 (ao (Ev (xV (k':=(.l .s)) (vM (pv 4)) (pv 7) (hst:=ab))))
 aK))))))
 (sE (pv 4))))
include T fn_keeps_tie in
theorem yJ (F:Fun K "grown" "grown" iB a fd) (hm:mg "grown"=some (.ref a)) (hb:Binds K fd ["hall","begun","arrows","due"] []):FnK P w K mg base C 2 "grown" 4 (.l (.l .s)) fR :=
 ⟨a,fd,_,wt F sc_grown (fun cdv A outer s H E hr=>u9 cdv A outer s H E T fn_keeps_tie hr),hm,F.kp,hb⟩
abbrev db:Stmt:=sAt 29
abbrev iZ:List Str:=["hall","places","ties","box","begun","place","goal","due"]
theorem sc_views_from:aJ iZ ["hall","places","ties","box"] (ai db):=by constructor <;> first | rfl | decide +kernel
abbrev Nc_views_from_0:List Str:=["hall","places","ties","box","begun","place","goal","due","tie"]
theorem mF:Nc_views_from_0.Nodup:=by decide +kernel
def gE:Rho->R D:=(sqK (trS 4 (.l (.l .s)) (eL1 (eLs (fU aN))))
 (sqK (bn (fu (aC (vr 1) aN)) (tg2 5 6)
 (sq (asg 7 (eLs (bo (fIt (vr 2)) 1 (tgN 8) (tst (bin feq (tX (aC (bin fix (vb 8) (kd (.int 0))) (aC (bin fix (vb 8) (kd (.int 1))) aN))) (vb 5))) (vr 8))))
 (trS 4 (.l (.l .s)) (flK (.l (.l .s)) (cal 4 fR (aC (vb 0) (aC (va 4) (aC (cal 3 bu (aC (vr 0) (aC (vr 3) (aC (vr 6) aN)))) (aC (vb 7) aN)))))))))
 (rtK 4 (.l (.l .s)))))
def cN (ds:List D):R D:=gE (st0 iZ ds)
variable (fn_between:Fn P w K mg base C 3 "between" 3 bu)
variable (fn_grown:FnK P w K mg base C 2 "grown" 4 (.l (.l .s)) fR)
include T fn_between fn_grown in
theorem mS (hr:Room 3 (A.deeper (envOfC "views_from" (ai db) s.heap.objs.size f cdv))) :
  vg C (bI CX0 P w K mg base iZ "views_from" (ai db) f cdv A outer s H E).nox (.l (.l .s)) (aF db) gE :=
 (kx (qK (i:=4) sc_views_from.nd rfl (Or.inl rfl) (Ba (B3 (iP aq)) d5))
 (kx (bf PassesOwn.never rfl (cU rfl T.enumerate (ae (ah (pv 1)) aq ab) (bv ab)) (dG rfl (aL (i:=5) sc_views_from.nd rfl (Or.inr rfl)) (aL (i:=6) sc_views_from.nd rfl (Or.inl rfl)))
 (au (iw (dU (i:=7) (aL (i:=7) sc_views_from.nd rfl (Or.inl rfl)) (N':=Nc_views_from_0) (n:=1) rfl rfl rfl (gP 8) cB (bz (ah (pv 2))) (fun L cs s H fp=>(aM (i:=8) mF rfl (Or.inl rfl))) (fun L cs s H fp=>(ni (gQ (br hr) (EB.of (zz rfl (ae (aw (ag (pv 8)) (EB.of ak)) (ae (aw (ag (pv 8)) (EB.of ak)) aq aj) aj) rfl T.max (fun t ha=>gw (lT rfl) rfl T.max boot_max ha (he:=aj) (hpl:=(ar aj ax))))) (ag (pv 5))))) (fun L cs s H fp=>(ah (pv 8))) rfl))
 (ao (qK (i:=4) sc_views_from.nd rfl (Or.inl rfl) (DF fn_grown (hr.mono (by decide)) rfl (eN (jp (ag (pv 0))) (eN (uX (pv 4)) (eN (jp (EB.of (aP fn_between (hr.mono (by decide)) rfl (ae (ah (pv 0)) (ae (ah (pv 3)) (ae (ah (pv 6)) aq ab) ab) ab) rfl (he:=ab) (hpl:=(ar ab (ar ab ax)))))) (eN (jp (ag (pv 7))) u_ ab) ay) ab) ab) (he:=ab) (hpl:=(ar ab (ar ay (ar ab ax)))))))))
 (sE (pv 4))))
include T fn_between fn_grown in
theorem pH (F:Fun K "views_from" "views_from" db a fd) (hm:mg "views_from"=some (.ref a)) (hb:Binds K fd ["hall","places","ties","box"] []):FnK P w K mg base C 4 "views_from" 4 (.l (.l .s)) cN :=
 ⟨a,fd,_,wt F sc_views_from (fun cdv A outer s H E hr=>mS cdv A outer s H E T fn_between fn_grown hr),hm,F.kp,hb⟩
abbrev cC:Stmt:=sAt 31
abbrev hW:List Str:=["hall","arrow","arrows"]
theorem nH:aJ hW ["hall","arrow","arrows"] (ai cC):=by constructor <;> first | rfl | decide +kernel
abbrev Nc_made_behind_0:List Str:=["hall","arrow","arrows","other"]
theorem lv:Nc_made_behind_0.Nodup:=by decide +kernel
def fW:Rho->R Out:=(ret (eLs (bo (fIt (vr 2)) 1 (tgN 3) tT (bin fix (bin fix (una (dH 2) (vb 0)) (vb 1)) (vb 3)))))
def bj (ds:List D):R D:=fin (fW (st0 hW ds))
include T in
theorem lU (hr:Room 0 (A.deeper (envOfC "made_behind" (ai cC) s.heap.objs.size f cdv))) :
  SDs C (bI CX0 P w K mg base hW "made_behind" (ai cC) f cdv A outer s H E).nox (aF cC) fW :=
 (ao (aY (cA (dl (N':=Nc_made_behind_0) (n:=1) rfl rfl rfl (gP 3) cB (bz (ah (pv 2))) (fun L cs s H fp=>(aM (i:=3) lv rfl (Or.inl rfl))) (fun L cs s H fp=>bS) (fun L cs s H fp=>(aw (EB.of (aw (EB.of (dW (k:=2) (ag (pv 0)) T.cl T.nT rfl (fun _ _ _=>rfl))) (ag (pv 1)))) (ag (pv 3))))))))
include T in
theorem n_ (F:Fun K "made_behind" "made_behind" cC a fd) (hm:mg "made_behind"=some (.ref a)) (hb:Binds K fd ["hall","arrow","arrows"] []):Fn P w K mg base C 1 "made_behind" 3 bj :=
 ⟨a,fd,_,bm F nH (fun cdv A outer s H E hr=>lU cdv A outer s H E T hr),hm,F.kp,hb⟩
abbrev cG:Stmt:=sAt 32
abbrev h7:List Str:=["hall","seen","box"]
theorem nJ:aJ h7 ["hall","seen","box"] (ai cG):=by constructor <;> first | rfl | decide +kernel
abbrev Nc_has_as_many_0:List Str:=["hall","seen","box","start","lists"]
theorem ie:Nc_has_as_many_0.Nodup:=by decide +kernel
def f_:Rho->R Out:=(ret (una rN (eLs (bo (fu (aC (vr 1) aN)) 2 (tg2 3 4) tT (bin feq (una aA (cal 3 bu (aC (vr 0) (aC (vr 3) (aC (vr 2) aN))))) (una aA (vb 4)))))))
def cg (ds:List D):R D:=fin (f_ (st0 h7 ds))
include T fn_between in
theorem lY (hr:Room 3 (A.deeper (envOfC "has_as_many" (ai cG) s.heap.objs.size f cdv))) :
  SDs C (bI CX0 P w K mg base h7 "has_as_many" (ai cG) f cdv A outer s H E).nox (aF cG) f_ :=
 (ao (aY (zE rfl rfl T.all bX (EB.of (cA (dl (N':=Nc_has_as_many_0) (n:=2) rfl rfl rfl (E5 3) xP (cU rfl T.enumerate (ae (ah (pv 1)) aq ab) (bv ab)) (fun L cs s H fp=>(dG rfl (aL (i:=3) ie rfl (Or.inl rfl)) (aL (i:=4) ie rfl (Or.inl rfl)))) (fun L cs s H fp=>bS) (fun L cs s H fp=>(wm (br hr) (EB.of (edl (EB.of (aP fn_between (hr.mono (by decide)) rfl (ae (ah (pv 0)) (ae (ah (pv 3)) (ae (ah (pv 2)) aq ab) ab) ab) rfl (he:=ab) (hpl:=(ar ab (ar ab ax))))) rfl T.len ay)) (EB.of (edl (ag (pv 4)) rfl T.len ab))))))))))
include T fn_between in
theorem oi (F:Fun K "has_as_many" "has_as_many" cG a fd) (hm:mg "has_as_many"=some (.ref a)) (hb:Binds K fd ["hall","seen","box"] []):Fn P w K mg base C 4 "has_as_many" 3 cg :=
 ⟨a,fd,_,bm F nJ (fun cdv A outer s H E hr=>lY cdv A outer s H E T fn_between hr),hm,F.kp,hb⟩
abbrev fB:Stmt:=sAt 33
abbrev mn:List Str:=["hall","seen","box","arrows","start","lists","made"]
theorem sc_is_best:aJ mn ["hall","seen","box","arrows"] (ai fB):=by constructor <;> first | rfl | decide +kernel
abbrev Nc_is_best_0:List Str:=["hall","seen","box","arrows","start","lists","made","arrow"]
theorem rd:Nc_is_best_0.Nodup:=by decide +kernel
def ju:Rho->R Out:=(sq (bn (fu (aC (vr 1) aN)) (tg2 4 5)
 (sq (asg 6 (eLs (bo (fIt (cal 3 bu (aC (vr 0) (aC (vr 4) (aC (vr 2) aN))))) 1 (tgN 7) tT (cal 3 bj (aC (vr 0) (aC (vr 7) (aC (vr 3) aN)))))))
 (iff (tst (bin fne (eLs (zj (vb 6))) (vb 5)))
 (ret (kd (.bl false)))
 nxt)))
 (ret (kd (.bl true))))
def dY (ds:List D):R D:=fin (ju (st0 mn ds))
variable (fn_made_behind:Fn P w K mg base C 1 "made_behind" 3 bj)
include T fn_between fn_made_behind in
theorem sk (hr:Room 3 (A.deeper (envOfC "is_best" (ai fB) s.heap.objs.size f cdv))) :
  SDs C (bI CX0 P w K mg base mn "is_best" (ai fB) f cdv A outer s H E).nox (aF fB) ju :=
 (au (bf PassesOwn.never rfl (cU rfl T.enumerate (ae (ah (pv 1)) aq ab) (bv ab)) (dG rfl (aL (i:=4) sc_is_best.nd rfl (Or.inl rfl)) (aL (i:=5) sc_is_best.nd rfl (Or.inl rfl)))
 (au (iw (dU (i:=6) (aL (i:=6) sc_is_best.nd rfl (Or.inl rfl)) (N':=Nc_is_best_0) (n:=1) rfl rfl rfl (gP 7) cB (bz (aP fn_between (hr.mono (by decide)) rfl (ae (ah (pv 0)) (ae (ah (pv 4)) (ae (ah (pv 2)) aq ab) ab) ab) rfl (he:=ab) (hpl:=(ar ab (ar ab ax))))) (fun L cs s H fp=>(aM (i:=7) rd rfl (Or.inl rfl))) (fun L cs s H fp=>bS) (fun L cs s H fp=>(aP fn_made_behind (hr.mono (by decide)) rfl (ae (ah (pv 0)) (ae (ah (pv 7)) (ae (ah (pv 3)) aq ab) ab) ab) rfl (he:=ab) (hpl:=(ar ab (ar ab ax))))) rfl))
 (ao (bh (eE (br hr) (EB.of (cA (xf (br hr) rfl T.sorted ab (ag (pv 6))))) (ag (pv 5)))
 (ao (aY gW))
 aK))))
 (ao (aY gW)))
include T fn_between fn_made_behind in
theorem uK (F:Fun K "is_best" "is_best" fB a fd) (hm:mg "is_best"=some (.ref a)) (hb:Binds K fd ["hall","seen","box","arrows"] []):Fn P w K mg base C 4 "is_best" 4 dY :=
 ⟨a,fd,_,bm F sc_is_best (fun cdv A outer s H E hr=>sk cdv A outer s H E T fn_between fn_made_behind hr),hm,F.kp,hb⟩
abbrev j3:Stmt:=sAt 34
abbrev vk:List Str:=["hall","places","ties","seen","box","lists","arrows"]
theorem sc_best:aJ vk ["hall","places","ties"] (ai j3):=by constructor <;> first | rfl | decide +kernel
abbrev Nc_best_0:List Str:=["hall","places","ties","seen","4.","lists","arrows","box"]
theorem wQ:Nc_best_0.Nodup:=by decide +kernel
def o4:Rho->R Out:=(sq (drp (cal 3 bY (aC (vr 0) (aC (vr 1) (aC (vr 2) aN)))))
 (sq (asg 3 (eLs (bo (bV (aC (una aA (una (dH 1) (vb 0))) aN)) 1 (tgN 7) tT (cal 4 cN (aC (vr 0) (aC (vr 1) (aC (vr 2) (aC (vr 7) aN))))))))
 (sq (bn (fu (aC (vr 3) aN)) (tg2 4 5)
 (iff (tst (cal 3 cg (aC (vr 0) (aC (vr 3) (aC (vr 4) aN)))))
 (bn (fIt (vr 5)) (tgN 6)
 (iff (tst (cal 4 dY (aC (vr 0) (aC (vr 3) (aC (vr 4) (aC (vr 6) aN))))))
 (ret (eT (aC (vr 4) (aC (vr 6) aN))))
 nxt))
 nxt))
 (ret (kd .non)))))
def gX (ds:List D):R D:=fin (o4 (st0 vk ds))
variable (fn_check_picture:Fn P w K mg base C 3 "check_picture" 3 bY)
variable (fn_has_as_many:Fn P w K mg base C 4 "has_as_many" 3 cg)
variable (fn_is_best:Fn P w K mg base C 4 "is_best" 4 dY)
variable (fn_views_from:FnK P w K mg base C 4 "views_from" 4 (.l (.l .s)) cN)
include T fn_check_picture fn_has_as_many fn_is_best fn_views_from in
theorem xu (hr:Room 4 (A.deeper (envOfC "best" (ai j3) s.heap.objs.size f cdv))) :
  SDs C (bI CX0 P w K mg base vk "best" (ai j3) f cdv A outer s H E).nox (aF j3) o4 :=
 (au (iz (EB.of (aP fn_check_picture (hr.mono (by decide)) rfl (ae (ah (pv 0)) (ae (ah (pv 1)) (ae (ah (pv 2)) aq ab) ab) ab) rfl (he:=ab) (hpl:=(ar ab (ar ab ax))))))
 (au (iw (dU (i:=3) (aL (i:=3) sc_best.nd rfl (Or.inl rfl)) (N':=Nc_best_0) (n:=1) rfl rfl rfl (gP 7) cB (bU rfl T.range (ae (edl (EB.of (dW (k:=1) (ag (pv 0)) T.cl T.nR rfl (fun _ _ _=>rfl))) rfl T.len bC) aq ay) (bv ay)) (fun L cs s H fp=>(aM (i:=7) wQ rfl (Or.inl rfl))) (fun L cs s H fp=>bS) (fun L cs s H fp=>(Ff (E1 fn_views_from (hr.mono (by decide)) rfl (ae (ah (pv 0)) (ae (ah (pv 1)) (ae (ah (pv 2)) (ae (ah (pv 7)) aq ab) ab) ab) ab) (he:=ab) (hpl:=(ar ab (ar ab (ar ab ax))))))) rfl))
 (au (bf PassesOwn.never rfl (cU rfl T.enumerate (ae (ah (pv 3)) aq ab) (bv ab)) (dG rfl (aL (i:=4) sc_best.nd rfl (Or.inl rfl)) (aL (i:=5) sc_best.nd rfl (Or.inl rfl)))
 (ao (bh (dL (aP fn_has_as_many (hr.mono (by decide)) rfl (ae (ah (pv 0)) (ae (ah (pv 3)) (ae (ah (pv 4)) aq ab) ab) ab) rfl (he:=ab) (hpl:=(ar ab (ar ab ax)))))
 (ao (bf PassesOwn.never rfl (bz (ah (pv 5))) (aM (i:=6) sc_best.nd rfl (Or.inl rfl))
 (ao (bh (dL (aP fn_is_best (hr.mono (by decide)) rfl (ae (ah (pv 0)) (ae (ah (pv 3)) (ae (ah (pv 4)) (ae (ah (pv 6)) aq ab) ab) ab) ab) rfl (he:=ab) (hpl:=(ar ab (ar ab (ar ab ax))))))
 (ao (aY (cn (ae (ah (pv 4)) (ae (ah (pv 6)) aq ab) ab))))
 aK))))
 aK)))
 (ao (aY rS)))))
include T fn_check_picture fn_has_as_many fn_is_best fn_views_from in
theorem AY (F:Fun K "best" "best" j3 a fd) (hm:mg "best"=some (.ref a)) (hb:Binds K fd ["hall","places","ties"] []):Fn P w K mg base C 5 "best" 3 gX :=
 ⟨a,fd,_,bm F sc_best (fun cdv A outer s H E hr=>xu cdv A outer s H E T fn_check_picture fn_has_as_many fn_is_best fn_views_from hr),hm,F.kp,hb⟩
abbrev fA:Stmt:=sAt 35
abbrev mj:List Str:=["hall","places","ties","box","arrows","told","arrow"]
theorem sc_through:aJ mj ["hall","places","ties","box","arrows"] (ai fA):=by constructor <;> first | rfl | decide +kernel
def jt:Rho->R Out:=(sq (asg 5 (cal 3 gX (aC (vr 0) (aC (vr 1) (aC (vr 2) aN)))))
 (sq (drp (cal 2 bL (aC (vr 0) (aC (vr 3) aN))))
 (sq (iff (tst (una (fun d=>.val (jW d)) (vb 5)))
 (ret (kd .non))
 nxt)
 (sq (bn (fIt (cal 3 bu (aC (vr 0) (aC (vr 3) (aC (bin fix (vb 5) (kd (.int 0))) aN))))) (tgN 6)
 (iff (tst (bin feq (cal 3 bj (aC (vr 0) (aC (vr 6) (aC (bin fix (vb 5) (kd (.int 1))) aN)))) (vb 4)))
 (ret (vr 6))
 nxt))
 (ret (kd .non))))))
def dm (ds:List D):R D:=fin (jt (st0 mj ds))
variable (fn_best:Fn P w K mg base C 5 "best" 3 gX)
include T fn_check_box fn_between fn_made_behind fn_best in
theorem si (hr:Room 5 (A.deeper (envOfC "through" (ai fA) s.heap.objs.size f cdv))) :
  SDs C (bI CX0 P w K mg base mj "through" (ai fA) f cdv A outer s H E).nox (aF fA) jt :=
 (au (bp (i:=5) sc_through.nd rfl (Or.inl rfl) (aP fn_best (hr.mono (by decide)) rfl (ae (ah (pv 0)) (ae (ah (pv 1)) (ae (ah (pv 2)) aq ab) ab) ab) rfl (he:=ab) (hpl:=(ar ab (ar ab ax)))))
 (au (iz (EB.of (aP fn_check_box (hr.mono (by decide)) rfl (ae (ah (pv 0)) (ae (ah (pv 3)) aq ab) ab) rfl (he:=ab) (hpl:=(ar ab ax)))))
 (au (bh (xQ (ag (pv 5)))
 (ao (aY rS))
 aK)
 (au (bf PassesOwn.never rfl (bz (aP fn_between (hr.mono (by decide)) rfl (ae (ah (pv 0)) (ae (ah (pv 3)) (ae (aw (ag (pv 5)) (EB.of ak)) aq aj) ab) ab) rfl (he:=ab) (hpl:=(ar ab (ar aj ax))))) (aM (i:=6) sc_through.nd rfl (Or.inl rfl))
 (ao (bh (gQ (br hr) (EB.of (aP fn_made_behind (hr.mono (by decide)) rfl (ae (ah (pv 0)) (ae (ah (pv 6)) (ae (aw (ag (pv 5)) (EB.of ak)) aq aj) ab) ab) rfl (he:=ab) (hpl:=(ar ab (ar aj ax))))) (ag (pv 4)))
 (ao (aY (ah (pv 6))))
 aK)))
 (ao (aY rS))))))
include T fn_check_box fn_between fn_made_behind fn_best in
theorem uJ (F:Fun K "through" "through" fA a fd) (hm:mg "through"=some (.ref a)) (hb:Binds K fd ["hall","places","ties","box","arrows"] []):Fn P w K mg base C 6 "through" 5 dm :=
 ⟨a,fd,_,bm F sc_through (fun cdv A outer s H E hr=>si cdv A outer s H E T fn_check_box fn_between fn_made_behind fn_best hr),hm,F.kp,hb⟩
abbrev bE:Stmt:=sAt 37
abbrev fq:List Str:=["hall","one","other"]
theorem j0:aJ fq ["hall","one","other"] (ai bE):=by constructor <;> first | rfl | decide +kernel
def eC:Rho->R Out:=(ret (zV (bin (fh false) (bin fix (bin fix (una (dH 2) (vb 0)) (vb 1)) (vb 2)) (una (dH 1) (vb 0))) (bin (fh false) (bin fix (bin fix (una (dH 2) (vb 0)) (vb 2)) (vb 1)) (una (dH 1) (vb 0)))))
def bB (ds:List D):R D:=fin (eC (st0 fq ds))
include T in
theorem jB (hr:Room 0 (A.deeper (envOfC "undo_each_other" (ai bE) s.heap.objs.size f cdv))) :
  SDs C (bI CX0 P w K mg base fq "undo_each_other" (ai bE) f cdv A outer s H E).nox (aF bE) eC :=
 (ao (aY (u4 (B9 (br hr) (EB.of (aw (EB.of (aw (EB.of (dW (k:=2) (ag (pv 0)) T.cl T.nT rfl (fun _ _ _=>rfl))) (ag (pv 1)))) (ag (pv 2)))) (EB.of (dW (k:=1) (ag (pv 0)) T.cl T.nR rfl (fun _ _ _=>rfl)))) (u0 (B9 (br hr) (EB.of (aw (EB.of (aw (EB.of (dW (k:=2) (ag (pv 0)) T.cl T.nT rfl (fun _ _ _=>rfl))) (ag (pv 2)))) (ag (pv 1)))) (EB.of (dW (k:=1) (ag (pv 0)) T.cl T.nR rfl (fun _ _ _=>rfl))))))))
include T in
theorem j5 (F:Fun K "undo_each_other" "undo_each_other" bE a fd) (hm:mg "undo_each_other"=some (.ref a)) (hb:Binds K fd ["hall","one","other"] []):Fn P w K mg base C 1 "undo_each_other" 3 bB :=
 ⟨a,fd,_,bm F j0 (fun cdv A outer s H E hr=>jB cdv A outer s H E T hr),hm,F.kp,hb⟩
abbrev gu:Stmt:=sAt 38
abbrev pw:List Str:=["hall","arrow","other"]
theorem sc_undone:aJ pw ["hall","arrow"] (ai gu):=by constructor <;> first | rfl | decide +kernel
def kf:Rho->R Out:=(sq (drp (cal 2 c_ (aC (vr 0) (aC (vr 1) aN))))
 (sq (bn (bV (aC (una aA (una (dH 0) (vb 0))) aN)) (tgN 2)
 (iff (tst (cal 3 bB (aC (vr 0) (aC (vr 1) (aC (vr 2) aN)))))
 (ret (vr 2))
 nxt))
 (ret (kd .non))))
def dC (ds:List D):R D:=fin (kf (st0 pw ds))
variable (fn_check_arrow:Fn P w K mg base C 2 "check_arrow" 2 c_)
variable (fn_undo_each_other:Fn P w K mg base C 1 "undo_each_other" 3 bB)
include T fn_check_arrow fn_undo_each_other in
theorem t_ (hr:Room 2 (A.deeper (envOfC "undone" (ai gu) s.heap.objs.size f cdv))) :
  SDs C (bI CX0 P w K mg base pw "undone" (ai gu) f cdv A outer s H E).nox (aF gu) kf :=
 (au (iz (EB.of (aP fn_check_arrow (hr.mono (by decide)) rfl (ae (ah (pv 0)) (ae (ah (pv 1)) aq ab) ab) rfl (he:=ab) (hpl:=(ar ab ax)))))
 (au (bf PassesOwn.never rfl (bU rfl T.range (ae (edl (EB.of (dW (k:=0) (ag (pv 0)) T.cl T.nE rfl (fun _ _ _=>rfl))) rfl T.len bC) aq ay) (bv ay)) (aM (i:=2) sc_undone.nd rfl (Or.inl rfl))
 (ao (bh (dL (aP fn_undo_each_other (hr.mono (by decide)) rfl (ae (ah (pv 0)) (ae (ah (pv 1)) (ae (ah (pv 2)) aq ab) ab) ab) rfl (he:=ab) (hpl:=(ar ab (ar ab ax)))))
 (ao (aY (ah (pv 2))))
 aK)))
 (ao (aY rS))))
include T fn_check_arrow fn_undo_each_other in
theorem wU (F:Fun K "undone" "undone" gu a fd) (hm:mg "undone"=some (.ref a)) (hb:Binds K fd ["hall","arrow"] []):Fn P w K mg base C 3 "undone" 2 dC :=
 ⟨a,fd,_,bm F sc_undone (fun cdv A outer s H E hr=>t_ cdv A outer s H E T fn_check_arrow fn_undo_each_other hr),hm,F.kp,hb⟩
abbrev eU:Stmt:=sAt 40
abbrev kt:List Str:=["script","k","base"]
theorem sc_law_cell:aJ kt ["script","k"] (ai eU):=by constructor <;> first | rfl | decide +kernel
def iW:Rho->R Out:=(sq (iff (tst (bin (iI flt) (vb 1) (una aA (vb 0))))
 (ret (bin fix (vb 0) (vb 1)))
 nxt)
 (sq (asg 2 (kd (.int 0)))
 (sq (iff (tst (bin (iI fgt) (una aA (vb 0)) (kd (.int 0))))
 (asg 2 (bin fix (vb 0) (kd (.int 0))))
 nxt)
 (ret (bin (iI aV) (bin bH (bin (iI fE) (bin (iI aV) (vb 2) (kd (.int 65521))) (kd (.int 48271))) (bin (iI fE) (vb 1) (kd (.int 30103)))) (kd (.int 65521)))))))
def av (ds:List D):R D:=fin (iW (st0 kt ds))
include T in
theorem pZ (hr:Room 0 (A.deeper (envOfC "_law_cell" (ai eU) s.heap.objs.size f cdv))) :
  SDs C (bI CX0 P w K mg base kt "_law_cell" (ai eU) f cdv A outer s H E).nox (aF eU) iW :=
 (au (bh (BS (ag (pv 1)) (EB.of (edl (ag (pv 0)) rfl T.len ab)))
 (ao (aY (aw (ag (pv 0)) (ag (pv 1)))))
 aK)
 (au (bp (i:=2) sc_law_cell.nd rfl (Or.inl rfl) ak)
 (au (bh (nB (EB.of (edl (ag (pv 0)) rfl T.len ab)) (EB.of ak))
 (ao (bp (i:=2) sc_law_cell.nd rfl (Or.inl rfl) (aw (ag (pv 0)) (EB.of ak))))
 aK)
 (ao (aY (bW (EB.of (cW (EB.of (j_ (EB.of (bW (ag (pv 2)) (EB.of ak))) (EB.of ak))) (EB.of (j_ (ag (pv 1)) (EB.of ak))))) (EB.of ak)))))))
include T in
theorem sY (F:Fun K "_law_cell" "_law_cell" eU a fd) (hm:mg "_law_cell"=some (.ref a)) (hb:Binds K fd ["script","k"] []):Fn P w K mg base C 1 "_law_cell" 2 av :=
 ⟨a,fd,_,bm F sc_law_cell (fun cdv A outer s H E hr=>pZ cdv A outer s H E T hr),hm,F.kp,hb⟩
abbrev dM:Stmt:=sAt 41
abbrev jD:List Str:=["found"]
theorem qL:aJ jD ["found"] (ai dM):=by constructor <;> first | rfl | decide +kernel
def g8:Rho->R Out:=(ret (zV (una (DT "int") (vb 0)) (ES (una (DT "bool") (vb 0)))))
def dn (ds:List D):R D:=fin (g8 (st0 jD ds))
include T in
theorem o9 (hr:Room 0 (A.deeper (envOfC "_law_whole" (ai dM) s.heap.objs.size f cdv))) :
  SDs C (bI CX0 P w K mg base jD "_law_whole" (ai dM) f cdv A outer s H E).nox (aF dM) g8 :=
 (ao (aY (u4 (zA T.kt_int rfl T.isinstance rfl T.int BK (ag (pv 0)) ab) (u0 (DZ (zA T.kt_bool rfl T.isinstance rfl T.bool zS (ag (pv 0)) ab))))))
include T in
theorem rg (F:Fun K "_law_whole" "_law_whole" dM a fd) (hm:mg "_law_whole"=some (.ref a)) (hb:Binds K fd ["found"] []):Fn P w K mg base C 1 "_law_whole" 1 dn :=
 ⟨a,fd,_,bm F qL (fun cdv A outer s H E hr=>o9 cdv A outer s H E T hr),hm,F.kp,hb⟩
abbrev eR:Stmt:=sAt 42
abbrev km:List Str:=["step"]
theorem sF:aJ km ["step"] (ai eR):=by constructor <;> first | rfl | decide +kernel
def iU:Rho->R Out:=(ret (bin (iI aV) (bin bH (bin (iI fE) (vb 0) (kd (.int 48271))) (kd (.int 11))) (kd (.int 2147483647))))
def aR (ds:List D):R D:=fin (iU (st0 km ds))
include T in
theorem pX (hr:Room 0 (A.deeper (envOfC "_law_next" (ai eR) s.heap.objs.size f cdv))) :
  SDs C (bI CX0 P w K mg base km "_law_next" (ai eR) f cdv A outer s H E).nox (aF eR) iU :=
 (ao (aY (bW (EB.of (cW (EB.of (j_ (ag (pv 0)) (EB.of ak))) (EB.of ak))) (EB.of ak))))
include T in
theorem sW (F:Fun K "_law_next" "_law_next" eR a fd) (hm:mg "_law_next"=some (.ref a)) (hb:Binds K fd ["step"] []):Fn P w K mg base C 1 "_law_next" 1 aR :=
 ⟨a,fd,_,bm F sF (fun cdv A outer s H E hr=>pX cdv A outer s H E T hr),hm,F.kp,hb⟩
abbrev dO:Stmt:=sAt 43
abbrev jF:List Str:=["script","k","cell","way"]
theorem sc_law_sizes:aJ jF ["script","k"] (ai dO):=by constructor <;> first | rfl | decide +kernel
abbrev Nc_law_sizes_0:List Str:=["script","k","cell","way","box"]
theorem n0:Nc_law_sizes_0.Nodup:=by decide +kernel
def g_:Rho->R Out:=(sq (asg 2 (cal 2 av (aC (vr 0) (aC (vr 1) aN))))
 (sq (asg 3 (bin (iI aV) (vb 2) (kd (.int 4))))
 (sq (iff (tst (bin feq (vb 3) (kd (.int 0))))
 (ret (eLs (bo (bV (aC (bin bH (kd (.int 1)) (bin (iI aV) (bin (iI eG) (vb 2) (kd (.int 4))) (kd (.int 4)))) aN)) 1 (tgN 4) tT (kd (.int 1)))))
 nxt)
 (sq (iff (tst (bin feq (vb 3) (kd (.int 1))))
 (ret (bin fix (eL (aC (eL (aC (kd (.int 1)) (aC (kd (.int 2)) aN))) (aC (eL (aC (kd (.int 2)) (aC (kd (.int 1)) aN))) (aC (eL (aC (kd (.int 2)) (aC (kd (.int 2)) aN))) (aC (eL (aC (kd (.int 0)) (aC (kd (.int 2)) aN))) (aC (eL (aC (kd (.int 2)) aN)) (aC (eL (aC (kd (.int 1)) aN)) aN))))))) (bin (iI aV) (bin (iI eG) (vb 2) (kd (.int 4))) (kd (.int 6)))))
 nxt)
 (sq (iff (tst (bin feq (vb 3) (kd (.int 2))))
 (ret (eL (aC (kd (.int 3)) aN)))
 nxt)
 (ret (bin fix (eL (aC (eL (aC (kd (.int 1)) (aC (kd (.int 1)) (aC (kd (.int 2)) aN)))) (aC (eL (aC (kd (.int 0)) (aC (kd (.int 1)) (aC (kd (.int 2)) aN)))) (aC (eL (aC (kd (.int 1)) (aC (kd (.int 2)) (aC (kd (.int 2)) aN)))) (aC (eL (aC (kd (.int 2)) (aC (kd (.int 1)) (aC (kd (.int 0)) aN)))) (aC (eL (aC (kd (.int 2)) (aC (kd (.int 2)) aN))) aN)))))) (bin (iI aV) (bin (iI eG) (vb 2) (kd (.int 4))) (kd (.int 5))))))))))
def d6 (ds:List D):R D:=fin (g_ (st0 jF ds))
variable (fn_law_cell:Fn P w K mg base C 1 "_law_cell" 2 av)
include T fn_law_cell in
theorem pc (hr:Room 1 (A.deeper (envOfC "_law_sizes" (ai dO) s.heap.objs.size f cdv))) :
  SDs C (bI CX0 P w K mg base jF "_law_sizes" (ai dO) f cdv A outer s H E).nox (aF dO) g_ :=
 (au (bp (i:=2) sc_law_sizes.nd rfl (Or.inl rfl) (aP fn_law_cell (hr.mono (by decide)) rfl (ae (ah (pv 0)) (ae (ah (pv 1)) aq ab) ab) rfl (he:=ab) (hpl:=(ar ab ax))))
 (au (bp (i:=3) sc_law_sizes.nd rfl (Or.inl rfl) (bW (ag (pv 2)) (EB.of ak)))
 (au (bh (gQ (br hr) (ag (pv 3)) (EB.of ak))
 (ao (aY (cA (dl (N':=Nc_law_sizes_0) (n:=1) rfl rfl rfl (gP 4) cB (bU rfl T.range (ae (cW (EB.of ak) (EB.of (bW (EB.of (gj (ag (pv 2)) (EB.of ak))) (EB.of ak)))) aq aT) (bv aT)) (fun L cs s H fp=>(aM (i:=4) n0 rfl (Or.inl rfl))) (fun L cs s H fp=>bS) (fun L cs s H fp=>ak)))))
 aK)
 (au (bh (gQ (br hr) (ag (pv 3)) (EB.of ak))
 (ao (aY (aw (EB.of (cq (ae (cq (ae ak (ae ak aq aD) aD)) (ae (cq (ae ak (ae ak aq aD) aD)) (ae (cq (ae ak (ae ak aq aD) aD)) (ae (cq (ae ak (ae ak aq aD) aD)) (ae (cq (ae ak aq aD)) (ae (cq (ae ak aq aD)) aq d5) d5) d5) d5) d5) d5))) (EB.of (bW (EB.of (gj (ag (pv 2)) (EB.of ak))) (EB.of ak))))))
 aK)
 (au (bh (gQ (br hr) (ag (pv 3)) (EB.of ak))
 (ao (aY (cq (ae ak aq aD))))
 aK)
 (ao (aY (aw (EB.of (cq (ae (cq (ae ak (ae ak (ae ak aq aD) aD) aD)) (ae (cq (ae ak (ae ak (ae ak aq aD) aD) aD)) (ae (cq (ae ak (ae ak (ae ak aq aD) aD) aD)) (ae (cq (ae ak (ae ak (ae ak aq aD) aD) aD)) (ae (cq (ae ak (ae ak aq aD) aD)) aq d5) d5) d5) d5) d5))) (EB.of (bW (EB.of (gj (ag (pv 2)) (EB.of ak))) (EB.of ak)))))))))))
include T fn_law_cell in
theorem rj (F:Fun K "_law_sizes" "_law_sizes" dO a fd) (hm:mg "_law_sizes"=some (.ref a)) (hb:Binds K fd ["script","k"] []):Fn P w K mg base C 2 "_law_sizes" 2 d6 :=
 ⟨a,fd,_,bm F sc_law_sizes (fun cdv A outer s H E hr=>pc cdv A outer s H E T fn_law_cell hr),hm,F.kp,hb⟩
abbrev df:Stmt:=sAt 44
abbrev i0:List Str:=["known","met","arrow","at","other","first","second","made"]
theorem sc_law_closed:aJ i0 ["known"] (ai df):=by constructor <;> first | rfl | decide +kernel
abbrev Nc_law_closed_0:List Str:=["known","met","arrow","at","other","first","second","made","x"]
theorem mG:Nc_law_closed_0.Nodup:=by decide +kernel
def gF:Rho->R Out:=(sq (zG 1)
 (sq (oH 0 2 1)
 (sq (asg 3 (kd (.int 0)))
 (sq (whD (tst (bin (iI flt) (vb 3) (una aA (vb 0))))
 (sq (bn (fIt (eLs (fIt (vb 0)))) (tgN 4)
 (bn (fIt (eL (aC (eT (aC (bin fix (vb 0) (vb 3)) (aC (vr 4) aN))) (aC (eT (aC (vr 4) (aC (bin fix (vb 0) (vb 3)) aN))) aN)))) (tg2 5 6)
 (iff (tst (bin feq (bin fix (vb 5) (kd (.int 1))) (bin fix (vb 6) (kd (.int 0)))))
 (sq (asg 7 (eT (aC (bin fix (vb 5) (kd (.int 0))) (aC (bin fix (vb 6) (kd (.int 1))) (aC (una kM (eLs (bo (fIt (bin fix (vb 5) (kd (.int 2)))) 1 (tgN 8) tT (bin fix (bin fix (vb 6) (kd (.int 2))) (vb 8))))) aN)))))
 (iff (zF 1 (vr 7))
 (sq (rT 1 (vr 7) (kd (.bl true)))
 (app 0 (vr 7)))
 nxt))
 nxt)))
 (asg 3 (bin bH (vb 3) (kd (.int 1))))) 30)
 (fz 0 (ret (vr 0)))))))
def cP (xs:List D):R D:=fin (gF (st1 i0 xs))
include T in
theorem mT (hr:Room 0 (A.deeper (envOfC "_law_closed" (ai df) s.heap.objs.size f cdv))) :
  SDs C (bI CX0 P w K mg base i0 "_law_closed" (ai df) f cdv A outer s H E).nox (aF df) gF :=
 (au (vA (i:=1) sc_law_closed.nd rfl (Or.inl rfl))
 (au (wG (qe hr) PassesOwn.never rfl (pv 0) (aL (i:=2) sc_law_closed.nd rfl (Or.inl rfl)) (pv 1) (pv 2))
 (au (bp (i:=3) sc_law_closed.nd rfl (Or.inl rfl) ak)
 (au (xW 30 PassesOwn.never (BS (ag (pv 3)) (EB.of (edl (ag (pv 0)) rfl T.len ab)))
 (au (bf PassesOwn.never rfl (bz (cA (fdl (ag (pv 0)) rfl T.list ab))) (aM (i:=4) sc_law_closed.nd rfl (Or.inl rfl))
 (ao (bf PassesOwn.never rfl (bz (cq (ae (cn (ae (aw (ag (pv 0)) (ag (pv 3))) (ae (ah (pv 4)) aq ab) aj)) (ae (cn (ae (ah (pv 4)) (ae (aw (ag (pv 0)) (ag (pv 3))) aq aj) ab)) aq je) je))) (dG rfl (aL (i:=5) sc_law_closed.nd rfl (Or.inl rfl)) (aL (i:=6) sc_law_closed.nd rfl (Or.inr rfl)))
 (ao (bh (gQ (br hr) (EB.of (aw (ag (pv 5)) (EB.of ak))) (EB.of (aw (ag (pv 6)) (EB.of ak))))
 (au (bp (i:=7) sc_law_closed.nd rfl (Or.inl rfl) (cn (ae (aw (ag (pv 5)) (EB.of ak)) (ae (aw (ag (pv 6)) (EB.of ak)) (ae (kR (EB.of (cA (dl (N':=Nc_law_closed_0) (n:=1) rfl rfl rfl (gP 8) cB (bz (aw (ag (pv 5)) (EB.of ak))) (fun L cs s H fp=>(aM (i:=8) mG rfl (Or.inl rfl))) (fun L cs s H fp=>bS) (fun L cs s H fp=>(aw (EB.of (aw (ag (pv 6)) (EB.of ak))) (ag (pv 8))))))) rfl T.tuple bX (fun t ha=>dB eK rfl T.tuple boot_tuple ha (he:=bX) (hpl:=ax))) aq ay) aj) aj)))
 (ao (bh (Ab (qe hr) (pv 1) (ah (pv 7)))
 (au (vz (qe hr) (pv 1) (ah (pv 7)) gW)
 (ao (iA (pv 0) (ah (pv 7)) (hst:=ab))))
 aK)))
 aK)))))
 (ao (bp (i:=3) sc_law_closed.nd rfl (Or.inl rfl) (cW (ag (pv 3)) (EB.of ak))))))
 (iu 0 (ao (aY (ah (pv 0)))))))))
include T in
theorem pJ (F:Fun K "_law_closed" "_law_closed" df a fd) (hm:mg "_law_closed"=some (.ref a)) (hb:Binds K fd ["known"] []):Mv P w K mg base C 1 "_law_closed" cP :=
 ⟨a,fd,_,EV F sc_law_closed (fun cdv A outer s H E hr=>mT cdv A outer s H E T hr),hm,F.kp,hb⟩
abbrev dg:Stmt:=sAt 45
abbrev i3:List Str:=["script","k","sizes","known","step","turn","one","other","row","x","mixed","arrow"]
theorem sc_law_arrows:aJ i3 ["script","k","sizes"] (ai dg):=by constructor <;> first | rfl | decide +kernel
abbrev Nc_law_arrows_0:List Str:=["script","k","sizes","known","step","turn","one","other","row","x","mixed","arrow","box"]
theorem mH:Nc_law_arrows_0.Nodup:=by decide +kernel
def gG:Rho->R Out:=(sq (own 3 (bo (bV (aC (una aA (vb 2)) aN)) 1 (tgN 12) tT (eT (aC (vr 12) (aC (vr 12) (aC (ke (aC (bin fix (vb 2) (vb 12)) aN)) aN))))))
 (sq (asg 4 (cal 1 aR (aC (bin bH (bin (iI aV) (bin (iI fE) (cal 2 av (aC (vr 0) (aC (vr 1) aN))) (kd (.int 1000003))) (kd (.int 2147483647))) (kd (.int 17))) aN)))
 (sq (bn (bV (aC (bin (iI aV) (cal 2 av (aC (vr 0) (aC (bin bH (vb 1) (kd (.int 1))) aN))) (kd (.int 5))) aN)) (tgN 5)
 (sq (asg 4 (cal 1 aR (aC (vr 4) aN)))
 (sq (asg 6 (bin (iI aV) (bin (iI eG) (vb 4) (kd (.int 64))) (una aA (vb 2))))
 (sq (asg 4 (cal 1 aR (aC (vr 4) aN)))
 (sq (asg 7 (bin (iI aV) (bin (iI eG) (vb 4) (kd (.int 64))) (una aA (vb 2))))
 (sq (own 8 (fU aN))
 (sq (bn (bV (aC (bin fix (vb 2) (vb 6)) aN)) (tgN 9)
 (sq (asg 4 (cal 1 aR (aC (vr 4) aN)))
 (iff (tst (bin feq (bin fix (vb 2) (vb 6)) (kd (.int 3))))
 (ins 8 (bin (iI aV) (bin (iI eG) (vb 4) (kd (.int 64))) (bin bH (vb 9) (kd (.int 1)))) (vr 9))
 (app 8 (bin (iI aV) (bin (iI eG) (vb 4) (kd (.int 64))) (tX (aC (kd (.int 1)) (aC (bin fix (vb 2) (vb 7)) aN))))))))
 (iff (orB (tst (bin feq (bin fix (vb 2) (vb 6)) (kd (.int 0)))) (tst (bin (iI fgt) (bin fix (vb 2) (vb 7)) (kd (.int 0)))))
 (iff (tst (bin (fh true) (eT (aC (vr 6) (aC (vr 7) (aC (una kM (vb 8)) aN)))) (vb 3)))
 (app 3 (eT (aC (vr 6) (aC (vr 7) (aC (una kM (vb 8)) aN)))))
 nxt)
 nxt))))))))
 (sq (AX 3 cP)
 (sq (own 10 (fU aN))
 (fz 3 (sq (bn (fIt (vr 3)) (tgN 11)
 (sq (asg 4 (cal 1 aR (aC (vr 4) aN)))
 (ins 10 (bin (iI aV) (bin (iI eG) (vb 4) (kd (.int 64))) (bin bH (una aA (vb 10)) (kd (.int 1)))) (vr 11))))
 (fz 10 (ret (vr 10))))))))))
def cO (ds:List D):R D:=fin (gG (st0 i3 ds))
variable (mv_law_closed:Mv P w K mg base C 1 "_law_closed" cP)
variable (fn_law_next:Fn P w K mg base C 1 "_law_next" 1 aR)
include T fn_law_cell mv_law_closed fn_law_next in
theorem mU (hr:Room 1 (A.deeper (envOfC "_law_arrows" (ai dg) s.heap.objs.size f cdv))) :
  SDs C (bI CX0 P w K mg base i3 "_law_arrows" (ai dg) f cdv A outer s H E).nox (aF dg) gG :=
 (au (Ak (dU (i:=3) (aL (i:=3) sc_law_arrows.nd rfl (Or.inl rfl)) (N':=Nc_law_arrows_0) (n:=1) rfl rfl rfl (gP 12) cB (bU rfl T.range (ae (edl (ag (pv 2)) rfl T.len ab) aq ay) (bv ay)) (fun L cs s H fp=>(aM (i:=12) mH rfl (Or.inl rfl))) (fun L cs s H fp=>bS) (fun L cs s H fp=>(cn (ae (ah (pv 12)) (ae (ah (pv 12)) (ae (tW rfl (ae (aw (ag (pv 2)) (ag (pv 12))) aq aj) rfl T.range rfl T.tuple (bv aj) ay (fun t ha=>dB (jz rfl) rfl T.tuple boot_tuple ha (he:=ay) (hpl:=ax))) aq ay) ab) ab))) rfl))
 (au (bp (i:=4) sc_law_arrows.nd rfl (Or.inl rfl) (aP fn_law_next (hr.mono (by decide)) rfl (ae (cW (EB.of (bW (EB.of (j_ (EB.of (aP fn_law_cell (hr.mono (by decide)) rfl (ae (ah (pv 0)) (ae (ah (pv 1)) aq ab) ab) rfl (he:=ab) (hpl:=(ar ab ax)))) (EB.of ak))) (EB.of ak))) (EB.of ak)) aq aT) rfl (he:=aT) (hpl:=ax)))
 (au (bf PassesOwn.never rfl (bU rfl T.range (ae (bW (EB.of (aP fn_law_cell (hr.mono (by decide)) rfl (ae (ah (pv 0)) (ae (cW (ag (pv 1)) (EB.of ak)) aq aT) ab) rfl (he:=ab) (hpl:=(ar aT ax)))) (EB.of ak)) aq aT) (bv aT)) (aM (i:=5) sc_law_arrows.nd rfl (Or.inl rfl))
 (au (bp (i:=4) sc_law_arrows.nd rfl (Or.inl rfl) (aP fn_law_next (hr.mono (by decide)) rfl (ae (ah (pv 4)) aq ab) rfl (he:=ab) (hpl:=ax)))
 (au (bp (i:=6) sc_law_arrows.nd rfl (Or.inl rfl) (bW (EB.of (gj (ag (pv 4)) (EB.of ak))) (EB.of (edl (ag (pv 2)) rfl T.len ab))))
 (au (bp (i:=4) sc_law_arrows.nd rfl (Or.inl rfl) (aP fn_law_next (hr.mono (by decide)) rfl (ae (ah (pv 4)) aq ab) rfl (he:=ab) (hpl:=ax)))
 (au (bp (i:=7) sc_law_arrows.nd rfl (Or.inl rfl) (bW (EB.of (gj (ag (pv 4)) (EB.of ak))) (EB.of (edl (ag (pv 2)) rfl T.len ab))))
 (au (jf (i:=8) sc_law_arrows.nd rfl (Or.inl rfl) (iP aq))
 (au (bf PassesOwn.never rfl (bU rfl T.range (ae (aw (ag (pv 2)) (ag (pv 6))) aq aj) (bv aj)) (aM (i:=9) sc_law_arrows.nd rfl (Or.inl rfl))
 (au (bp (i:=4) sc_law_arrows.nd rfl (Or.inl rfl) (aP fn_law_next (hr.mono (by decide)) rfl (ae (ah (pv 4)) aq ab) rfl (he:=ab) (hpl:=ax)))
 (ao (bh (gQ (br hr) (EB.of (aw (ag (pv 2)) (ag (pv 6)))) (EB.of ak))
 (ao (xX (pv 8) (bW (EB.of (gj (ag (pv 4)) (EB.of ak))) (EB.of (cW (ag (pv 9)) (EB.of ak)))) (ah (pv 9)) (hst:=aT) (hst2:=ab)))
 (ao (iA (pv 8) (bW (EB.of (gj (ag (pv 4)) (EB.of ak))) (EB.of (zz rfl (ae ak (ae (aw (ag (pv 2)) (ag (pv 7))) aq aj) aD) rfl T.max (fun t ha=>gw (lT rfl) rfl T.max boot_max ha (he:=aD) (hpl:=(ar aj ax)))))) (hst:=aT)))))))
 (ao (bh (lj (i5 (gQ (br hr) (EB.of (aw (ag (pv 2)) (ag (pv 6)))) (EB.of ak)) (ir (nB (EB.of (aw (ag (pv 2)) (ag (pv 7)))) (EB.of ak)))))
 (ao (bh (uq (br hr) (EB.of (cn (ae (ah (pv 6)) (ae (ah (pv 7)) (ae (kR (ag (pv 8)) rfl T.tuple ab (fun t ha=>dB eK rfl T.tuple boot_tuple ha (he:=ab) (hpl:=ax))) aq ay) ab) ab))) (ag (pv 3)))
 (ao (iA (pv 3) (cn (ae (ah (pv 6)) (ae (ah (pv 7)) (ae (kR (ag (pv 8)) rfl T.tuple ab (fun t ha=>dB eK rfl T.tuple boot_tuple ha (he:=ab) (hpl:=ax))) aq ay) ab) ab)) (hst:=je)))
 aK))
 aK)))))))))
 (au (Al mv_law_closed (hr.mono (by decide)) rfl (pv 3) (i:=3) sc_law_arrows.nd rfl (Or.inl rfl) rfl)
 (au (jf (i:=10) sc_law_arrows.nd rfl (Or.inl rfl) (iP aq))
 (iu 3 (au (bf PassesOwn.never rfl (bz (ah (pv 3))) (aM (i:=11) sc_law_arrows.nd rfl (Or.inl rfl))
 (au (bp (i:=4) sc_law_arrows.nd rfl (Or.inl rfl) (aP fn_law_next (hr.mono (by decide)) rfl (ae (ah (pv 4)) aq ab) rfl (he:=ab) (hpl:=ax)))
 (ao (xX (pv 10) (bW (EB.of (gj (ag (pv 4)) (EB.of ak))) (EB.of (cW (EB.of (edl (ag (pv 10)) rfl T.len ab)) (EB.of ak)))) (ah (pv 11)) (hst:=aT) (hst2:=ab)))))
 (iu 10 (ao (aY (ah (pv 10))))))))))))
include T fn_law_cell mv_law_closed fn_law_next in
theorem pM (F:Fun K "_law_arrows" "_law_arrows" dg a fd) (hm:mg "_law_arrows"=some (.ref a)) (hb:Binds K fd ["script","k","sizes"] []):Fn P w K mg base C 2 "_law_arrows" 3 cO :=
 ⟨a,fd,_,bm F sc_law_arrows (fun cdv A outer s H E hr=>mU cdv A outer s H E T fn_law_cell mv_law_closed fn_law_next hr),hm,F.kp,hb⟩
abbrev dP:Stmt:=sAt 46
abbrev jG:List Str:=["script","k","sizes","known","place","at","table","first","row","second","made","rests"]
theorem sc_law_parts:aJ jG ["script","k"] (ai dP):=by constructor <;> first | rfl | decide +kernel
abbrev Nc_law_parts_0:List Str:=["script","k","sizes","known","place","at","table","first","row","second","made","rests","x"]
theorem n9:Nc_law_parts_0.Nodup:=by decide +kernel
abbrev Nc_law_parts_1:List Str:=["script","k","sizes","known","place","at","table","first","row","second","made","rests","box"]
theorem n8:Nc_law_parts_1.Nodup:=by decide +kernel
abbrev Nc_law_parts_2:List Str:=["script","k","sizes","known","place","at","table","first","row","second","made","rests","arrow"]
theorem n4:Nc_law_parts_2.Nodup:=by decide +kernel
def hE:Rho->R Out:=(sq (asg 2 (cal 2 d6 (aC (vr 0) (aC (vr 1) aN))))
 (sq (asg 3 (cal 3 cO (aC (vr 0) (aC (bin bH (vb 1) (kd (.int 1))) (aC (vr 2) aN)))))
 (sq (zG 4)
 (sq (bn (bV (aC (una aA (vb 3)) aN)) (tgN 5)
 (rT 4 (bin fix (vb 3) (vb 5)) (vr 5)))
 (sq (own 6 (fU aN))
 (sq (bn (fIt (vr 3)) (tgN 7)
 (sq (own 8 (fU aN))
 (sq (bn (fIt (vr 3)) (tgN 9)
 (sq (asg 10 (una i_ (kd (.int 1))))
 (sq (iff (tst (bin feq (bin fix (vb 7) (kd (.int 1))) (bin fix (vb 9) (kd (.int 0)))))
 (asg 10 (rX 4 (eT (aC (bin fix (vb 7) (kd (.int 0))) (aC (bin fix (vb 9) (kd (.int 1))) (aC (una kM (eLs (bo (fIt (bin fix (vb 7) (kd (.int 2)))) 1 (tgN 12) tT (bin fix (bin fix (vb 9) (kd (.int 2))) (vb 12))))) aN))))))
 nxt)
 (app 8 (vr 10)))))
 (fz 8 (app 6 (vr 8))))))
 (sq (asg 11 (eLs (bo (bV (aC (una aA (vb 2)) aN)) 1 (tgN 12) tT (rX 4 (eT (aC (vr 12) (aC (vr 12) (aC (ke (aC (bin fix (vb 2) (vb 12)) aN)) aN))))))))
 (fz 6 (ret (eT (aC (eLs (bo (fIt (vr 3)) 1 (tgN 12) tT (eT (aC (bin fix (vb 12) (kd (.int 0))) (aC (bin fix (vb 12) (kd (.int 1))) aN))))) (aC (vr 11) (aC (vr 6) (aC (vr 3) (aC (vr 2) aN)))))))))))))))
def dq (ds:List D):R D:=fin (hE (st0 jG ds))
variable (fn_law_arrows:Fn P w K mg base C 2 "_law_arrows" 3 cO)
variable (fn_law_sizes:Fn P w K mg base C 2 "_law_sizes" 2 d6)
include T fn_law_arrows fn_law_sizes in
theorem pf (hr:Room 2 (A.deeper (envOfC "_law_parts" (ai dP) s.heap.objs.size f cdv))) :
  SDs C (bI CX0 P w K mg base jG "_law_parts" (ai dP) f cdv A outer s H E).nox (aF dP) hE :=
 (au (bp (i:=2) sc_law_parts.nd rfl (Or.inr rfl) (aP fn_law_sizes (hr.mono (by decide)) rfl (ae (ah (pv 0)) (ae (ah (pv 1)) aq ab) ab) rfl (he:=ab) (hpl:=(ar ab ax))))
 (au (bp (i:=3) sc_law_parts.nd rfl (Or.inl rfl) (aP fn_law_arrows (hr.mono (by decide)) rfl (ae (ah (pv 0)) (ae (cW (ag (pv 1)) (EB.of ak)) (ae (ah (pv 2)) aq ab) aT) ab) rfl (he:=ab) (hpl:=(ar aT (ar ab ax)))))
 (au (vA (i:=4) sc_law_parts.nd rfl (Or.inr rfl))
 (au (bf PassesOwn.never rfl (bU rfl T.range (ae (edl (ag (pv 3)) rfl T.len ab) aq ay) (bv ay)) (aM (i:=5) sc_law_parts.nd rfl (Or.inl rfl))
 (ao (vz (qe hr) (pv 4) (aw (ag (pv 3)) (ag (pv 5))) (ah (pv 5)))))
 (au (jf (i:=6) sc_law_parts.nd rfl (Or.inl rfl) (iP aq))
 (au (bf PassesOwn.never rfl (bz (ah (pv 3))) (aM (i:=7) sc_law_parts.nd rfl (Or.inl rfl))
 (au (jf (i:=8) sc_law_parts.nd rfl (Or.inl rfl) (iP aq))
 (au (bf PassesOwn.never rfl (bz (ah (pv 3))) (aM (i:=9) sc_law_parts.nd rfl (Or.inr rfl))
 (au (bp (i:=10) sc_law_parts.nd rfl (Or.inl rfl) (lO (EB.of ak)))
 (au (bh (gQ (br hr) (EB.of (aw (ag (pv 7)) (EB.of ak))) (EB.of (aw (ag (pv 9)) (EB.of ak))))
 (ao (bp (i:=10) sc_law_parts.nd rfl (Or.inl rfl) (wn (qe hr) (pv 4) (cn (ae (aw (ag (pv 7)) (EB.of ak)) (ae (aw (ag (pv 9)) (EB.of ak)) (ae (kR (EB.of (cA (dl (N':=Nc_law_parts_0) (n:=1) rfl rfl rfl (gP 12) cB (bz (aw (ag (pv 7)) (EB.of ak))) (fun L cs s H fp=>(aM (i:=12) n9 rfl (Or.inl rfl))) (fun L cs s H fp=>bS) (fun L cs s H fp=>(aw (EB.of (aw (ag (pv 9)) (EB.of ak))) (ag (pv 12))))))) rfl T.tuple bX (fun t ha=>dB eK rfl T.tuple boot_tuple ha (he:=bX) (hpl:=ax))) aq ay) aj) aj)))))
 aK)
 (ao (iA (pv 8) (ah (pv 10)) (hst:=ab))))))
 (iu 8 (ao (iA (pv 6) (ah (pv 8)) (hst:=ab)))))))
 (au (iw (dU (i:=11) (aL (i:=11) sc_law_parts.nd rfl (Or.inl rfl)) (N':=Nc_law_parts_1) (n:=1) rfl rfl rfl (gP 12) cB (bU rfl T.range (ae (edl (ag (pv 2)) rfl T.len ab) aq ay) (bv ay)) (fun L cs s H fp=>(aM (i:=12) n8 rfl (Or.inl rfl))) (fun L cs s H fp=>bS) (fun L cs s H fp=>(wn (qe hr) (pv 4) (cn (ae (ah (pv 12)) (ae (ah (pv 12)) (ae (tW rfl (ae (aw (ag (pv 2)) (ag (pv 12))) aq aj) rfl T.range rfl T.tuple (bv aj) ay (fun t ha=>dB (jz rfl) rfl T.tuple boot_tuple ha (he:=ay) (hpl:=ax))) aq ay) ab) ab)))) rfl))
 (iu 6 (ao (aY (cn (ae (cA (dl (N':=Nc_law_parts_2) (n:=1) rfl rfl rfl (gP 12) cB (bz (ah (pv 3))) (fun L cs s H fp=>(aM (i:=12) n4 rfl (Or.inl rfl))) (fun L cs s H fp=>bS) (fun L cs s H fp=>(cn (ae (aw (ag (pv 12)) (EB.of ak)) (ae (aw (ag (pv 12)) (EB.of ak)) aq aj) aj))))) (ae (ah (pv 11)) (ae (ah (pv 6)) (ae (ah (pv 3)) (ae (ah (pv 2)) aq ab) ab) ab) ab) bX))))))))))))
include T fn_law_arrows fn_law_sizes in
theorem rm (F:Fun K "_law_parts" "_law_parts" dP a fd) (hm:mg "_law_parts"=some (.ref a)) (hb:Binds K fd ["script","k"] []):Fn P w K mg base C 3 "_law_parts" 2 dq :=
 ⟨a,fd,_,bm F sc_law_parts (fun cdv A outer s H E hr=>pf cdv A outer s H E T fn_law_arrows fn_law_sizes hr),hm,F.kp,hb⟩
abbrev eS:Stmt:=sAt 47
abbrev ko:List Str:=["parts"]
theorem sH:aJ ko ["parts"] (ai eS):=by constructor <;> first | rfl | decide +kernel
abbrev Nc_law_hall_0:List Str:=["parts","row"]
theorem pG:Nc_law_hall_0.Nodup:=by decide +kernel
def iV:Rho->R Out:=(ret (mkH jw (aC (eLs (fIt (bin fix (vb 0) (kd (.int 0))))) (aC (eLs (fIt (bin fix (vb 0) (kd (.int 1))))) (aC (eLs (bo (fIt (bin fix (vb 0) (kd (.int 2)))) 1 (tgN 1) tT (eLs (fIt (vb 1))))) aN)))))
def dX (ds:List D):R D:=fin (iV (st0 ko ds))
variable (fn_Hall:FnH P w K mg base C 4 jw)
include T fn_Hall in
theorem pY (hr:Room 5 (A.deeper (envOfC "_law_hall" (ai eS) s.heap.objs.size f cdv))) :
  SDs C (bI CX0 P w K mg base ko "_law_hall" (ai eS) f cdv A outer s H E).nox (aF eS) iV :=
 (ao (aY (BB fn_Hall (hr.mono (by decide)) rfl (ae (cA (fdl (EB.of (aw (ag (pv 0)) (EB.of ak))) rfl T.list aj)) (ae (cA (fdl (EB.of (aw (ag (pv 0)) (EB.of ak))) rfl T.list aj)) (ae (cA (dl (N':=Nc_law_hall_0) (n:=1) rfl rfl rfl (gP 1) cB (bz (aw (ag (pv 0)) (EB.of ak))) (fun L cs s H fp=>(aM (i:=1) pG rfl (Or.inl rfl))) (fun L cs s H fp=>bS) (fun L cs s H fp=>(cA (fdl (ag (pv 1)) rfl T.list ab))))) aq bX) ay) ay) rfl (he:=ay) (hpl:=(ar ay (ar bX ax))))))
include T fn_Hall in
theorem sX (F:Fun K "_law_hall" "_law_hall" eS a fd) (hm:mg "_law_hall"=some (.ref a)) (hb:Binds K fd ["parts"] []):Fn P w K mg base C 6 "_law_hall" 1 dX :=
 ⟨a,fd,_,bm F sH (fun cdv A outer s H E hr=>pY cdv A outer s H E T fn_Hall hr),hm,F.kp,hb⟩
abbrev cF:Stmt:=sAt 48
abbrev h6:List Str:=["parts","box","other"]
theorem nI:aJ h6 ["parts","box","other"] (ai cF):=by constructor <;> first | rfl | decide +kernel
abbrev Nc_law_between_0:List Str:=["parts","box","other","arrow"]
theorem lC:Nc_law_between_0.Nodup:=by decide +kernel
def fZ:Rho->R Out:=(ret (eLs (bo (bV (aC (una aA (bin fix (vb 0) (kd (.int 0)))) aN)) 1 (tgN 3) (tst (bin feq (bin fix (bin fix (vb 0) (kd (.int 0))) (vb 3)) (eT (aC (vr 1) (aC (vr 2) aN))))) (vr 3))))
def aO (ds:List D):R D:=fin (fZ (st0 h6 ds))
include T in
theorem lX (hr:Room 0 (A.deeper (envOfC "_law_between" (ai cF) s.heap.objs.size f cdv))) :
  SDs C (bI CX0 P w K mg base h6 "_law_between" (ai cF) f cdv A outer s H E).nox (aF cF) fZ :=
 (ao (aY (cA (dl (N':=Nc_law_between_0) (n:=1) rfl rfl rfl (gP 3) cB (bU rfl T.range (ae (edl (EB.of (aw (ag (pv 0)) (EB.of ak))) rfl T.len aj) aq ay) (bv ay)) (fun L cs s H fp=>(aM (i:=3) lC rfl (Or.inl rfl))) (fun L cs s H fp=>(ni (gQ (br hr) (EB.of (aw (EB.of (aw (ag (pv 0)) (EB.of ak))) (ag (pv 3)))) (EB.of (cn (ae (ah (pv 1)) (ae (ah (pv 2)) aq ab) ab)))))) (fun L cs s H fp=>(ah (pv 3)))))))
include T in
theorem oh (F:Fun K "_law_between" "_law_between" cF a fd) (hm:mg "_law_between"=some (.ref a)) (hb:Binds K fd ["parts","box","other"] []):Fn P w K mg base C 1 "_law_between" 3 aO :=
 ⟨a,fd,_,bm F nI (fun cdv A outer s H E hr=>lX cdv A outer s H E T hr),hm,F.kp,hb⟩
abbrev cD:Stmt:=sAt 49
abbrev hX:List Str:=["script","k","parts","places","ties","j","one","other","some"]
theorem sc_law_picture:aJ hX ["script","k","parts"] (ai cD):=by constructor <;> first | rfl | decide +kernel
abbrev Nc_law_picture_0:List Str:=["script","k","parts","places","ties","5.","one","other","some","j"]
theorem ly:Nc_law_picture_0.Nodup:=by decide +kernel
def fX:Rho->R Out:=(sq (asg 3 (eLs (bo (bV (aC (bin (iI aV) (cal 2 av (aC (vr 0) (aC (vr 1) aN))) (kd (.int 4))) aN)) 1 (tgN 9) tT (bin (iI aV) (cal 2 av (aC (vr 0) (aC (bin bH (bin bH (vb 1) (kd (.int 1))) (vb 9)) aN))) (una aA (bin fix (vb 2) (kd (.int 1))))))))
 (sq (own 4 (fU aN))
 (sq (iff (tst (bin (iI fgt) (una aA (vb 3)) (kd (.int 0))))
 (bn (bV (aC (bin (iI aV) (bin (iI eG) (cal 2 av (aC (vr 0) (aC (vr 1) aN))) (kd (.int 4))) (kd (.int 5))) aN)) (tgN 5)
 (sq (asg 6 (bin (iI aV) (cal 2 av (aC (vr 0) (aC (bin bH (bin bH (vb 1) (kd (.int 5))) (bin (iI fE) (kd (.int 3)) (vb 5))) aN))) (una aA (vb 3))))
 (sq (asg 7 (bin (iI aV) (cal 2 av (aC (vr 0) (aC (bin bH (bin bH (vb 1) (kd (.int 6))) (bin (iI fE) (kd (.int 3)) (vb 5))) aN))) (una aA (vb 3))))
 (sq (asg 8 (cal 3 aO (aC (vr 2) (aC (bin fix (vb 3) (vb 6)) (aC (bin fix (vb 3) (vb 7)) aN)))))
 (iff (tst (bin (iI fgt) (una aA (vb 8)) (kd (.int 0))))
 (app 4 (eT (aC (vr 6) (aC (vr 7) (aC (bin fix (vb 8) (bin (iI aV) (cal 2 av (aC (vr 0) (aC (bin bH (bin bH (vb 1) (kd (.int 7))) (bin (iI fE) (kd (.int 3)) (vb 5))) aN))) (una aA (vb 8)))) aN)))))
 nxt)))))
 nxt)
 (fz 4 (ret (eT (aC (vr 3) (aC (vr 4) aN))))))))
def ce (ds:List D):R D:=fin (fX (st0 hX ds))
variable (fn_law_between:Fn P w K mg base C 1 "_law_between" 3 aO)
include T fn_law_cell fn_law_between in
theorem lV (hr:Room 1 (A.deeper (envOfC "_law_picture" (ai cD) s.heap.objs.size f cdv))) :
  SDs C (bI CX0 P w K mg base hX "_law_picture" (ai cD) f cdv A outer s H E).nox (aF cD) fX :=
 (au (iw (dU (i:=3) (aL (i:=3) sc_law_picture.nd rfl (Or.inl rfl)) (N':=Nc_law_picture_0) (n:=1) rfl rfl rfl (gP 9) cB (bU rfl T.range (ae (bW (EB.of (aP fn_law_cell (hr.mono (by decide)) rfl (ae (ah (pv 0)) (ae (ah (pv 1)) aq ab) ab) rfl (he:=ab) (hpl:=(ar ab ax)))) (EB.of ak)) aq aT) (bv aT)) (fun L cs s H fp=>(aM (i:=9) ly rfl (Or.inl rfl))) (fun L cs s H fp=>bS) (fun L cs s H fp=>(bW (EB.of (aP fn_law_cell (hr.mono (by decide)) rfl (ae (ah (pv 0)) (ae (cW (EB.of (cW (ag (pv 1)) (EB.of ak))) (ag (pv 9))) aq aT) ab) rfl (he:=ab) (hpl:=(ar aT ax)))) (EB.of (edl (EB.of (aw (ag (pv 2)) (EB.of ak))) rfl T.len aj)))) rfl))
 (au (jf (i:=4) sc_law_picture.nd rfl (Or.inl rfl) (iP aq))
 (au (bh (nB (EB.of (edl (ag (pv 3)) rfl T.len ab)) (EB.of ak))
 (ao (bf PassesOwn.never rfl (bU rfl T.range (ae (bW (EB.of (gj (EB.of (aP fn_law_cell (hr.mono (by decide)) rfl (ae (ah (pv 0)) (ae (ah (pv 1)) aq ab) ab) rfl (he:=ab) (hpl:=(ar ab ax)))) (EB.of ak))) (EB.of ak)) aq aT) (bv aT)) (aM (i:=5) sc_law_picture.nd rfl (Or.inl rfl))
 (au (bp (i:=6) sc_law_picture.nd rfl (Or.inl rfl) (bW (EB.of (aP fn_law_cell (hr.mono (by decide)) rfl (ae (ah (pv 0)) (ae (cW (EB.of (cW (ag (pv 1)) (EB.of ak))) (EB.of (j_ (EB.of ak) (ag (pv 5))))) aq aT) ab) rfl (he:=ab) (hpl:=(ar aT ax)))) (EB.of (edl (ag (pv 3)) rfl T.len ab))))
 (au (bp (i:=7) sc_law_picture.nd rfl (Or.inl rfl) (bW (EB.of (aP fn_law_cell (hr.mono (by decide)) rfl (ae (ah (pv 0)) (ae (cW (EB.of (cW (ag (pv 1)) (EB.of ak))) (EB.of (j_ (EB.of ak) (ag (pv 5))))) aq aT) ab) rfl (he:=ab) (hpl:=(ar aT ax)))) (EB.of (edl (ag (pv 3)) rfl T.len ab))))
 (au (bp (i:=8) sc_law_picture.nd rfl (Or.inl rfl) (aP fn_law_between (hr.mono (by decide)) rfl (ae (ah (pv 2)) (ae (aw (ag (pv 3)) (ag (pv 6))) (ae (aw (ag (pv 3)) (ag (pv 7))) aq aj) aj) ab) rfl (he:=ab) (hpl:=(ar aj (ar aj ax)))))
 (ao (bh (nB (EB.of (edl (ag (pv 8)) rfl T.len ab)) (EB.of ak))
 (ao (iA (pv 4) (cn (ae (ah (pv 6)) (ae (ah (pv 7)) (ae (aw (ag (pv 8)) (EB.of (bW (EB.of (aP fn_law_cell (hr.mono (by decide)) rfl (ae (ah (pv 0)) (ae (cW (EB.of (cW (ag (pv 1)) (EB.of ak))) (EB.of (j_ (EB.of ak) (ag (pv 5))))) aq aT) ab) rfl (he:=ab) (hpl:=(ar aT ax)))) (EB.of (edl (ag (pv 8)) rfl T.len ab))))) aq aj) ab) ab)) (hst:=je)))
 aK)))))))
 aK)
 (iu 4 (ao (aY (cn (ae (ah (pv 3)) (ae (ah (pv 4)) aq ab) ab))))))))
include T fn_law_cell fn_law_between in
theorem oa (F:Fun K "_law_picture" "_law_picture" cD a fd) (hm:mg "_law_picture"=some (.ref a)) (hb:Binds K fd ["script","k","parts"] []):Fn P w K mg base C 2 "_law_picture" 3 ce :=
 ⟨a,fd,_,bm F sc_law_picture (fun cdv A outer s H E hr=>lV cdv A outer s H E T fn_law_cell fn_law_between hr),hm,F.kp,hb⟩
abbrev dN:Stmt:=sAt 50
abbrev jE:List Str:=["parts","places","ties","box","rows","place","longer","row","found"]
theorem sc_law_views:aJ jE ["parts","places","ties","box"] (ai dN):=by constructor <;> first | rfl | decide +kernel
abbrev Nc_law_views_0:List Str:=["parts","places","ties","box","rows","place","longer","row","found","arrow"]
theorem nZ:Nc_law_views_0.Nodup:=by decide +kernel
abbrev Nc_law_views_1:List Str:=["parts","places","ties","box","rows","place","longer","row","found","tie"]
theorem nY:Nc_law_views_1.Nodup:=by decide +kernel
def g9:Rho->R Out:=(sq (asg 4 (eL (aC (eL aN) aN)))
 (sq (bn (fIt (vr 1)) (tgN 5)
 (sq (asg 6 (eL aN))
 (sq (bn (fIt (vr 4)) (tgN 7)
 (asg 6 (bin bH (vb 6) (eLs (bo (fIt (cal 3 aO (aC (vr 0) (aC (vr 3) (aC (vr 5) aN))))) 1 (tgN 9) tT (bin bH (vb 7) (eL (aC (vr 9) aN))))))))
 (asg 4 (vr 6)))))
 (sq (own 8 (fU aN))
 (sq (bn (fIt (vr 4)) (tgN 7)
 (iff (tst (bin feq (una aA (eLs (bo (fIt (vr 2)) 1 (tgN 9) (tst (bin fne (bin fix (bin fix (bin fix (vb 0) (kd (.int 2))) (bin fix (vb 7) (bin fix (vb 9) (kd (.int 0))))) (bin fix (vb 9) (kd (.int 2)))) (bin fix (vb 7) (bin fix (vb 9) (kd (.int 1)))))) (vr 9)))) (kd (.int 0))))
 (app 8 (vr 7))
 nxt))
 (fz 8 (ret (vr 8)))))))
def bK (ds:List D):R D:=fin (g9 (st0 jE ds))
include T fn_law_between in
theorem o_ (hr:Room 1 (A.deeper (envOfC "_law_views" (ai dN) s.heap.objs.size f cdv))) :
  SDs C (bI CX0 P w K mg base jE "_law_views" (ai dN) f cdv A outer s H E).nox (aF dN) g9 :=
 (au (bp (i:=4) sc_law_views.nd rfl (Or.inl rfl) (cq (ae (cq aq) aq d5)))
 (au (bf PassesOwn.never rfl (bz (ah (pv 1))) (aM (i:=5) sc_law_views.nd rfl (Or.inl rfl))
 (au (bp (i:=6) sc_law_views.nd rfl (Or.inl rfl) (cq aq))
 (au (bf PassesOwn.never rfl (bz (ah (pv 4))) (aM (i:=7) sc_law_views.nd rfl (Or.inr rfl))
 (ao (bp (i:=6) sc_law_views.nd rfl (Or.inl rfl) (cW (ag (pv 6)) (EB.of (cA (dl (N':=Nc_law_views_0) (n:=1) rfl rfl rfl (gP 9) cB (bz (aP fn_law_between (hr.mono (by decide)) rfl (ae (ah (pv 0)) (ae (ah (pv 3)) (ae (ah (pv 5)) aq ab) ab) ab) rfl (he:=ab) (hpl:=(ar ab (ar ab ax))))) (fun L cs s H fp=>(aM (i:=9) nZ rfl (Or.inl rfl))) (fun L cs s H fp=>bS) (fun L cs s H fp=>(cW (ag (pv 7)) (EB.of (cq (ae (ah (pv 9)) aq ab))))))))))))
 (ao (bp (i:=4) sc_law_views.nd rfl (Or.inl rfl) (ah (pv 6)))))))
 (au (jf (i:=8) sc_law_views.nd rfl (Or.inl rfl) (iP aq))
 (au (bf PassesOwn.never rfl (bz (ah (pv 4))) (aM (i:=7) sc_law_views.nd rfl (Or.inr rfl))
 (ao (bh (gQ (br hr) (EB.of (edl (EB.of (cA (dl (N':=Nc_law_views_1) (n:=1) rfl rfl rfl (gP 9) cB (bz (ah (pv 2))) (fun L cs s H fp=>(aM (i:=9) nY rfl (Or.inl rfl))) (fun L cs s H fp=>(ni (eE (br hr) (EB.of (aw (EB.of (aw (EB.of (aw (ag (pv 0)) (EB.of ak))) (EB.of (aw (ag (pv 7)) (EB.of (aw (ag (pv 9)) (EB.of ak))))))) (EB.of (aw (ag (pv 9)) (EB.of ak))))) (EB.of (aw (ag (pv 7)) (EB.of (aw (ag (pv 9)) (EB.of ak)))))))) (fun L cs s H fp=>(ah (pv 9)))))) rfl T.len bX)) (EB.of ak))
 (ao (iA (pv 8) (ah (pv 7)) (hst:=ab)))
 aK)))
 (iu 8 (ao (aY (ah (pv 8)))))))))
include T fn_law_between in
theorem rh (F:Fun K "_law_views" "_law_views" dN a fd) (hm:mg "_law_views"=some (.ref a)) (hb:Binds K fd ["parts","places","ties","box"] []):Fn P w K mg base C 2 "_law_views" 4 bK :=
 ⟨a,fd,_,bm F sc_law_views (fun cdv A outer s H E hr=>o_ cdv A outer s H E T fn_law_between hr),hm,F.kp,hb⟩
abbrev eQ:Stmt:=sAt 51
abbrev kl:List Str:=["parts","box","arrows","other","view","found","first"]
theorem sc_law_ways:aJ kl ["parts","box","arrows","other","view"] (ai eQ):=by constructor <;> first | rfl | decide +kernel
abbrev Nc_law_ways_0:List Str:=["parts","box","arrows","other","view","found","first","arrow"]
theorem pE:Nc_law_ways_0.Nodup:=by decide +kernel
def iT:Rho->R Out:=(sq (own 5 (fU aN))
 (sq (bn (fIt (cal 3 aO (aC (vr 0) (aC (vr 3) (aC (vr 1) aN))))) (tgN 6)
 (iff (tst (bin feq (eLs (bo (fIt (vr 2)) 1 (tgN 7) tT (bin fix (bin fix (bin fix (vb 0) (kd (.int 2))) (vb 6)) (vb 7)))) (vb 4)))
 (app 5 (vr 6))
 nxt))
 (fz 5 (ret (vr 5)))))
def bO (ds:List D):R D:=fin (iT (st0 kl ds))
include T fn_law_between in
theorem pW (hr:Room 1 (A.deeper (envOfC "_law_ways" (ai eQ) s.heap.objs.size f cdv))) :
  SDs C (bI CX0 P w K mg base kl "_law_ways" (ai eQ) f cdv A outer s H E).nox (aF eQ) iT :=
 (au (jf (i:=5) sc_law_ways.nd rfl (Or.inl rfl) (iP aq))
 (au (bf PassesOwn.never rfl (bz (aP fn_law_between (hr.mono (by decide)) rfl (ae (ah (pv 0)) (ae (ah (pv 3)) (ae (ah (pv 1)) aq ab) ab) ab) rfl (he:=ab) (hpl:=(ar ab (ar ab ax))))) (aM (i:=6) sc_law_ways.nd rfl (Or.inr rfl))
 (ao (bh (gQ (br hr) (EB.of (cA (dl (N':=Nc_law_ways_0) (n:=1) rfl rfl rfl (gP 7) cB (bz (ah (pv 2))) (fun L cs s H fp=>(aM (i:=7) pE rfl (Or.inl rfl))) (fun L cs s H fp=>bS) (fun L cs s H fp=>(aw (EB.of (aw (EB.of (aw (ag (pv 0)) (EB.of ak))) (ag (pv 6)))) (ag (pv 7))))))) (ag (pv 4)))
 (ao (iA (pv 5) (ah (pv 6)) (hst:=ab)))
 aK)))
 (iu 5 (ao (aY (ah (pv 5)))))))
include T fn_law_between in
theorem sV (F:Fun K "_law_ways" "_law_ways" eQ a fd) (hm:mg "_law_ways"=some (.ref a)) (hb:Binds K fd ["parts","box","arrows","other","view"] []):Fn P w K mg base C 2 "_law_ways" 5 bO :=
 ⟨a,fd,_,bm F sc_law_ways (fun cdv A outer s H E hr=>pW cdv A outer s H E T fn_law_between hr),hm,F.kp,hb⟩
abbrev cE:Stmt:=sAt 52
abbrev hZ:List Str:=["parts","box","arrows","known","other","made","view"]
theorem sc_law_is_best:aJ hZ ["parts","box","arrows","known"] (ai cE):=by constructor <;> first | rfl | decide +kernel
abbrev Nc_law_is_best_0:List Str:=["parts","box","arrows","known","other","made","view","first"]
theorem lA:Nc_law_is_best_0.Nodup:=by decide +kernel
abbrev Nc_law_is_best_1:List Str:=["parts","box","arrows","known","other","made","view","first","arrow"]
theorem lz:Nc_law_is_best_1.Nodup:=by decide +kernel
def fY:Rho->R Out:=(sq (bn (bV (aC (una aA (vb 3)) aN)) (tgN 4)
 (sq (asg 5 (eLs (bo (fIt (cal 3 aO (aC (vr 0) (aC (vr 4) (aC (vr 1) aN))))) 1 (tgN 7) tT (eLs (bo (fIt (vr 2)) 1 (tgN 8) tT (bin fix (bin fix (bin fix (vb 0) (kd (.int 2))) (vb 7)) (vb 8)))))))
 (sq (iff (tst (bin fne (una aA (vb 5)) (una aA (bin fix (vb 3) (vb 4)))))
 (ret (kd (.bl false)))
 nxt)
 (bn (fIt (bin fix (vb 3) (vb 4))) (tgN 6)
 (iff (tst (bin fne (xr (vb 5) (vr 6)) (kd (.int 1))))
 (ret (kd (.bl false)))
 nxt)))))
 (ret (kd (.bl true))))
def bP (ds:List D):R D:=fin (fY (st0 hZ ds))
include T fn_law_between in
theorem lW (hr:Room 1 (A.deeper (envOfC "_law_is_best" (ai cE) s.heap.objs.size f cdv))) :
  SDs C (bI CX0 P w K mg base hZ "_law_is_best" (ai cE) f cdv A outer s H E).nox (aF cE) fY :=
 (au (bf PassesOwn.never rfl (bU rfl T.range (ae (edl (ag (pv 3)) rfl T.len ab) aq ay) (bv ay)) (aM (i:=4) sc_law_is_best.nd rfl (Or.inl rfl))
 (au (iw (dU (i:=5) (aL (i:=5) sc_law_is_best.nd rfl (Or.inl rfl)) (N':=Nc_law_is_best_0) (n:=1) rfl rfl rfl (gP 7) cB (bz (aP fn_law_between (hr.mono (by decide)) rfl (ae (ah (pv 0)) (ae (ah (pv 4)) (ae (ah (pv 1)) aq ab) ab) ab) rfl (he:=ab) (hpl:=(ar ab (ar ab ax))))) (fun L cs s H fp=>(aM (i:=7) lA rfl (Or.inr rfl))) (fun L cs s H fp=>bS) (fun L cs s H fp=>(cA (dl (N':=Nc_law_is_best_1) (n:=1) rfl rfl rfl (gP 8) cB (bz (ah (pv 2))) (fun L cs s H fp=>(aM (i:=8) lz rfl (Or.inl rfl))) (fun L cs s H fp=>bS) (fun L cs s H fp=>(aw (EB.of (aw (EB.of (aw (ag (pv 0)) (EB.of ak))) (ag (pv 7)))) (ag (pv 8))))))) rfl))
 (au (bh (eE (br hr) (EB.of (edl (ag (pv 5)) rfl T.len ab)) (EB.of (edl (EB.of (aw (ag (pv 3)) (ag (pv 4)))) rfl T.len aj)))
 (ao (aY gW))
 aK)
 (ao (bf PassesOwn.never rfl (bz (aw (ag (pv 3)) (ag (pv 4)))) (aM (i:=6) sc_law_is_best.nd rfl (Or.inl rfl))
 (ao (bh (eE (br hr) (EB.of (zB (br hr) (ag (pv 5)) (ah (pv 6)) ab (fun ho ha=>sQ PySem.F.plainAttrs_list PySem.F.slot_list_count PySem.F.type_list_count (vN (br hr)) ho ha))) (EB.of ak))
 (ao (aY gW))
 aK)))))))
 (ao (aY gW)))
include T fn_law_between in
theorem og (F:Fun K "_law_is_best" "_law_is_best" cE a fd) (hm:mg "_law_is_best"=some (.ref a)) (hb:Binds K fd ["parts","box","arrows","known"] []):Fn P w K mg base C 2 "_law_is_best" 4 bP :=
 ⟨a,fd,_,bm F sc_law_is_best (fun cdv A outer s H E hr=>lW cdv A outer s H E T fn_law_between hr),hm,F.kp,hb⟩
abbrev b0:Stmt:=sAt 53
abbrev gL:List Str:=["parts","places","ties","known","found","box","arrows"]
theorem sc_law_all_best:aJ gL ["parts","places","ties"] (ai b0):=by constructor <;> first | rfl | decide +kernel
abbrev Nc_law_all_best_0:List Str:=["parts","places","ties","known","found","5.","arrows","box"]
theorem kE:Nc_law_all_best_0.Nodup:=by decide +kernel
def fG:Rho->R Out:=(sq (asg 3 (eLs (bo (bV (aC (una aA (bin fix (vb 0) (kd (.int 1)))) aN)) 1 (tgN 7) tT (cal 4 bK (aC (vr 0) (aC (vr 1) (aC (vr 2) (aC (vr 7) aN))))))))
 (sq (own 4 (fU aN))
 (sq (bn (bV (aC (una aA (vb 3)) aN)) (tgN 5)
 (bn (fIt (bin fix (vb 3) (vb 5))) (tgN 6)
 (iff (tst (cal 4 bP (aC (vr 0) (aC (vr 5) (aC (vr 6) (aC (vr 3) aN))))))
 (app 4 (eT (aC (vr 5) (aC (vr 6) aN))))
 nxt)))
 (fz 4 (ret (vr 4))))))
def cr (ds:List D):R D:=fin (fG (st0 gL ds))
variable (fn_law_is_best:Fn P w K mg base C 2 "_law_is_best" 4 bP)
variable (fn_law_views:Fn P w K mg base C 2 "_law_views" 4 bK)
include T fn_law_is_best fn_law_views in
theorem kX (hr:Room 2 (A.deeper (envOfC "_law_all_best" (ai b0) s.heap.objs.size f cdv))) :
  SDs C (bI CX0 P w K mg base gL "_law_all_best" (ai b0) f cdv A outer s H E).nox (aF b0) fG :=
 (au (iw (dU (i:=3) (aL (i:=3) sc_law_all_best.nd rfl (Or.inl rfl)) (N':=Nc_law_all_best_0) (n:=1) rfl rfl rfl (gP 7) cB (bU rfl T.range (ae (edl (EB.of (aw (ag (pv 0)) (EB.of ak))) rfl T.len aj) aq ay) (bv ay)) (fun L cs s H fp=>(aM (i:=7) kE rfl (Or.inl rfl))) (fun L cs s H fp=>bS) (fun L cs s H fp=>(aP fn_law_views (hr.mono (by decide)) rfl (ae (ah (pv 0)) (ae (ah (pv 1)) (ae (ah (pv 2)) (ae (ah (pv 7)) aq ab) ab) ab) ab) rfl (he:=ab) (hpl:=(ar ab (ar ab (ar ab ax)))))) rfl))
 (au (jf (i:=4) sc_law_all_best.nd rfl (Or.inl rfl) (iP aq))
 (au (bf PassesOwn.never rfl (bU rfl T.range (ae (edl (ag (pv 3)) rfl T.len ab) aq ay) (bv ay)) (aM (i:=5) sc_law_all_best.nd rfl (Or.inl rfl))
 (ao (bf PassesOwn.never rfl (bz (aw (ag (pv 3)) (ag (pv 5)))) (aM (i:=6) sc_law_all_best.nd rfl (Or.inl rfl))
 (ao (bh (dL (aP fn_law_is_best (hr.mono (by decide)) rfl (ae (ah (pv 0)) (ae (ah (pv 5)) (ae (ah (pv 6)) (ae (ah (pv 3)) aq ab) ab) ab) ab) rfl (he:=ab) (hpl:=(ar ab (ar ab (ar ab ax))))))
 (ao (iA (pv 4) (cn (ae (ah (pv 5)) (ae (ah (pv 6)) aq ab) ab)) (hst:=je)))
 aK)))))
 (iu 4 (ao (aY (ah (pv 4))))))))
include T fn_law_is_best fn_law_views in
theorem mI (F:Fun K "_law_all_best" "_law_all_best" b0 a fd) (hm:mg "_law_all_best"=some (.ref a)) (hb:Binds K fd ["parts","places","ties"] []):Fn P w K mg base C 3 "_law_all_best" 3 cr :=
 ⟨a,fd,_,bm F sc_law_all_best (fun cdv A outer s H E hr=>kX cdv A outer s H E T fn_law_is_best fn_law_views hr),hm,F.kp,hb⟩
abbrev dQ:Stmt:=sAt 54
abbrev jH:List Str:=["hall","parts","some","one","other","there","back"]
theorem sc_law_pairs:aJ jH ["hall","parts","some"] (ai dQ):=by constructor <;> first | rfl | decide +kernel
def hG:Rho->R Out:=(sq (bn (fIt (vr 2)) (tgN 3)
 (bn (fIt (vr 2)) (tgN 4)
 (sq (asg 5 (cal 5 bO (aC (vr 1) (aC (bin fix (vb 4) (kd (.int 0))) (aC (bin fix (vb 4) (kd (.int 1))) (aC (bin fix (vb 3) (kd (.int 0))) (aC (bin fix (vb 3) (kd (.int 1))) aN)))))))
 (sq (asg 6 (cal 5 bO (aC (vr 1) (aC (bin fix (vb 3) (kd (.int 0))) (aC (bin fix (vb 3) (kd (.int 1))) (aC (bin fix (vb 4) (kd (.int 0))) (aC (bin fix (vb 4) (kd (.int 1))) aN)))))))
 (iff (orB (tst (bin fne (una aA (vb 5)) (kd (.int 1)))) (orB (tst (bin fne (una aA (vb 6)) (kd (.int 1)))) (tst (bin fne (cal 2 dC (aC (vr 0) (aC (bin fix (vb 5) (kd (.int 0))) aN))) (bin fix (vb 6) (kd (.int 0)))))))
 (ret (kd (.bl false)))
 nxt)))))
 (ret (kd (.bl true))))
def d7 (ds:List D):R D:=fin (hG (st0 jH ds))
variable (fn_law_ways:Fn P w K mg base C 2 "_law_ways" 5 bO)
variable (fn_undone:Fn P w K mg base C 3 "undone" 2 dC)
include T fn_law_ways fn_undone in
theorem ph (hr:Room 3 (A.deeper (envOfC "_law_pairs" (ai dQ) s.heap.objs.size f cdv))) :
  SDs C (bI CX0 P w K mg base jH "_law_pairs" (ai dQ) f cdv A outer s H E).nox (aF dQ) hG :=
 (au (bf PassesOwn.never rfl (bz (ah (pv 2))) (aM (i:=3) sc_law_pairs.nd rfl (Or.inl rfl))
 (ao (bf PassesOwn.never rfl (bz (ah (pv 2))) (aM (i:=4) sc_law_pairs.nd rfl (Or.inl rfl))
 (au (bp (i:=5) sc_law_pairs.nd rfl (Or.inl rfl) (aP fn_law_ways (hr.mono (by decide)) rfl (ae (ah (pv 1)) (ae (aw (ag (pv 4)) (EB.of ak)) (ae (aw (ag (pv 4)) (EB.of ak)) (ae (aw (ag (pv 3)) (EB.of ak)) (ae (aw (ag (pv 3)) (EB.of ak)) aq aj) aj) aj) aj) ab) rfl (he:=ab) (hpl:=(ar aj (ar aj (ar aj (ar aj ax)))))))
 (au (bp (i:=6) sc_law_pairs.nd rfl (Or.inl rfl) (aP fn_law_ways (hr.mono (by decide)) rfl (ae (ah (pv 1)) (ae (aw (ag (pv 3)) (EB.of ak)) (ae (aw (ag (pv 3)) (EB.of ak)) (ae (aw (ag (pv 4)) (EB.of ak)) (ae (aw (ag (pv 4)) (EB.of ak)) aq aj) aj) aj) aj) ab) rfl (he:=ab) (hpl:=(ar aj (ar aj (ar aj (ar aj ax)))))))
 (ao (bh (lj (i5 (eE (br hr) (EB.of (edl (ag (pv 5)) rfl T.len ab)) (EB.of ak)) (i5 (eE (br hr) (EB.of (edl (ag (pv 6)) rfl T.len ab)) (EB.of ak)) (ir (eE (br hr) (EB.of (aP fn_undone (hr.mono (by decide)) rfl (ae (ah (pv 0)) (ae (aw (ag (pv 5)) (EB.of ak)) aq aj) ab) rfl (he:=ab) (hpl:=(ar aj ax)))) (EB.of (aw (ag (pv 6)) (EB.of ak))))))))
 (ao (aY gW))
 aK)))))))
 (ao (aY gW)))
include T fn_law_ways fn_undone in
theorem rq (F:Fun K "_law_pairs" "_law_pairs" dQ a fd) (hm:mg "_law_pairs"=some (.ref a)) (hb:Binds K fd ["hall","parts","some"] []):Fn P w K mg base C 4 "_law_pairs" 3 d7 :=
 ⟨a,fd,_,bm F sc_law_pairs (fun cdv A outer s H E hr=>ph cdv A outer s H E T fn_law_ways fn_undone hr),hm,F.kp,hb⟩
abbrev ky:Stmt:=sAt 55
abbrev zX:List Str:=["script","parts","hall","places","ties","told","some","box","known","wrong","many","view","found"]
theorem sc_law:aJ zX ["script"] (ai ky):=by constructor <;> first | rfl | decide +kernel
abbrev Nc_law_0:List Str:=["script","parts","hall","places","ties","told","some","box","known","wrong","many","view","found","k"]
theorem yG:Nc_law_0.Nodup:=by decide +kernel
def rY:Rho->R Out:=(sq (asg 1 (cal 2 dq (aC (vr 0) (aC (kd (.int 0)) aN))))
 (sq (asg 2 (cal 1 dX (aC (vr 1) aN)))
 (sq (asT (tg2 3 4) (cal 3 ce (aC (vr 0) (aC (kd (.int 4)) (aC (vr 1) aN)))))
 (sq (asg 5 (cal 3 gX (aC (vr 2) (aC (eLs (fIt (vb 3))) (aC (eLs (fIt (vb 4))) aN)))))
 (sq (asg 6 (cal 3 cr (aC (vr 1) (aC (vr 3) (aC (vr 4) aN)))))
 (sq (iff (gO (tst (cal 3 d7 (aC (vr 2) (aC (vr 1) (aC (eLs (fSl (vb 6) oN (oS (kd (.int 6))))) aN))))))
 (ret (kd (.bl false)))
 nxt)
 (sq (iff (pq (tst (una (fun d=>.val (eB d)) (vb 5))) (tst (bin (fh true) (eT (aC (bin fix (vb 5) (kd (.int 0))) (aC (bin fix (vb 5) (kd (.int 1))) aN))) (vb 6))))
 (ret (kd (.bl false)))
 nxt)
 (sq (bn (bV (aC (una aA (bin fix (vb 1) (kd (.int 1)))) aN)) (tgN 7)
 (sq (asg 8 (cal 4 bK (aC (vr 1) (aC (vr 3) (aC (vr 4) (aC (vr 7) aN))))))
 (sq (trS 9 (.l .s) (eLs (bo (bV (aC (bin (iI aV) (cal 2 av (aC (vr 0) (aC (kd (.int 35)) aN))) (kd (.int 5))) aN)) 1 (tgN 13) tT (bin (iI aV) (cal 2 av (aC (vr 0) (aC (bin bH (kd (.int 30)) (vb 13)) aN))) (una aA (bin fix (vb 1) (kd (.int 0))))))))
 (sq (iff (pq (tst (bin (iI fgt) (una aA (vb 9)) (kd (.int 0)))) (tst (bin feq (bin (iI aV) (cal 2 av (aC (vr 0) (aC (kd (.int 36)) aN))) (kd (.int 3))) (kd (.int 1)))))
 (sq (asg 10 (una aA (bin fix (vb 1) (kd (.int 0)))))
 (asO (stP 9 .s (pN0 9) (una i_ (kd (.int 1))) (bin fix (eL (aC (una i_ (kd (.int 1))) (aC (vr 10) (aC (bin (iI mN) (kd (.int 10)) (kd (.int 29))) (aC (bin (iI tz) (kd (.int 0)) (vb 10)) aN))))) (bin (iI aV) (cal 2 av (aC (vr 0) (aC (kd (.int 37)) aN))) (kd (.int 4)))))))
 nxt)
 (sq (iff (pq (tst (bin (fh true) (vb 9) (vb 8))) (tst (una (fun d=>.val (eB d)) (flF (cal 5 dm (aC (vb 2) (aC (eLs (fIt (vb 3))) (aC (eLs (fIt (vb 4))) (aC (vb 7) (aC (va 9) aN))))))))))
 (ret (kd (.bl false)))
 nxt)
 (bn (fIt (eLs (fSl (vb 8) oN (oS (kd (.int 12)))))) (tgN 11)
 (sq (asg 12 (cal 5 dm (aC (vr 2) (aC (eLs (fIt (vb 3))) (aC (eLs (fIt (vb 4))) (aC (vr 7) (aC (eLs (fIt (vb 11))) aN)))))))
 (iff (tst (una (fun d=>.val (jW d)) (vb 5)))
 (iff (tst (una (fun d=>.val (eB d)) (vb 12)))
 (ret (kd (.bl false)))
 nxt)
 (iff (orB (gO (tst (cal 1 dn (aC (vr 12) aN)))) (tst (bin fne (eL (aC (vr 12) aN)) (cal 5 bO (aC (vr 1) (aC (bin fix (vb 5) (kd (.int 0))) (aC (bin fix (vb 5) (kd (.int 1))) (aC (vr 7) (aC (vr 11) aN)))))))))
 (ret (kd (.bl false)))
 nxt)))))))))
 (ret (bin feq (eT (aC (una (dH 0) (vb 2)) (aC (una (dH 1) (vb 2)) (aC (una (dH 2) (vb 2)) aN)))) (eT (aC (bin fix (vb 1) (kd (.int 0))) (aC (bin fix (vb 1) (kd (.int 1))) (aC (bin fix (vb 1) (kd (.int 2))) aN))))))))))))))
def o3 (ds:List D):R D:=fin (rY (st0 zX ds))
variable (fn_law_all_best:Fn P w K mg base C 3 "_law_all_best" 3 cr)
variable (fn_law_hall:Fn P w K mg base C 6 "_law_hall" 1 dX)
variable (fn_law_pairs:Fn P w K mg base C 4 "_law_pairs" 3 d7)
variable (fn_law_parts:Fn P w K mg base C 3 "_law_parts" 2 dq)
variable (fn_law_picture:Fn P w K mg base C 2 "_law_picture" 3 ce)
variable (fn_law_whole:Fn P w K mg base C 1 "_law_whole" 1 dn)
variable (fn_through:Fn P w K mg base C 6 "through" 5 dm)
include T fn_best fn_law_cell fn_law_views fn_law_ways fn_law_all_best fn_law_hall fn_law_pairs fn_law_parts fn_law_picture fn_law_whole fn_through in
theorem zT (hr:Room 6 (A.deeper (envOfC "law" (ai ky) s.heap.objs.size f cdv))) :
  SDs C (bI CX0 P w K mg base zX "law" (ai ky) f cdv A outer s H E).nox (aF ky) rY :=
 (au (bp (i:=1) sc_law.nd rfl (Or.inr rfl) (aP fn_law_parts (hr.mono (by decide)) rfl (ae (ah (pv 0)) (ae ak aq aD) ab) rfl (he:=ab) (hpl:=(ar aD ax))))
 (au (bp (i:=2) sc_law.nd rfl (Or.inl rfl) (aP fn_law_hall (hr.mono (by decide)) rfl (ae (ah (pv 1)) aq ab) rfl (he:=ab) (hpl:=ax)))
 (au (CG (aP fn_law_picture (hr.mono (by decide)) rfl (ae (ah (pv 0)) (ae ak (ae (ah (pv 1)) aq ab) aD) ab) rfl (he:=ab) (hpl:=(ar aD (ar ab ax)))) (dG rfl (aL (i:=3) sc_law.nd rfl (Or.inl rfl)) (aL (i:=4) sc_law.nd rfl (Or.inl rfl))))
 (au (bp (i:=5) sc_law.nd rfl (Or.inl rfl) (aP fn_best (hr.mono (by decide)) rfl (ae (ah (pv 2)) (ae (cA (fdl (ag (pv 3)) rfl T.list ab)) (ae (cA (fdl (ag (pv 4)) rfl T.list ab)) aq ay) ay) ab) rfl (he:=ab) (hpl:=(ar ay (ar ay ax)))))
 (au (bp (i:=6) sc_law.nd rfl (Or.inl rfl) (aP fn_law_all_best (hr.mono (by decide)) rfl (ae (ah (pv 1)) (ae (ah (pv 3)) (ae (ah (pv 4)) aq ab) ab) ab) rfl (he:=ab) (hpl:=(ar ab (ar ab ax)))))
 (au (bh (e_ (dL (aP fn_law_pairs (hr.mono (by decide)) rfl (ae (ah (pv 2)) (ae (ah (pv 1)) (ae (cA (tM (ag (pv 6)) vJ (vI ak))) aq aj) ab) ab) rfl (he:=ab) (hpl:=(ar ab (ar aj ax))))))
 (ao (aY gW))
 aK)
 (au (bh (lj (qC (qE (ag (pv 5))) (mY (uq (br hr) (EB.of (cn (ae (aw (ag (pv 5)) (EB.of ak)) (ae (aw (ag (pv 5)) (EB.of ak)) aq aj) aj))) (ag (pv 6))))))
 (ao (aY gW))
 aK)
 (au (bf PassesOwn.never rfl (bU rfl T.range (ae (edl (EB.of (aw (ag (pv 1)) (EB.of ak))) rfl T.len aj) aq ay) (bv ay)) (aM (i:=7) sc_law.nd rfl (Or.inl rfl))
 (au (bp (i:=8) sc_law.nd rfl (Or.inl rfl) (aP fn_law_views (hr.mono (by decide)) rfl (ae (ah (pv 1)) (ae (ah (pv 3)) (ae (ah (pv 4)) (ae (ah (pv 7)) aq ab) ab) ab) ab) rfl (he:=ab) (hpl:=(ar ab (ar ab (ar ab ax))))))
 (au (Aj (mt (i:=9) (aL (i:=9) sc_law.nd rfl (Or.inl rfl)) (N':=Nc_law_0) (n:=1) rfl rfl rfl (gP 13) (bU rfl T.range (ae (bW (EB.of (aP fn_law_cell (hr.mono (by decide)) rfl (ae (ah (pv 0)) (ae ak aq aD) ab) rfl (he:=ab) (hpl:=(ar aD ax)))) (EB.of ak)) aq aT) (bv aT)) (fun L cs s H fp=>(aM (i:=13) yG rfl (Or.inl rfl))) (fun L cs s H fp=>bS) (fun L cs s H fp=>(vU (bW (EB.of (aP fn_law_cell (hr.mono (by decide)) rfl (ae (ah (pv 0)) (ae (cW (EB.of ak) (ag (pv 13))) aq aT) ab) rfl (he:=ab) (hpl:=(ar aT ax)))) (EB.of (edl (EB.of (aw (ag (pv 1)) (EB.of ak))) rfl T.len aj))))) rfl))
 (au (bh (lj (qC (nB (EB.of (edl (ag (pv 9)) rfl T.len ab)) (EB.of ak)) (mY (gQ (br hr) (EB.of (bW (EB.of (aP fn_law_cell (hr.mono (by decide)) rfl (ae (ah (pv 0)) (ae ak aq aD) ab) rfl (he:=ab) (hpl:=(ar aD ax)))) (EB.of ak))) (EB.of ak)))))
 (au (bp (i:=10) sc_law.nd rfl (Or.inl rfl) (edl (EB.of (aw (ag (pv 1)) (EB.of ak))) rfl T.len aj))
 (ao (Ev (Ai (k':=.s) (vM (pv 9)) (lO (EB.of ak)) (vU (aw (EB.of (cq (ae (lO (EB.of ak)) (ae (ah (pv 10)) (ae (DY (EB.of ak) (EB.of ak)) (ae (DX (EB.of ak) (ag (pv 10))) aq aT) aT) ab) uw))) (EB.of (bW (EB.of (aP fn_law_cell (hr.mono (by decide)) rfl (ae (ah (pv 0)) (ae ak aq aD) ab) rfl (he:=ab) (hpl:=(ar aD ax)))) (EB.of ak)))))))))
 aK)
 (au (bh (lj (qC (uq (br hr) (ag (pv 9)) (ag (pv 8))) (mY (qE (EB.of (wl (B7 fn_through (hr.mono (by decide)) rfl (eN (jp (ag (pv 2))) (eN (jp (EB.of (cA (fdl (ag (pv 3)) rfl T.list ab)))) (eN (jp (EB.of (cA (fdl (ag (pv 4)) rfl T.list ab)))) (eN (jp (ag (pv 7))) (eN (uX (pv 9)) u_ ab) ab) ay) ay) ab) (he:=ab) (hpl:=(ar ay (ar ay (ar ab (ar ab ax))))))))))))
 (ao (aY gW))
 aK)
 (ao (bf PassesOwn.never rfl (bz (cA (tM (ag (pv 8)) vJ (vI ak)))) (aM (i:=11) sc_law.nd rfl (Or.inl rfl))
 (au (bp (i:=12) sc_law.nd rfl (Or.inl rfl) (aP fn_through (hr.mono (by decide)) rfl (ae (ah (pv 2)) (ae (cA (fdl (ag (pv 3)) rfl T.list ab)) (ae (cA (fdl (ag (pv 4)) rfl T.list ab)) (ae (ah (pv 7)) (ae (cA (fdl (ag (pv 11)) rfl T.list ab)) aq ay) ab) ay) ay) ab) rfl (he:=ab) (hpl:=(ar ay (ar ay (ar ab (ar ay ax)))))))
 (ao (bh (xQ (ag (pv 5)))
 (ao (bh (qE (ag (pv 12)))
 (ao (aY gW))
 aK))
 (ao (bh (lj (i5 (e_ (dL (aP fn_law_whole (hr.mono (by decide)) rfl (ae (ah (pv 12)) aq ab) rfl (he:=ab) (hpl:=ax)))) (ir (eE (br hr) (EB.of (cq (ae (ah (pv 12)) aq ab))) (EB.of (aP fn_law_ways (hr.mono (by decide)) rfl (ae (ah (pv 1)) (ae (aw (ag (pv 5)) (EB.of ak)) (ae (aw (ag (pv 5)) (EB.of ak)) (ae (ah (pv 7)) (ae (ah (pv 11)) aq ab) ab) aj) aj) ab) rfl (he:=ab) (hpl:=(ar aj (ar aj (ar ab (ar ab ax)))))))))))
 (ao (aY gW))
 aK))))))))))))
 (ao (aY (wm (br hr) (EB.of (cn (ae (dW (k:=0) (ag (pv 2)) T.cl T.nE rfl (fun _ _ _=>rfl)) (ae (dW (k:=1) (ag (pv 2)) T.cl T.nR rfl (fun _ _ _=>rfl)) (ae (dW (k:=2) (ag (pv 2)) T.cl T.nT rfl (fun _ _ _=>rfl)) aq bC) bC) bC))) (EB.of (cn (ae (aw (ag (pv 1)) (EB.of ak)) (ae (aw (ag (pv 1)) (EB.of ak)) (ae (aw (ag (pv 1)) (EB.of ak)) aq aj) aj) aj))))))))))))))
end DL
namespace DL
open PySem L2 Ar
theorem tU (a b:Int):aZ [.int a,.int b]=.val (.bl (decide (0<=a) && decide (a < b))):=by
 simp only [aZ,iX]
 show fin (ret _ [some (.shr (.int a)),some (.shr (.int b))])=_
 by_cases h:(0:Int)<=a <;> simp [h]
theorem dF {a b:Nat} (h:a < b):aZ [.int (a:Int),.int (b:Int)]=.val (.bl true):=by
 rw [tU];simp;exact h
section
variable {en:List (Nat × Nat)} {re:List Nat} {tb:List (List Int)}
theorem mQ (h:HallN en re tb):cx [cS en,al re]=.val .non:=by
 have h1:=h.nb1;have h2:=h.nb6;have h3:=h.na1;have h4:=h.na40
 simp only [cx,fJ]
 show fin (sq _ _ [some (.shr (cS en)),some (.shr (al re))])=_
 have a1:(1:Int)<=re.length:=by omega
 have a2:(re.length:Int)<=6:=by omega
 have a3:(1:Int)<=en.length:=by omega
 have a4:(en.length:Int)<=40:=by omega
 simp [a1,a2,a3,a4]
theorem zy {k:Nat} {x:D} (e:(en.map fV)[k]?=some x):k < en.length/\x=fV (en.getD k (0,0)):=by
 have hk:k < en.length:=by have:=(List.getElem?_eq_some_iff.mp e).1;simpa using this
 rw [gB (d:=(0,0)) hk] at e
 exact ⟨hk,(Option.some.inj e).symm⟩
theorem CJ {k:Nat} {x:D} (e:(re.map nD)[k]?=some x):k < re.length/\x=nD (re.getD k 0):=by
 have hk:k < re.length:=by have:=(List.getElem?_eq_some_iff.mp e).1;simpa using this
 rw [gB (d:=0) hk] at e
 exact ⟨hk,(Option.some.inj e).symm⟩
theorem ut {k:Nat} {x:D} (e:(tb.map aG)[k]?=some x):k < tb.length/\x=aG (tb.getD k []):=by
 have hk:k < tb.length:=by have:=(List.getElem?_eq_some_iff.mp e).1;simpa using this
 rw [gB (d:=[]) hk] at e
 exact ⟨hk,(Option.some.inj e).symm⟩
theorem uB {r:List Int} {k:Nat} {x:D} (e:(r.map D.int)[k]?=some x):k < r.length/\x=.int (r.getD k (-1)):=by
 have hk:k < r.length:=by have:=(List.getElem?_eq_some_iff.mp e).1;simpa using this
 rw [gB (d:=-1) hk] at e
 exact ⟨hk,(Option.some.inj e).symm⟩
theorem keep {F:Rho->R Out} {ρ1:Rho} {I:Rho->Prop} (h:F ρ1=.val (.nx ρ1)) (hI:I ρ1):∃ ρ2,F ρ1=.val (.nx ρ2)/\I ρ2:=⟨ρ1,h,hI⟩
theorem iO {F:Rho->R Out} {i j:Nat} {xs:List D} {ρ:Rho} (I:Rho->Prop) (step:∀ (k:Nat) x ρ,xs[k]?=some x->I ρ->∃ ρ2,F ((ρ.set i (some (.shr (.int (k:Int))))).set j (some (.shr x)))=.val (.nx ρ2)/\I ρ2) (h:I ρ):fin (bR (tg2 i j) F (enu 0 xs) ρ)=.val .non:=by
 obtain ⟨ρ',e,_⟩:=ot I step h
 rw [e];rfl
theorem pU (h:HallN en re tb):dE [cS en,.int re.length]=.val .non:=by
 simp only [dE,gI]
 show fin (bR (tg2 2 3) _ (enu 0 (en.map fV)) [some (.shr (cS en)),some (.shr (.int re.length)),none,none])=_
 refine iO (fun ρ=>∃ a b,ρ=[some (.shr (cS en)),some (.shr (.int re.length)),a,b]) (fun k x ρ ex hI=>?_) ⟨none,none,rfl⟩
 obtain ⟨a,b,rfl⟩:=hI
 obtain ⟨hk,rfl⟩:=zy ex
 obtain ⟨b1,b2⟩:=h.eb k hk
 refine keep ?_ ⟨_,_,rfl⟩
 simp [-List.getD_eq_getElem?_getD,dF b1,dF b2]
theorem oV (h:HallN en re tb):cY [cS en,al re]=.val .non:=by
 simp only [cY,ge]
 show fin (bR (tg2 2 3) _ (enu 0 (re.map nD)) [some (.shr (cS en)),some (.shr (al re)),none,none])=_
 refine iO (fun ρ=>∃ a b,ρ=[some (.shr (cS en)),some (.shr (al re)),a,b]) (fun k x ρ ex hI=>?_) ⟨none,none,rfl⟩
 obtain ⟨a,b,rfl⟩:=hI
 obtain ⟨hk,rfl⟩:=CJ ex
 obtain ⟨b1,b2⟩:=h.rs k hk
 have e2:fne (fV (en.getD (re.getD k 0) (0,0))) (.tup [.int (k:Int),.int (k:Int)])=.val (.bl false):=by
  rw [b2];exact im (x:=fV (k,k)) (jN _)
 refine keep ?_ ⟨_,_,rfl⟩
 simp [-List.getD_eq_getElem?_getD,dF b1,gS b1,e2]
theorem pT (h:HallN en re tb):dD [aW tb,.int en.length]=.val .non:=by
 simp only [dD,gH]
 have ht:=h.tl
 have:sq (DL.iff (tst (bin fne (una aA (vb 0)) (vb 1))) bad nxt) (bn (fu (aC (vr 0) aN)) (tg2 2 3) (DL.iff (tst (bin fne (una aA (vb 3)) (vb 1))) bad nxt)) (st0 gl [aW tb,.int en.length])=bR (tg2 2 3) (DL.iff (tst (bin fne (una aA (vb 3)) (vb 1))) bad nxt) (enu 0 (tb.map aG)) [some (.shr (aW tb)),some (.shr (.int en.length)),none,none]:=by
  show sq _ _ [some (.shr (aW tb)),some (.shr (.int en.length)),none,none]=_
  simp [ht];rfl
 rw [this]
 refine iO (fun ρ=>∃ a b,ρ=[some (.shr (aW tb)),some (.shr (.int en.length)),a,b]) (fun k x ρ ex hI=>?_) ⟨none,none,rfl⟩
 obtain ⟨a,b,rfl⟩:=hI
 obtain ⟨hk,rfl⟩:=ut ex
 have b1:=h.rl k (by omega)
 refine keep ?_ ⟨_,_,rfl⟩
 simp [-List.getD_eq_getElem?_getD,b1]
theorem oW (h:HallN en re tb) {i j:Nat} (hi:i < en.length) (hj:j < en.length):cZ [cS en,.int (i:Int),.int (j:Int),.int ((tb.getD i []).getD j (-1))]=.val .non:=by
 simp only [cZ,gf]
 show fin (DL.iff _ _ _ [some (.shr (cS en)),some (.shr (.int (i:Int))),some (.shr (.int (j:Int))),some (.shr (.int ((tb.getD i []).getD j (-1))))])=_
 by_cases e:(en.getD i (0,0)).2=(en.getD j (0,0)).1
 ·obtain ⟨k,k1,k2,k3⟩:=h.tp i j hi hj e
  have e2:fne (fV (en.getD k (0,0))) (.tup [nD (en.getD i (0,0)).1,nD (en.getD j (0,0)).2])=.val (.bl false):=by
   rw [k3];exact im (x:=fV _) (jN _)
  rw [k2]
  simp [-List.getD_eq_getElem?_getD,gS hi,gS hj,e,dF k1,gS k1,e2]
 ·have e1:=h.tn i j hi hj e
  have e':((en.getD i (0,0)).2:Int) ≠ ((en.getD j (0,0)).1:Int):=by omega
  rw [e1]
  simp [-List.getD_eq_getElem?_getD,gS hi,gS hj,e']
theorem oU (h:HallN en re tb):cX [cS en,aW tb]=.val .non:=by
 simp only [cX,gd]
 show fin (bR (tg2 2 3) _ (enu 0 (tb.map aG)) [some (.shr (cS en)),some (.shr (aW tb)),none,none,none,none])=_
 refine iO (fun ρ=>∃ a b c d,ρ=[some (.shr (cS en)),some (.shr (aW tb)),a,b,c,d]) (fun k x ρ ex hI=>?_) ⟨none,none,none,none,rfl⟩
 obtain ⟨a,b,c,d,rfl⟩:=hI
 obtain ⟨hk,rfl⟩:=ut ex
 have hk':k < en.length:=by have:=h.tl;omega
 show ∃ ρ2,bR (tg2 4 5) _ (enu 0 ((tb.getD k []).map D.int)) [some (.shr (cS en)),some (.shr (aW tb)),some (.shr (.int (k:Int))),some (.shr (aG (tb.getD k []))),c,d]=_/\_
 have:=ot (i:=4) (j:=5) (F:=drp (cal 4 cZ (aC (vr 0) (aC (vr 2) (aC (vr 4) (aC (vr 5) aN)))))) (fun ρ=>∃ c d,ρ=[some (.shr (cS en)),some (.shr (aW tb)),some (.shr (.int (k:Int))),some (.shr (aG (tb.getD k []))),c,d]) (xs:=(tb.getD k []).map D.int) (fun m x ρ ex hI=>?_) (ρ:=[some (.shr (cS en)),some (.shr (aW tb)),some (.shr (.int (k:Int))),some (.shr (aG (tb.getD k []))),c,d]) ⟨c,d,rfl⟩
 ·obtain ⟨ρ',e,c',d',rfl⟩:=this
  exact ⟨_,e,_,_,_,_,rfl⟩
 ·obtain ⟨c,d,rfl⟩:=hI
  obtain ⟨hm,rfl⟩:=uB ex
  have hm':m < en.length:=by rw [h.rl k hk'] at hm;exact hm
  refine keep ?_ ⟨_,_,rfl⟩
  simp [-List.getD_eq_getElem?_getD,oW h hk' hm']
theorem qp (h:HallN en re tb) {i j:Nat} (hi:i < en.length) (hj:j < en.length):(tb.getD i []).getD j (-1)=-1\/∃ k:Nat,k < en.length/\(tb.getD i []).getD j (-1)=(k:Int):=by
 by_cases e:(en.getD i (0,0)).2=(en.getD j (0,0)).1
 ·obtain ⟨k,k1,k2,_⟩:=h.tp i j hi hj e
  exact .inr ⟨k,k1,k2⟩
 ·exact .inl (h.tn i j hi hj e)
theorem BA (h:HallN en re tb) {i j k:Nat} (hi:i < en.length) (hj:j < en.length) (e:(tb.getD i []).getD j (-1)=(k:Int)):(en.getD i (0,0)).2=(en.getD j (0,0)).1/\k < en.length/\en.getD k (0,0)=((en.getD i (0,0)).1,(en.getD j (0,0)).2):=by
 by_cases e0:(en.getD i (0,0)).2=(en.getD j (0,0)).1
 ·obtain ⟨k',k1,k2,k3⟩:=h.tp i j hi hj e0
  have:k'=k:=by rw [k2] at e;omega
  subst this
  exact ⟨e0,k1,k3⟩
 ·rw [h.tn i j hi hj e0] at e;omega
theorem ja (h:HallN en re tb):bw [cS en,al re,aW tb]=.val .non:=by
 simp only [bw,dw]
 show fin (bR (tg2 3 4) _ (enu 0 (en.map fV)) [some (.shr (cS en)),some (.shr (al re)),some (.shr (aW tb)),none,none])=_
 refine iO (fun ρ=>∃ a b,ρ=[some (.shr (cS en)),some (.shr (al re)),some (.shr (aW tb)),a,b]) (fun k x ρ ex hI=>?_) ⟨none,none,rfl⟩
 obtain ⟨a,b,rfl⟩:=hI
 obtain ⟨hk,rfl⟩:=zy ex
 obtain ⟨b1,b2⟩:=h.eb k hk
 have r1:=(h.rs _ b1).1
 have r2:=(h.rs _ b2).1
 have u1:=h.ul k hk
 have u2:=h.ur k hk
 have ht:=h.tl
 have t1:=fj (tb:=tb) (show re.getD (en.getD k (0,0)).1 0 < tb.length by omega)
 have t2:=fj (tb:=tb) (show k < tb.length by omega)
 have t3:=fO (r:=tb.getD (re.getD (en.getD k (0,0)).1 0) []) (i:=k) (by rw [h.rl _ r1];exact hk)
 have t4:=fO (r:=tb.getD k []) (i:=re.getD (en.getD k (0,0)).2 0) (by rw [h.rl _ hk];exact r2)
 refine keep ?_ ⟨_,_,rfl⟩
 simp [-List.getD_eq_getElem?_getD,eM b1,eM b2,t1,t2,t3,t4,u1,u2]
theorem mP (h:HallN en re tb) {i j x:Nat} (hi:i < en.length) (hj:j < en.length) (e:(tb.getD i []).getD j (-1)=(x:Int)):cw [aW tb,.int (i:Int),.int (j:Int),.int (x:Int)]=.val .non:=by
 simp only [cw,fI]
 have ht:=h.tl
 obtain ⟨_,hx,_⟩:=BA h hi hj e
 have t1:=fj (tb:=tb) (show i < tb.length by omega)
 have t2:=fj (tb:=tb) (show j < tb.length by omega)
 have t3:=fj (tb:=tb) (show x < tb.length by omega)
 have:∀ F,bn (fu (aC (bin fix (vb 0) (vb 2)) aN)) (tg2 4 5) F (st0 ft [aW tb,.int (i:Int),.int (j:Int),.int (x:Int)])=bR (tg2 4 5) F (enu 0 ((tb.getD j []).map D.int)) [some (.shr (aW tb)),some (.shr (.int (i:Int))),some (.shr (.int (j:Int))),some (.shr (.int (x:Int))),none,none]:=fun F=>by
  show bn _ _ F [some (.shr (aW tb)),some (.shr (.int (i:Int))),some (.shr (.int (j:Int))),some (.shr (.int (x:Int))),none,none]=_
  simp [-List.getD_eq_getElem?_getD,t2];rfl
 rw [this]
 refine iO (fun ρ=>∃ a b,ρ=[some (.shr (aW tb)),some (.shr (.int (i:Int))),some (.shr (.int (j:Int))),some (.shr (.int (x:Int))),a,b]) (fun k d ρ ex hI=>?_) ⟨none,none,rfl⟩
 obtain ⟨a,b,rfl⟩:=hI
 obtain ⟨hk,rfl⟩:=uB ex
 rw [h.rl j hj] at hk
 refine keep ?_ ⟨_,_,rfl⟩
 rcases qp h hj hk with ey | ⟨y,hy,ey⟩
 ·rw [ey];simp
 ·rw [ey]
  have as:=h.as i j k x y hi hj hk e ey
  have t4:=fO (r:=tb.getD x []) (i:=k) (by rw [h.rl _ hx];exact hk)
  have t5:=fO (r:=tb.getD i []) (i:=y) (by rw [h.rl _ hi];exact hy)
  have ny:(y:Int) ≠ -1:=by omega
  simp [-List.getD_eq_getElem?_getD,t1,t3,t4,t5,as,ny]
theorem mO (h:HallN en re tb):cu [aW tb]=.val .non:=by
 simp only [cu,fH]
 show fin (bR (tg2 1 2) _ (enu 0 (tb.map aG)) [some (.shr (aW tb)),none,none,none,none])=_
 refine iO (fun ρ=>∃ a b c d,ρ=[some (.shr (aW tb)),a,b,c,d]) (fun k x ρ ex hI=>?_) ⟨none,none,none,none,rfl⟩
 obtain ⟨a,b,c,d,rfl⟩:=hI
 obtain ⟨hk,rfl⟩:=ut ex
 have hk':k < en.length:=by have:=h.tl;omega
 have:=ot (i:=3) (j:=4) (F:=DL.iff (tst (bin fne (vb 4) (una i_ (kd (.int 1))))) (drp (cal 4 cw (aC (vr 0) (aC (vr 1) (aC (vr 3) (aC (vr 4) aN)))))) nxt) (fun ρ=>∃ c d,ρ=[some (.shr (aW tb)),some (.shr (.int (k:Int))),some (.shr (aG (tb.getD k []))),c,d]) (xs:=(tb.getD k []).map D.int) (fun m x ρ ex hI=>?_) (ρ:=[some (.shr (aW tb)),some (.shr (.int (k:Int))),some (.shr (aG (tb.getD k []))),c,d]) ⟨c,d,rfl⟩
 ·obtain ⟨ρ',e,c',d',rfl⟩:=this
  exact ⟨_,e,_,_,_,_,rfl⟩
 ·obtain ⟨c,d,rfl⟩:=hI
  obtain ⟨hm,rfl⟩:=uB ex
  have hm':m < en.length:=by rw [h.rl k hk'] at hm;exact hm
  refine keep ?_ ⟨_,_,rfl⟩
  rcases qp h hk' hm' with ey | ⟨y,hy,ey⟩
  ·rw [ey];simp
  ·have:=mP h hk' hm' ey
   rw [ey]
   have ny:(y:Int) ≠ -1:=by omega
   simp [-List.getD_eq_getElem?_getD,this,ny]
theorem Bz (h:HallN en re tb):jw (jV (cS en) (al re) (aW tb))=.val (.ob (cS en) (al re) (aW tb)):=by
 have n1:=h.na40
 have n2:=h.tl
 have hf:bo (fIt (vr 3)) 1 (tgN 4) tT (eLs (fIt (vb 4))) (jV (cS en) (al re) (aW tb))=.val (tb.map aG):=eI (f:=aG) rfl (by omega) fun r _=>rfl
 unfold jw BE
 rw [hf]
 unfold jV
 simp [-List.getD_eq_getElem?_getD,xz,mQ h,pU h,oV h,pT h,oU h,ja h,mO h]
 rfl
end
theorem kQ (ns:List Int) (k:Nat):∃ c:Int,av [.scr ns,.int (k:Int)]=.val (.int c):=by
 simp only [av,iW]
 have m1:∀ i:Int,aV i 65521=.val (.int (i % 65521)):=fun i=>fi (by decide)
 have m2:∀ i:Int,fE i 48271=.val (.int (i * 48271)):=fun i=>kN (by decide)
 have m3:∀ i:Int,fE i 30103=.val (.int (i * 30103)):=fun i=>kN (by decide)
 show ∃ c,fin (sq _ _ [some (.shr (.scr ns)),some (.shr (.int (k:Int))),none])=_
 have t1:tst (bin (iI flt) (vb 1) (una aA (vb 0))) [some (.shr (.scr ns)),some (.shr (.int (k:Int))),none]=.val (decide ((k:Int) < (ns.length:Int))):=Eq.trans rfl rfl
 rw [be,cM,t1,af]
 by_cases h:k < ns.length
 ·have e:fix (.scr ns) (.int (k:Int))=.val (.int ns[k]):=B6 (List.getElem?_eq_getElem h)
  refine ⟨ns[k],?_⟩
  rw [if_pos (decide_eq_true (Int.ofNat_lt.mpr h)),eW,aE]
  show fin (R.bind (R.bind (fix (.scr ns) (.int (k:Int))) _) _)=_
  rw [e];rfl
 ·rw [if_neg (by rw [decide_eq_false (fun z=>h (Int.ofNat_lt.mp z))];decide),jk,af]
  dsimp only
  have t2:tst (bin (iI fgt) (una aA (vb 0)) (kd (.int 0))) [some (.shr (.scr ns)),some (.shr (.int (k:Int))),some (.shr (.int 0))]=.val (decide ((0:Int) < (ns.length:Int))):=Eq.trans rfl rfl
  have last:∀ b:Int,ret (bin (iI aV) (bin bH (bin (iI fE) (bin (iI aV) (vb 2) (kd (.int 65521))) (kd (.int 48271))) (bin (iI fE) (vb 1) (kd (.int 30103)))) (kd (.int 65521))) [some (.shr (.scr ns)),some (.shr (.int (k:Int))),some (.shr (.int b))]=.val (.rt (.int ((b % 65521 * 48271 + k * 30103) % 65521))):=fun b=>by
   have v2:vb 2 [some (.shr (.scr ns)),some (.shr (.int (k:Int))),some (.shr (.int b))]=.val (.int b):=Eq.trans rfl rfl
   have v1:vb 1 [some (.shr (.scr ns)),some (.shr (.int (k:Int))),some (.shr (.int b))]=.val (.int (k:Int)):=Eq.trans rfl rfl
   rw [eW,aE _ (iI aV),aE _ bH,aE _ (iI fE),aE _ (iI aV),v2,af,e7,af,fv,m1,af,e7,af,fv,m2,af,aE _ (iI fE),v1,af,e7,af,fv,m3,af,nn,af,af,fv,m1,af]
  have a2:asg 2 (kd (.int 0)) [some (.shr (.scr ns)),some (.shr (.int (k:Int))),none]=.val (.nx [some (.shr (.scr ns)),some (.shr (.int (k:Int))),some (.shr (.int 0))]):=Eq.trans rfl rfl
  rw [be,a2,af]
  dsimp only
  rw [be,cM,t2,af]
  by_cases h0:0 < ns.length
  ·have e:fix (.scr ns) (.int 0)=.val (.int ns[0]):=B6 (i:=0) (List.getElem?_eq_getElem h0)
   refine ⟨(ns[0] % 65521 * 48271 + k * 30103) % 65521,?_⟩
   rw [if_pos (decide_eq_true (show (0:Int) < (ns.length:Int) from Int.ofNat_lt.mpr h0)),gK,aE]
   show fin (R.bind (R.bind (fix (.scr ns) (.int 0)) _) _)=_
   rw [e]
   show fin (ret _ [some (.shr (.scr ns)),some (.shr (.int (k:Int))),some (.shr (.int ns[0]))])=_
   rw [last];rfl
  ·refine ⟨(0 % 65521 * 48271 + k * 30103) % 65521,?_⟩
   rw [if_neg (by rw [decide_eq_false (fun (z:(0:Int) < (ns.length:Int))=>h0 (Int.ofNat_lt.mp z))];decide),jk,af]
   dsimp only
   rw [last];rfl
theorem kP (s:Int):∃ c:Int,aR [.int s]=.val (.int c):=by
 simp only [aR,iU]
 have m1:∀ i:Int,aV i 2147483647=.val (.int (i % 2147483647)):=fun i=>fi (by decide)
 have m2:∀ i:Int,fE i 48271=.val (.int (i * 48271)):=fun i=>kN (by decide)
 show ∃ c,fin (ret _ [some (.shr (.int s))])=_
 refine ⟨(s * 48271 + 11) % 2147483647,?_⟩
 simp [m1,m2]
theorem xS (m:Nat) (h:m=1\/m=2\/m=3\/m=4):∃ sz ∈ szs,D.lst ((List.range m).map fun _=>D.int 1)=al sz:=by
 rcases h with rfl | rfl | rfl | rfl
 ·exact ⟨[1],by decide,rfl⟩
 ·exact ⟨[1,1],by decide,rfl⟩
 ·exact ⟨[1,1,1],by decide,rfl⟩
 ·exact ⟨[1,1,1,1],by decide,rfl⟩
def l6:List (List Nat):=[[1,2],[2,1],[2,2],[0,2],[2],[1]]
def l5:List (List Nat):=[[1,1,2],[0,1,2],[1,2,2],[2,1,0],[2,2]]
theorem EY:∀ i,i < 6->l6.getD i [] ∈ szs:=by decide
theorem EZ:∀ i,i < 5->l5.getD i [] ∈ szs:=by decide
theorem js (c:Int) (m:Nat) (h:0 < m):∃ i:Nat,i < m/\c % (m:Int)=(i:Int):=by
 have h':(0:Int) < (m:Int):=Int.ofNat_lt.mpr h
 obtain ⟨i,e⟩:=Int.eq_ofNat_of_zero_le (Int.emod_nonneg c (Int.ne_of_gt h'))
 refine ⟨i,?_,e⟩
 have:=Int.emod_lt_of_pos c h'
 rw [e] at this
 exact Int.ofNat_lt.mp this
theorem zp (ns:List Int) (k:Nat):∃ sz ∈ szs,d6 [.scr ns,.int (k:Int)]=.val (al sz):=by
 simp only [d6,g_]
 obtain ⟨c,hc⟩:=kQ ns k
 have d4:eG c 4=.val (.int (c / 4)):=rM (by decide)
 show ∃ sz ∈ szs,fin (sq _ _ [some (.shr (.scr ns)),some (.shr (.int (k:Int))),none,none])=_
 have x1:asg 2 (cal 2 av (aC (vr 0) (aC (vr 1) aN))) [some (.shr (.scr ns)),some (.shr (.int (k:Int))),none,none]=.val (.nx [some (.shr (.scr ns)),some (.shr (.int (k:Int))),some (.shr (.int c)),none]):=by
  rw [gK,zP]
  show R.bind (noex (av [.scr ns,.int (k:Int)])) _=_
  rw [hc];rfl
 have x2:asg 3 (bin (iI aV) (vb 2) (kd (.int 4))) [some (.shr (.scr ns)),some (.shr (.int (k:Int))),some (.shr (.int c)),none]=.val (.nx [some (.shr (.scr ns)),some (.shr (.int (k:Int))),some (.shr (.int c)),some (.shr (.int (c % 4)))]):=by
  rw [gK,aE]
  show R.bind (aV c 4) _=_
  rw [fi (by decide)];rfl
 rw [be,x1,af];dsimp only
 rw [be,x2,af];dsimp only
 have ix:∀ (w:Int) (m:Int),0 < m->bin (iI aV) (bin (iI eG) (vb 2) (kd (.int 4))) (kd (.int m)) [some (.shr (.scr ns)),some (.shr (.int (k:Int))),some (.shr (.int c)),some (.shr (.int w))]=.val (.int (c / 4 % m)):=fun w m hm=>by
  rw [aE,aE]
  show R.bind (eG c 4) _=_
  rw [d4]
  show aV (c / 4) m=_
  exact fi hm
 have ts:∀ (w:Int) (m:Int),tst (bin feq (vb 3) (kd (.int m))) [some (.shr (.scr ns)),some (.shr (.int (k:Int))),some (.shr (.int c)),some (.shr (.int w))]=.val (decide (w=m)):=fun w m=>by
  rw [bx,aE]
  show R.bind (feq (.int w) (.int m)) asB=_
  rw [lM];rfl
 obtain ⟨i,hi,ei⟩:=js c 4 (by decide)
 have ei:c % 4=(i:Int):=ei
 rw [ei]
 match i,hi with
 | 0,_ =>
  obtain ⟨j,hj,ej⟩:=js (c / 4) 4 (by decide)
  have ej:c / 4 % 4=(j:Int):=ej
  have hz:pD [.int (1 + c / 4 % 4)]=.val (rng 0 (1 + j)):=by
   rw [ej]
   have:=dz (n:=1 + j) (Nat.le_trans (Nat.add_le_add_left (Nat.le_of_lt hj) 1) (by decide))
   rw [Int.natCast_add] at this
   exact this
  have hf:bo (bV (aC (bin bH (kd (.int 1)) (bin (iI aV) (bin (iI eG) (vb 2) (kd (.int 4))) (kd (.int 4)))) aN)) 1 (tgN 4) tT (kd (.int 1)) [some (.shr (.scr ns)),some (.shr (.int (k:Int))),some (.shr (.int c)),some (.shr (.int ((0:Nat):Int)))]=.val ((List.range (1 + j)).map fun _=>D.int 1):=by
   refine gD ?_ (Nat.le_trans (Nat.add_le_add_left (Nat.le_of_lt hj) 1) (by decide)) fun k _=>rfl
   rw [gT,cR,aE,e7,af,ix _ 4 (by decide),af,nn,af,jZ,af,af,hz]
  obtain ⟨sz,hs,e⟩:=xS (1 + j) (by
   match j,hj with
   | 0,_=>exact .inl rfl
   | 1,_=>exact .inr (.inl rfl)
   | 2,_=>exact .inr (.inr (.inl rfl))
   | 3,_=>exact .inr (.inr (.inr rfl)))
  refine ⟨sz,hs,?_⟩
  rw [be,cM,ts,af,if_pos (by decide),eW,bN,hf,af,af,af]
  exact congrArg R.val e
 | 1,_ =>
  obtain ⟨j,hj,ej⟩:=js (c / 4) 6 (by decide)
  have ej:c / 4 % 6=(j:Int):=ej
  refine ⟨_,EY j hj,?_⟩
  have el:eL (aC (eL (aC (kd (.int 1)) (aC (kd (.int 2)) aN))) (aC (eL (aC (kd (.int 2)) (aC (kd (.int 1)) aN))) (aC (eL (aC (kd (.int 2)) (aC (kd (.int 2)) aN))) (aC (eL (aC (kd (.int 0)) (aC (kd (.int 2)) aN))) (aC (eL (aC (kd (.int 2)) aN)) (aC (eL (aC (kd (.int 1)) aN)) aN)))))) [some (.shr (.scr ns)),some (.shr (.int (k:Int))),some (.shr (.int c)),some (.shr (.int ((1:Nat):Int)))]=.val (.lst (l6.map al)):=Eq.trans rfl rfl
  rw [be,cM,ts,af,if_neg (by decide),jk,af];dsimp only
  rw [be,cM,ts,af,if_pos (by decide),eW,aE,el,af,ix _ 6 (by decide),af,ej,i7 (gB (d:=[]) hj)]
  rfl
 | 2,_ =>
  refine ⟨[3],by decide,?_⟩
  rw [be,cM,ts,af,if_neg (by decide),jk,af];dsimp only
  rw [be,cM,ts,af,if_neg (by decide),jk,af];dsimp only
  rw [be,cM,ts,af,if_pos (by decide)]
  exact Eq.trans rfl rfl
 | 3,_ =>
  obtain ⟨j,hj,ej⟩:=js (c / 4) 5 (by decide)
  have ej:c / 4 % 5=(j:Int):=ej
  refine ⟨_,EZ j hj,?_⟩
  have el:eL (aC (eL (aC (kd (.int 1)) (aC (kd (.int 1)) (aC (kd (.int 2)) aN)))) (aC (eL (aC (kd (.int 0)) (aC (kd (.int 1)) (aC (kd (.int 2)) aN)))) (aC (eL (aC (kd (.int 1)) (aC (kd (.int 2)) (aC (kd (.int 2)) aN)))) (aC (eL (aC (kd (.int 2)) (aC (kd (.int 1)) (aC (kd (.int 0)) aN)))) (aC (eL (aC (kd (.int 2)) (aC (kd (.int 2)) aN))) aN))))) [some (.shr (.scr ns)),some (.shr (.int (k:Int))),some (.shr (.int c)),some (.shr (.int ((3:Nat):Int)))]=.val (.lst (l5.map al)):=Eq.trans rfl rfl
  rw [be,cM,ts,af,if_neg (by decide),jk,af];dsimp only
  rw [be,cM,ts,af,if_neg (by decide),jk,af];dsimp only
  rw [be,cM,ts,af,if_neg (by decide),jk,af];dsimp only
  rw [eW,aE,el,af,ix _ 5 (by decide),af,ej,i7 (gB (d:=[]) hj)]
  rfl
abbrev Ek:Rho->R (List D):=aC (bin fix (vb 5) (kd (.int 0))) (aC (bin fix (vb 6) (kd (.int 1))) (aC (una kM (eLs (bo (fIt (bin fix (vb 5) (kd (.int 2)))) 1 (tgN 8) tT (bin fix (bin fix (vb 6) (kd (.int 2))) (vb 8))))) aN))
def ij (x:Arr):KA:=((x.1:Int),(x.2.1:Int),x.2.2.map fun (n:Nat)=>(n:Int))
theorem qk:∀ l:List Nat,ik (l.map nD)=some (l.map fun (n:Nat)=>(n:Int))
 | []=>rfl
 | a :: l=>by
  show (ik (l.map nD)).map _=_
  rw [qk l];rfl
theorem ii (x:Arr):pP (az x)=some (ij x):=by
 show (ik (x.2.2.map nD)).map _=_
 rw [qk];rfl
theorem oz {x y:Arr} (h:ij x=ij y):x=y:=by
 obtain ⟨a,b,l⟩:=x
 obtain ⟨c,d,m⟩:=y
 simp only [ij,Prod.mk.injEq] at h
 obtain ⟨h1,h2,h3⟩:=h
 have e3:l=m:=by
  have:∀ {l m:List Nat},(l.map fun (n:Nat)=>(n:Int))=(m.map fun (n:Nat)=>(n:Int))->l=m:=by
   intro l
   induction l with
   | nil=>intro m h;cases m with
    | nil=>rfl
    | cons _ _=>simp at h
   | cons a l ih=>intro m h;cases m with
    | nil=>simp at h
    | cons b m =>
     simp only [List.map_cons,List.cons.injEq] at h
     rw [ih h.2];congr 1;omega
  exact this h3
 rw [e3,show a=c by omega,show b=d by omega]
def met (kn:List Arr):List (KA × D):=kn.map fun x=>(ij x,.bl true)
theorem vR (kn:List Arr) (x:Arr):((met kn).any fun p=>decide (p.1=ij x))=decide (x ∈ kn):=by
 unfold met
 rw [List.any_map]
 by_cases h:x ∈ kn
 ·rw [decide_eq_true h,List.any_eq_true]
  exact ⟨x,h,by simp⟩
 ·rw [decide_eq_false h,List.any_eq_false]
  intro y hy
  simp only [Function.comp,decide_eq_true_eq]
  exact fun e=>h (oz e ▸ hy)
theorem vQ {kn:List Arr} {x:Arr} (h:x ∉ kn):oy (met kn) (ij x) (.bl true)=met (kn ++ [x]):=by
 unfold oy
 rw [vR,decide_eq_false h,if_neg (by decide)]
 unfold met
 rw [List.map_append];rfl
theorem vS:∀ (l acc:List Arr),(acc ++ l).Nodup->(acc ++ l).length<=100000->s_ (l.map az) (met acc)=some (met (acc ++ l))
 | [],acc,_,_=>by rw [List.append_nil];rfl
 | x :: l,acc,nd,hl=>by
  have hx:x ∉ acc:=fun h=>by
   rw [List.nodup_append] at nd
   exact nd.2.2 x h x (by simp) rfl
  have e:acc ++ x :: l=(acc ++ [x]) ++ l:=by simp
  rw [List.map_cons]
  unfold s_
  rw [ii]
  dsimp only
  have hl1:(met acc).length<=100000:=by unfold met;rw [List.length_map];simp at hl;omega
  rw [if_pos hl1,vQ hx,e]
  exact vS l (acc ++ [x]) (by rw [<- e];exact nd) (by rw [<- e];exact hl)
section
variable (ρ:Rho)
@[simp] theorem wq (i:Nat):zG i ρ=.val (.nx (ρ.set i (some (.dic [])))):=Eq.trans rfl rfl
theorem iY {i:Nat} {e:Rho->R D} {xs:List D} {d:D} (h:ρ[i]?=some (some (.own xs))) (he:e ρ=.val d) (hl:xs.length < 100000):app i e ρ=.val (.nx (ρ.set i (some (.own (xs ++ [d]))))):=by
 unfold app;rw [h];dsimp only;rw [he,af,if_pos (show xs.length < LIM from hl)]
theorem yW {i:Nat} {k e:Rho->R D} {xs:List D} {n:Nat} {d:D} (h:ρ[i]?=some (some (.own xs))) (hk:k ρ=.val (.int (n:Int))) (he:e ρ=.val d) (hn:n<=xs.length) (hl:xs.length < 100000):ins i k e ρ=.val (.nx (ρ.set i (some (.own (xs.take n ++ d :: xs.drop n))))):=by
 unfold ins;rw [h];dsimp only;rw [hk,af,he,af];dsimp only
 rw [if_pos ⟨by omega,by omega,(show xs.length < LIM from hl)⟩];rfl
theorem wp {i:Nat} {k e:Rho->R D} {kvs:List (KA × D)} {kd d:D} {ka:KA} (h:ρ[i]?=some (some (.dic kvs))) (hk:k ρ=.val kd) (he:e ρ=.val d) (ek:pP kd=some ka) (hl:kvs.length<=100000):rT i k e ρ=.val (.nx (ρ.set i (some (.dic (oy kvs ka d))))):=by
 unfold rT;rw [he,af,hk,rb,af,ek];dsimp only;rw [h];dsimp only;rw [if_pos hl]
theorem wr {i:Nat} {k:Rho->R D} {kvs:List (KA × D)} {kd d:D} {ka:KA} (h:ρ[i]?=some (some (.dic kvs))) (hk:k ρ=.val kd) (ek:pP kd=some ka) (hg:uR kvs ka=some d):rX i k ρ=.val d:=by
 unfold rX;rw [h];dsimp only;rw [hk,af,ek];dsimp only;rw [hg]
theorem BD {i:Nat} {k:Rho->R D} {kvs:List (KA × D)} {kd:D} {ka:KA} (h:ρ[i]?=some (some (.dic kvs))) (hk:k ρ=.val kd) (ek:pP kd=some ka):zF i k ρ=.val (!(kvs.any fun p=>decide (p.1=ka))):=by
 unfold zF;rw [hk,af,h];dsimp only;rw [ek]
end
def rC (kn:List Arr) (a:Nat) (o f s m:Option Slt):Rho:=[some (.own (kn.map az)),some (.dic (met kn)),none,some (.shr (nD a)),o,f,s,m]
abbrev pk:Rho->R Out:=DL.iff (tst (bin feq (bin fix (vb 5) (kd (.int 1))) (bin fix (vb 6) (kd (.int 0)))))
 (sq (asg 7 (eT Ek))
 (DL.iff (zF 1 (vr 7))
 (sq (rT 1 (vr 7) (kd (.bl true)))
 (app 0 (vr 7)))
 nxt))
 nxt
theorem Dt {sz:List Nat} {f s:Arr} (hf:Ok sz f) (hs:Ok sz s) (e:f.2.1=s.1):∀ i ∈ f.2.2,i < s.2.2.length:=by
 obtain ⟨n,m,h1,h2,h3,h4⟩:=hf
 obtain ⟨n',m',g1,g2,g3,g4⟩:=hs
 have hm:m=n':=by rw [e] at h2;rw [h2] at g1;exact Option.some.inj g1
 intro i hi
 rw [g3,<- hm];exact h4 i hi
theorem Ds {sz:List Nat} (hz:sz ∈ szs) {f:Arr} (hf:Ok sz f):f.2.2.length<=3:=by
 obtain ⟨n,m,h1,h2,h3,h4⟩:=hf
 rw [h3]
 exact (jL sz hz).2.2 n (List.mem_of_getElem? h1)
theorem Kn.few {sz kn} (hz:sz ∈ szs) (g:Kn sz kn):kn.length<=27 :=
 Nat.le_trans (gZ g.nd fun x hx=>td (g.ok x hx)) (sA sz hz)
theorem wu {sz:List Nat} (hz:sz ∈ szs) {f s:Arr} (hf:Ok sz f) (hs:Ok sz s) (e:f.2.1=s.1) {src:Rho->R (List D)} {el:Rho->R D} {ρ:Rho} {i:Nat} (h1:src ρ=.val (f.2.2.map nD)) (h2:∀ k:Nat,el ((ρ ++ List.replicate 1 none).set i (some (.shr (nD k))))=fix (.tup (s.2.2.map nD)) (.int (k:Int))) :
  bo src 1 (tgN i) tT el ρ=.val ((comp f s).2.2.map nD):=by
 have hl:=Ds hz hf
 have:=eI (f:=nD) (g:=fun k=>nD (s.2.2.getD k 0)) (n:=1) (i:=i) (e:=el) h1 (by omega) fun k hk=>by
  rw [h2 k]
  exact v7 (gB (Dt hf hs e k hk))
 rw [this]
 simp only [comp,List.map_map];rfl
theorem tV {sz kn:List _} (hz:sz ∈ szs) (hk:Kn sz kn) {f s:Arr} (hf:Ok sz f) (hs:Ok sz s) (a:Nat) (o m:Option Slt) :
  ∃ m',pk (rC kn a o (some (.shr (az f))) (some (.shr (az s))) m)=.val (.nx (rC (jd kn f s) a o (some (.shr (az f))) (some (.shr (az s))) m')):=by
 have few:=Kn.few hz hk
 unfold jd
 by_cases e:f.2.1=s.1
 ·rw [if_pos e]
  have hc:=wu hz hf hs e (src:=fIt (bin fix (vb 5) (kd (.int 2)))) (el:=bin fix (bin fix (vb 6) (kd (.int 2))) (vb 8)) (i:=8) (ρ:=rC kn a o (some (.shr (az f))) (some (.shr (az s))) m) (by simp [rC]) (fun k=>by simp [rC])
  refine ⟨some (.shr (az (comp f s))),?_⟩
  have ht:tst (bin feq (bin fix (vb 5) (kd (.int 1))) (bin fix (vb 6) (kd (.int 0)))) (rC kn a o (some (.shr (az f))) (some (.shr (az s))) m)=.val true:=by
   unfold rC;simp [e]
  have hv:eT Ek (rC kn a o (some (.shr (az f))) (some (.shr (az s))) m)=.val (az (comp f s)):=by
   simp only [oZ,cR,gY,bN,hc]
   unfold rC;simp;rfl
  show DL.iff _ _ _ _=_
  rw [cM,ht,af,if_pos rfl,be,gK,hv]
  show DL.iff _ _ _ (rC kn a o (some (.shr (az f))) (some (.shr (az s))) (some (.shr (az (comp f s)))))=_
  unfold p5
  rw [cM,BD (kvs:=met kn) _ rfl (kd:=az (comp f s)) rfl (ii _),vR]
  by_cases hin:comp f s ∈ kn
  ·rw [if_pos hin,decide_eq_true hin];rfl
  ·rw [if_neg hin,decide_eq_false hin]
   show sq _ _ _=_
   rw [be,wp (kvs:=met kn) _ rfl (kd:=az (comp f s)) rfl (d:=.bl true) rfl (ii _) (by unfold met;rw [List.length_map];omega),vQ hin]
   rw [af]
   dsimp only
   rw [iY (xs:=kn.map az) _ rfl (d:=az (comp f s)) rfl (by rw [List.length_map];omega)]
   unfold rC
   rw [List.map_append];rfl
 ·rw [if_neg e]
  refine ⟨m,?_⟩
  have e':¬ ((f.2.1:Int)=(s.1:Int)):=by omega
  unfold rC
  simp [e']
abbrev xT:Rho->R (List D):=fIt (eL (aC (eT (aC (bin fix (vb 0) (vb 3)) (aC (vr 4) aN))) (aC (eT (aC (vr 4) (aC (bin fix (vb 0) (vb 3)) aN))) aN)))
theorem Bp {sz kn:List _} (hz:sz ∈ szs) (hk:Kn sz kn) {a:Nat} {k o:Arr} (ha:kn[a]?=some k) (ho:Ok sz o) (f s m:Option Slt) :
  ∃ f' s' m',bn xT (tg2 5 6) pk (rC kn a (some (.shr (az o))) f s m)=.val (.nx (rC (li k kn o) a (some (.shr (az o))) f' s' m')):=by
 have hkk:Ok sz k:=hk.ok k (List.mem_of_getElem? ha)
 have hx:fix (.lst (kn.map az)) (.int (a:Int))=.val (az k):=i7 (by rw [List.getElem?_map,ha];rfl)
 have hs:xT (rC kn a (some (.shr (az o))) f s m)=.val [.tup [az k,az o],.tup [az o,az k]]:=by
  unfold rC;simp [hx]
 obtain ⟨m1,e1⟩:=tV hz hk hkk ho a (some (.shr (az o))) m
 obtain ⟨m2,e2⟩:=tV hz (nG hk hkk ho) ho hkk a (some (.shr (az o))) m1
 refine ⟨some (.shr (az o)),some (.shr (az k)),m2,?_⟩
 rw [cz,hs,af]
 unfold bR
 show (pk (rC kn a (some (.shr (az o))) (some (.shr (az k))) (some (.shr (az o))) m)).bind _=_
 rw [e1,af]
 dsimp only
 unfold bR
 show (pk (rC (jd kn k o) a (some (.shr (az o))) (some (.shr (az o))) (some (.shr (az k))) m1)).bind _=_
 rw [e2,af]
 rfl
theorem wa {sz:List Nat} (hz:sz ∈ szs) {a:Nat} {k:Arr}:∀ (snap:List Arr) {kn:List Arr} (hk:Kn sz kn) (ha:kn[a]?=some k) (hs:∀ o ∈ snap,Ok sz o) (o f s m:Option Slt),
  ∃ o' f' s' m',bR (tgN 4) (bn xT (tg2 5 6) pk) (snap.map az) (rC kn a o f s m)=.val (.nx (rC (q9 k kn snap) a o' f' s' m'))
 | [],kn,hk,ha,hs,o,f,s,m=>⟨o,f,s,m,rfl⟩
 | q :: r,kn,hk,ha,hs,o,f,s,m=>by
  have hq:=hs q (by simp)
  have hkk:Ok sz k:=hk.ok k (List.mem_of_getElem? ha)
  obtain ⟨f1,s1,m1,e1⟩:=Bp hz hk ha hq f s m
  obtain ⟨o2,f2,s2,m2,e2⟩:=wa hz r (vo hk hkk hq) (vG (sx k kn q) ha) (fun x hx=>hs x (by simp [hx])) (some (.shr (az q))) f1 s1 m1
  refine ⟨o2,f2,s2,m2,?_⟩
  rw [List.map_cons]
  unfold bR
  show (bn xT (tg2 5 6) pk (rC kn a (some (.shr (az q))) f s m)).bind _=_
  rw [e1,af]
  exact e2
abbrev zU:Rho->R Out:=sq (bn (fIt (eLs (fIt (vb 0)))) (tgN 4) (bn xT (tg2 5 6) pk)) (asg 3 (bin bH (vb 3) (kd (.int 1))))
abbrev zJ:Rho->R Bool:=tst (bin (iI flt) (vb 3) (una aA (vb 0)))
theorem zu {sz:List Nat} (hz:sz ∈ szs) {a:Nat} {k:Arr} {kn:List Arr} (hk:Kn sz kn) (ha:kn[a]?=some k) (o f s m:Option Slt) :
  ∃ o' f' s' m',zU (rC kn a o f s m)=.val (.nx (rC (q9 k kn kn) (a + 1) o' f' s' m')):=by
 obtain ⟨o',f',s',m',e⟩:=wa hz kn hk ha hk.ok o f s m
 refine ⟨o',f',s',m',?_⟩
 show sq _ _ _=_
 rw [be,cz]
 have:fIt (eLs (fIt (vb 0))) (rC kn a o f s m)=.val (kn.map az):=by unfold rC;simp
 rw [this,af,e,af]
 show asg 3 _ _=_
 unfold rC
 simp
theorem tP {sz:List Nat} (hz:sz ∈ szs):∀ (n a:Nat) (kn:List Arr) (o f s m:Option Slt),Kn sz kn->Cl kn a->a<=kn.length->28<=n + a ->
  ∃ kn' a' o' f' s' m',whD zJ zU n (rC kn a o f s m)=.val (.nx (rC kn' a' o' f' s' m'))/\Kn sz kn'/\kn <+: kn'/\Cl kn' kn'.length
 | 0,a,kn,o,f,s,m,hk,hc,hl,hn=>by have:=Kn.few hz hk;omega
 | n + 1,a,kn,o,f,s,m,hk,hc,hl,hn=>by
  have hcond:zJ (rC kn a o f s m)=.val (decide (a < kn.length)):=by
   unfold rC;simp
  unfold whD
  rw [hcond,af]
  by_cases h:a < kn.length
  ·rw [decide_eq_true h,if_pos rfl]
   have ha:kn[a]?=some kn[a]:=by simp [h]
   obtain ⟨o',f',s',m',e⟩:=zu hz hk ha o f s m
   have hkk:Ok sz kn[a]:=hk.ok _ (List.getElem_mem h)
   have pre:=jj kn[a] kn kn
   obtain ⟨kn',a',o2,f2,s2,m2,e2,g1,g2,g3⟩:=tP hz n (a + 1) (q9 kn[a] kn kn) o' f' s' m' (vK hkk hk hk.ok) (AJ hc ha) (Nat.le_trans h pre.length_le) (by omega)
   rw [e,af]
   exact ⟨kn',a',o2,f2,s2,m2,e2,g1,pre.trans g2,g3⟩
  ·rw [decide_eq_false h]
   have:a=kn.length:=by omega
   subst this
   exact ⟨kn,kn.length,o,f,s,m,rfl,hk,List.prefix_refl _,hc⟩
theorem xm {sz kn:List _} (hz:sz ∈ szs) (hk:Kn sz kn):∃ kn',cP (kn.map az)=.val (.lst (kn'.map az))/\Kn sz kn'/\kn <+: kn'/\∀ x ∈ kn',∀ y ∈ kn',x.2.1=y.1->comp x y ∈ kn':=by
 have few:=Kn.few hz hk
 obtain ⟨kn',a',o',f',s',m',e,g1,g2,g3⟩:=tP hz 30 0 kn none none none none hk (fun i j x y hi=>absurd hi (Nat.not_lt_zero _)) (Nat.zero_le _) (by omega)
 refine ⟨kn',?_,g1,g2,D2 g3⟩
 have hm:s_ (kn.map az) []=some (met kn):=vS kn [] (by simpa using hk.nd) (by simp;omega)
 have h0:oH 0 2 1 [some (.own (kn.map az)),some (.dic []),none,none,none,none,none,none]=.val (.nx [some (.own (kn.map az)),some (.dic (met kn)),none,none,none,none,none,none]):=by
  show (match s_ (kn.map az) [] with | some kvs'=>_ | none=>_)=_
  rw [hm];rfl
 simp only [cP,gF]
 show fin (sq (zG 1) _ [some (.own (kn.map az)),none,none,none,none,none,none,none])=_
 rw [be,wq,af]
 show fin (sq (oH 0 2 1) _ [some (.own (kn.map az)),some (.dic []),none,none,none,none,none,none])=_
 rw [be,h0,af]
 show fin (sq (asg 3 (kd (.int 0))) _ [some (.own (kn.map az)),some (.dic (met kn)),none,none,none,none,none,none])=_
 rw [be,gK,e7,af,af]
 show fin (sq (whD zJ zU 30) _ (rC kn 0 none none none none))=_
 rw [be,e,af]
 rfl
abbrev Cr:Rho->R Bool:=tst (bin (iI fgt) (bin fix (vb 2) (vb 7)) (kd (.int 0)))
abbrev Cq:Rho->R Bool:=tst (bin feq (bin fix (vb 2) (vb 6)) (kd (.int 0)))
theorem Ao (n:Nat):rng 0 n=(List.range n).map nD:=by
 unfold rng
 apply List.map_congr_left
 intro k _
 simp [nD]
theorem vC {n:Nat} (h:n<=100000):rgT [.int (n:Int)]=.val (.tup ((List.range n).map nD)):=by
 have:-(2 ^ 62)<=(n:Int)/\(n:Int)<=100000:=by constructor <;> omega
 unfold rgT
 dsimp only
 rw [if_pos this,Int.toNat_natCast,Ao]
theorem ze (x:Arr) (kn:List Arr):fh true (az x) (.lst (kn.map az))=.val (.bl (!decide (x ∈ kn))):=by
 have h1:eqb 8 (az x)=true:=cT (jO x)
 have h2:(kn.map az).all (eqb 8)=true:=by
  rw [List.all_eq_true]
  intro y hy
  obtain ⟨a,_,rfl⟩:=List.mem_map.mp hy
  exact cT (jO a)
 unfold fh
 dsimp only
 rw [if_pos ⟨h1,h2⟩]
 have:((kn.map az).any fun y=>pyq 8 y (az x))=decide (x ∈ kn):=by
  rw [List.any_map]
  by_cases h:x ∈ kn
  ·rw [decide_eq_true h,List.any_eq_true]
   exact ⟨x,h,(gR 8 (jO x) (jO x)).mpr rfl⟩
  ·rw [decide_eq_false h,List.any_eq_false]
   intro y hy e
   exact h (arrD_inj.mp ((gR 8 (jO y) (jO x)).mp e) ▸ hy)
 rw [this];rfl
theorem wE:∀ sz ∈ szs,∀ a,a < sz.length->∀ b,b < sz.length->sz.getD a 0=3->sz.getD b 0=3:=by decide +kernel
theorem jR {sz:List Nat} {i:Nat} (h:i < sz.length):fix (al sz) (.int (i:Int))=.val (.int ((sz.getD i 0:Nat):Int)):=eM h
theorem DO {sz:List Nat} {b:Nat} (h:b < sz.length):Ok sz (idm sz b):=by
 refine ⟨sz[b],sz[b],by simp [idm,h],by simp [idm,h],?_,fun y hy=>?_⟩
 ·simp [idm,h]
 ·simp [idm,h] at hy;exact hy
theorem DN (sz:List Nat):Kn sz ((List.range sz.length).map (idm sz)):=by
 refine ⟨?_,fun x hx=>?_⟩
 ·unfold List.Nodup
  rw [List.pairwise_map]
  exact List.nodup_range.imp fun {a b} h e=>h (by simpa [idm] using congrArg (·.1) e)
 ·obtain ⟨b,hb,rfl⟩:=List.mem_map.mp hx
  exact DO (List.mem_range.mp hb)
def rA (ns:List Int) (k:Nat) (sz:List Nat) (known:Slt) (st:Int) (a5 a6 a7 a8 a9 a10 a11:Option Slt):Rho:=[some (.shr (.scr ns)),some (.shr (nD k)),some (.shr (al sz)),some known,some (.shr (.int st)),a5,a6,a7,a8,a9,a10,a11]
section
variable {ns:List Int} {k:Nat} {sz:List Nat}
abbrev ya:Rho->R Out:=sq (asg 4 (cal 1 aR (aC (vr 4) aN)))
 (DL.iff (tst (bin feq (bin fix (vb 2) (vb 6)) (kd (.int 3))))
 (ins 8 (bin (iI aV) (bin (iI eG) (vb 4) (kd (.int 64))) (bin bH (vb 9) (kd (.int 1)))) (vr 9))
 (app 8 (bin (iI aV) (bin (iI eG) (vb 4) (kd (.int 64))) (tX (aC (kd (.int 1)) (aC (bin fix (vb 2) (vb 7)) aN))))))
def bnd (s1 s2:Nat):Nat:=if s1=3 then 3 else max 1 s2
theorem d64 (i:Int):eG i 64=.val (.int (i / 64)):=rM (by decide)
theorem Bu {known:Slt} {st:Int} {o1 o2 x:Nat} {l:List Nat} {a5 a10 a11:Option Slt} (h1:o1 < sz.length) (h2:o2 < sz.length) (hx:x < sz.getD o1 0) (hl:l.length=x) (hx3:sz.getD o1 0<=3) (hb:∀ y ∈ l,y < bnd (sz.getD o1 0) (sz.getD o2 0)) :
  ∃ (st':Int) (l':List Nat),ya (rA ns k sz known st a5 (some (.shr (nD o1))) (some (.shr (nD o2))) (some (.own (l.map nD))) (some (.shr (nD x))) a10 a11)=.val (.nx (rA ns k sz known st' a5 (some (.shr (nD o1))) (some (.shr (nD o2))) (some (.own (l'.map nD))) (some (.shr (nD x))) a10 a11))/\l'.length=x + 1/\∀ y ∈ l',y < bnd (sz.getD o1 0) (sz.getD o2 0):=by
 obtain ⟨st',hst⟩:=kP st
 have f1:=jR (sz:=sz) h1
 have f2:=jR (sz:=sz) h2
 have hA:asg 4 (cal 1 aR (aC (vr 4) aN)) (rA ns k sz known st a5 (some (.shr (nD o1))) (some (.shr (nD o2))) (some (.own (l.map nD))) (some (.shr (nD x))) a10 a11)=.val (.nx (rA ns k sz known st' a5 (some (.shr (nD o1))) (some (.shr (nD o2))) (some (.own (l.map nD))) (some (.shr (nD x))) a10 a11)):=by
  unfold rA;simp [hst]
 have hT:tst (bin feq (bin fix (vb 2) (vb 6)) (kd (.int 3))) (rA ns k sz known st' a5 (some (.shr (nD o1))) (some (.shr (nD o2))) (some (.own (l.map nD))) (some (.shr (nD x))) a10 a11)=.val (decide (((sz.getD o1 0:Nat):Int)=3)):=by
  unfold rA;simp [-List.getD_eq_getElem?_getD,f1]
 show ∃ (st':Int) (l':List Nat),sq _ _ _=_/\_
 rw [be,hA,af]
 dsimp only
 rw [cM,hT,af]
 by_cases e3:sz.getD o1 0=3
 ·rw [if_pos (by simp [-List.getD_eq_getElem?_getD,e3])]
  have hm:aV (st' / 64) ((x:Int) + 1)=.val (.int (st' / 64 % ((x:Int) + 1))):=fi (by omega)
  have p0:0<=st' / 64 % ((x:Int) + 1):=Int.emod_nonneg _ (by omega)
  have p1:st' / 64 % ((x:Int) + 1) < (x:Int) + 1:=Int.emod_lt_of_pos _ (by omega)
  obtain ⟨p,hp⟩:∃ p:Nat,st' / 64 % ((x:Int) + 1)=(p:Int):=⟨_,(Int.toNat_of_nonneg p0).symm⟩
  refine ⟨st',l.take p ++ x :: l.drop p,?_,?_,fun y hy=>?_⟩
  ·rw [yW (xs:=l.map nD) (n:=p) (d:=nD x) _ rfl (by unfold rA;simp [d64,hm,hp]) rfl (by rw [List.length_map];omega) (by rw [List.length_map];omega)]
   unfold rA
   simp
  ·rw [List.length_append,List.length_cons,List.length_take,List.length_drop];omega
  ·unfold bnd
   rw [if_pos e3]
   rcases List.mem_append.mp hy with q | q
   ·have:=hb y (List.mem_of_mem_take q)
    unfold bnd at this;rw [if_pos e3] at this;exact this
   ·rcases List.mem_cons.mp q with q | q
    ·rw [q];omega
    ·have:=hb y (List.mem_of_mem_drop q)
     unfold bnd at this;rw [if_pos e3] at this;exact this
 ·have e3':¬ (((sz.getD o1 0:Nat):Int)=3):=by omega
  rw [if_neg (by simp [-List.getD_eq_getElem?_getD];exact e3')]
  have hmx:(if ((sz.getD o2 0:Nat):Int) > 1 then ((sz.getD o2 0:Nat):Int) else 1)=((max 1 (sz.getD o2 0):Nat):Int):=by
   split <;> omega
  have hm:aV (st' / 64) ((max 1 (sz.getD o2 0):Nat):Int)=.val (.int (st' / 64 % ((max 1 (sz.getD o2 0):Nat):Int))):=fi (by omega)
  have p0:0<=st' / 64 % ((max 1 (sz.getD o2 0):Nat):Int):=Int.emod_nonneg _ (by omega)
  have p1:st' / 64 % ((max 1 (sz.getD o2 0):Nat):Int) < ((max 1 (sz.getD o2 0):Nat):Int):=Int.emod_lt_of_pos _ (by omega)
  obtain ⟨p,hp⟩:∃ p:Nat,st' / 64 % ((max 1 (sz.getD o2 0):Nat):Int)=(p:Int):=⟨_,(Int.toNat_of_nonneg p0).symm⟩
  refine ⟨st',l ++ [p],?_,by rw [List.length_append,hl];rfl,fun y hy=>?_⟩
  ·rw [iY (xs:=l.map nD) (d:=nD p) _ rfl (by unfold rA;simp only [aE,gY,vn,e7,af,wo,cR,jZ,fv,List.getElem?_cons_succ,List.getElem?_cons_zero,f2,v6,d64];rw [hmx,hm,hp]) (by rw [List.length_map];omega)]
   unfold rA
   simp
  ·rcases List.mem_append.mp hy with q | q
   ·exact hb y q
   ·rw [List.mem_singleton.mp q]
    unfold bnd;rw [if_neg e3];omega
theorem Br {known:Slt} {st:Int} {o1 o2:Nat} {a5 a9 a10 a11:Option Slt} (h1:o1 < sz.length) (h2:o2 < sz.length) (hx3:sz.getD o1 0<=3) :
  ∃ (st':Int) (l:List Nat) (a9':Option Slt),bR (tgN 9) ya (rng 0 (sz.getD o1 0)) (rA ns k sz known st a5 (some (.shr (nD o1))) (some (.shr (nD o2))) (some (.own [])) a9 a10 a11)=.val (.nx (rA ns k sz known st' a5 (some (.shr (nD o1))) (some (.shr (nD o2))) (some (.own (l.map nD))) a9' a10 a11))/\l.length=sz.getD o1 0/\∀ y ∈ l,y < bnd (sz.getD o1 0) (sz.getD o2 0):=by
 obtain ⟨ρ',e,st',l,a9',rfl,g1,g2⟩:=jl (i:=9) (n:=sz.getD o1 0) (F:=ya) (ρ:=rA ns k sz known st a5 (some (.shr (nD o1))) (some (.shr (nD o2))) (some (.own [])) a9 a10 a11) (fun x ρ=>∃ (st:Int) (l:List Nat) (a9:Option Slt),ρ=rA ns k sz known st a5 (some (.shr (nD o1))) (some (.shr (nD o2))) (some (.own (l.map nD))) a9 a10 a11/\l.length=x/\∀ y ∈ l,y < bnd (sz.getD o1 0) (sz.getD o2 0)) (fun x ρ hx hI=>by
  obtain ⟨st,l,a9,rfl,hl,hb⟩:=hI
  obtain ⟨st',l',e,g1,g2⟩:=Bu (ns:=ns) (k:=k) (known:=known) (st:=st) (a5:=a5) (a10:=a10) (a11:=a11) h1 h2 hx hl hx3 hb
  exact ⟨_,e,st',l',_,rfl,g1,g2⟩) ⟨st,[],a9,rfl,rfl,fun y hy=>by cases hy⟩
 exact ⟨st',l,a9',e,g1,g2⟩
abbrev ub:Rho->R Out:=sq (asg 4 (cal 1 aR (aC (vr 4) aN)))
 (sq (asg 6 (bin (iI aV) (bin (iI eG) (vb 4) (kd (.int 64))) (una aA (vb 2))))
 (sq (asg 4 (cal 1 aR (aC (vr 4) aN)))
 (sq (asg 7 (bin (iI aV) (bin (iI eG) (vb 4) (kd (.int 64))) (una aA (vb 2))))
 (sq (own 8 (fU aN))
 (sq (bn (bV (aC (bin fix (vb 2) (vb 6)) aN)) (tgN 9) ya)
 (DL.iff (orB Cq Cr)
 (DL.iff (tst (bin (fh true) (eT (aC (vr 6) (aC (vr 7) (aC (una kM (vb 8)) aN)))) (vb 3)))
 (app 3 (eT (aC (vr 6) (aC (vr 7) (aC (una kM (vb 8)) aN)))))
 nxt)
 nxt))))))
theorem zf:aA (al sz)=.val (.int ((sz.length:Nat):Int)):=by
 show R.val (D.int (((sz.map nD).length:Nat):Int))=_
 rw [List.length_map]
theorem yD {known:Slt} {st s1:Int} {a5 a6 a7 a8 a9 a10 a11:Option Slt} (h:aR [.int st]=.val (.int s1)):asg 4 (cal 1 aR (aC (vr 4) aN)) (rA ns k sz known st a5 a6 a7 a8 a9 a10 a11)=.val (.nx (rA ns k sz known s1 a5 a6 a7 a8 a9 a10 a11)):=by
 rw [gK,zP]
 show R.bind (noex (aR [.int st])) _=_
 rw [h];rfl
theorem yq {known:Slt} {s1:Int} {o:Nat} {a5 a6 a7 a8 a9 a10 a11:Option Slt} (q:aV (s1 / 64) (sz.length:Int)=.val (.int (o:Int))):bin (iI aV) (bin (iI eG) (vb 4) (kd (.int 64))) (una aA (vb 2)) (rA ns k sz known s1 a5 a6 a7 a8 a9 a10 a11)=.val (nD o):=by
 rw [aE,aE]
 show R.bind (eG s1 64) _=_
 rw [d64,af,gY]
 show R.bind (R.bind (.val (al sz)) aA) _=_
 rw [af,zf]
 exact q
theorem AA {known:Slt} {s1:Int} {o:Nat} {a5 a6 a7 a8 a9 a10 a11:Option Slt} (q:aV (s1 / 64) (sz.length:Int)=.val (.int (o:Int))):asg 6 (bin (iI aV) (bin (iI eG) (vb 4) (kd (.int 64))) (una aA (vb 2))) (rA ns k sz known s1 a5 a6 a7 a8 a9 a10 a11)=.val (.nx (rA ns k sz known s1 a5 (some (.shr (nD o))) a7 a8 a9 a10 a11)):=by
 rw [gK,yq q];rfl
theorem Az {known:Slt} {s1:Int} {o:Nat} {a5 a6 a7 a8 a9 a10 a11:Option Slt} (q:aV (s1 / 64) (sz.length:Int)=.val (.int (o:Int))):asg 7 (bin (iI aV) (bin (iI eG) (vb 4) (kd (.int 64))) (una aA (vb 2))) (rA ns k sz known s1 a5 a6 a7 a8 a9 a10 a11)=.val (.nx (rA ns k sz known s1 a5 a6 (some (.shr (nD o))) a8 a9 a10 a11)):=by
 rw [gK,yq q];rfl
theorem pick (st:Int) {n:Nat} (h:1<=n):∃ p:Nat,p < n/\aV (st / 64) (n:Int)=.val (.int (p:Int)):=by
 have hm:aV (st / 64) (n:Int)=.val (.int (st / 64 % (n:Int))):=fi (by omega)
 have p0:0<=st / 64 % (n:Int):=Int.emod_nonneg _ (by omega)
 have p1:st / 64 % (n:Int) < (n:Int):=Int.emod_lt_of_pos _ (by omega)
 refine ⟨(st / 64 % (n:Int)).toNat,by omega,?_⟩
 rw [hm,Int.toNat_of_nonneg p0]
theorem zv (hz:sz ∈ szs) {kn:List Arr} (hk:Kn sz kn) (st:Int) (a5 a6 a7 a8 a9 a10 a11:Option Slt) :
  ∃ (kn':List Arr) (st':Int) (b6 b7 b8 b9:Option Slt),ub (rA ns k sz (.own (kn.map az)) st a5 a6 a7 a8 a9 a10 a11)=.val (.nx (rA ns k sz (.own (kn'.map az)) st' a5 b6 b7 b8 b9 a10 a11))/\Kn sz kn'/\kn <+: kn':=by
 obtain ⟨l1,l4,l3⟩:=jL sz hz
 have few:=Kn.few hz hk
 obtain ⟨s1,hs1⟩:=kP st
 obtain ⟨o1,ho1,q1⟩:=pick s1 l1
 obtain ⟨s2,hs2⟩:=kP s1
 obtain ⟨o2,ho2,q2⟩:=pick s2 l1
 have g3:sz.getD o1 0<=3:=by rw [bA ho1];exact l3 _ (List.getElem_mem ho1)
 obtain ⟨s3,l,a9',e,hl,hb⟩:=Br (ns:=ns) (k:=k) (sz:=sz) (known:=.own (kn.map az)) (st:=s2) (a5:=a5) (a9:=a9) (a10:=a10) (a11:=a11) ho1 ho2 g3
 have f1:=jR (sz:=sz) ho1
 have f2:=jR (sz:=sz) ho2
 have hr:pD [.int ((sz.getD o1 0:Nat):Int)]=.val (rng 0 (sz.getD o1 0)):=dz (by omega)
 have start:ub (rA ns k sz (.own (kn.map az)) st a5 a6 a7 a8 a9 a10 a11)=DL.iff (orB Cq Cr)
   (DL.iff (tst (bin (fh true) (eT (aC (vr 6) (aC (vr 7) (aC (una kM (vb 8)) aN)))) (vb 3)))
   (app 3 (eT (aC (vr 6) (aC (vr 7) (aC (una kM (vb 8)) aN))))) nxt) nxt (rA ns k sz (.own (kn.map az)) s3 a5 (some (.shr (nD o1))) (some (.shr (nD o2))) (some (.own (l.map nD))) a9' a10 a11):=by
  have x1:asg 4 (cal 1 aR (aC (vr 4) aN)) (rA ns k sz (.own (kn.map az)) st a5 a6 a7 a8 a9 a10 a11)=.val (.nx (rA ns k sz (.own (kn.map az)) s1 a5 a6 a7 a8 a9 a10 a11)):=yD hs1
  have x2:asg 6 (bin (iI aV) (bin (iI eG) (vb 4) (kd (.int 64))) (una aA (vb 2))) (rA ns k sz (.own (kn.map az)) s1 a5 a6 a7 a8 a9 a10 a11)=.val (.nx (rA ns k sz (.own (kn.map az)) s1 a5 (some (.shr (nD o1))) a7 a8 a9 a10 a11)):=AA q1
  have x3:asg 4 (cal 1 aR (aC (vr 4) aN)) (rA ns k sz (.own (kn.map az)) s1 a5 (some (.shr (nD o1))) a7 a8 a9 a10 a11)=.val (.nx (rA ns k sz (.own (kn.map az)) s2 a5 (some (.shr (nD o1))) a7 a8 a9 a10 a11)):=yD hs2
  have x4:asg 7 (bin (iI aV) (bin (iI eG) (vb 4) (kd (.int 64))) (una aA (vb 2))) (rA ns k sz (.own (kn.map az)) s2 a5 (some (.shr (nD o1))) a7 a8 a9 a10 a11)=.val (.nx (rA ns k sz (.own (kn.map az)) s2 a5 (some (.shr (nD o1))) (some (.shr (nD o2))) a8 a9 a10 a11)):=Az q2
  have x5:own 8 (fU aN) (rA ns k sz (.own (kn.map az)) s2 a5 (some (.shr (nD o1))) (some (.shr (nD o2))) a8 a9 a10 a11)=.val (.nx (rA ns k sz (.own (kn.map az)) s2 a5 (some (.shr (nD o1))) (some (.shr (nD o2))) (some (.own [])) a9 a10 a11)):=Eq.trans rfl rfl
  have x6:bn (bV (aC (bin fix (vb 2) (vb 6)) aN)) (tgN 9) ya (rA ns k sz (.own (kn.map az)) s2 a5 (some (.shr (nD o1))) (some (.shr (nD o2))) (some (.own [])) a9 a10 a11)=.val (.nx (rA ns k sz (.own (kn.map az)) s3 a5 (some (.shr (nD o1))) (some (.shr (nD o2))) (some (.own (l.map nD))) a9' a10 a11)):=by
   rw [cz]
   have:bV (aC (bin fix (vb 2) (vb 6)) aN) (rA ns k sz (.own (kn.map az)) s2 a5 (some (.shr (nD o1))) (some (.shr (nD o2))) (some (.own [])) a9 a10 a11)=.val (rng 0 (sz.getD o1 0)):=by unfold rA;simp [-List.getD_eq_getElem?_getD,f1,hr]
   rw [this,af,e]
  show sq _ _ _=_
  rw [be,x1,af];dsimp only
  rw [be,x2,af];dsimp only
  rw [be,x3,af];dsimp only
  rw [be,x4,af];dsimp only
  rw [be,x5,af];dsimp only
  rw [be,x6,af]
 rw [start]
 have hT:orB Cq Cr (rA ns k sz (.own (kn.map az)) s3 a5 (some (.shr (nD o1))) (some (.shr (nD o2))) (some (.own (l.map nD))) a9' a10 a11)=.val (decide (sz.getD o1 0=0\/0 < sz.getD o2 0)):=by
  unfold rA
  by_cases z:sz.getD o1 0=0
  ·simp [-List.getD_eq_getElem?_getD,f1,z]
  ·have z':¬ (((sz.getD o1 0:Nat):Int)=0):=by omega
   simp [-List.getD_eq_getElem?_getD,f1,f2,z,z']
 rw [cM,hT,af]
 by_cases hc:sz.getD o1 0=0\/0 < sz.getD o2 0
 ·rw [decide_eq_true hc,if_pos rfl]
  have hok:Ok sz (o1,o2,l):=by
   refine ⟨sz.getD o1 0,sz.getD o2 0,by rw [bA ho1];simp [ho1],by rw [bA ho2];simp [ho2],hl,fun y hy=>?_⟩
   have:=hb y hy
   unfold bnd at this
   have hy0:sz.getD o1 0 ≠ 0:=fun z=>by
    rw [z] at hl
    have:l=[]:=List.length_eq_zero_iff.mp hl
    rw [this] at hy;cases hy
   split at this
   ·rename_i e3
    have:=wE sz hz o1 ho1 o2 ho2 e3
    omega
   ·rcases hc with hc | hc
    ·exact absurd hc hy0
    ·have:max 1 (sz.getD o2 0)=sz.getD o2 0:=by omega
     omega
  have hv:eT (aC (vr 6) (aC (vr 7) (aC (una kM (vb 8)) aN))) (rA ns k sz (.own (kn.map az)) s3 a5 (some (.shr (nD o1))) (some (.shr (nD o2))) (some (.own (l.map nD))) a9' a10 a11)=.val (az (o1,o2,l)):=by
   unfold rA;simp;rfl
  have hn:tst (bin (fh true) (eT (aC (vr 6) (aC (vr 7) (aC (una kM (vb 8)) aN)))) (vb 3)) (rA ns k sz (.own (kn.map az)) s3 a5 (some (.shr (nD o1))) (some (.shr (nD o2))) (some (.own (l.map nD))) a9' a10 a11)=.val (!decide ((o1,o2,l) ∈ kn)):=by
   rw [bx,aE,hv,af]
   show ((R.val (D.lst (kn.map az))).bind fun y=>fh true (az (o1,o2,l)) y).bind asB=_
   rw [af,ze];rfl
  rw [cM,hn,af]
  refine ⟨p5 kn (o1,o2,l),s3,some (.shr (nD o1)),some (.shr (nD o2)),some (.own (l.map nD)),a9',?_,wA hk hok,uc _ _⟩
  unfold p5
  by_cases hin:(o1,o2,l) ∈ kn
  ·rw [if_pos hin,decide_eq_true hin];rfl
  ·rw [if_neg hin,decide_eq_false hin]
   rw [if_pos (show (!false)=true from rfl)]
   rw [iY (xs:=kn.map az) _ rfl hv (by rw [List.length_map];omega)]
   unfold rA
   rw [List.map_append];rfl
 ·rw [decide_eq_false hc]
  exact ⟨kn,s3,_,_,_,_,rfl,hk,List.prefix_refl _⟩
end
abbrev Cp:Rho->R (List D):=aC (bin (iI aV) (cal 2 av (aC (vr 0) (aC (bin bH (vb 1) (kd (.int 1))) aN))) (kd (.int 5))) aN
section
variable {ns:List Int} {k:Nat} {sz:List Nat}
theorem DU (hz:sz ∈ szs) (a3 a4 a5 a6 a7 a8 a9 a10 a11:Option Slt):bo (bV (aC (una aA (vb 2)) aN)) 1 (tgN 12) tT (eT (aC (vr 12) (aC (vr 12) (aC (ke (aC (bin fix (vb 2) (vb 12)) aN)) aN)))) [some (.shr (.scr ns)),some (.shr (nD k)),some (.shr (al sz)),a3,a4,a5,a6,a7,a8,a9,a10,a11]=.val (((List.range sz.length).map (idm sz)).map az):=by
 obtain ⟨l1,l4,l3⟩:=jL sz hz
 have:=gD (src:=bV (aC (una aA (vb 2)) aN)) (m:=sz.length) (n:=1) (i:=12) (e:=eT (aC (vr 12) (aC (vr 12) (aC (ke (aC (bin fix (vb 2) (vb 12)) aN)) aN)))) (g:=fun b=>az (idm sz b)) (ρ:=[some (.shr (.scr ns)),some (.shr (nD k)),some (.shr (al sz)),a3,a4,a5,a6,a7,a8,a9,a10,a11]) (by simp;exact dz (by omega)) (by omega) fun b hb=>by
  have f1:=jR (sz:=sz) hb
  have hs:sz.getD b 0<=3:=by rw [bA hb];exact l3 _ (List.getElem_mem hb)
  have:=vC (n:=sz.getD b 0) (by omega)
  simp [-List.getD_eq_getElem?_getD,f1,this];rfl
 rw [this,List.map_map];rfl
theorem yr {mx:List Arr} {x:Arr} {l:List Arr} (p:Nat) (h:mx.Perm l):(mx.take p ++ x :: mx.drop p).Perm (l ++ [x]):=by
 have h1:(mx.take p ++ x :: mx.drop p).Perm (x :: (mx.take p ++ mx.drop p)):=List.perm_middle
 rw [List.take_append_drop] at h1
 exact h1.trans ((h.cons x).trans (List.perm_append_singleton x l).symm)
abbrev AZ:Rho->R Out:=sq (asg 4 (cal 1 aR (aC (vr 4) aN)))
 (ins 10 (bin (iI aV) (bin (iI eG) (vb 4) (kd (.int 64))) (bin bH (una aA (vb 10)) (kd (.int 1)))) (vr 11))
theorem Bv {known:Slt} {st:Int} {mx:List Arr} {x:Arr} (hl:mx.length<=27) (a5 a6 a7 a8 a9:Option Slt) :
  ∃ (st':Int) (p:Nat),AZ (rA ns k sz known st a5 a6 a7 a8 a9 (some (.own (mx.map az))) (some (.shr (az x))))=.val (.nx (rA ns k sz known st' a5 a6 a7 a8 a9 (some (.own ((mx.take p ++ x :: mx.drop p).map az))) (some (.shr (az x))))):=by
 obtain ⟨s1,hs1⟩:=kP st
 obtain ⟨p,hp,q⟩:=pick s1 (n:=mx.length + 1) (by omega)
 have q':aV (s1 / 64) ((mx.length:Int) + 1)=.val (.int (p:Int)):=q
 refine ⟨s1,p,?_⟩
 have x1:asg 4 (cal 1 aR (aC (vr 4) aN)) (rA ns k sz known st a5 a6 a7 a8 a9 (some (.own (mx.map az))) (some (.shr (az x))))=.val (.nx (rA ns k sz known s1 a5 a6 a7 a8 a9 (some (.own (mx.map az))) (some (.shr (az x))))):=by unfold rA;simp [hs1]
 show sq _ _ _=_
 rw [be,x1,af];dsimp only
 rw [yW (xs:=mx.map az) (n:=p) (d:=az x) _ rfl (by unfold rA;simp [d64,q']) rfl (by rw [List.length_map];omega) (by rw [List.length_map];omega)]
 unfold rA
 simp
theorem xo (hz:sz ∈ szs) (ns:List Int) (k:Nat):∃ kn,Good sz kn/\cO [.scr ns,.int (k:Int),al sz]=.val (.lst (kn.map az)):=by
 obtain ⟨l1,l4,l3⟩:=jL sz hz
 obtain ⟨c1,hc1⟩:=kQ ns k
 obtain ⟨c2,hc2⟩:=kQ ns (k + 1)
 obtain ⟨s0,hs0⟩:=kP (c1 * 1000003 % 2147483647 + 17)
 have hc2':av [.scr ns,.int ((k:Int) + 1)]=.val (.int c2):=hc2
 have m5:aV c2 5=.val (.int (c2 % 5)):=fi (by decide)
 have mm:fE c1 1000003=.val (.int (c1 * 1000003)):=kN (by decide)
 have md:aV (c1 * 1000003) 2147483647=.val (.int (c1 * 1000003 % 2147483647)):=fi (by decide)
 have hr:pD [.int (c2 % 5)]=.val (rng 0 (c2 % 5).toNat):=yb (by omega) (by omega)
 let kn0:=(List.range sz.length).map (idm sz)
 have hk0:Kn sz kn0:=DN sz
 obtain ⟨ρ1,e1,kn1,st1,a5,a6,a7,a8,a9,rfl,hk1,hp1⟩:=jl (i:=5) (n:=(c2 % 5).toNat) (F:=ub) (ρ:=rA ns k sz (.own (kn0.map az)) s0 none none none none none none none) (fun _ ρ=>∃ (kn:List Arr) (st:Int) (a5 a6 a7 a8 a9:Option Slt),ρ=rA ns k sz (.own (kn.map az)) st a5 a6 a7 a8 a9 none none/\Kn sz kn/\kn0 <+: kn) (fun x ρ hx hI=>by
  obtain ⟨kn,st,a5,a6,a7,a8,a9,rfl,hk,hp⟩:=hI
  obtain ⟨kn',st',b6,b7,b8,b9,e,g1,g2⟩:=zv (ns:=ns) (k:=k) hz hk st (some (.shr (.int (x:Int)))) a6 a7 a8 a9 none none
  exact ⟨_,e,kn',st',_,b6,b7,b8,b9,rfl,g1,hp.trans g2⟩) ⟨kn0,s0,none,none,none,none,none,rfl,hk0,List.prefix_refl _⟩
 obtain ⟨kn2,hcl,hk2,hp2,hcl2⟩:=xm hz hk1
 have few2:=Kn.few hz hk2
 have good:Good sz kn2:=⟨hz,hk2.nd,hk2.ok,fun b hb=>hp2.subset (hp1.subset (List.mem_map.mpr ⟨b,List.mem_range.mpr hb,rfl⟩)),hcl2⟩
 obtain ⟨ρ3,e3,mx,st3,a11,rfl,hperm⟩:=ig (T:=tgN 11) (F:=AZ) (xs:=kn2.map az) (ρ:=rA ns k sz (.shr (.lst (kn2.map az))) st1 a5 a6 a7 a8 a9 (some (.own [])) none) (fun i ρ=>∃ (mx:List Arr) (st:Int) (a11:Option Slt),ρ=rA ns k sz (.shr (.lst (kn2.map az))) st a5 a6 a7 a8 a9 (some (.own (mx.map az))) a11/\mx.Perm (kn2.take i)) (fun i x ρ hx hI=>by
  obtain ⟨mx,st,a11,rfl,hperm⟩:=hI
  have hi:i < kn2.length:=by have:=(List.getElem?_eq_some_iff.mp hx).1;simpa using this
  have hxe:x=az kn2[i]:=by
   rw [List.getElem?_map] at hx
   simp [hi] at hx;exact hx.symm
  subst hxe
  have hml:mx.length<=27:=by rw [hperm.length_eq,List.length_take];omega
  obtain ⟨st',p,e⟩:=Bv (ns:=ns) (k:=k) (sz:=sz) (known:=.shr (.lst (kn2.map az))) (st:=st) (x:=kn2[i]) hml a5 a6 a7 a8 a9
  refine ⟨_,_,rfl,e,_,st',_,rfl,?_⟩
  rw [List.take_succ_eq_append_getElem hi]
  exact yr p hperm) ⟨[],st1,none,rfl,by simp⟩
 rw [List.length_map,List.take_length] at hperm
 refine ⟨mx,good.perm hperm,?_⟩
 simp only [cO,gG]
 show fin (sq (own 3 _) _ [some (.shr (.scr ns)),some (.shr (nD k)),some (.shr (al sz)),none,none,none,none,none,none,none,none,none])=_
 rw [be,De,DU hz,af,af]
 show fin (sq (asg 4 _) _ [some (.shr (.scr ns)),some (.shr (nD k)),some (.shr (al sz)),some (.own (kn0.map az)),none,none,none,none,none,none,none,none])=_
 have x1:asg 4 (cal 1 aR (aC (bin bH (bin (iI aV) (bin (iI fE) (cal 2 av (aC (vr 0) (aC (vr 1) aN))) (kd (.int 1000003))) (kd (.int 2147483647))) (kd (.int 17))) aN)) [some (.shr (.scr ns)),some (.shr (nD k)),some (.shr (al sz)),some (.own (kn0.map az)),none,none,none,none,none,none,none,none]=.val (.nx (rA ns k sz (.own (kn0.map az)) s0 none none none none none none none)):=by
  unfold rA;simp [hc1,mm,md,hs0]
 rw [be,x1,af];dsimp only
 have x2:bn (bV Cp) (tgN 5) ub (rA ns k sz (.own (kn0.map az)) s0 none none none none none none none)=.val (.nx (rA ns k sz (.own (kn1.map az)) st1 a5 a6 a7 a8 a9 none none)):=by
  rw [cz]
  have:bV Cp (rA ns k sz (.own (kn0.map az)) s0 none none none none none none none)=.val (rng 0 (c2 % 5).toNat):=by unfold rA;simp [hc2',m5,hr]
  rw [this,af,e1]
 show fin (sq (bn (bV Cp) (tgN 5) ub) _ _)=_
 rw [be,x2,af];dsimp only
 have x3:AX 3 cP (rA ns k sz (.own (kn1.map az)) st1 a5 a6 a7 a8 a9 none none)=.val (.nx (rA ns k sz (.shr (.lst (kn2.map az))) st1 a5 a6 a7 a8 a9 none none)):=by
  show (noex (cP (kn1.map az))).bind _=_
  rw [hcl];rfl
 rw [be,x3,af];dsimp only
 have x4:own 10 (fU aN) (rA ns k sz (.shr (.lst (kn2.map az))) st1 a5 a6 a7 a8 a9 none none)=.val (.nx (rA ns k sz (.shr (.lst (kn2.map az))) st1 a5 a6 a7 a8 a9 (some (.own [])) none)):=by unfold rA;simp
 rw [be,x4,af];dsimp only
 show fin (sq (bn (fIt (vr 3)) (tgN 11) AZ) _ (rA ns k sz (.shr (.lst (kn2.map az))) st1 a5 a6 a7 a8 a9 (some (.own [])) none))=_
 have x5:bn (fIt (vr 3)) (tgN 11) AZ (rA ns k sz (.shr (.lst (kn2.map az))) st1 a5 a6 a7 a8 a9 (some (.own [])) none)=.val (.nx (rA ns k sz (.shr (.lst (kn2.map az))) st3 a5 a6 a7 a8 a9 (some (.own (mx.map az))) a11)):=by
  rw [cz]
  show (R.val (kn2.map az)).bind _=_
  rw [af,e3]
 rw [be,x5,af]
 rfl
end
abbrev Ej:Rho->R (List D):=aC (bin fix (vb 7) (kd (.int 0))) (aC (bin fix (vb 9) (kd (.int 1))) (aC (una kM (eLs (bo (fIt (bin fix (vb 7) (kd (.int 2)))) 1 (tgN 12) tT (bin fix (bin fix (vb 9) (kd (.int 2))) (vb 12))))) aN))
abbrev Ei:Rho->R D:=eT (aC (vr 12) (aC (vr 12) (aC (ke (aC (bin fix (vb 2) (vb 12)) aN)) aN)))
def plD:List Arr->Nat->List (KA × D)
 | [],_=>[]
 | x :: r,s=>(ij x,nD s) :: plD r (s + 1)
theorem yn:∀ (l:List Arr) (s:Nat),(plD l s).length=l.length
 | [],_=>rfl
 | x :: r,s=>by simp [plD,yn r (s + 1)]
theorem yp (x:Arr):∀ (l:List Arr) (s:Nat),((plD l s).any fun p=>decide (p.1=ij x))=decide (x ∈ l)
 | [],_=>by simp [plD]
 | y :: r,s=>by
  show (decide (ij y=ij x) || (plD r (s + 1)).any fun p=>decide (p.1=ij x))=_
  rw [yp x r (s + 1)]
  by_cases h:y=x
  ·subst h;simp
  ·have:¬ ij y=ij x:=fun e=>h (oz e)
   have h':¬ x=y:=fun e=>h e.symm
   simp [this,h']
theorem yo (x:Arr):∀ (l:List Arr) (s:Nat),plD (l ++ [x]) s=plD l s ++ [(ij x,nD (s + l.length))]
 | [],s=>rfl
 | y :: r,s=>by
  show (ij y,nD s) :: plD (r ++ [x]) (s + 1)=_
  rw [yo x r (s + 1)]
  have:s + 1 + r.length=s + (y :: r).length:=by simp;omega
  rw [this];rfl
theorem C1 {x:Arr} {l:List Arr} (h:x ∉ l):oy (plD l 0) (ij x) (nD l.length)=plD (l ++ [x]) 0:=by
 unfold oy
 rw [yp,decide_eq_false h,if_neg (by decide),yo,Nat.zero_add]
theorem uF {x:Arr}:∀ {l:List Arr} (s:Nat),x ∈ l->uR (plD l s) (ij x)=some (nD (s + l.idxOf x))
 | [],_,h=>by cases h
 | y :: r,s,h=>by
  unfold uR plD
  by_cases e:y=x
  ·subst e;simp
  ·have e':¬ ij y=ij x:=fun z=>e (oz z)
   rw [List.find?_cons_of_neg (by simpa using e')]
   have hr:x ∈ r:=by
    rcases List.mem_cons.mp h with q | q
    ·exact absurd q.symm e
    ·exact q
   have ih:=uF (l:=r) (s + 1) hr
   unfold uR at ih
   rw [ih]
   have:(y :: r).idxOf x=r.idxOf x + 1:=by
    rw [List.idxOf_cons]
    have:(y == x)=false:=by simpa using e
    rw [this];rfl
   rw [this]
   congr 2
   omega
def rP (ns:List Int) (k:Nat) (sz:List Nat) (kn:List Arr) (pl:List (KA × D)) (a5 a6 a7 a8 a9 a10 a11:Option Slt):Rho:=[some (.shr (.scr ns)),some (.shr (nD k)),some (.shr (al sz)),some (.shr (.lst (kn.map az))),some (.dic pl),a5,a6,a7,a8,a9,a10,a11]
section
variable {ns:List Int} {k:Nat} {sz:List Nat} {kn:List Arr}
theorem DS {i:Nat} (h:i < kn.length):fix (.lst (kn.map az)) (.int (i:Int))=.val (az kn[i]):=i7 (by simp [h])
theorem zq (g:Good sz kn) (a6 a7 a8 a9 a10 a11:Option Slt):∃ a5,bn (bV (aC (una aA (vb 3)) aN)) (tgN 5) (rT 4 (bin fix (vb 3) (vb 5)) (vr 5)) (rP ns k sz kn [] none a6 a7 a8 a9 a10 a11)=.val (.nx (rP ns k sz kn (plD kn 0) a5 a6 a7 a8 a9 a10 a11)):=by
 have few:=g.few
 obtain ⟨ρ',e,a5,rfl⟩:=jl (i:=5) (n:=kn.length) (F:=rT 4 (bin fix (vb 3) (vb 5)) (vr 5)) (ρ:=rP ns k sz kn [] none a6 a7 a8 a9 a10 a11) (fun i ρ=>∃ a5,ρ=rP ns k sz kn (plD (kn.take i) 0) a5 a6 a7 a8 a9 a10 a11) (fun i ρ hi hI=>by
  obtain ⟨a5,rfl⟩:=hI
  have hx:=DS hi
  have hl:(kn.take i).length=i:=by rw [List.length_take];omega
  have nin:kn[i] ∉ kn.take i:=fun h=>by
   obtain ⟨j,hj,e⟩:=List.mem_take_iff_getElem.mp h
   exact (List.pairwise_iff_getElem.mp g.nd) j i (by omega) hi (by omega) e
  refine ⟨_,?_,some (.shr (.int (i:Int))),rfl⟩
  show rT 4 _ _ (rP ns k sz kn (plD (kn.take i) 0) (some (.shr (.int (i:Int)))) a6 a7 a8 a9 a10 a11)=_
  rw [wp (kvs:=plD (kn.take i) 0) (kd:=az kn[i]) (d:=nD i) _ rfl (by unfold rP;simp [hx]) rfl (ii _) (by rw [yn];omega)]
  have:=C1 nin
  rw [hl] at this
  rw [this,<- List.take_succ_eq_append_getElem hi]
  rfl) ⟨none,rfl⟩
 refine ⟨a5,?_⟩
 rw [cz]
 have:bV (aC (una aA (vb 3)) aN) (rP ns k sz kn [] none a6 a7 a8 a9 a10 a11)=.val (rng 0 kn.length):=by
  unfold rP;simp;exact dz (by omega)
 rw [this,af,e,List.take_length]
abbrev DW:Rho->R Out:=sq (asg 10 (una i_ (kd (.int 1))))
 (sq (DL.iff (tst (bin feq (bin fix (vb 7) (kd (.int 1))) (bin fix (vb 9) (kd (.int 0)))))
 (asg 10 (rX 4 (eT Ej)))
 nxt)
 (app 8 (vr 10)))
theorem By (g:Good sz kn) {x y:Arr} (hx:x ∈ kn) (hy:y ∈ kn) {row:List D} (hl:row.length<=27) (a5 a6 a10 a11:Option Slt) :
  ∃ b10,DW (rP ns k sz kn (plD kn 0) a5 a6 (some (.shr (az x))) (some (.own row)) (some (.shr (az y))) a10 a11)=.val (.nx (rP ns k sz kn (plD kn 0) a5 a6 (some (.shr (az x))) (some (.own (row ++ [.int (mk kn x y)]))) (some (.shr (az y))) b10 a11)):=by
 have x1:asg 10 (una i_ (kd (.int 1))) (rP ns k sz kn (plD kn 0) a5 a6 (some (.shr (az x))) (some (.own row)) (some (.shr (az y))) a10 a11)=.val (.nx (rP ns k sz kn (plD kn 0) a5 a6 (some (.shr (az x))) (some (.own row)) (some (.shr (az y))) (some (.shr (.int (-1)))) a11)):=by unfold rP;simp
 have last:∀ z:Int,app 8 (vr 10) (rP ns k sz kn (plD kn 0) a5 a6 (some (.shr (az x))) (some (.own row)) (some (.shr (az y))) (some (.shr (.int z))) a11)=.val (.nx (rP ns k sz kn (plD kn 0) a5 a6 (some (.shr (az x))) (some (.own (row ++ [.int z]))) (some (.shr (az y))) (some (.shr (.int z))) a11)):=fun z=>by
  rw [iY (xs:=row) (d:=.int z) _ rfl rfl (by omega)];rfl
 have hT:tst (bin feq (bin fix (vb 7) (kd (.int 1))) (bin fix (vb 9) (kd (.int 0)))) (rP ns k sz kn (plD kn 0) a5 a6 (some (.shr (az x))) (some (.own row)) (some (.shr (az y))) (some (.shr (.int (-1)))) a11)=.val (decide (x.2.1=y.1)):=by
  unfold rP;simp;omega
 show ∃ b10,sq _ _ _=_
 rw [be,x1,af];dsimp only
 rw [be,cM,hT,af]
 unfold mk
 by_cases e:x.2.1=y.1
 ·rw [decide_eq_true e,if_pos rfl,if_pos e]
  have hc:=wu g.szm (g.ok x hx) (g.ok y hy) e (src:=fIt (bin fix (vb 7) (kd (.int 2)))) (el:=bin fix (bin fix (vb 9) (kd (.int 2))) (vb 12)) (i:=12) (ρ:=rP ns k sz kn (plD kn 0) a5 a6 (some (.shr (az x))) (some (.own row)) (some (.shr (az y))) (some (.shr (.int (-1)))) a11) (by simp [rP]) (fun k=>by simp [rP])
  have hv:eT Ej (rP ns k sz kn (plD kn 0) a5 a6 (some (.shr (az x))) (some (.own row)) (some (.shr (az y))) (some (.shr (.int (-1)))) a11)=.val (az (comp x y)):=by
   simp only [oZ,cR,gY,bN,hc]
   unfold rP;simp;rfl
  have hg:=uF 0 (g.cl x hx y hy e)
  rw [Nat.zero_add] at hg
  rw [gK,wr (kvs:=plD kn 0) _ rfl hv (ii _) hg,af,af];dsimp only
  exact ⟨_,last _⟩
 ·rw [decide_eq_false e,if_neg (by decide),if_neg e]
  exact ⟨_,last _⟩
abbrev An:Rho->R Out:=sq (own 8 (fU aN))
 (sq (bn (fIt (vr 3)) (tgN 9) DW)
 (fz 8 (app 6 (vr 8))))
theorem Bs (g:Good sz kn) {x:Arr} (hx:x ∈ kn) {tab:List D} (hl:tab.length<=27) (a5 a8 a9 a10 a11:Option Slt) :
  ∃ b8 b9 b10,An (rP ns k sz kn (plD kn 0) a5 (some (.own tab)) (some (.shr (az x))) a8 a9 a10 a11)=.val (.nx (rP ns k sz kn (plD kn 0) a5 (some (.own (tab ++ [aG (kn.map fun y=>mk kn x y)]))) (some (.shr (az x))) b8 b9 b10 a11)):=by
 have few:=g.few
 obtain ⟨ρ',e,a9',a10',rfl⟩:=ig (T:=tgN 9) (F:=DW) (xs:=kn.map az) (ρ:=rP ns k sz kn (plD kn 0) a5 (some (.own tab)) (some (.shr (az x))) (some (.own [])) a9 a10 a11) (fun i ρ=>∃ a9 a10,ρ=rP ns k sz kn (plD kn 0) a5 (some (.own tab)) (some (.shr (az x))) (some (.own (((kn.take i).map fun y=>mk kn x y).map D.int))) a9 a10 a11) (fun i d ρ hd hI=>by
  obtain ⟨a9,a10,rfl⟩:=hI
  have hi:i < kn.length:=by have:=(List.getElem?_eq_some_iff.mp hd).1;simpa using this
  have hde:d=az kn[i]:=by
   rw [List.getElem?_map] at hd
   simp [hi] at hd;exact hd.symm
  subst hde
  obtain ⟨b10,e⟩:=By (ns:=ns) (k:=k) g hx (List.getElem_mem hi) (row:=((kn.take i).map fun y=>mk kn x y).map D.int) (by simp;omega) a5 (some (.own tab)) a10 a11
  refine ⟨_,_,rfl,e,some (.shr (az kn[i])),b10,?_⟩
  rw [List.take_succ_eq_append_getElem hi,List.map_append,List.map_append]
  rfl) ⟨a9,a10,rfl⟩
 rw [List.length_map,List.take_length] at e
 refine ⟨some (.shr (aG (kn.map fun y=>mk kn x y))),a9',a10',?_⟩
 show sq _ _ _=_
 have x1:own 8 (fU aN) (rP ns k sz kn (plD kn 0) a5 (some (.own tab)) (some (.shr (az x))) a8 a9 a10 a11)=.val (.nx (rP ns k sz kn (plD kn 0) a5 (some (.own tab)) (some (.shr (az x))) (some (.own [])) a9 a10 a11)):=by unfold rP;simp
 rw [be,x1,af];dsimp only
 rw [be,cz]
 show ((((R.val (kn.map az)).bind _)).bind _)=_
 rw [af,e,af];dsimp only
 rw [B5]
 show app 6 (vr 8) (rP ns k sz kn (plD kn 0) a5 (some (.own tab)) (some (.shr (az x))) (some (.shr (aG (kn.map fun y=>mk kn x y)))) a9' a10' a11)=_
 rw [iY (xs:=tab) (d:=aG (kn.map fun y=>mk kn x y)) _ rfl rfl (by omega)]
 rfl
theorem zr (ns:List Int) (k:Nat):∃ sz kn,Good sz kn/\dq [.scr ns,.int (k:Int)]=.val (.tup [cS (jb kn),al (iD sz kn),aW (ib kn),.lst (kn.map az),al sz]):=by
 obtain ⟨sz,hz,hs⟩:=zp ns k
 obtain ⟨l1,l4,l3⟩:=jL sz hz
 obtain ⟨kn,g,ha⟩:=xo hz ns (k + 1)
 have ha':cO [.scr ns,.int ((k:Int) + 1),al sz]=.val (.lst (kn.map az)):=ha
 have few:=g.few
 obtain ⟨a5,ep⟩:=zq (ns:=ns) (k:=k) g none none none none none none
 obtain ⟨ρ',et,a7,a8,a9,a10,rfl⟩:=ig (T:=tgN 7) (F:=An) (xs:=kn.map az) (ρ:=rP ns k sz kn (plD kn 0) a5 (some (.own [])) none none none none none) (fun i ρ=>∃ a7 a8 a9 a10,ρ=rP ns k sz kn (plD kn 0) a5 (some (.own ((kn.take i).map fun x=>aG (kn.map fun y=>mk kn x y)))) a7 a8 a9 a10 none) (fun i d ρ hd hI=>by
  obtain ⟨a7,a8,a9,a10,rfl⟩:=hI
  have hi:i < kn.length:=by have:=(List.getElem?_eq_some_iff.mp hd).1;simpa using this
  have hde:d=az kn[i]:=by
   rw [List.getElem?_map] at hd
   simp [hi] at hd;exact hd.symm
  subst hde
  obtain ⟨b8,b9,b10,e⟩:=Bs (ns:=ns) (k:=k) g (List.getElem_mem hi) (tab:=(kn.take i).map fun x=>aG (kn.map fun y=>mk kn x y)) (by simp;omega) a5 a8 a9 a10 none
  refine ⟨_,_,rfl,e,some (.shr (az kn[i])),b8,b9,b10,?_⟩
  rw [List.take_succ_eq_append_getElem hi,List.map_append]
  rfl) ⟨none,none,none,none,rfl⟩
 rw [List.length_map,List.take_length] at et
 refine ⟨sz,kn,g,?_⟩
 simp only [dq,hE]
 show fin (sq (asg 2 _) _ [some (.shr (.scr ns)),some (.shr (nD k)),none,none,none,none,none,none,none,none,none,none])=_
 have x1:asg 2 (cal 2 d6 (aC (vr 0) (aC (vr 1) aN))) [some (.shr (.scr ns)),some (.shr (nD k)),none,none,none,none,none,none,none,none,none,none]=.val (.nx [some (.shr (.scr ns)),some (.shr (nD k)),some (.shr (al sz)),none,none,none,none,none,none,none,none,none]):=by simp [hs]
 rw [be,x1,af];dsimp only
 have x2:asg 3 (cal 3 cO (aC (vr 0) (aC (bin bH (vb 1) (kd (.int 1))) (aC (vr 2) aN)))) [some (.shr (.scr ns)),some (.shr (nD k)),some (.shr (al sz)),none,none,none,none,none,none,none,none,none]=.val (.nx [some (.shr (.scr ns)),some (.shr (nD k)),some (.shr (al sz)),some (.shr (.lst (kn.map az))),none,none,none,none,none,none,none,none]):=by simp [ha']
 rw [be,x2,af];dsimp only
 rw [be,wq,af];dsimp only
 show fin (sq (bn _ (tgN 5) _) _ (rP ns k sz kn [] none none none none none none none))=_
 rw [be,ep,af];dsimp only
 have x3:own 6 (fU aN) (rP ns k sz kn (plD kn 0) a5 none none none none none none)=.val (.nx (rP ns k sz kn (plD kn 0) a5 (some (.own [])) none none none none none)):=by unfold rP;simp
 rw [be,x3,af];dsimp only
 have x4:bn (fIt (vr 3)) (tgN 7) An (rP ns k sz kn (plD kn 0) a5 (some (.own [])) none none none none none)=.val (.nx (rP ns k sz kn (plD kn 0) a5 (some (.own (kn.map fun x=>aG (kn.map fun y=>mk kn x y)))) a7 a8 a9 a10 none)):=by
  rw [cz]
  show (R.val (kn.map az)).bind _=_
  rw [af,et]
 show fin (sq (bn (fIt (vr 3)) (tgN 7) An) _ _)=_
 rw [be,x4,af];dsimp only
 have hrest:bo (bV (aC (una aA (vb 2)) aN)) 1 (tgN 12) tT (rX 4 Ei) (rP ns k sz kn (plD kn 0) a5 (some (.own (kn.map fun x=>aG (kn.map fun y=>mk kn x y)))) a7 a8 a9 a10 none)=.val ((iD sz kn).map nD):=by
  have:=gD (src:=bV (aC (una aA (vb 2)) aN)) (m:=sz.length) (n:=1) (i:=12) (e:=rX 4 Ei) (g:=fun b=>nD (kn.idxOf (idm sz b))) (ρ:=rP ns k sz kn (plD kn 0) a5 (some (.own (kn.map fun x=>aG (kn.map fun y=>mk kn x y)))) a7 a8 a9 a10 none) (by unfold rP;simp;exact dz (by omega)) (by omega) fun b hb=>by
   have f1:=jR (sz:=sz) hb
   have hs:sz.getD b 0<=3:=by rw [bA hb];exact l3 _ (List.getElem_mem hb)
   have hrg:=vC (n:=sz.getD b 0) (by omega)
   have hg:=uF 0 (g.rest b hb)
   rw [Nat.zero_add] at hg
   refine wr (kvs:=plD kn 0) (kd:=az (idm sz b)) _ rfl ?_ (ii _) hg
   unfold rP
   simp [-List.getD_eq_getElem?_getD,f1,hrg];rfl
  rw [this]
  unfold iD
  rw [List.map_map];rfl
 rw [be,gK,bN,hrest,af,af,af];dsimp only
 rw [B5]
 have hens:∀ t a7 a8 a9 a10 a11,bo (fIt (vr 3)) 1 (tgN 12) tT (eT (aC (bin fix (vb 12) (kd (.int 0))) (aC (bin fix (vb 12) (kd (.int 1))) aN))) (rP ns k sz kn (plD kn 0) a5 t a7 a8 a9 a10 a11)=.val ((jb kn).map fV):=fun t a7 a8 a9 a10 a11=>by
  rw [eI (f:=az) (l:=kn) (g:=fun x=>fV (x.1,x.2.1)) rfl (by omega) fun x _=>by unfold rP;simp;rfl]
  unfold jb
  rw [List.map_map];rfl
 have htab:D.lst (kn.map fun x=>aG (kn.map fun y=>mk kn x y))=aW (ib kn):=by
  unfold aW ib;rw [List.map_map];rfl
 show fin (ret _ (rP ns k sz kn (plD kn 0) a5 (some (.shr (.lst (kn.map fun x=>aG (kn.map fun y=>mk kn x y))))) a7 a8 a9 a10 (some (.shr (al (iD sz kn))))))=_
 rw [htab,eW,oZ,cR,bN,hens,af,af]
 unfold rP
 simp;rfl
theorem Bx {sz kn:List _} (g:Good sz kn) (r:List D):dX [.tup (cS (jb kn) :: al (iD sz kn) :: aW (ib kn) :: r)]=.val (.ob (cS (jb kn)) (al (iD sz kn)) (aW (ib kn))):=by
 have h:=vY g
 have n1:=h.na40
 have n2:=h.tl
 simp only [dX,iV]
 have hf:bo (fIt (bin fix (vb 0) (kd (.int 2)))) 1 (tgN 1) tT (eLs (fIt (vb 1))) [some (.shr (.tup (cS (jb kn) :: al (iD sz kn) :: aW (ib kn) :: r)))]=.val ((ib kn).map aG):=eI (f:=aG) (by simp;rfl) (by omega) fun r _=>rfl
 have eh:=Bz h
 show fin (ret _ [some (.shr (.tup (cS (jb kn) :: al (iD sz kn) :: aW (ib kn) :: r)))])=_
 have ha:aC (eLs (fIt (bin fix (vb 0) (kd (.int 0))))) (aC (eLs (fIt (bin fix (vb 0) (kd (.int 1))))) (aC (eLs (bo (fIt (bin fix (vb 0) (kd (.int 2)))) 1 (tgN 1) tT (eLs (fIt (vb 1))))) aN)) [some (.shr (.tup (cS (jb kn) :: al (iD sz kn) :: aW (ib kn) :: r)))]=.val [cS (jb kn),al (iD sz kn),aW (ib kn)]:=by
  simp only [cR,bN,hf]
  simp;rfl
 rw [eW,Dv,ha,af];dsimp only
 rw [eh];rfl
end
section
variable (ρ:Rho)
@[simp] theorem wz (a b:Rho->R D):zV a b ρ=(a ρ).bind fun x=>(asB x).bind fun c=>if c=true then b ρ else .val (.bl false):=Eq.trans rfl rfl
end
theorem qt {α:Type} {T:D->Rho->Option Rho} {t:Rho->R Bool} {e:Rho->R D} {f g:α->D} {p:α->Bool} {ρ:Rho}:∀ {l:List α},(∀ a ∈ l,∃ ρ1,T (f a) ρ=some ρ1/\t ρ1=.val (p a)/\e ρ1=.val (g a))->jy T t e (l.map f) ρ=.val ((l.filter p).map g)
 | [],_=>rfl
 | a :: r,h=>by
  obtain ⟨ρ1,h1,h2,h3⟩:=h a (by simp)
  have ih:=qt (T:=T) (t:=t) (e:=e) (f:=f) (g:=g) (p:=p) (ρ:=ρ) (l:=r) fun b hb=>h b (by simp [hb])
  rw [List.map_cons]
  unfold jy
  rw [h1]
  show (noE (t ρ1)).bind _=_
  rw [h2,List.filter_cons]
  cases q:p a with
  | true=>simp [h3,ih]
  | false=>simp [ih]
theorem io {α:Type} {src:Rho->R (List D)} {n:Nat} {T:D->Rho->Option Rho} {t:Rho->R Bool} {e:Rho->R D} {f g:α->D} {p:α->Bool} {l:List α} {ρ:Rho} (hs:src ρ=.val (l.map f)) (hl:l.length<=100000)
  (h:∀ a ∈ l,∃ ρ1,T (f a) (ρ ++ List.replicate n none)=some ρ1/\t ρ1=.val (p a)/\e ρ1=.val (g a)):bo src n T t e ρ=.val ((l.filter p).map g):=by
 unfold bo
 rw [hs,af,if_pos (show (l.map f).length<=LIM by rw [List.length_map];exact hl),qt h]
 rfl
theorem Ap (n:Nat):rng 0 n=(List.range n).map nD:=by
 unfold rng nD
 apply List.map_congr_left
 intro k _
 rw [Int.zero_add]
theorem wc:∀ (l:List D) (s:Nat),enu s l=(List.range l.length).map fun i=>.tup [nD (s + i),l.getD i .non]
 | [],s=>rfl
 | x :: r,s=>by
  unfold enu
  rw [wc r (s + 1),List.length_cons,List.range_succ_eq_map,List.map_cons,List.map_map]
  simp only [Nat.add_zero,List.getD_cons_zero]
  congr 1
  apply List.map_congr_left
  intro i _
  simp only [Function.comp,List.getD_cons_succ]
  rw [show s + 1 + i=s + (i + 1) by omega]
theorem gn {α:Type} {T:D->Rho->Option Rho} {F:Rho->R Out} {f g:α->D} {p:α->Bool} (I:Rho->Prop):∀ {l:List α} {ρ:Rho},(∀ a ∈ l,∀ ρ,I ρ->∃ ρ1,T (f a) ρ=some ρ1/\(p a=true->F ρ1=.val (.rt (g a)))/\(p a=false->∃ ρ2,F ρ1=.val (.nx ρ2)/\I ρ2))->I ρ ->
  (∃ a,l.find? p=some a/\bR T F (l.map f) ρ=.val (.rt (g a)))\/(l.find? p=none/\∃ ρ',bR T F (l.map f) ρ=.val (.nx ρ')/\I ρ')
 | [],ρ,_,h=>.inr ⟨rfl,ρ,rfl,h⟩
 | a :: r,ρ,step,h=>by
  obtain ⟨ρ1,h1,h2,h3⟩:=step a (by simp) ρ h
  rw [List.find?_cons,List.map_cons]
  unfold bR
  rw [h1]
  cases q:p a with
  | true=>exact .inl ⟨a,rfl,by dsimp only;rw [h2 q];rfl⟩
  | false =>
   obtain ⟨ρ2,e2,i2⟩:=h3 q
   dsimp only
   rw [e2]
   exact gn (T:=T) (F:=F) (f:=f) (g:=g) (p:=p) I (fun b hb=>step b (by simp [hb])) i2
theorem yX (re:List Nat) (z:Int):fh false (.int z) (al re)=.val (.bl (inR re z)):=by
 have e1:(re.map nD).all (eqb 8)=true:=by
  rw [List.all_eq_true]
  intro x hx
  obtain ⟨a,_,rfl⟩:=List.mem_map.mp hx
  exact Eq.trans rfl rfl
 have e2:((re.map nD).any fun y=>pyq 8 y (.int z))=inR re z:=by
  unfold inR
  rw [List.any_map]
  congr 1
  funext r
  show ((r:Int) == z)=decide (z=(r:Int))
  rw [Bool.eq_iff_iff]
  simp only [beq_iff_eq,decide_eq_true_eq]
  exact ⟨Eq.symm,Eq.symm⟩
 unfold fh al
 dsimp only
 rw [if_pos ⟨Eq.trans rfl rfl,e1⟩,if_neg (by decide),e2]
theorem rL (p q:Nat × Nat):feq (fV p) (fV q)=.val (.bl (decide (p=q))):=by
 by_cases h:p=q
 ·subst h;rw [kO (jN _)];simp
 ·rw [oM (jN _) (jN _) (fun z=>h (endD_inj.mp z))];simp [h]
def hlD (en:List (Nat × Nat)) (re:List Nat) (tb:List (List Int)):D:=.ob (cS en) (al re) (aW tb)
section
variable {en:List (Nat × Nat)} {re:List Nat} {tb:List (List Int)}
@[simp] theorem Gk:dH 1 (hlD en re tb)=.val (al re):=Eq.trans rfl rfl
end
section
variable (ρ:Rho)
end
theorem qx {α:Type} (p:α->Bool):∀ l:List α,jA (l.map fun a=>D.bl (p a))=some (l.map p)
 | []=>rfl
 | a :: r=>by
  rw [List.map_cons,List.map_cons]
  unfold jA
  rw [qx p r];rfl
theorem tN {α:Type} (p:α->Bool) (l:List α):rN (.lst (l.map fun a=>D.bl (p a)))=.val (.bl (l.all p)):=by
 unfold rN
 dsimp only
 rw [qx]
 dsimp only
 rw [List.all_map];rfl
theorem yN {α:Type} {T:D->Rho->Option Rho} {F:Rho->R Out} {f:α->D} {ok:α->Bool} (I:Rho->Prop) {l:List α} {ρ:Rho} (step:∀ a ∈ l,∀ ρ,I ρ->∃ ρ1,T (f a) ρ=some ρ1/\(ok a=false->F ρ1=.val (.rt (.bl false)))/\(ok a=true->∃ ρ2,F ρ1=.val (.nx ρ2)/\I ρ2)) (h:I ρ) :
  (l.all ok=false/\bR T F (l.map f) ρ=.val (.rt (.bl false)))\/(l.all ok=true/\∃ ρ',bR T F (l.map f) ρ=.val (.nx ρ')/\I ρ'):=by
 rcases gn (T:=T) (F:=F) (f:=f) (g:=fun _=>.bl false) (p:=fun a=>!ok a) I (l:=l) (ρ:=ρ) (fun a ha ρ hI=>by
  obtain ⟨ρ1,h1,h2,h3⟩:=step a ha ρ hI
  exact ⟨ρ1,h1,fun q=>h2 (by simpa using q),fun q=>h3 (by simpa using q)⟩) h with ⟨a,e,z⟩ | ⟨e,z⟩
 ·refine .inl ⟨?_,z⟩
  have:=List.find?_some e
  rw [Bool.eq_false_iff]
  intro q
  have q:=List.all_eq_true.mp q a (List.mem_of_find?_eq_some e)
  simp [q] at this
 ·refine .inr ⟨?_,z⟩
  rw [List.all_eq_true]
  intro a ha
  have:=List.find?_eq_none.mp e a ha
  simpa using this
theorem v5 {α:Type} {src:Rho->R (List D)} {T:D->Rho->Option Rho} {F:Rho->R Out} {f:α->D} {ok:α->Bool} (I:Rho->Prop) {l:List α} {ρ:Rho} (hs:src ρ=.val (l.map f)) (step:∀ a ∈ l,∀ ρ,I ρ->∃ ρ1,T (f a) ρ=some ρ1/\(ok a=false->F ρ1=.val (.rt (.bl false)))/\(ok a=true->∃ ρ2,F ρ1=.val (.nx ρ2)/\I ρ2)) (h:I ρ) :
  (l.all ok=false/\bn src T F ρ=.val (.rt (.bl false)))\/(l.all ok=true/\∃ ρ',bn src T F ρ=.val (.nx ρ')/\I ρ'):=by
 rw [cz,hs,af]
 exact yN I step h
theorem vZ {α:Type} {src:Rho->R (List D)} {T:D->Rho->Option Rho} {F:Rho->R Out} {f:α->D} {ok:α->Bool} (I:Rho->Prop) {l:List α} {ρ:Rho} (hs:src ρ=.val (l.map f)) (step:∀ a ∈ l,∀ ρ,I ρ->∃ ρ1,T (f a) ρ=some ρ1/\(ok a=false->F ρ1=.val (.rt (.bl false)))/\(ok a=true->∃ ρ2,F ρ1=.val (.nx ρ2)/\I ρ2)) (h:I ρ) :
  fin (sq (bn src T F) (ret (kd (.bl true))) ρ)=.val (.bl (l.all ok)):=by
 rw [be]
 rcases v5 I hs step h with ⟨e,z⟩ | ⟨e,ρ',z,_⟩
 ·rw [z,e];rfl
 ·rw [z,e];rfl
theorem yU {t:Rho->R Bool} {ρ:Rho} {c:Bool} (ht:t ρ=.val (!c)):(c=false->DL.iff t (ret (kd (.bl false))) nxt ρ=.val (.rt (.bl false)))/\(c=true->DL.iff t (ret (kd (.bl false))) nxt ρ=.val (.nx ρ)):=by
 rw [cM,ht]
 exact ⟨fun z=>by rw [z];rfl,fun z=>by rw [z];rfl⟩
theorem mZ {F:Rho->R D} {ρ:Rho} {n:Nat} (h:F ρ=.val (.int (n:Int))) (hn:n<=100000):bV (aC F aN) ρ=.val ((List.range n).map nD):=by
 rw [gT,cR,h,af,jZ,af,af,dz hn,Ap]
theorem rowD_inj {a b:List Int}:aG a=aG b ↔ a=b:=by
 constructor
 ·intro h
  unfold aG at h
  injection h with h
  exact nh (fun a b e=>by cases e;rfl) h
 ·rintro rfl;rfl
theorem v9 (a b:List Int):feq (aG a) (aG b)=.val (.bl (decide (a=b))):=by
 by_cases h:a=b
 ·subst h;rw [kO (fL _)];simp
 ·rw [oM (fL _) (fL _) (fun z=>h (rowD_inj.mp z))];simp [h]
section
variable {en:List (Nat × Nat)} {re:List Nat} {tb:List (List Int)} {r:List D}
def bQ (l:List Nat):List Int:=l.map fun (k:Nat)=>(k:Int)
theorem lR (l:List Nat):(bQ l).length=l.length:=by unfold bQ;simp
def btw (en:List (Nat × Nat)) (a b:Nat):List Nat:=(List.range en.length).filter fun n=>decide (en.getD n (0,0)=(a,b))
theorem fP (a b:Nat):(btw en a b).length<=en.length:=by
 unfold btw
 exact Nat.le_trans (List.length_filter_le _ _) (by rw [List.length_range];exact Nat.le_refl _)
theorem mem_btw {a b n:Nat}:n ∈ btw en a b ↔ n < en.length/\en.getD n (0,0)=(a,b):=by
 unfold btw
 rw [List.mem_filter,List.mem_range,decide_eq_true_iff]
theorem bg {A B:Rho->R Out} {ρ ρ':Rho} (h:A ρ=.val (.nx ρ')):sq A B ρ=B ρ':=by rw [be,h];rfl
theorem gU (h:HallN en re tb) (a b:Nat):aO [.tup (cS en :: r),nD a,nD b]=.val (al (btw en a b)):=by
 simp only [aO,fZ]
 show fin (ret _ [some (.shr (.tup (cS en :: r))),some (.shr (nD a)),some (.shr (nD b))])=_
 have n40:=h.na40
 have hc:=io (src:=bV (aC (una aA (bin fix (vb 0) (kd (.int 0)))) aN)) (n:=1) (T:=tgN 3) (t:=tst (bin feq (bin fix (bin fix (vb 0) (kd (.int 0))) (vb 3)) (eT (aC (vr 1) (aC (vr 2) aN))))) (e:=vr 3) (f:=nD) (g:=nD) (p:=fun n=>decide (en.getD n (0,0)=(a,b))) (l:=List.range en.length) (ρ:=[some (.shr (.tup (cS en :: r))),some (.shr (nD a)),some (.shr (nD b))]) (mZ (by simp) (by omega)) (by rw [List.length_range];omega) fun n hn=>⟨_,rfl,by
  have hn:=List.mem_range.mp hn
  have f1:=gS (en:=en) hn
  have q:=rL (en.getD n (0,0)) (a,b)
  simp [-List.getD_eq_getElem?_getD,f1]
  exact congrArg (fun z=>R.bind z asB) q,rfl⟩
 rw [eW,bN,hc];rfl
theorem oY {α:Type} {f:α->D} (l:List α) (d:α):enu 0 (l.map f)=(List.range l.length).map fun i=>.tup [nD i,f (l.getD i d)]:=by
 rw [wc,List.length_map]
 apply List.map_congr_left
 intro i hi
 have hi:=List.mem_range.mp hi
 rw [Nat.zero_add,bA (show i < (l.map f).length by simpa using hi),bA hi,List.getElem_map]
theorem Fm {den:List D->R D} {A:Rho->R D} {ρ:Rho} {a x:D} (ha:A ρ=.val a) (h:den [a]=.val x):cal 1 den (aC A aN) ρ=.val x:=by
 simp [ha,h]
theorem mR {den:List D->R D} {A B:Rho->R D} {ρ:Rho} {a b x:D} (ha:A ρ=.val a) (hb:B ρ=.val b) (h:den [a,b]=.val x):cal 2 den (aC A (aC B aN)) ρ=.val x:=by
 simp [ha,hb,h]
theorem ip {den:List D->R D} {A B C:Rho->R D} {ρ:Rho} {a b c x:D} (ha:A ρ=.val a) (hb:B ρ=.val b) (hc:C ρ=.val c) (h:den [a,b,c]=.val x):cal 3 den (aC A (aC B (aC C aN))) ρ=.val x:=by
 simp [ha,hb,hc,h]
theorem xt {den:List D->R D} {A B C E:Rho->R D} {ρ:Rho} {a b c e x:D} (ha:A ρ=.val a) (hb:B ρ=.val b) (hc:C ρ=.val c) (he:E ρ=.val e) (h:den [a,b,c,e]=.val x):cal 4 den (aC A (aC B (aC C (aC E aN)))) ρ=.val x:=by
 simp [ha,hb,hc,he,h]
theorem zQ {den:List D->R D} {A B C E F:Rho->R D} {ρ:Rho} {a b c e f x:D} (ha:A ρ=.val a) (hb:B ρ=.val b) (hc:C ρ=.val c) (he:E ρ=.val e) (hf:F ρ=.val f) (h:den [a,b,c,e,f]=.val x):cal 5 den (aC A (aC B (aC C (aC E (aC F aN))))) ρ=.val x:=by
 simp [ha,hb,hc,he,hf,h]
theorem cQ {i:Nat} {e:Rho->R D} {ρ:Rho} {x:D} (h:e ρ=.val x):asg i e ρ=.val (.nx (ρ.set i (some (.shr x)))):=by rw [gK,h];rfl
theorem o0 {e:Rho->R D} {ρ:Rho} {x:D} (h:e ρ=.val x):drp e ρ=.val (.nx ρ):=by rw [D1,h];rfl
theorem cj {t:Rho->R Bool} {a:Rho->R Out} {ρ:Rho} (h:t ρ=.val false):DL.iff t a nxt ρ=.val (.nx ρ):=by rw [cM,h];rfl
theorem qH {A:Rho->R Out} {B:Rho->R D} {ρ ρ':Rho} (h:A ρ=.val (.nx ρ')):sqK A B ρ=B ρ':=by
 unfold sqK
 rw [h]
theorem iR {b:Nat} (hb:b < re.length):bL [hlD en re tb,nD b]=.val .non:=by
 simp only [bL,hU]
 show fin (DL.iff _ _ _ [some (.shr (hlD en re tb)),some (.shr (nD b))])=_
 have:=dF hb
 simp [this]
theorem iS (h:HallN en re tb) {a b:Nat} (ha:a < re.length) (hb:b < re.length):bu [hlD en re tb,nD a,nD b]=.val (al (btw en a b)):=by
 simp only [bu,jv]
 show fin (sq _ _ [some (.shr (hlD en re tb)),some (.shr (nD a)),some (.shr (nD b))])=_
 have n40:=h.na40
 have e1:drp (cal 2 bL (aC (vr 0) (aC (vr 1) aN))) [some (.shr (hlD en re tb)),some (.shr (nD a)),some (.shr (nD b))]=.val (.nx [some (.shr (hlD en re tb)),some (.shr (nD a)),some (.shr (nD b))]):=o0 (mR rfl rfl (iR ha))
 have e2:drp (cal 2 bL (aC (vr 0) (aC (vr 2) aN))) [some (.shr (hlD en re tb)),some (.shr (nD a)),some (.shr (nD b))]=.val (.nx [some (.shr (hlD en re tb)),some (.shr (nD a)),some (.shr (nD b))]):=o0 (mR rfl rfl (iR hb))
 rw [bg e1,bg e2]
 have hc:=io (src:=fu (aC (una (dH 0) (vb 0)) aN)) (n:=2) (T:=tg2 3 4) (t:=tst (bin feq (vb 4) (eT (aC (vr 1) (aC (vr 2) aN))))) (e:=vr 3) (f:=fun i=>.tup [nD i,fV (en.getD i (0,0))]) (g:=nD) (p:=fun n=>decide (en.getD n (0,0)=(a,b))) (l:=List.range en.length) (ρ:=[some (.shr (hlD en re tb)),some (.shr (nD a)),some (.shr (nD b))]) (by
  rw [<- oY (f:=fV) en (0,0)];rfl) (by rw [List.length_range];omega) fun n hn=>⟨_,rfl,by
  have q:=rL (en.getD n (0,0)) (a,b)
  exact congrArg (fun z=>R.bind z asB) q,rfl⟩
 rw [eW,bN,hc];rfl
end
theorem yM {α:Type} {T:D->Rho->Option Rho} {F:Rho->R Out} {f:α->D} (I:List α->Rho->Prop) (post:List α):∀ (pre:List α) {ρ:Rho},(∀ p a q,pre ++ post=p ++ a :: q->∀ ρ,I p ρ->∃ ρ1 ρ2,T (f a) ρ=some ρ1/\F ρ1=.val (.nx ρ2)/\I (p ++ [a]) ρ2)->I pre ρ->∃ ρ',bR T F (post.map f) ρ=.val (.nx ρ')/\I (pre ++ post) ρ':=by
 induction post with
 | nil=>intro pre ρ _ h;exact ⟨ρ,rfl,by rwa [List.append_nil]⟩
 | cons a r ih =>
  intro pre ρ step h
  obtain ⟨ρ1,ρ2,h1,h2,h3⟩:=step pre a r rfl ρ h
  rw [List.map_cons]
  unfold bR
  rw [h1]
  dsimp only
  rw [h2]
  have:=ih (pre ++ [a]) (ρ:=ρ2) (fun p b q e=>step p b q (by rw [<- e];simp)) h3
  rwa [List.append_assoc] at this
theorem dI {α:Type} {src:Rho->R (List D)} {T:D->Rho->Option Rho} {F:Rho->R Out} {f:α->D} (I:List α->Rho->Prop) {l:List α} {ρ:Rho} (hs:src ρ=.val (l.map f)) (step:∀ p a q,l=p ++ a :: q->∀ ρ,I p ρ->∃ ρ1 ρ2,T (f a) ρ=some ρ1/\F ρ1=.val (.nx ρ2)/\I (p ++ [a]) ρ2) (h:I [] ρ) :
  ∃ ρ',bn src T F ρ=.val (.nx ρ')/\I l ρ':=by
 rw [cz,hs,af]
 exact yM I l [] step h
abbrev Tie:=Nat × Nat × Nat
def stp (rows:List (List Nat)) (as:List Nat):List (List Nat):=rows.flatMap fun r=>as.map fun a=>r ++ [a]
def kpt (tb:List (List Int)) (row:List Nat) (t:Tie):Bool:=decide ((tb.getD (row.getD t.1 0) []).getD t.2.2 (-1)=((row.getD t.2.1 0:Nat):Int))
theorem qG (rows:List (List Nat)) (as:List Nat):(stp rows as).length=rows.length * as.length:=by
 unfold stp
 induction rows with
 | nil=>simp
 | cons r l ih=>rw [List.flatMap_cons,List.length_append,ih,List.length_map,List.length_cons,Nat.succ_mul,Nat.add_comm]
theorem vp (a b:List (List Nat)) (as:List Nat):stp (a ++ b) as=stp a as ++ stp b as:=by unfold stp;simp
theorem mem_stp {rows:List (List Nat)} {as:List Nat} {x:List Nat}:x ∈ stp rows as ↔ ∃ r ∈ rows,∃ a ∈ as,x=r ++ [a]:=by
 unfold stp
 rw [List.mem_flatMap]
 constructor
 ·rintro ⟨r,hr,hx⟩
  obtain ⟨a,ha,rfl⟩:=List.mem_map.mp hx
  exact ⟨r,hr,a,ha,rfl⟩
 ·rintro ⟨r,hr,a,ha,rfl⟩
  exact ⟨r,hr,List.mem_map.mpr ⟨a,ha,rfl⟩⟩
def rws (B:Nat->List Nat) (pl:List Nat):List (List Nat):=pl.foldl (fun rows p=>stp rows (B p)) [[]]
theorem ic (B:Nat->List Nat) (pl:List Nat) (p:Nat):rws B (pl ++ [p])=stp (rws B pl) (B p):=by unfold rws;rw [List.foldl_append];rfl
def lt (n:Nat) (ts:List Tie):List Tie:=ts.filter fun t=>decide (max t.1 t.2.1 < n)
def du (n:Nat) (ts:List Tie):List Tie:=ts.filter fun t=>decide (max t.1 t.2.1=n)
def kws (tb:List (List Int)) (B:Nat->List Nat) (pl:List Nat) (ts:List Tie):List (List Nat):=(rws B pl).filter fun row=>(lt pl.length ts).all (kpt tb row)
structure Row (N k:Nat) (row:List Nat):Prop where
 len:row.length=k
 bd:∀ a ∈ row,a < N
theorem Row.snoc {N k:Nat} {row:List Nat} {a:Nat} (h:Row N k row) (ha:a < N):Row N (k + 1) (row ++ [a]):=by
 refine ⟨by rw [List.length_append,h.len];rfl,fun b hb=>?_⟩
 rcases List.mem_append.mp hb with hb | hb
 ·exact h.bd b hb
 ·rw [List.mem_singleton.mp hb];exact ha
theorem Row.at {N k:Nat} {row:List Nat} (h:Row N k row) {i:Nat} (hi:i < k):row.getD i 0 < N:=by
 rw [bA (by rw [h.len];exact hi)];exact h.bd _ (List.getElem_mem _)
theorem vB {N:Nat} {B:Nat->List Nat} (hB:∀ p,∀ a ∈ B p,a < N) (pl:List Nat):∀ n,n<=pl.length->∀ row ∈ rws B (pl.take n),Row N n row:=by
 intro n
 induction n with
 | zero=>intro _ row h;rw [List.take_zero] at h;rw [show row=[] from List.mem_singleton.mp h];exact ⟨rfl,(fun a h=>by cases h)⟩
 | succ n ih =>
  intro hn row h
  rw [List.take_succ_eq_append_getElem (by omega),ic] at h
  obtain ⟨r,hr,a,ha,rfl⟩:=mem_stp.mp h
  exact (ih (by omega) r hr).snoc (hB _ a ha)
theorem kz {N:Nat} {B:Nat->List Nat} (hB:∀ p,∀ a ∈ B p,a < N) (pl:List Nat):∀ row ∈ rws B pl,Row N pl.length row:=by
 have:=vB hB pl pl.length (Nat.le_refl _)
 rwa [List.take_length] at this
theorem yT {N k:Nat} {tb:List (List Int)} {row:List Nat} {a:Nat} {t:Tie} (h:Row N k row) (ht:max t.1 t.2.1 < k):kpt tb (row ++ [a]) t=kpt tb row t:=by
 have h1:t.1 < row.length:=by rw [h.len];omega
 have h2:t.2.1 < row.length:=by rw [h.len];omega
 unfold kpt
 have e:∀ i,i < row.length->(row ++ [a]).getD i 0=row.getD i 0:=fun i hi=>by
  rw [List.getD_eq_getElem?_getD,List.getD_eq_getElem?_getD,List.getElem?_append_left hi]
 rw [e _ h1,e _ h2]
theorem tL {p:List Nat->Bool} {q s:List Nat->Bool} {as:List Nat}:∀ {rows:List (List Nat)},(∀ r ∈ rows,∀ a ∈ as,s (r ++ [a])=(p r && q (r ++ [a])))->(stp (rows.filter p) as).filter q=(stp rows as).filter s
 | [],_=>rfl
 | r :: l,h=>by
  have ih:=tL (p:=p) (q:=q) (s:=s) (as:=as) (rows:=l) fun x hx=>h x (by simp [hx])
  have hr:=h r (by simp)
  have one:∀ x:List Nat,∀ l:List (List Nat),stp (x :: l) as=(as.map fun a=>x ++ [a]) ++ stp l as:=fun x l=>by unfold stp;rw [List.flatMap_cons]
  rw [one,List.filter_append,List.filter_cons]
  cases e:p r with
  | true =>
   simp only [if_true]
   rw [one,List.filter_append,ih]
   congr 1
   apply List.filter_congr
   intro x hx
   obtain ⟨a,ha,rfl⟩:=List.mem_map.mp hx
   rw [hr a ha,e];rfl
  | false =>
   rw [if_neg (by decide),ih]
   have:List.filter s (as.map fun a=>r ++ [a])=[]:=by
    rw [List.filter_eq_nil_iff]
    intro x hx
    obtain ⟨a,ha,rfl⟩:=List.mem_map.mp hx
    rw [hr a ha,e];simp
   rw [this];rfl
theorem xx (k:Nat) (f:Tie->Bool) (ts:List Tie):(lt (k + 1) ts).all f=((lt k ts).all f && (du k ts).all f):=by
 rw [Bool.eq_iff_iff]
 unfold lt du
 simp only [Bool.and_eq_true,List.all_eq_true,List.mem_filter,decide_eq_true_eq]
 constructor
 ·intro h;exact ⟨fun t ht=>h t ⟨ht.1,by omega⟩,fun t ht=>h t ⟨ht.1,by omega⟩⟩
 ·rintro ⟨h1,h2⟩ t ⟨ht,hm⟩
  by_cases e:max t.1 t.2.1=k
  ·exact h2 t ⟨ht,e⟩
  ·exact h1 t ⟨ht,by omega⟩
theorem yR {N:Nat} {tb:List (List Int)} {B:Nat->List Nat} (hB:∀ p,∀ a ∈ B p,a < N) (pl:List Nat) (p:Nat) (ts:List Tie) :
  (stp (kws tb B pl ts) (B p)).filter (fun row=>(du pl.length ts).all (kpt tb row))=kws tb B (pl ++ [p]) ts:=by
 unfold kws
 rw [ic]
 apply tL
 intro r hr a ha
 have rr:=kz hB pl r hr
 rw [List.length_append,List.length_singleton,xx]
 congr 1
 rw [Bool.eq_iff_iff,List.all_eq_true,List.all_eq_true]
 have key:∀ t ∈ lt pl.length ts,kpt tb (r ++ [a]) t=kpt tb r t:=fun t ht=>by
  unfold lt at ht
  rw [List.mem_filter,decide_eq_true_eq] at ht
  exact yT rr ht.2
 exact ⟨fun h t ht=>by rw [<- key t ht];exact h t ht,fun h t ht=>by rw [key t ht];exact h t ht⟩
theorem Dw {n:Nat} {ts:List Tie} (h:∀ t ∈ ts,t.1 < n/\t.2.1 < n):lt n ts=ts:=by
 unfold lt
 rw [List.filter_eq_self]
 intro t ht
 have:=h t ht
 simp;omega
theorem qP {n:Nat} {B:Nat->List Nat} (hB:∀ p,(B p).length<=n) (hn:1<=n):∀ pl:List Nat,(rws B pl).length<=n ^ pl.length:=by
 intro pl
 suffices ∀ k,k<=pl.length->(rws B (pl.take k)).length<=n ^ k by
  have:=this pl.length (Nat.le_refl _)
  rwa [List.take_length] at this
 intro k
 induction k with
 | zero=>intro _;rw [List.take_zero];exact Nat.le_refl _
 | succ k ih =>
  intro hk
  rw [List.take_succ_eq_append_getElem (by omega),ic,qG,Nat.pow_succ]
  exact Nat.mul_le_mul (ih (by omega)) (hB _)
def bM (t:Tie):D:=.tup [nD t.1,nD t.2.1,nD t.2.2]
def aS (ts:List Tie):D:=.lst (ts.map bM)
def rwD (rows:List (List Nat)):D:=.lst (rows.map al)
theorem rK (t:Tie):fix (bM t) (.int 0)=.val (nD t.1):=fF _ _
theorem rJ (t:Tie):fix (bM t) (.int 1)=.val (nD t.2.1):=fk _ _ _
theorem uV (t:Tie):fix (bM t) (.int 2)=.val (nD t.2.2):=oK _ _ _ _
theorem qR (l:List Nat):al l=aG (bQ l):=by unfold al aG bQ;rw [List.map_map];rfl
theorem qQ (rows:List (List Nat)):rwD rows=aW (rows.map bQ):=by
 unfold rwD aW
 rw [List.map_map]
 congr 1
 apply List.map_congr_left
 intro a _
 exact qR a
theorem tF (l:List Nat):(l.map nD).all tJ=true:=by
 rw [List.all_eq_true]
 intro x hx
 obtain ⟨a,_,rfl⟩:=List.mem_map.mp hx
 rfl
theorem Bl (rows:List (List Nat)):fw (.l (.l .s)) (rwD rows)=true:=by
 show (rows.map al).all (fw (.l .s))=true
 rw [List.all_eq_true]
 intro x hx
 obtain ⟨a,_,rfl⟩:=List.mem_map.mp hx
 exact tF a
structure Pic (en:List (Nat × Nat)) (re:List Nat) (pl:List Nat) (ts:List Tie):Prop where
 l3:pl.length<=3
 l4:ts.length<=4
 pb:∀ i,i < pl.length->pl.getD i 0 < re.length
 tk:∀ t ∈ ts,t.1 < pl.length/\t.2.1 < pl.length/\t.2.2 < en.length/\en.getD t.2.2 (0,0)=(pl.getD t.1 0,pl.getD t.2.1 0)
section
variable {en:List (Nat × Nat)} {re:List Nat} {tb:List (List Int)} {pl:List Nat} {ts:List Tie}
theorem rQ (h:HallN en re tb) {k:Nat} {row:List Nat} (hr:Row en.length k row) {t:Tie} (h1:t.1 < k) (h2:t.2.1 < k) (h3:t.2.2 < en.length):dv [hlD en re tb,al row,bM t]=.val (.bl (kpt tb row t)):=by
 simp only [dv,hJ]
 show fin (ret _ [some (.shr (hlD en re tb)),some (.shr (al row)),some (.shr (bM t))])=_
 have a1:=hr.at h1
 have f0:bin fix (vb 1) (bin fix (vb 2) (kd (.int 0))) [some (.shr (hlD en re tb)),some (.shr (al row)),some (.shr (bM t))]=.val (nD (row.getD t.1 0)):=by
  show R.bind (fix (bM t) (.int 0)) (fun y=>fix (al row) y)=_
  rw [rK,af,eM (by rw [hr.len];exact h1)]
 have f1:bin fix (vb 1) (bin fix (vb 2) (kd (.int 1))) [some (.shr (hlD en re tb)),some (.shr (al row)),some (.shr (bM t))]=.val (nD (row.getD t.2.1 0)):=by
  show R.bind (fix (bM t) (.int 1)) (fun y=>fix (al row) y)=_
  rw [rJ,af,eM (by rw [hr.len];exact h2)]
 have f2:bin fix (vb 2) (kd (.int 2)) [some (.shr (hlD en re tb)),some (.shr (al row)),some (.shr (bM t))]=.val (nD t.2.2):=uV t
 have f3:una (dH 2) (vb 0) [some (.shr (hlD en re tb)),some (.shr (al row)),some (.shr (bM t))]=.val (aW tb):=Eq.trans rfl rfl
 have g1:=fj (tb:=tb) (i:=row.getD t.1 0) (by rw [h.tl];exact a1)
 have g2:=fO (r:=tb.getD (row.getD t.1 0) []) (i:=t.2.2) (by rw [h.rl _ a1];exact h3)
 rw [eW,aE,aE,aE,f3,af,f0,af,g1,af,f2,af,g2,af,f1,af,lM]
 rfl
theorem xl (h:HallN en re tb) (g:Pic en re pl ts) {t:Tie} (ht:t ∈ ts):gq [hlD en re tb,al pl,bM t]=.val (.bl true):=by
 obtain ⟨h1,h2,h3,h4⟩:=g.tk t ht
 simp only [gq,kg]
 show fin (sq _ _ [some (.shr (hlD en re tb)),some (.shr (al pl)),some (.shr (bM t))])=_
 have v0:bin fix (vb 2) (kd (.int 0)) [some (.shr (hlD en re tb)),some (.shr (al pl)),some (.shr (bM t))]=.val (nD t.1):=rK t
 have v1:bin fix (vb 2) (kd (.int 1)) [some (.shr (hlD en re tb)),some (.shr (al pl)),some (.shr (bM t))]=.val (nD t.2.1):=rJ t
 have v2:bin fix (vb 2) (kd (.int 2)) [some (.shr (hlD en re tb)),some (.shr (al pl)),some (.shr (bM t))]=.val (nD t.2.2):=uV t
 have lp:una aA (vb 1) [some (.shr (hlD en re tb)),some (.shr (al pl)),some (.shr (bM t))]=.val (nD pl.length):=dA pl
 have le:una aA (una (dH 0) (vb 0)) [some (.shr (hlD en re tb)),some (.shr (al pl)),some (.shr (bM t))]=.val (nD en.length):=jm en
 have t0:tst (bin fne (una aA (vb 2)) (kd (.int 3))) [some (.shr (hlD en re tb)),some (.shr (al pl)),some (.shr (bM t))]=.val false:=by
  show R.bind (fne (.int 3) (.int 3)) asB=_
  rw [lL];rfl
 have s1:DL.iff (orB (tst (bin fne (una aA (vb 2)) (kd (.int 3)))) (orB (gO (tst (cal 2 aZ (aC (bin fix (vb 2) (kd (.int 0))) (aC (una aA (vb 1)) aN))))) (gO (tst (cal 2 aZ (aC (bin fix (vb 2) (kd (.int 1))) (aC (una aA (vb 1)) aN)))))))
   (ret (kd (.bl false))) nxt [some (.shr (hlD en re tb)),some (.shr (al pl)),some (.shr (bM t))]=.val (.nx [some (.shr (hlD en re tb)),some (.shr (al pl)),some (.shr (bM t))]):=by
  refine cj ?_
  rw [lq,t0,af,if_neg (by decide),lq,iH,bx,mR v0 lp (dF h1),af,jC,af,af,if_neg (by decide),iH,bx,mR v1 lp (dF h2)]
  rfl
 rw [bg s1]
 have c2:cal 2 aZ (aC (bin fix (vb 2) (kd (.int 2))) (aC (una aA (una (dH 0) (vb 0))) aN)) [some (.shr (hlD en re tb)),some (.shr (al pl)),some (.shr (bM t))]=.val (.bl true):=mR v2 le (dF h3)
 have w0:bin fix (una (dH 0) (vb 0)) (bin fix (vb 2) (kd (.int 2))) [some (.shr (hlD en re tb)),some (.shr (al pl)),some (.shr (bM t))]=.val (fV (en.getD t.2.2 (0,0))):=by
  rw [aE,v2]
  exact gS h3
 have w1:bin fix (vb 1) (bin fix (vb 2) (kd (.int 0))) [some (.shr (hlD en re tb)),some (.shr (al pl)),some (.shr (bM t))]=.val (nD (pl.getD t.1 0)):=by
  rw [aE,v0]
  exact eM h1
 have w2:bin fix (vb 1) (bin fix (vb 2) (kd (.int 1))) [some (.shr (hlD en re tb)),some (.shr (al pl)),some (.shr (bM t))]=.val (nD (pl.getD t.2.1 0)):=by
  rw [aE,v1]
  exact eM h2
 have w3:eT (aC (bin fix (vb 1) (bin fix (vb 2) (kd (.int 0)))) (aC (bin fix (vb 1) (bin fix (vb 2) (kd (.int 1)))) aN)) [some (.shr (hlD en re tb)),some (.shr (al pl)),some (.shr (bM t))]=.val (fV (pl.getD t.1 0,pl.getD t.2.1 0)):=by
  rw [oZ,cR,w1,af,cR,w2]
  rfl
 rw [eW,wz,c2,af,jC,af,if_pos rfl,aE,w0,af,w3,af,h4,rL]
 simp
theorem lN (h:HallN en re tb) (g:Pic en re pl ts):bY [hlD en re tb,al pl,aS ts]=.val .non:=by
 simp only [bY,fo]
 show fin (sq _ _ [some (.shr (hlD en re tb)),some (.shr (al pl)),some (.shr (aS ts)),none,none,none,none])=_
 have l3:=g.l3
 have l4:=g.l4
 have s1:DL.iff (orB (tst (bin (iI fgt) (una aA (vb 1)) (kd (.int 3)))) (tst (bin (iI fgt) (una aA (vb 2)) (kd (.int 4))))) bad nxt [some (.shr (hlD en re tb)),some (.shr (al pl)),some (.shr (aS ts)),none,none,none,none]=.val (.nx [some (.shr (hlD en re tb)),some (.shr (al pl)),some (.shr (aS ts)),none,none,none,none]):=by
  refine cj ?_
  have a:tst (bin (iI fgt) (una aA (vb 1)) (kd (.int 3))) [some (.shr (hlD en re tb)),some (.shr (al pl)),some (.shr (aS ts)),none,none,none,none]=.val (decide ((3:Int) < pl.length)):=by
   have v:una aA (vb 1) [some (.shr (hlD en re tb)),some (.shr (al pl)),some (.shr (aS ts)),none,none,none,none]=.val (nD pl.length):=dA pl
   rw [bx,aE,v];rfl
  have b:tst (bin (iI fgt) (una aA (vb 2)) (kd (.int 4))) [some (.shr (hlD en re tb)),some (.shr (al pl)),some (.shr (aS ts)),none,none,none,none]=.val (decide ((4:Int) < ts.length)):=by
   have v:una aA (vb 2) [some (.shr (hlD en re tb)),some (.shr (al pl)),some (.shr (aS ts)),none,none,none,none]=.val (nD ts.length):=by
    show aA (.lst (ts.map bM))=_
    rw [oI,List.length_map]
   rw [bx,aE,v];rfl
  rw [lq,a,af,if_neg (by simp;omega),b,decide_eq_false (by omega)]
 rw [bg s1]
 obtain ⟨ρ1,e1,x3,x4,rfl⟩:=dI (src:=fu (aC (vr 1) aN)) (T:=tg2 3 4) (F:=DL.iff (gO (tst (cal 2 aZ (aC (vr 4) (aC (una aA (una (dH 1) (vb 0))) aN))))) bad nxt) (f:=fun i=>.tup [nD i,nD (pl.getD i 0)]) (l:=List.range pl.length) (ρ:=[some (.shr (hlD en re tb)),some (.shr (al pl)),some (.shr (aS ts)),none,none,none,none])
  (fun _ ρ=>∃ x3 x4:Option Slt,ρ=[some (.shr (hlD en re tb)),some (.shr (al pl)),some (.shr (aS ts)),x3,x4,none,none]) (by
   show R.val (enu 0 (pl.map nD))=_
   rw [oY pl 0]) (fun p i q e ρ hI=>by
  obtain ⟨x3,x4,rfl⟩:=hI
  have hi:i < pl.length:=List.mem_range.mp (by rw [e];simp)
  refine ⟨_,_,rfl,cj (ρ:=[some (.shr (hlD en re tb)),some (.shr (al pl)),some (.shr (aS ts)),some (.shr (nD i)),some (.shr (nD (pl.getD i 0))),none,none]) ?_,_,_,rfl⟩
  rw [iH,bx,mR (a:=nD (pl.getD i 0)) (b:=nD re.length) rfl (dA re) (dF (g.pb i hi))];rfl) ⟨_,_,rfl⟩
 rw [bg e1]
 obtain ⟨ρ2,e2,x5,x6,rfl⟩:=dI (src:=fu (aC (vr 2) aN)) (T:=tg2 5 6) (F:=DL.iff (gO (tst (cal 3 gq (aC (vr 0) (aC (vr 1) (aC (vr 6) aN)))))) bad nxt) (f:=fun i=>.tup [nD i,bM (ts.getD i (0,0,0))]) (l:=List.range ts.length) (ρ:=[some (.shr (hlD en re tb)),some (.shr (al pl)),some (.shr (aS ts)),x3,x4,none,none])
  (fun _ ρ=>∃ x5 x6:Option Slt,ρ=[some (.shr (hlD en re tb)),some (.shr (al pl)),some (.shr (aS ts)),x3,x4,x5,x6]) (by
   show R.val (enu 0 (ts.map bM))=_
   rw [oY ts (0,0,0)]) (fun p i q e ρ hI=>by
  obtain ⟨x5,x6,rfl⟩:=hI
  have hi:i < ts.length:=List.mem_range.mp (by rw [e];simp)
  refine ⟨_,_,rfl,cj (ρ:=[some (.shr (hlD en re tb)),some (.shr (al pl)),some (.shr (aS ts)),x3,x4,some (.shr (nD i)),some (.shr (bM (ts.getD i (0,0,0))))]) ?_,_,_,rfl⟩
  rw [iH,bx,ip (a:=hlD en re tb) (b:=al pl) (c:=bM (ts.getD i (0,0,0))) rfl rfl rfl (xl h g (by rw [bA hi];exact List.getElem_mem hi))];rfl) ⟨_,_,rfl⟩
 rw [e2];rfl
end
abbrev Co:Rho->R D:=flF (cal 3 dv (aC (vb 0) (aC (va 7) (aC (vb 8) aN))))
theorem uo {i:Nat} {k:OK} {e:Rho->R D} {ρ:Rho} {x:D} (h:e ρ=.val x):trS i k e ρ=.val (.nx (ρ.set i (some (.tre k x)))):=by
 unfold trS;rw [h];rfl
theorem fT {t:Rho->R Bool} {a b:Rho->R Out} {ρ:Rho} (h:t ρ=.val true):DL.iff t a b ρ=a ρ:=by rw [cM,h];rfl
section
variable {en:List (Nat × Nat)} {re:List Nat} {tb:List (List Int)} {pl:List Nat} {ts:List Tie}
abbrev rGr (H:D) (beg:List (List Nat)) (as:List Nat) (du:List Tie) (lo:List (List Nat)) (x5 x6 x7:Option Slt):Rho :=
 [some (.shr H),some (.shr (rwD beg)),some (.shr (al as)),some (.shr (aS du)),some (.tre (.l (.l .s)) (rwD lo)),x5,x6,x7]
theorem D6 {H:D} {beg lo:List (List Nat)} {as row:List Nat} {du:List Tie} {x5 x6:Option Slt} (hl:lo.length < 100000):asO (apM 4 7 (.l .s) (pN0 4)) (rGr H beg as du lo x5 x6 (some (.tre (.l .s) (al row))))=.val (.nx (rGr H beg as du (lo ++ [row]) x5 x6 none)):=by
 have e:apM 4 7 (.l .s) (pN0 4) (rGr H beg as du lo x5 x6 (some (.tre (.l .s) (al row))))=.val (rGr H beg as du (lo ++ [row]) x5 x6 none):=by
  show (if 4 ≠ 7/\(.l .s:OK)=.l .s/\jc (.l (.l .s)) []=some (.l (.l .s)) then (if (lo.map al).length < LIM then R.val _ else R.bad) else R.bad)=_
  rw [if_pos ⟨by decide,rfl,rfl⟩,if_pos (by rw [List.length_map];exact hl)]
  show R.val (([some (.shr H),some (.shr (rwD beg)),some (.shr (al as)),some (.shr (aS du)),some (.tre (.l (.l .s)) (.lst (lo.map al ++ [al row]))),x5,x6,none]:Rho))=_
  rw [show lo.map al ++ [al row]=(lo ++ [row]).map al by simp]
  rfl
 unfold asO
 rw [e];rfl
theorem zt (h:HallN en re tb) {k:Nat} {beg:List (List Nat)} {as:List Nat} {du:List Tie} (hb:∀ r ∈ beg,Row en.length k r) (ha:∀ a ∈ as,a < en.length) (hd:∀ t ∈ du,t.1 < k + 1/\t.2.1 < k + 1/\t.2.2 < en.length) (hk:k<=1000) (hl:beg.length * as.length<=64000) (hdl:du.length<=1000) :
  fR [hlD en re tb,rwD beg,al as,aS du]=.val (rwD ((stp beg as).filter fun row=>du.all (kpt tb row))):=by
 simp only [fR,lP]
 show sqK _ _ [some (.shr (hlD en re tb)),some (.shr (rwD beg)),some (.shr (al as)),some (.shr (aS du)),none,none,none,none]=_
 have s1:trS 4 (.l (.l .s)) (eLs (fU aN)) [some (.shr (hlD en re tb)),some (.shr (rwD beg)),some (.shr (al as)),some (.shr (aS du)),none,none,none,none]=.val (.nx (rGr (hlD en re tb) beg as du [] none none none)):=Eq.trans rfl rfl
 rw [qH s1]
 obtain ⟨ρ1,e1,x5,x6,x7,rfl⟩:=dI (src:=fIt (vr 1)) (T:=tgN 5) (F:=bn (fIt (vr 2)) (tgN 6)
   (sq (trS 7 (.l .s) (eLs (flL (xg (vb 5) (eL (aC (vr 6) aN))))))
   (DL.iff (tst (una rN (eLs (bo (fIt (vr 3)) 1 (tgN 8) tT Co))))
   (asO (apM 4 7 (.l .s) (pN0 4)))
   nxt))) (f:=al) (l:=beg) (ρ:=rGr (hlD en re tb) beg as du [] none none none)
  (fun p ρ=>∃ x5 x6 x7:Option Slt,ρ=rGr (hlD en re tb) beg as du ((stp p as).filter fun row=>du.all (kpt tb row)) x5 x6 x7) rfl (fun p r q e ρ hI=>by
   obtain ⟨x5,x6,x7,rfl⟩:=hI
   have hr:Row en.length k r:=hb r (by rw [e];simp)
   have lr:=hr.len
   obtain ⟨ρ2,e2,y6,y7,rfl⟩:=dI (src:=fIt (vr 2)) (T:=tgN 6) (F:=sq (trS 7 (.l .s) (eLs (flL (xg (vb 5) (eL (aC (vr 6) aN))))))
     (DL.iff (tst (una rN (eLs (bo (fIt (vr 3)) 1 (tgN 8) tT Co))))
     (asO (apM 4 7 (.l .s) (pN0 4)))
     nxt)) (f:=nD) (l:=as) (ρ:=rGr (hlD en re tb) beg as du ((stp p as).filter fun row=>du.all (kpt tb row)) (some (.shr (al r))) x6 x7)
    (fun o ρ=>∃ y6 y7:Option Slt,ρ=rGr (hlD en re tb) beg as du (((stp p as).filter fun row=>du.all (kpt tb row)) ++ ((o.map fun a=>r ++ [a]).filter fun row=>du.all (kpt tb row))) (some (.shr (al r))) y6 y7) rfl (fun o a u eo ρ hI=>by
     obtain ⟨y6,y7,rfl⟩:=hI
     have aa:a < en.length:=ha a (by rw [eo];simp)
     have hn:Row en.length (k + 1) (r ++ [a]):=hr.snoc aa
     generalize hlo:(((stp p as).filter fun row=>du.all (kpt tb row)) ++ ((o.map fun a=>r ++ [a]).filter fun row=>du.all (kpt tb row)))=lo
     have llo:lo.length < 100000:=by
      rw [<- hlo,List.length_append]
      have l1:=List.length_filter_le (fun row=>du.all (kpt tb row)) (stp p as)
      have l2:=List.length_filter_le (fun row=>du.all (kpt tb row)) (o.map fun a=>r ++ [a])
      rw [qG] at l1
      rw [List.length_map] at l2
      have b1:beg.length=p.length + (q.length + 1):=by rw [e];simp
      have b2:as.length=o.length + (u.length + 1):=by rw [eo];simp
      have b3:(p.length + 1) * as.length<=beg.length * as.length:=Nat.mul_le_mul_right _ (by omega)
      rw [Nat.succ_mul] at b3
      omega
     have s2:trS 7 (.l .s) (eLs (flL (xg (vb 5) (eL (aC (vr 6) aN))))) (rGr (hlD en re tb) beg as du lo (some (.shr (al r))) (some (.shr (nD a))) y7)=.val (.nx (rGr (hlD en re tb) beg as du lo (some (.shr (al r))) (some (.shr (nD a))) (some (.tre (.l .s) (al (r ++ [a])))))):=by
      refine uo ?_
      have c:xg (vb 5) (eL (aC (vr 6) aN)) (rGr (hlD en re tb) beg as du lo (some (.shr (al r))) (some (.shr (nD a))) y7)=.val ((r ++ [a]).map nD):=by
       show (if (r.map nD).length + 1<=LIM then R.val (r.map nD ++ [nD a]) else R.bad)=_
       rw [if_pos (by rw [List.length_map];show _<=100000;omega)]
       simp
      rw [bN]
      unfold flL
      rw [c,af,if_pos (tF _)]
      rfl
     have tt:tst (una rN (eLs (bo (fIt (vr 3)) 1 (tgN 8) tT Co))) (rGr (hlD en re tb) beg as du lo (some (.shr (al r))) (some (.shr (nD a))) (some (.tre (.l .s) (al (r ++ [a])))))=.val (du.all (kpt tb (r ++ [a]))):=by
      have c:=eI (src:=fIt (vr 3)) (n:=1) (i:=8) (e:=flF (cal 3 dv (aC (vb 0) (aC (va 7) (aC (vb 8) aN))))) (f:=bM) (g:=fun t=>.bl (kpt tb (r ++ [a]) t)) (l:=du) (ρ:=rGr (hlD en re tb) beg as du lo (some (.shr (al r))) (some (.shr (nD a))) (some (.tre (.l .s) (al (r ++ [a]))))) rfl (by omega) (fun t ht=>by
       obtain ⟨d1,d2,d3⟩:=hd t ht
       unfold flF
       rw [ip (a:=hlD en re tb) (b:=al (r ++ [a])) (c:=bM t) rfl rfl rfl (rQ h hn d1 d2 d3)];rfl)
      rw [bx,gY,bN,c,af,af,tN];rfl
     refine ⟨rGr (hlD en re tb) beg as du lo (some (.shr (al r))) (some (.shr (nD a))) y7,?_⟩
     by_cases c:du.all (kpt tb (r ++ [a]))=true
     ·refine ⟨_,rfl,?_,some (.shr (nD a)),none,rfl⟩
      show sq _ _ (rGr (hlD en re tb) beg as du lo (some (.shr (al r))) (some (.shr (nD a))) y7)=_
      rw [bg s2,fT (by rw [tt,c]),D6 llo,<- hlo,List.map_append,List.filter_append,List.append_assoc]
      rw [show List.filter (fun row=>du.all (kpt tb row)) (List.map (fun a=>r ++ [a]) [a])=[r ++ [a]] by rw [List.map_singleton,List.filter_cons,if_pos c];rfl]
     ·refine ⟨_,rfl,?_,some (.shr (nD a)),some (.tre (.l .s) (al (r ++ [a]))),rfl⟩
      have c:du.all (kpt tb (r ++ [a]))=false:=by simpa using c
      show sq _ _ (rGr (hlD en re tb) beg as du lo (some (.shr (al r))) (some (.shr (nD a))) y7)=_
      rw [bg s2,cj (by rw [tt,c]),<- hlo,List.map_append,List.filter_append]
      rw [show List.filter (fun row=>du.all (kpt tb row)) (List.map (fun a=>r ++ [a]) [a])=[] by rw [List.map_singleton,List.filter_cons,if_neg (by rw [c];decide)];rfl,List.append_nil]) ⟨x6,x7,by simp⟩
   refine ⟨_,_,rfl,e2,some (.shr (al r)),y6,y7,?_⟩
   rw [vp,List.filter_append]
   have:stp [r] as=as.map fun a=>r ++ [a]:=by unfold stp;simp
   rw [this]) ⟨none,none,none,rfl⟩
 rw [qH e1]
 rfl
end
abbrev Eh:Rho->R Bool:=tst (bin feq (tX (aC (bin fix (vb 8) (kd (.int 0))) (aC (bin fix (vb 8) (kd (.int 1))) aN))) (vb 5))
abbrev Eg:Rho->R (List D):=aC (vb 0) (aC (va 4) (aC (cal 3 bu (aC (vr 0) (aC (vr 3) (aC (vr 6) aN)))) (aC (vb 7) aN)))
theorem sL {n i:Nat} {p q:List Nat} (e:List.range n=p ++ i :: q):i=p.length/\i < n:=by
 have h:(List.range n)[p.length]?=some i:=by rw [e];simp
 have hn:p.length < n:=by
  have:=congrArg List.length e
  simp at this;omega
 rw [List.getElem?_range hn] at h
 have:p.length=i:=by simpa using h
 omega
section
variable {en:List (Nat × Nat)} {re:List Nat} {tb:List (List Int)} {pl:List Nat} {ts:List Tie}
theorem hV (b:Nat):∀ p,∀ a ∈ btw en b p,a < en.length:=fun p a h=>(mem_btw.mp h).1
theorem A9 (h:HallN en re tb) (b:Nat) (pl:List Nat) (ts:List Tie):(kws tb (btw en b) pl ts).length<=40 ^ pl.length :=
 Nat.le_trans (List.length_filter_le _ _) (qP (fun p=>Nat.le_trans (fP b p) h.na40) (by decide) pl)
theorem iM (b:Nat) (pl:List Nat) (ts:List Tie):∀ r ∈ kws tb (btw en b) pl ts,Row en.length pl.length r:=fun r hr=>kz (hV b) pl r (List.mem_filter.mp hr).1
abbrev rVf (H:D) (pl:List Nat) (ts:List Tie) (b:Nat) (beg:List (List Nat)) (x5 x6 x7:Option Slt):Rho :=
 [some (.shr H),some (.shr (al pl)),some (.shr (aS ts)),some (.shr (nD b)),some (.tre (.l (.l .s)) (rwD beg)),x5,x6,x7]
theorem pQ (h:HallN en re tb) (g:Pic en re pl ts) {b:Nat} (hb:b < re.length):cN [hlD en re tb,al pl,aS ts,nD b]=.val (rwD (kws tb (btw en b) pl ts)):=by
 simp only [cN,gE]
 show sqK _ _ [some (.shr (hlD en re tb)),some (.shr (al pl)),some (.shr (aS ts)),some (.shr (nD b)),none,none,none,none]=_
 have s1:trS 4 (.l (.l .s)) (eL1 (eLs (fU aN))) [some (.shr (hlD en re tb)),some (.shr (al pl)),some (.shr (aS ts)),some (.shr (nD b)),none,none,none,none]=.val (.nx (rVf (hlD en re tb) pl ts b [[]] none none none)):=Eq.trans rfl rfl
 rw [qH s1]
 have l3:=g.l3
 have l4:=g.l4
 obtain ⟨ρ1,e1,x5,x6,x7,rfl⟩:=dI (src:=fu (aC (vr 1) aN)) (T:=tg2 5 6) (F:=sq (asg 7 (eLs (bo (fIt (vr 2)) 1 (tgN 8) Eh (vr 8))))
   (trS 4 (.l (.l .s)) (flK (.l (.l .s)) (cal 4 fR Eg)))) (f:=fun i=>.tup [nD i,nD (pl.getD i 0)]) (l:=List.range pl.length) (ρ:=rVf (hlD en re tb) pl ts b [[]] none none none)
  (fun p ρ=>∃ x5 x6 x7:Option Slt,ρ=rVf (hlD en re tb) pl ts b (kws tb (btw en b) (pl.take p.length) ts) x5 x6 x7) (by
   show R.val (enu 0 (pl.map nD))=_
   rw [oY pl 0]) (fun p i q e ρ hI=>by
  obtain ⟨x5,x6,x7,rfl⟩:=hI
  obtain ⟨ei,hi⟩:=sL e
  rw [<- ei]
  generalize hbe:kws tb (btw en b) (pl.take i) ts=beg
  have tl:(pl.take i).length=i:=by rw [List.length_take];omega
  have s2:asg 7 (eLs (bo (fIt (vr 2)) 1 (tgN 8) Eh (vr 8))) (rVf (hlD en re tb) pl ts b beg (some (.shr (nD i))) (some (.shr (nD (pl.getD i 0)))) x7)=.val (.nx (rVf (hlD en re tb) pl ts b beg (some (.shr (nD i))) (some (.shr (nD (pl.getD i 0)))) (some (.shr (aS (du i ts)))))):=by
   refine cQ ?_
   have c:=io (src:=fIt (vr 2)) (n:=1) (T:=tgN 8) (t:=tst (bin feq (tX (aC (bin fix (vb 8) (kd (.int 0))) (aC (bin fix (vb 8) (kd (.int 1))) aN))) (vb 5))) (e:=vr 8) (f:=bM) (g:=bM) (p:=fun t:Tie=>decide (max t.1 t.2.1=i)) (l:=ts) (ρ:=rVf (hlD en re tb) pl ts b beg (some (.shr (nD i))) (some (.shr (nD (pl.getD i 0)))) x7) rfl (by omega) (fun t _=>by
    refine ⟨_,rfl,?_,rfl⟩
    have v0:bin fix (vb 8) (kd (.int 0)) (rVf (hlD en re tb) pl ts b beg (some (.shr (nD i))) (some (.shr (nD (pl.getD i 0)))) x7 ++ [some (.shr (bM t))])=.val (nD t.1):=rK t
    have v1:bin fix (vb 8) (kd (.int 1)) (rVf (hlD en re tb) pl ts b beg (some (.shr (nD i))) (some (.shr (nD (pl.getD i 0)))) x7 ++ [some (.shr (bM t))])=.val (nD t.2.1):=rJ t
    show tst (bin feq (tX (aC (bin fix (vb 8) (kd (.int 0))) (aC (bin fix (vb 8) (kd (.int 1))) aN))) (vb 5)) (rVf (hlD en re tb) pl ts b beg (some (.shr (nD i))) (some (.shr (nD (pl.getD i 0)))) x7 ++ [some (.shr (bM t))])=_
    rw [bx,aE,wo,cR,v0,af,cR,v1,af,jZ,af,af,af,v6,af]
    show R.bind (feq (.int (if (t.2.1:Int) > (t.1:Int) then (t.2.1:Int) else (t.1:Int))) (.int (i:Int))) asB=_
    rw [lM,af,jC]
    congr 1
    rw [Bool.eq_iff_iff,decide_eq_true_eq,decide_eq_true_eq]
    split <;> omega)
   rw [bN,c]
   rfl
  have bt:cal 3 bu (aC (vr 0) (aC (vr 3) (aC (vr 6) aN))) (rVf (hlD en re tb) pl ts b beg (some (.shr (nD i))) (some (.shr (nD (pl.getD i 0)))) (some (.shr (aS (du i ts)))))=.val (al (btw en b (pl.getD i 0))):=ip (a:=hlD en re tb) (b:=nD b) (c:=nD (pl.getD i 0)) rfl rfl rfl (iS h hb (g.pb i hi))
  have gr:fR [hlD en re tb,rwD beg,al (btw en b (pl.getD i 0)),aS (du i ts)]=.val (rwD (kws tb (btw en b) (pl.take (i + 1)) ts)):=by
   have row:∀ r ∈ beg,Row en.length i r:=by rw [<- hbe];have:=iM (tb:=tb) (en:=en) b (pl.take i) ts;rwa [tl] at this
   have len:beg.length<=1600:=by
    rw [<- hbe]
    refine Nat.le_trans (A9 h b _ ts) ?_
    rw [tl]
    exact Nat.le_trans (Nat.pow_le_pow_right (by decide) (show i<=2 by omega)) (by decide)
   have j7:(btw en b (pl.getD i 0)).length<=40:=Nat.le_trans (fP b _) h.na40
   have gg:=zt h (k:=i) (beg:=beg) (as:=btw en b (pl.getD i 0)) (du:=du i ts) row (hV b _) (fun t ht=>by
    obtain ⟨m1,m2⟩:=List.mem_filter.mp ht
    have m2:=of_decide_eq_true m2
    obtain ⟨k1,k2,k3,_⟩:=g.tk t m1
    exact ⟨by omega,by omega,k3⟩) (by omega) (Nat.le_trans (Nat.mul_le_mul len j7) (by decide)) (Nat.le_trans (List.length_filter_le _ _) (by omega))
   rw [gg,List.take_succ_eq_append_getElem hi]
   have kk:=yR (tb:=tb) (hV (en:=en) b) (pl.take i) pl[i] ts
   rw [tl,hbe] at kk
   rw [<- kk,bA hi]
  have s3:trS 4 (.l (.l .s)) (flK (.l (.l .s)) (cal 4 fR Eg)) (rVf (hlD en re tb) pl ts b beg (some (.shr (nD i))) (some (.shr (nD (pl.getD i 0)))) (some (.shr (aS (du i ts)))))=.val (.nx (rVf (hlD en re tb) pl ts b (kws tb (btw en b) (pl.take (i + 1)) ts) (some (.shr (nD i))) (some (.shr (nD (pl.getD i 0)))) (some (.shr (aS (du i ts)))))):=by
   refine uo ?_
   unfold flK
   rw [xt (a:=hlD en re tb) (b:=rwD beg) (c:=al (btw en b (pl.getD i 0))) (e:=aS (du i ts)) rfl rfl bt rfl gr,af,if_pos (Bl _)]
  refine ⟨rVf (hlD en re tb) pl ts b beg (some (.shr (nD i))) (some (.shr (nD (pl.getD i 0)))) x7,_,rfl,by rw [bg s2,s3],some (.shr (nD i)),some (.shr (nD (pl.getD i 0))),some (.shr (aS (du i ts))),?_⟩
  rw [List.length_append,<- ei]
  rfl) ⟨none,none,none,by
   have:kws tb (btw en b) (pl.take (List.length ([]:List Nat))) ts=[[]]:=by
    rw [List.length_nil,List.take_zero]
    unfold kws
    have:lt (List.length ([]:List Nat)) ts=[]:=by
     unfold lt
     rw [List.filter_eq_nil_iff]
     intro t _
     simp
    rw [this];rfl
   rw [this]⟩
 rw [qH e1]
 rw [List.length_range,List.take_length]
 rfl
end
abbrev Ef:Rho->R Bool:=tst (bin fne (bin fix (bin fix (bin fix (vb 0) (kd (.int 2))) (bin fix (vb 7) (bin fix (vb 9) (kd (.int 0))))) (bin fix (vb 9) (kd (.int 2)))) (bin fix (vb 7) (bin fix (vb 9) (kd (.int 1)))))
abbrev Cn:Rho->R (List D):=fIt (cal 3 aO (aC (vr 0) (aC (vr 3) (aC (vr 5) aN))))
theorem v_ {xs ys:List D} (h:xs.length + ys.length<=100000):bH (.lst xs) (.lst ys)=.val (.lst (xs ++ ys)):=if_pos h
theorem none_iff (f:Tie->Bool) (ts:List Tie):decide ((((ts.filter fun t=>!f t).map bM).length:Int)=0)=ts.all f:=by
 rw [Bool.eq_iff_iff,decide_eq_true_eq,List.length_map,List.all_eq_true]
 constructor
 ·intro h t ht
  have:(ts.filter fun t=>!f t)=[]:=List.length_eq_zero_iff.mp (by omega)
  rw [List.filter_eq_nil_iff] at this
  simpa using this t ht
 ·intro h
  have:(ts.filter fun t=>!f t)=[]:=by
   rw [List.filter_eq_nil_iff]
   intro t ht
   simp [h t ht]
  rw [this];rfl
section
variable {en:List (Nat × Nat)} {re:List Nat} {tb:List (List Int)} {pl:List Nat} {ts:List Tie} {r:List D}
abbrev paD (en:List (Nat × Nat)) (re:List Nat) (tb:List (List Int)) (r:List D):D:=.tup (cS en :: al re :: aW tb :: r)
abbrev rLv (P:D) (pl:List Nat) (ts:List Tie) (b:Nat) (x4 x5 x6 x7 x8:Option Slt):Rho :=
 [some (.shr P),some (.shr (al pl)),some (.shr (aS ts)),some (.shr (nD b)),x4,x5,x6,x7,x8]
theorem Bw (h:HallN en re tb) {b p:Nat} {lo rows:List (List Nat)} {row:List Nat} (hl:lo.length<=64000) (hr:row.length<=1000) (x4 x8:Option Slt) :
  asg 6 (bin bH (vb 6) (eLs (bo Cn 1 (tgN 9) tT (bin bH (vb 7) (eL (aC (vr 9) aN)))))) (rLv (paD en re tb r) pl ts b x4 (some (.shr (nD p))) (some (.shr (rwD lo))) (some (.shr (al row))) x8)
   =.val (.nx (rLv (paD en re tb r) pl ts b x4 (some (.shr (nD p))) (some (.shr (rwD (lo ++ (btw en b p).map fun a=>row ++ [a])))) (some (.shr (al row))) x8)):=by
 refine cQ ?_
 have n40:=h.na40
 have bl:=fP (en:=en) b p
 have lb:cal 3 aO (aC (vr 0) (aC (vr 3) (aC (vr 5) aN))) (rLv (paD en re tb r) pl ts b x4 (some (.shr (nD p))) (some (.shr (rwD lo))) (some (.shr (al row))) x8)=.val (al (btw en b p)):=ip rfl rfl rfl (gU h b p)
 have c:=eI (src:=fIt (cal 3 aO (aC (vr 0) (aC (vr 3) (aC (vr 5) aN))))) (n:=1) (i:=9) (e:=bin bH (vb 7) (eL (aC (vr 9) aN))) (f:=nD) (g:=fun a=>al (row ++ [a])) (l:=btw en b p) (ρ:=rLv (paD en re tb r) pl ts b x4 (some (.shr (nD p))) (some (.shr (rwD lo))) (some (.shr (al row))) x8) (by rw [iQ,lb];rfl) (by omega) (fun a _=>by
  show bH (.lst (row.map nD)) (.lst [nD a])=_
  rw [v_ (by rw [List.length_map];show _ + 1<=_;omega)]
  unfold al
  rw [List.map_append];rfl)
 rw [aE,bN,c]
 show bH (.lst (lo.map al)) (.lst ((btw en b p).map fun a=>al (row ++ [a])))=_
 rw [v_ (by rw [List.length_map,List.length_map];omega)]
 unfold rwD
 rw [List.map_append,List.map_map]
 rfl
theorem xj (h:HallN en re tb) (g:Pic en re pl ts) (b:Nat):bK [paD en re tb r,al pl,aS ts,nD b]=.val (rwD ((rws (btw en b) pl).filter fun row=>ts.all (kpt tb row))):=by
 simp only [bK,g9]
 show fin (sq _ _ (rLv (paD en re tb r) pl ts b none none none none none))=_
 have n40:=h.na40
 have l3:=g.l3
 have l4:=g.l4
 have s1:asg 4 (eL (aC (eL aN) aN)) (rLv (paD en re tb r) pl ts b none none none none none)=.val (.nx (rLv (paD en re tb r) pl ts b (some (.shr (rwD [[]]))) none none none none)):=Eq.trans rfl rfl
 rw [bg s1]
 obtain ⟨ρ1,e1,x5,x6,x7,rfl⟩:=dI (src:=fIt (vr 1)) (T:=tgN 5) (F:=sq (asg 6 (eL aN))
   (sq (bn (fIt (vr 4)) (tgN 7)
   (asg 6 (bin bH (vb 6) (eLs (bo Cn 1 (tgN 9) tT (bin bH (vb 7) (eL (aC (vr 9) aN))))))))
   (asg 4 (vr 6)))) (f:=nD) (l:=pl) (ρ:=rLv (paD en re tb r) pl ts b (some (.shr (rwD [[]]))) none none none none)
  (fun p ρ=>∃ x5 x6 x7:Option Slt,ρ=rLv (paD en re tb r) pl ts b (some (.shr (rwD (rws (btw en b) p)))) x5 x6 x7 none) rfl (fun p a q e ρ hI=>by
   obtain ⟨x5,x6,x7,rfl⟩:=hI
   have lp:p.length<=2:=by have:=congrArg List.length e;simp at this;omega
   have len:(rws (btw en b) p).length<=1600:=Nat.le_trans (qP (fun p=>Nat.le_trans (fP b p) h.na40) (by decide) p) (Nat.le_trans (Nat.pow_le_pow_right (by decide) lp) (by decide))
   have hrow:=kz (hV (en:=en) b) p
   have sn:=ic (btw en b) p a
   generalize rws (btw en b) p=rows at *
   have s2:asg 6 (eL aN) (rLv (paD en re tb r) pl ts b (some (.shr (rwD rows))) (some (.shr (nD a))) x6 x7 none)=.val (.nx (rLv (paD en re tb r) pl ts b (some (.shr (rwD rows))) (some (.shr (nD a))) (some (.shr (rwD []))) x7 none)):=Eq.trans rfl rfl
   obtain ⟨ρ2,e2,y7,rfl⟩:=dI (src:=fIt (vr 4)) (T:=tgN 7) (F:=asg 6 (bin bH (vb 6) (eLs (bo Cn 1 (tgN 9) tT (bin bH (vb 7) (eL (aC (vr 9) aN))))))) (f:=al) (l:=rows) (ρ:=rLv (paD en re tb r) pl ts b (some (.shr (rwD rows))) (some (.shr (nD a))) (some (.shr (rwD []))) x7 none)
    (fun o ρ=>∃ y7:Option Slt,ρ=rLv (paD en re tb r) pl ts b (some (.shr (rwD rows))) (some (.shr (nD a))) (some (.shr (rwD (stp o (btw en b a))))) y7 none) rfl (fun o row u eo ρ hI=>by
     obtain ⟨y7,rfl⟩:=hI
     have hr:=hrow row (by rw [eo];simp)
     have lo:(stp o (btw en b a)).length<=64000:=by
      rw [qG]
      have b1:o.length<=rows.length:=by rw [eo];simp
      have b2:(btw en b a).length<=40:=Nat.le_trans (fP b a) h.na40
      exact Nat.le_trans (Nat.mul_le_mul (Nat.le_trans b1 len) b2) (by decide)
     refine ⟨_,_,rfl,Bw h (rows:=rows) lo (by rw [hr.len];omega) _ _,some (.shr (al row)),?_⟩
     rw [vp]
     have:stp [row] (btw en b a)=(btw en b a).map fun x=>row ++ [x]:=by unfold stp;simp
     rw [this]) ⟨x7,rfl⟩
   refine ⟨rLv (paD en re tb r) pl ts b (some (.shr (rwD rows))) (some (.shr (nD a))) x6 x7 none,_,rfl,by rw [bg s2,bg e2,cQ (x:=rwD (stp rows (btw en b a))) rfl],some (.shr (nD a)),some (.shr (rwD (stp rows (btw en b a)))),y7,?_⟩
   rw [sn];rfl) ⟨none,none,none,rfl⟩
 have len:(rws (btw en b) pl).length<=64000:=Nat.le_trans (qP (fun p=>Nat.le_trans (fP b p) h.na40) (by decide) pl) (Nat.le_trans (Nat.pow_le_pow_right (by decide) l3) (by decide))
 have hrow:=kz (hV (en:=en) b) pl
 generalize rws (btw en b) pl=rows at *
 have s3:own 8 (fU aN) (rLv (paD en re tb r) pl ts b (some (.shr (rwD rows))) x5 x6 x7 none)=.val (.nx (rLv (paD en re tb r) pl ts b (some (.shr (rwD rows))) x5 x6 x7 (some (.own [])))):=Eq.trans rfl rfl
 obtain ⟨ρ2,e2,y7,rfl⟩:=dI (src:=fIt (vr 4)) (T:=tgN 7) (F:=DL.iff (tst (bin feq (una aA (eLs (bo (fIt (vr 2)) 1 (tgN 9) Ef (vr 9)))) (kd (.int 0))))
   (app 8 (vr 7))
   nxt) (f:=al) (l:=rows) (ρ:=rLv (paD en re tb r) pl ts b (some (.shr (rwD rows))) x5 x6 x7 (some (.own [])))
  (fun p ρ=>∃ y7:Option Slt,ρ=rLv (paD en re tb r) pl ts b (some (.shr (rwD rows))) x5 x6 y7 (some (.own ((p.filter fun row=>ts.all (kpt tb row)).map al)))) rfl (fun p row q e ρ hI=>by
   obtain ⟨y7,rfl⟩:=hI
   have hr:=hrow row (by rw [e];simp)
   have lp:(p.filter fun row=>ts.all (kpt tb row)).length < 100000:=by
    have:=List.length_filter_le (fun row=>ts.all (kpt tb row)) p
    have b1:p.length<=rows.length:=by rw [e];simp
    omega
   generalize hac:(p.filter fun row=>ts.all (kpt tb row))=ac at lp
   have tt:tst (bin feq (una aA (eLs (bo (fIt (vr 2)) 1 (tgN 9) Ef (vr 9)))) (kd (.int 0))) (rLv (paD en re tb r) pl ts b (some (.shr (rwD rows))) x5 x6 (some (.shr (al row))) (some (.own (ac.map al))))=.val (ts.all (kpt tb row)):=by
    have c:=io (src:=fIt (vr 2)) (n:=1) (T:=tgN 9) (t:=tst (bin fne (bin fix (bin fix (bin fix (vb 0) (kd (.int 2))) (bin fix (vb 7) (bin fix (vb 9) (kd (.int 0))))) (bin fix (vb 9) (kd (.int 2)))) (bin fix (vb 7) (bin fix (vb 9) (kd (.int 1)))))) (e:=vr 9) (f:=bM) (g:=bM) (p:=fun t=>!kpt tb row t) (l:=ts) (ρ:=rLv (paD en re tb r) pl ts b (some (.shr (rwD rows))) x5 x6 (some (.shr (al row))) (some (.own (ac.map al)))) rfl (by omega) (fun t ht=>by
     obtain ⟨h1,h2,h3,_⟩:=g.tk t ht
     have a1:=hr.at h1
     refine ⟨_,rfl,?_,rfl⟩
     have v0:bin fix (vb 7) (bin fix (vb 9) (kd (.int 0))) (rLv (paD en re tb r) pl ts b (some (.shr (rwD rows))) x5 x6 (some (.shr (al row))) (some (.own (ac.map al))) ++ [some (.shr (bM t))])=.val (nD (row.getD t.1 0)):=by
      show R.bind (fix (bM t) (.int 0)) (fun y=>fix (al row) y)=_
      rw [rK,af,eM (by rw [hr.len];exact h1)]
     have v1:bin fix (vb 7) (bin fix (vb 9) (kd (.int 1))) (rLv (paD en re tb r) pl ts b (some (.shr (rwD rows))) x5 x6 (some (.shr (al row))) (some (.own (ac.map al))) ++ [some (.shr (bM t))])=.val (nD (row.getD t.2.1 0)):=by
      show R.bind (fix (bM t) (.int 1)) (fun y=>fix (al row) y)=_
      rw [rJ,af,eM (by rw [hr.len];exact h2)]
     have v2:bin fix (vb 9) (kd (.int 2)) (rLv (paD en re tb r) pl ts b (some (.shr (rwD rows))) x5 x6 (some (.shr (al row))) (some (.own (ac.map al))) ++ [some (.shr (bM t))])=.val (nD t.2.2):=uV t
     have v3:bin fix (vb 0) (kd (.int 2)) (rLv (paD en re tb r) pl ts b (some (.shr (rwD rows))) x5 x6 (some (.shr (al row))) (some (.own (ac.map al))) ++ [some (.shr (bM t))])=.val (aW tb):=oK _ _ _ _
     have g1:=fj (tb:=tb) (i:=row.getD t.1 0) (by rw [h.tl];exact a1)
     have g2:=fO (r:=tb.getD (row.getD t.1 0) []) (i:=t.2.2) (by rw [h.rl _ a1];exact h3)
     show tst (bin fne (bin fix (bin fix (bin fix (vb 0) (kd (.int 2))) (bin fix (vb 7) (bin fix (vb 9) (kd (.int 0))))) (bin fix (vb 9) (kd (.int 2)))) (bin fix (vb 7) (bin fix (vb 9) (kd (.int 1))))) (rLv (paD en re tb r) pl ts b (some (.shr (rwD rows))) x5 x6 (some (.shr (al row))) (some (.own (ac.map al))) ++ [some (.shr (bM t))])=_
     rw [bx,aE,aE,aE,v3,af,v0,af,g1,af,v2,af,g2,af,v1,af,lL,af,jC]
     unfold kpt
     rw [decide_not])
    rw [bx,aE,gY,bN,c,af,af,oI,af,e7,af,lM,af,jC,none_iff]
   refine ⟨rLv (paD en re tb r) pl ts b (some (.shr (rwD rows))) x5 x6 (some (.shr (al row))) (some (.own (ac.map al))),?_⟩
   by_cases c:ts.all (kpt tb row)=true
   ·refine ⟨_,rfl,?_,some (.shr (al row)),rfl⟩
    rw [fT (by rw [tt,c]),iY _ (d:=al row) (xs:=ac.map al) rfl rfl (by rw [List.length_map];exact lp),List.filter_append,hac,List.map_append]
    rw [show List.filter (fun row=>ts.all (kpt tb row)) [row]=[row] by rw [List.filter_cons,if_pos c];rfl]
    rfl
   ·refine ⟨_,rfl,?_,some (.shr (al row)),rfl⟩
    have c:ts.all (kpt tb row)=false:=by simpa using c
    rw [cj (by rw [tt,c]),List.filter_append,hac]
    rw [show List.filter (fun row=>ts.all (kpt tb row)) [row]=[] by rw [List.filter_cons,if_neg (by rw [c];decide)];rfl,List.append_nil]) ⟨x7,rfl⟩
 rw [bg e1,bg s3,bg e2]
 rfl
end
abbrev xF:Rho->R D:=cal 2 av (aC (vr 0) (aC (bin bH (bin bH (vb 1) (kd (.int 7))) (bin (iI fE) (kd (.int 3)) (vb 5))) aN))
abbrev Cm:Rho->R D:=cal 2 av (aC (vr 0) (aC (bin bH (bin bH (vb 1) (kd (.int 6))) (bin (iI fE) (kd (.int 3)) (vb 5))) aN))
abbrev Ck:Rho->R D:=cal 2 av (aC (vr 0) (aC (bin bH (bin bH (vb 1) (kd (.int 5))) (bin (iI fE) (kd (.int 3)) (vb 5))) aN))
abbrev Cj:Rho->R D:=cal 3 aO (aC (vr 2) (aC (bin fix (vb 3) (vb 6)) (aC (bin fix (vb 3) (vb 7)) aN)))
abbrev Ci:Rho->R (List D):=aC (vr 0) (aC (bin bH (bin bH (vb 1) (kd (.int 1))) (vb 9)) aN)
def cf (ns:List Int) (k:Nat):Int:=(kQ ns k).choose
theorem Fj (ns:List Int) (k:Nat):av [.scr ns,.int (k:Int)]=.val (.int (cf ns k)):=(kQ ns k).choose_spec
theorem mC {ns:List Int} {k:Nat} {A B:Rho->R D} {ρ:Rho} {z:Int} (ha:A ρ=.val (.scr ns)) (hb:B ρ=.val (.int z)) (hz:z=(k:Int)):cal 2 av (aC A (aC B aN)) ρ=.val (.int (cf ns k)):=mR ha hb (by rw [hz];exact Fj ns k)
theorem fM (c:Int) {m:Nat} (h:0 < m):(c % (m:Int)).toNat < m/\aV c (m:Int)=.val (nD (c % (m:Int)).toNat):=by
 obtain ⟨i,hi,e⟩:=js c m h
 rw [fi (by omega),e]
 exact ⟨by simpa using hi,by simp⟩
section
variable {en:List (Nat × Nat)} {re:List Nat} {tb:List (List Int)} {r:List D} {ns:List Int} {k:Nat}
abbrev rPi (ns:List Int) (k:Nat) (P:D) (pl:List Nat) (ts:List Tie) (x5 x6 x7 x8:Option Slt):Rho :=
 [some (.shr (.scr ns)),some (.shr (nD k)),some (.shr P),some (.shr (al pl)),some (.own (ts.map bM)),x5,x6,x7,x8]
theorem Bq (h:HallN en re tb) {pl:List Nat} {ts:List Tie} (hp:0 < pl.length) (pb:∀ i,i < pl.length->pl.getD i 0 < re.length) {j:Nat} (hj:j<=5) (hl:ts.length<=5) (x6 x7 x8:Option Slt) :
  ∃ (ts':List Tie) (y6 y7 y8:Option Slt),(sq (asg 6 (bin (iI aV) Ck (una aA (vb 3))))
 (sq (asg 7 (bin (iI aV) Cm (una aA (vb 3))))
 (sq (asg 8 Cj)
 (DL.iff (tst (bin (iI fgt) (una aA (vb 8)) (kd (.int 0))))
 (app 4 (eT (aC (vr 6) (aC (vr 7) (aC (bin fix (vb 8) (bin (iI aV) xF (una aA (vb 8)))) aN)))))
 nxt)))) (rPi ns k (paD en re tb r) pl ts (some (.shr (nD j))) x6 x7 x8)=.val (.nx (rPi ns k (paD en re tb r) pl ts' (some (.shr (nD j))) y6 y7 y8))/\(ts'=ts\/∃ t:Tie,ts'=ts ++ [t]/\t.1 < pl.length/\t.2.1 < pl.length/\t.2.2 < en.length/\en.getD t.2.2 (0,0)=(pl.getD t.1 0,pl.getD t.2.1 0)):=by
 have ix:∀ (n:Nat) (ρ:Rho),vb 1 ρ=.val (nD k)->vb 5 ρ=.val (nD j)->bin bH (bin bH (vb 1) (kd (.int (n:Int)))) (bin (iI fE) (kd (.int 3)) (vb 5)) ρ=.val (.int ((k + n + 3 * j:Nat):Int)):=fun n ρ h1 h5=>by
  rw [aE,aE,h1,af,e7,af,nn,af,aE,e7,af,h5,af,fv,kN (by constructor <;> omega),af,nn]
  congr 2
 have cl:∀ (n:Nat) (ρ:Rho),vr 0 ρ=.val (.scr ns)->vb 1 ρ=.val (nD k)->vb 5 ρ=.val (nD j)->cal 2 av (aC (vr 0) (aC (bin bH (bin bH (vb 1) (kd (.int (n:Int)))) (bin (iI fE) (kd (.int 3)) (vb 5))) aN)) ρ=.val (.int (cf ns (k + n + 3 * j))):=fun n ρ h0 h1 h5=>mC h0 (ix n ρ h1 h5) rfl
 obtain ⟨a1,a2⟩:=fM (cf ns (k + 5 + 3 * j)) hp
 obtain ⟨b1,b2⟩:=fM (cf ns (k + 6 + 3 * j)) hp
 generalize (cf ns (k + 5 + 3 * j) % (pl.length:Int)).toNat=a at a1 a2
 generalize (cf ns (k + 6 + 3 * j) % (pl.length:Int)).toNat=b at b1 b2
 have s1:asg 6 (bin (iI aV) Ck (una aA (vb 3))) (rPi ns k (paD en re tb r) pl ts (some (.shr (nD j))) x6 x7 x8)=.val (.nx (rPi ns k (paD en re tb r) pl ts (some (.shr (nD j))) (some (.shr (nD a))) x7 x8)):=by
  refine cQ ?_
  have v:una aA (vb 3) (rPi ns k (paD en re tb r) pl ts (some (.shr (nD j))) x6 x7 x8)=.val (nD pl.length):=dA pl
  have c:=cl 5 (rPi ns k (paD en re tb r) pl ts (some (.shr (nD j))) x6 x7 x8) rfl rfl rfl
  rw [aE]
  refine Eq.trans (congrArg (fun z=>R.bind z _) c) ?_
  rw [af,v,af,fv,a2]
 have s2:asg 7 (bin (iI aV) Cm (una aA (vb 3))) (rPi ns k (paD en re tb r) pl ts (some (.shr (nD j))) (some (.shr (nD a))) x7 x8)=.val (.nx (rPi ns k (paD en re tb r) pl ts (some (.shr (nD j))) (some (.shr (nD a))) (some (.shr (nD b))) x8)):=by
  refine cQ ?_
  have v:una aA (vb 3) (rPi ns k (paD en re tb r) pl ts (some (.shr (nD j))) (some (.shr (nD a))) x7 x8)=.val (nD pl.length):=dA pl
  have c:=cl 6 (rPi ns k (paD en re tb r) pl ts (some (.shr (nD j))) (some (.shr (nD a))) x7 x8) rfl rfl rfl
  rw [aE]
  refine Eq.trans (congrArg (fun z=>R.bind z _) c) ?_
  rw [af,v,af,fv,b2]
 have s3:asg 8 Cj (rPi ns k (paD en re tb r) pl ts (some (.shr (nD j))) (some (.shr (nD a))) (some (.shr (nD b))) x8)=.val (.nx (rPi ns k (paD en re tb r) pl ts (some (.shr (nD j))) (some (.shr (nD a))) (some (.shr (nD b))) (some (.shr (al (btw en (pl.getD a 0) (pl.getD b 0))))))) :=
  cQ (ip (a:=paD en re tb r) (b:=nD (pl.getD a 0)) (c:=nD (pl.getD b 0)) rfl (eM a1) (eM b1) (gU h _ _))
 have bi:=fun x=>mem_btw (en:=en) (a:=pl.getD a 0) (b:=pl.getD b 0) (n:=x)
 generalize btw en (pl.getD a 0) (pl.getD b 0)=bt at s3 bi
 have v8:una aA (vb 8) (rPi ns k (paD en re tb r) pl ts (some (.shr (nD j))) (some (.shr (nD a))) (some (.shr (nD b))) (some (.shr (al bt))))=.val (nD bt.length):=dA bt
 have tt:tst (bin (iI fgt) (una aA (vb 8)) (kd (.int 0))) (rPi ns k (paD en re tb r) pl ts (some (.shr (nD j))) (some (.shr (nD a))) (some (.shr (nD b))) (some (.shr (al bt))))=.val (decide ((0:Int) < bt.length)):=by
  rw [bx,aE,v8];rfl
 rw [bg s1,bg s2,bg s3]
 by_cases c:0 < bt.length
 ·obtain ⟨c1,c2⟩:=fM (cf ns (k + 7 + 3 * j)) c
  generalize (cf ns (k + 7 + 3 * j) % (bt.length:Int)).toNat=y at c1 c2
  have at8:bin fix (vb 8) (bin (iI aV) xF (una aA (vb 8))) (rPi ns k (paD en re tb r) pl ts (some (.shr (nD j))) (some (.shr (nD a))) (some (.shr (nD b))) (some (.shr (al bt))))=.val (nD (bt.getD y 0)):=by
   have cc:=cl 7 (rPi ns k (paD en re tb r) pl ts (some (.shr (nD j))) (some (.shr (nD a))) (some (.shr (nD b))) (some (.shr (al bt)))) rfl rfl rfl
   have m:bin (iI aV) xF (una aA (vb 8)) (rPi ns k (paD en re tb r) pl ts (some (.shr (nD j))) (some (.shr (nD a))) (some (.shr (nD b))) (some (.shr (al bt))))=.val (nD y):=by
    rw [aE]
    refine Eq.trans (congrArg (fun z=>R.bind z _) cc) ?_
    rw [af,v8,af,fv,c2]
   rw [aE,m]
   exact eM c1
  have et:eT (aC (vr 6) (aC (vr 7) (aC (bin fix (vb 8) (bin (iI aV) xF (una aA (vb 8)))) aN))) (rPi ns k (paD en re tb r) pl ts (some (.shr (nD j))) (some (.shr (nD a))) (some (.shr (nD b))) (some (.shr (al bt))))=.val (bM (a,b,bt.getD y 0)):=by
   rw [oZ,cR,cR,cR,at8];rfl
  refine ⟨ts ++ [(a,b,bt.getD y 0)],some (.shr (nD a)),some (.shr (nD b)),some (.shr (al bt)),?_,.inr ⟨_,rfl,a1,b1,?_⟩⟩
  ·rw [fT (by rw [tt,decide_eq_true (by omega)]),iY _ (d:=bM (a,b,bt.getD y 0)) (xs:=ts.map bM) rfl et (by rw [List.length_map];omega)]
   unfold rPi
   rw [List.map_append];rfl
  ·have:=(bi (bt.getD y 0)).mp (by rw [bA c1];exact List.getElem_mem c1)
   exact this
 ·exact ⟨ts,_,_,_,cj (by rw [tt,decide_eq_false (by omega)]),.inl rfl⟩
theorem tQ (h:HallN en re tb) (ns:List Int) (k:Nat):∃ pl ts,Pic en re pl ts/\ce [.scr ns,nD k,paD en re tb r]=.val (.tup [al pl,aS ts]):=by
 simp only [ce,fX]
 show ∃ pl ts,_/\fin (sq _ _ [some (.shr (.scr ns)),some (.shr (nD k)),some (.shr (paD en re tb r)),none,none,none,none,none,none])=_
 obtain ⟨m1,m2⟩:=fM (cf ns k) (m:=4) (by decide)
 obtain ⟨q1,q2⟩:=fM (cf ns k / 4) (m:=5) (by decide)
 generalize (cf ns k % ((4:Nat):Int)).toNat=m at m1 m2
 generalize (cf ns k / 4 % ((5:Nat):Int)).toNat=q at q1 q2
 have n1:=h.nb1
 have s1:asg 3 (eLs (bo (bV (aC (bin (iI aV) (cal 2 av (aC (vr 0) (aC (vr 1) aN))) (kd (.int 4))) aN)) 1 (tgN 9) tT (bin (iI aV) (cal 2 av Ci) (una aA (bin fix (vb 2) (kd (.int 1))))))) [some (.shr (.scr ns)),some (.shr (nD k)),some (.shr (paD en re tb r)),none,none,none,none,none,none]
   =.val (.nx [some (.shr (.scr ns)),some (.shr (nD k)),some (.shr (paD en re tb r)),some (.shr (al ((List.range m).map fun j=>(cf ns (k + 1 + j) % (re.length:Int)).toNat))),none,none,none,none,none]):=by
  refine cQ ?_
  have c:=gD (src:=bV (aC (bin (iI aV) (cal 2 av (aC (vr 0) (aC (vr 1) aN))) (kd (.int 4))) aN)) (n:=1) (i:=9) (m:=m) (e:=bin (iI aV) (cal 2 av Ci) (una aA (bin fix (vb 2) (kd (.int 1))))) (g:=fun j=>nD (cf ns (k + 1 + j) % (re.length:Int)).toNat) (ρ:=[some (.shr (.scr ns)),some (.shr (nD k)),some (.shr (paD en re tb r)),none,none,none,none,none,none]) (by
   rw [gT,cR,aE,mC (k:=k) rfl rfl rfl,af,e7,af,fv]
   refine Eq.trans (congrArg (fun z=>R.bind (R.bind z _) _) m2) ?_
   rw [af,jZ,af,af,dz (by omega)]) (by omega) (fun j _=>by
   have hc:cal 2 av Ci (List.set ([some (.shr (.scr ns)),some (.shr (nD k)),some (.shr (paD en re tb r)),none,none,none,none,none,none] ++ List.replicate 1 none) 9 (some (.shr (nD j))))=.val (.int (cf ns (k + 1 + j))):=mC (z:=(k:Int) + 1 + (j:Int)) rfl rfl (by omega)
   have hv:una aA (bin fix (vb 2) (kd (.int 1))) (List.set ([some (.shr (.scr ns)),some (.shr (nD k)),some (.shr (paD en re tb r)),none,none,none,none,none,none] ++ List.replicate 1 none) 9 (some (.shr (nD j))))=.val (nD re.length):=by
    show R.bind (fix (paD en re tb r) (.int 1)) aA=_
    rw [paD,fk,af,dA]
   rw [aE,hc,af,hv,af,fv,(fM _ (by omega)).2])
  rw [bN,c]
  unfold al
  rw [List.map_map]
  rfl
 rw [bg s1]
 have lp:((List.range m).map fun j=>(cf ns (k + 1 + j) % (re.length:Int)).toNat).length=m:=by simp
 have pb:∀ i,i < ((List.range m).map fun j=>(cf ns (k + 1 + j) % (re.length:Int)).toNat).length->((List.range m).map fun j=>(cf ns (k + 1 + j) % (re.length:Int)).toNat).getD i 0 < re.length:=fun i hi=>by
  rw [bA hi,List.getElem_map]
  exact (fM _ (by omega)).1
 generalize ((List.range m).map fun j=>(cf ns (k + 1 + j) % (re.length:Int)).toNat)=pl at lp pb
 have s2:own 4 (fU aN) [some (.shr (.scr ns)),some (.shr (nD k)),some (.shr (paD en re tb r)),some (.shr (al pl)),none,none,none,none,none]=.val (.nx (rPi ns k (paD en re tb r) pl [] none none none none)):=Eq.trans rfl rfl
 rw [bg s2]
 have tt:tst (bin (iI fgt) (una aA (vb 3)) (kd (.int 0))) (rPi ns k (paD en re tb r) pl [] none none none none)=.val (decide ((0:Int) < pl.length)):=by
  have v:una aA (vb 3) (rPi ns k (paD en re tb r) pl [] none none none none)=.val (nD pl.length):=dA pl
  rw [bx,aE,v];rfl
 by_cases c:0 < pl.length
 ·obtain ⟨ρ1,e1,ts,x5,x6,x7,x8,tl,tk,rfl⟩:=jl (i:=5) (n:=q) (F:=sq (asg 6 (bin (iI aV) Ck (una aA (vb 3))))
    (sq (asg 7 (bin (iI aV) Cm (una aA (vb 3))))
    (sq (asg 8 Cj)
    (DL.iff (tst (bin (iI fgt) (una aA (vb 8)) (kd (.int 0))))
    (app 4 (eT (aC (vr 6) (aC (vr 7) (aC (bin fix (vb 8) (bin (iI aV) xF (una aA (vb 8)))) aN)))))
    nxt)))) (ρ:=rPi ns k (paD en re tb r) pl [] none none none none)
   (fun j ρ=>∃ (ts:List Tie) (x5 x6 x7 x8:Option Slt),ts.length<=j/\(∀ t ∈ ts,t.1 < pl.length/\t.2.1 < pl.length/\t.2.2 < en.length/\en.getD t.2.2 (0,0)=(pl.getD t.1 0,pl.getD t.2.1 0))/\ρ=rPi ns k (paD en re tb r) pl ts x5 x6 x7 x8) (fun j ρ hj hI=>by
    obtain ⟨ts,x5,x6,x7,x8,l1,l2,rfl⟩:=hI
    obtain ⟨ts',y6,y7,y8,e,hh⟩:=Bq (ns:=ns) (k:=k) (r:=r) h c pb (j:=j) (by omega) (ts:=ts) (by omega) x6 x7 x8
    refine ⟨_,e,ts',_,_,_,_,?_,?_,rfl⟩
    ·rcases hh with rfl | ⟨t,rfl,_⟩
     ·omega
     ·rw [List.length_append];show _ + 1<=_;omega
    ·rcases hh with rfl | ⟨t,rfl,ht⟩
     ·exact l2
     ·intro u hu
      rcases List.mem_append.mp hu with hu | hu
      ·exact l2 u hu
      ·rw [List.mem_singleton.mp hu];exact ht) ⟨[],_,_,_,_,Nat.le_refl _,(fun t ht=>by cases ht),rfl⟩
  refine ⟨pl,ts,⟨by omega,by omega,pb,tk⟩,?_⟩
  have src:bV (aC (bin (iI aV) (bin (iI eG) (cal 2 av (aC (vr 0) (aC (vr 1) aN))) (kd (.int 4))) (kd (.int 5))) aN) (rPi ns k (paD en re tb r) pl [] none none none none)=.val (rng 0 q):=by
   rw [gT,cR,aE,aE,mC (k:=k) rfl rfl rfl,af,e7,af,fv,rM (by decide),af,e7,af,fv]
   refine Eq.trans (congrArg (fun z=>R.bind (R.bind z _) _) q2) ?_
   rw [af,jZ,af,af,dz (by omega)]
  rw [be,fT (by rw [tt,decide_eq_true (by omega)]),cz,src,af,e1]
  rfl
 ·refine ⟨pl,[],⟨by omega,by simp,pb,(fun t ht=>by cases ht)⟩,?_⟩
  rw [bg (cj (by rw [tt,decide_eq_false (by omega)]))]
  rfl
end
theorem lG (a b:Int) (x y:List Int):cV (a :: x) (b :: y)=if a=b then cV x y else decide (a < b):=rfl
theorem wX (x:List Int):∀ {y z:List Int},cV (x ++ y) (x ++ z)=cV y z:=by
 induction x with
 | nil=>intro y z;rfl
 | cons a x ih=>intro y z;rw [List.cons_append,List.cons_append,lG,if_pos rfl];exact ih
theorem qi:∀ {x x' y z:List Int},x.length=x'.length->cV x x'=true->cV (x ++ y) (x' ++ z)=true
 | [],[],_,_,_,h=>by cases h
 | [],_ :: _,_,_,h,_=>by simp at h
 | _ :: _,[],_,_,h,_=>by simp at h
 | a :: x,b :: x',y,z,hl,h=>by
  rw [List.cons_append,List.cons_append]
  rw [lG] at h ⊢
  by_cases e:a=b
  ·rw [if_pos e] at h ⊢
   exact qi (by simpa using hl) h
  ·rw [if_neg e] at h ⊢;exact h
abbrev lx (a b:List Nat):Prop:=cV (bQ a) (bQ b)=true
theorem jT (a b:List Nat):bQ (a ++ b)=bQ a ++ bQ b:=by unfold bQ;rw [List.map_append]
theorem CB {rows:List (List Nat)} {as:List Nat} {k:Nat} (hk:∀ r ∈ rows,r.length=k) (hr:rows.Pairwise lx) (ha:as.Pairwise (· < ·)):(stp rows as).Pairwise lx:=by
 unfold stp
 rw [List.pairwise_flatMap]
 constructor
 ·intro r _
  rw [List.pairwise_map]
  refine ha.imp fun {a b} h=>?_
  show cV (bQ (r ++ [a])) (bQ (r ++ [b]))=true
  rw [jT,jT,wX]
  unfold bQ
  rw [List.map_cons,List.map_cons,lG,if_neg (by omega)]
  exact decide_eq_true (by omega)
 ·rw [List.pairwise_iff_getElem] at hr ⊢
  intro i j hi hj hij x hx y hy
  obtain ⟨a,_,rfl⟩:=List.mem_map.mp hx
  obtain ⟨b,_,rfl⟩:=List.mem_map.mp hy
  show cV (bQ (_ ++ [a])) (bQ (_ ++ [b]))=true
  rw [jT,jT]
  exact qi (by rw [lR,lR,hk _ (List.getElem_mem hi),hk _ (List.getElem_mem hj)]) (hr i j hi hj hij)
theorem CH {N:Nat} {B:Nat->List Nat} (hB:∀ p,∀ a ∈ B p,a < N) (hs:∀ p,(B p).Pairwise (· < ·)) (pl:List Nat):(rws B pl).Pairwise lx:=by
 suffices ∀ n,n<=pl.length->(rws B (pl.take n)).Pairwise lx by
  have:=this pl.length (Nat.le_refl _)
  rwa [List.take_length] at this
 intro n
 induction n with
 | zero=>intro _;rw [List.take_zero];exact List.pairwise_singleton _ _
 | succ n ih =>
  intro hn
  rw [List.take_succ_eq_append_getElem (by omega),ic]
  exact CB (fun r hr=>(vB hB pl n (by omega) r hr).len) (ih (by omega)) (hs _)
section
variable {en:List (Nat × Nat)} {re:List Nat} {tb:List (List Int)} {pl:List Nat} {ts:List Tie}
theorem D3 (b p:Nat):(btw en b p).Pairwise (· < ·):=List.pairwise_lt_range.filter _
theorem Dz (b:Nat):(kws tb (btw en b) pl ts).Pairwise lx:=(CH (hV b) (D3 b) pl).filter _
def vws (en:List (Nat × Nat)) (tb:List (List Int)) (pl:List Nat) (ts:List Tie) (b:Nat):List (List Int):=(kws tb (btw en b) pl ts).map bQ
theorem xL (b:Nat):(vws en tb pl ts b).Pairwise fun x y=>cV x y=true:=by
 unfold vws
 rw [List.pairwise_map]
 exact Dz b
theorem Cs (b:Nat):(vws en tb pl ts b).Pairwise fun x y=>leL x y=true:=(xL b).imp fun h=>by unfold leL;rw [vT h];rfl
theorem xK (b:Nat):(vws en tb pl ts b).Nodup:=(xL b).imp fun {x y} h e=>by rw [e,kI] at h;cases h
theorem mem_vws {b:Nat} {v:List Int}:v ∈ vws en tb pl ts b ↔ ∃ row ∈ kws tb (btw en b) pl ts,v=bQ row:=by
 unfold vws
 rw [List.mem_map]
 exact ⟨fun ⟨r,h,e⟩=>⟨r,h,e.symm⟩,fun ⟨r,h,e⟩=>⟨r,h,e.symm⟩⟩
def dJ (tb:List (List Int)) (a:Nat) (row:List Nat):List Int:=row.map fun x=>(tb.getD a []).getD x (-1)
def da (en:List (Nat × Nat)) (tb:List (List Int)) (b c:Nat) (row:List Nat):List (List Int):=(btw en b c).map fun a=>dJ tb a row
def isB (en:List (Nat × Nat)) (re:List Nat) (tb:List (List Int)) (pl:List Nat) (ts:List Tie) (c:Nat) (row:List Nat):Bool :=
 (List.range re.length).all fun b=>decide (i8 (da en tb b c row)=vws en tb pl ts b)
theorem srt_iff {b:Nat} {m:List (List Int)}:i8 m=vws en tb pl ts b ↔ m.Perm (vws en tb pl ts b):=by
 constructor
 ·intro h;rw [<- h];exact (qd m).symm
 ·intro h;exact jM h.symm (Cs b)
theorem ji:∀ {v m:List (List Int)},v.Nodup->m.length=v.length->(∀ x ∈ v,m.count x=1)->m.Perm v
 | [],m,_,hl,_=>by rw [List.length_eq_zero_iff.mp hl]
 | x :: v,m,nd,hl,hc=>by
  have c1:=hc x (by simp)
  have hx:x ∈ m:=List.count_pos_iff.mp (by omega)
  have p:=List.perm_cons_erase hx
  rw [List.nodup_cons] at nd
  have ih:=ji (v:=v) (m:=m.erase x) nd.2 (by rw [List.length_erase_of_mem hx,hl];simp) (fun y hy=>by
   have ne:y ≠ x:=fun e=>nd.1 (e ▸ hy)
   rw [List.count_erase_of_ne ne]
   exact hc y (by simp [hy]))
  exact p.trans (ih.cons x)
theorem sU:∀ {v:List (List Int)} {x:List Int},v.Nodup->x ∈ v->v.count x=1
 | y :: v,x,nd,hx=>by
  rw [List.nodup_cons] at nd
  rw [List.count_cons]
  rcases List.mem_cons.mp hx with rfl | hx
  ·rw [List.count_eq_zero_of_not_mem nd.1];simp
  ·have ne:y ≠ x:=fun e=>nd.1 (e ▸ hx)
   rw [sU nd.2 hx,if_neg (by simpa using ne)]
theorem counts_iff {b:Nat} {m:List (List Int)}:m.Perm (vws en tb pl ts b) ↔ m.length=(vws en tb pl ts b).length/\∀ x ∈ vws en tb pl ts b,m.count x=1:=by
 constructor
 ·intro h
  refine ⟨h.length_eq,fun x hx=>?_⟩
  rw [h.count_eq]
  exact sU (xK b) hx
 ·rintro ⟨h1,h2⟩
  exact ji (xK b) h1 h2
theorem kJ {c b:Nat} {row:List Nat} (h:isB en re tb pl ts c row=true) (hb:b < re.length):(da en tb b c row).Perm (vws en tb pl ts b):=by
 unfold isB at h
 exact srt_iff.mp (of_decide_eq_true (List.all_eq_true.mp h b (List.mem_range.mpr hb)))
def wys (en:List (Nat × Nat)) (tb:List (List Int)) (c:Nat) (row:List Nat) (b:Nat) (v:List Int):List Nat:=(btw en b c).filter fun a=>decide (dJ tb a row=v)
theorem vm {c b:Nat} {row:List Nat} {v:List Int}:(wys en tb c row b v).length=(da en tb b c row).count v:=by
 unfold wys da
 rw [List.count,List.countP_map,List.countP_eq_length_filter]
 congr 1
 apply List.filter_congr
 intro a _
 show _=(dJ tb a row == v)
 rw [Bool.eq_iff_iff,decide_eq_true_eq,beq_iff_eq]
theorem mX {c b:Nat} {row:List Nat} {v:List Int} (h:isB en re tb pl ts c row=true) (hb:b < re.length) (hv:v ∈ vws en tb pl ts b):∃ a,wys en tb c row b v=[a]:=by
 have:=vm (en:=en) (tb:=tb) (c:=c) (b:=b) (row:=row) (v:=v)
 rw [(counts_iff.mp (kJ h hb)).2 v hv] at this
 match e:wys en tb c row b v,this with
 | [a],_=>exact ⟨a,rfl⟩
 | [],h=>cases h
 | _ :: _ :: _,h=>simp at h
theorem xG {c b:Nat} {row:List Nat} {v:List Int} (h:isB en re tb pl ts c row=true) (hb:b < re.length) (hv:v ∉ vws en tb pl ts b):wys en tb c row b v=[]:=by
 have:=vm (en:=en) (tb:=tb) (c:=c) (b:=b) (row:=row) (v:=v)
 rw [(kJ h hb).count_eq,List.count_eq_zero_of_not_mem hv] at this
 exact List.length_eq_zero_iff.mp this
theorem mem_wys {c b a:Nat} {row:List Nat} {v:List Int}:a ∈ wys en tb c row b v ↔ a < en.length/\en.getD a (0,0)=(b,c)/\dJ tb a row=v:=by
 unfold wys
 rw [List.mem_filter,mem_btw,decide_eq_true_eq]
 exact ⟨fun ⟨⟨h1,h2⟩,h3⟩=>⟨h1,h2,h3⟩,fun ⟨h1,h2,h3⟩=>⟨⟨h1,h2⟩,h3⟩⟩
theorem xY {b:Nat} (pl:List Nat):∀ n,n<=pl.length->∀ row ∈ rws (btw en b) (pl.take n),∀ x ∈ row,x < en.length/\(en.getD x (0,0)).1=b:=by
 intro n
 induction n with
 | zero=>intro _ row h;rw [List.take_zero] at h;rw [show row=[] from List.mem_singleton.mp h];intro x hx;cases hx
 | succ n ih =>
  intro hn row h
  rw [List.take_succ_eq_append_getElem (by omega),ic] at h
  obtain ⟨r,hr,a,ha,rfl⟩:=mem_stp.mp h
  intro x hx
  rcases List.mem_append.mp hx with hx | hx
  ·exact ih (by omega) r hr x hx
  ·rw [List.mem_singleton.mp hx]
   obtain ⟨h1,h2⟩:=mem_btw.mp ha
   exact ⟨h1,by rw [h2]⟩
theorem yS {b:Nat} {row:List Nat} (h:row ∈ kws tb (btw en b) pl ts):∀ x ∈ row,x < en.length/\(en.getD x (0,0)).1=b:=by
 have:=xY (en:=en) (b:=b) pl pl.length (Nat.le_refl _)
 rw [List.take_length] at this
 exact this row (List.mem_filter.mp h).1
end
section
variable {en:List (Nat × Nat)} {re:List Nat} {tb:List (List Int)} {pl:List Nat} {ts:List Tie}
theorem wS (h:HallN en re tb) {c:Nat} {row:List Nat} (hr:∀ x ∈ row,x < en.length/\(en.getD x (0,0)).1=c):dJ tb (re.getD c 0) row=bQ row:=by
 unfold dJ bQ
 apply List.map_congr_left
 intro x hx
 obtain ⟨h1,h2⟩:=hr x hx
 have:=h.ul x h1
 rw [h2] at this
 exact this
theorem wT (h:HallN en re tb) {t u m:Nat} {row1 row2:List Nat} (ht:t < en.length) (hu:u < en.length) (e:(tb.getD t []).getD u (-1)=(m:Int)) (h1:∀ x ∈ row1,x < en.length) (e1:dJ tb u row1=bQ row2):dJ tb m row1=dJ tb t row2:=by
 have l:row2.length=row1.length:=by
  have:=congrArg List.length e1
  unfold dJ at this
  rw [lR,List.length_map] at this
  exact this.symm
 unfold dJ
 apply List.ext_getElem
 ·rw [List.length_map,List.length_map,l]
 ·intro i hi hj
  rw [List.getElem_map,List.getElem_map]
  have hi1:i < row1.length:=by simpa using hi
  have hi2:i < row2.length:=by simpa using hj
  have q:(dJ tb u row1)[i]?=(bQ row2)[i]?:=by rw [e1]
  unfold dJ bQ at q
  rw [List.getElem?_map,List.getElem?_map,List.getElem?_eq_getElem hi1,List.getElem?_eq_getElem hi2] at q
  have q:(tb.getD u []).getD row1[i] (-1)=((row2[i]:Nat):Int):=Option.some.inj q
  exact h.as t u row1[i] m row2[i] ht hu (h1 _ (List.getElem_mem hi1)) e q
theorem nA (h:HallN en re tb) {c1 c2 t u:Nat} {row1 row2:List Nat} (hc1:c1 < re.length) (hc2:c2 < re.length) (b1:isB en re tb pl ts c1 row1=true) (k1:row1 ∈ kws tb (btw en c1) pl ts) (k2:row2 ∈ kws tb (btw en c2) pl ts)
  (ht:t ∈ wys en tb c2 row2 c1 (bQ row1)) (hu:u ∈ wys en tb c1 row1 c2 (bQ row2)):Ar.ent tb t u=(re.getD c1 0:Nat):=by
 obtain ⟨t1,t2,t3⟩:=mem_wys.mp ht
 obtain ⟨u1,u2,u3⟩:=mem_wys.mp hu
 have f:(en.getD t (0,0)).2=(en.getD u (0,0)).1:=by rw [t2,u2]
 obtain ⟨m,m1,m2,m3⟩:=h.tp t u t1 u1 f
 have e1:=yS k1
 have mm:dJ tb m row1=bQ row1:=by rw [wT h t1 u1 m2 (fun x hx=>(e1 x hx).1) u3,t3]
 have rr:=wS h e1
 have v1:bQ row1 ∈ vws en tb pl ts c1:=mem_vws.mpr ⟨row1,k1,rfl⟩
 obtain ⟨a,ea⟩:=mX b1 hc1 v1
 have ma:m ∈ wys en tb c1 row1 c1 (bQ row1):=mem_wys.mpr ⟨m1,by rw [m3,t2,u2],mm⟩
 have ra:re.getD c1 0 ∈ wys en tb c1 row1 c1 (bQ row1):=mem_wys.mpr ⟨(h.rs c1 hc1).1,(h.rs c1 hc1).2,rr⟩
 rw [ea] at ma ra
 show (tb.getD t []).getD u (-1)=_
 rw [m2,List.mem_singleton.mp ma,List.mem_singleton.mp ra]
theorem AK (h:HallN en re tb) {c1 c2 t u:Nat} {row1 row2:List Nat} (hc1:c1 < re.length) (hc2:c2 < re.length) (b1:isB en re tb pl ts c1 row1=true) (b2:isB en re tb pl ts c2 row2=true) (k1:row1 ∈ kws tb (btw en c1) pl ts) (k2:row2 ∈ kws tb (btw en c2) pl ts)
  (ht:t ∈ wys en tb c2 row2 c1 (bQ row1)) (hu:u ∈ wys en tb c1 row1 c2 (bQ row2)):ud re tb en.length t=some u:=by
 obtain ⟨t1,t2,t3⟩:=mem_wys.mp ht
 obtain ⟨u1,u2,u3⟩:=mem_wys.mp hu
 have x:=nA h hc1 hc2 b1 k1 k2 ht hu
 have y:=nA h hc2 hc1 b2 k2 k1 hu ht
 have bk1:bk en re tb t u=true:=by
  unfold bk
  rw [t2,u2,x,y]
  simp
 have mem:u ∈ bks en re tb t:=List.mem_filter.mpr ⟨List.mem_range.mpr u1,bk1⟩
 rcases xv h t1 with ⟨e,_⟩ | ⟨b,_,e,e'⟩
 ·rw [e] at mem;cases mem
 ·rw [e] at mem
  rw [e',List.mem_singleton.mp mem]
def eZ (en:List (Nat × Nat)) (re:List Nat) (tb:List (List Int)) (pl:List Nat) (ts:List Tie):List (Nat × List Nat) :=
 (List.range re.length).flatMap fun c=>((kws tb (btw en c) pl ts).filter (isB en re tb pl ts c)).map fun row=>(c,row)
theorem mem_allB {x:Nat × List Nat}:x ∈ eZ en re tb pl ts ↔ x.1 < re.length/\x.2 ∈ kws tb (btw en x.1) pl ts/\isB en re tb pl ts x.1 x.2=true:=by
 unfold eZ
 rw [List.mem_flatMap]
 constructor
 ·rintro ⟨c,hc,hx⟩
  obtain ⟨row,hr,rfl⟩:=List.mem_map.mp hx
  exact ⟨List.mem_range.mp hc,List.mem_filter.mp hr⟩
 ·rintro ⟨h1,h2,h3⟩
  exact ⟨x.1,List.mem_range.mpr h1,List.mem_map.mpr ⟨x.2,List.mem_filter.mpr ⟨h2,h3⟩,rfl⟩⟩
theorem wy (h:HallN en re tb) {c:Nat} (hc:c < re.length):((kws tb (btw en c) pl ts).filter (isB en re tb pl ts c)).length<=40:=by
 cases e:(kws tb (btw en c) pl ts).filter (isB en re tb pl ts c) with
 | nil=>simp
 | cons row l =>
  have m:row ∈ (kws tb (btw en c) pl ts).filter (isB en re tb pl ts c):=by rw [e];simp
  have p:=(kJ (List.mem_filter.mp m).2 hc).length_eq
  unfold da vws at p
  rw [List.length_map,List.length_map] at p
  have:=List.length_filter_le (isB en re tb pl ts c) (kws tb (btw en c) pl ts)
  have b:=fP (en:=en) c c
  have n:=h.na40
  rw [<- e];omega
theorem BN {c:Nat} {row:List Nat} (h:isB en re tb pl ts c row=true):((List.range re.length).all fun b=>decide ((btw en b c).length=(kws tb (btw en b) pl ts).length))=true:=by
 rw [List.all_eq_true]
 intro b hb
 have p:=(kJ h (List.mem_range.mp hb)).length_eq
 unfold da vws at p
 rw [List.length_map,List.length_map] at p
 exact decide_eq_true p
end
abbrev Ch:Rho->R (List D):=aC (vr 0) (aC (vr 6) (aC (bin fix (vb 5) (kd (.int 1))) aN))
abbrev Cg:Rho->R (List D):=aC (vr 0) (aC (vr 3) (aC (vr 4) (aC (vr 6) aN)))
section
variable {en:List (Nat × Nat)} {re:List Nat} {tb:List (List Int)} {pl:List Nat} {ts:List Tie}
theorem jo (h:HallN en re tb) {a:Nat} {row:List Nat} (ha:a < en.length) (hr:∀ x ∈ row,x < en.length) (hl:row.length<=100000):bj [hlD en re tb,nD a,al row]=.val (aG (dJ tb a row)):=by
 simp only [bj,fW]
 show fin (ret _ [some (.shr (hlD en re tb)),some (.shr (nD a)),some (.shr (al row))])=_
 have c:=eI (src:=fIt (vr 2)) (n:=1) (i:=3) (e:=bin fix (bin fix (una (dH 2) (vb 0)) (vb 1)) (vb 3)) (f:=nD) (g:=fun x=>.int ((tb.getD a []).getD x (-1))) (l:=row) (ρ:=[some (.shr (hlD en re tb)),some (.shr (nD a)),some (.shr (al row))]) rfl hl (fun x hx=>by
  have t:=fj (tb:=tb) (i:=a) (by rw [h.tl];exact ha)
  have t2:=fO (r:=tb.getD a []) (i:=x) (by rw [h.rl _ ha];exact hr x hx)
  show R.bind (fix (aW tb) (nD a)) (fun y=>fix y (nD x))=_
  rw [t,af,t2])
 rw [eW,bN,c]
 show R.val (D.lst (row.map fun x=>D.int ((tb.getD a []).getD x (-1))))=_
 unfold aG dJ
 rw [List.map_map];rfl
def aU (en:List (Nat × Nat)) (re:List Nat) (tb:List (List Int)) (pl:List Nat) (ts:List Tie):D:=.lst ((List.range re.length).map fun b=>rwD (kws tb (btw en b) pl ts))
theorem oX:enu 0 ((List.range re.length).map fun b=>rwD (kws tb (btw en b) pl ts))=(List.range re.length).map fun b=>.tup [nD b,rwD (kws tb (btw en b) pl ts)]:=by
 rw [oY (List.range re.length) 0,List.length_range]
 apply List.map_congr_left
 intro b hb
 have hb:=List.mem_range.mp hb
 rw [bA (by rw [List.length_range];exact hb),List.getElem_range]
theorem oR (h:HallN en re tb) {c:Nat} (hc:c < re.length):cg [hlD en re tb,aU en re tb pl ts,nD c]=.val (.bl ((List.range re.length).all fun b=>decide ((btw en b c).length=(kws tb (btw en b) pl ts).length))):=by
 simp only [cg,f_]
 show fin (ret _ [some (.shr (hlD en re tb)),some (.shr (aU en re tb pl ts)),some (.shr (nD c))])=_
 have n6:=h.nb6
 have cm:=io (src:=fu (aC (vr 1) aN)) (n:=2) (T:=tg2 3 4) (t:=tT) (e:=bin feq (una aA (cal 3 bu (aC (vr 0) (aC (vr 3) (aC (vr 2) aN))))) (una aA (vb 4))) (f:=fun b=>.tup [nD b,rwD (kws tb (btw en b) pl ts)]) (g:=fun b=>.bl (decide ((btw en b c).length=(kws tb (btw en b) pl ts).length))) (p:=fun _=>true) (l:=List.range re.length) (ρ:=[some (.shr (hlD en re tb)),some (.shr (aU en re tb pl ts)),some (.shr (nD c))]) (by
   show R.val (enu 0 ((List.range re.length).map fun b=>rwD (kws tb (btw en b) pl ts)))=_
   rw [oX]) (by rw [List.length_range];omega) (fun b hb=>by
  have hb:=List.mem_range.mp hb
  refine ⟨[some (.shr (hlD en re tb)),some (.shr (aU en re tb pl ts)),some (.shr (nD c)),some (.shr (nD b)),some (.shr (rwD (kws tb (btw en b) pl ts)))],rfl,rfl,?_⟩
  have v1:cal 3 bu (aC (vr 0) (aC (vr 3) (aC (vr 2) aN))) [some (.shr (hlD en re tb)),some (.shr (aU en re tb pl ts)),some (.shr (nD c)),some (.shr (nD b)),some (.shr (rwD (kws tb (btw en b) pl ts)))]=.val (al (btw en b c)):=ip rfl rfl rfl (iS h hb hc)
  have v2:una aA (vb 4) [some (.shr (hlD en re tb)),some (.shr (aU en re tb pl ts)),some (.shr (nD c)),some (.shr (nD b)),some (.shr (rwD (kws tb (btw en b) pl ts)))]=.val (nD (kws tb (btw en b) pl ts).length):=by
   show aA (.lst ((kws tb (btw en b) pl ts).map al))=_
   rw [oI,List.length_map]
  rw [aE,gY,v1,af,dA,af,v2,af,lM]
  congr 2
  rw [Bool.eq_iff_iff,decide_eq_true_eq,decide_eq_true_eq]
  omega)
 rw [eW,gY,bN,cm,List.filter_eq_self.mpr (fun _ _=>rfl),af,af,tN];rfl
theorem oA:∀ l:List Int,ik (l.map D.int)=some l
 | []=>rfl
 | a :: l=>by rw [List.map_cons];unfold ik;rw [oA l];rfl
theorem nP:∀ ls:List (List Int),ms (ls.map aG)=some ls
 | []=>rfl
 | a :: ls=>by
  rw [List.map_cons]
  unfold ms aG
  dsimp only
  rw [oA]
  dsimp only
  have:=nP ls
  unfold aG at this
  rw [this];rfl
theorem w_ {ls:List (List Int)} (h:ls.length < 64):Bg (.lst (ls.map aG))=.val ((i8 ls).map aG):=by
 unfold Bg
 dsimp only
 rw [nP]
 dsimp only
 rw [if_pos h]
 rfl
theorem tab_inj {a b:List (List Int)}:aW a=aW b ↔ a=b:=by
 constructor
 ·intro h
  unfold aW at h
  exact nh (fun x y e=>rowD_inj.mp e) (D.lst.inj h)
 ·intro h;rw [h]
theorem Bi (a b:List (List Int)):fne (aW a) (aW b)=.val (.bl (!decide (a=b))):=by
 by_cases e:a=b
 ·subst e;rw [im (m9 _)];simp
 ·rw [tD (m9 _) (m9 _) (fun z=>e (tab_inj.mp z))];simp [e]
theorem uW (h:HallN en re tb) {c:Nat} {row:List Nat} (hc:c < re.length) (hr:∀ x ∈ row,x < en.length) (hl:row.length<=100000):dY [hlD en re tb,aU en re tb pl ts,nD c,al row]=.val (.bl (isB en re tb pl ts c row)):=by
 simp only [dY,ju]
 show fin (sq _ _ [some (.shr (hlD en re tb)),some (.shr (aU en re tb pl ts)),some (.shr (nD c)),some (.shr (al row)),none,none,none])=_
 have n40:=h.na40
 have fe:=vZ (src:=fu (aC (vr 1) aN)) (T:=tg2 4 5) (F:=sq (asg 6 (eLs (bo (fIt (cal 3 bu (aC (vr 0) (aC (vr 4) (aC (vr 2) aN))))) 1 (tgN 7) tT (cal 3 bj (aC (vr 0) (aC (vr 7) (aC (vr 3) aN)))))))
   (DL.iff (tst (bin fne (eLs (zj (vb 6))) (vb 5))) (ret (kd (.bl false))) nxt)) (f:=fun b=>.tup [nD b,rwD (kws tb (btw en b) pl ts)]) (ok:=fun b=>decide (i8 (da en tb b c row)=vws en tb pl ts b)) (l:=List.range re.length) (ρ:=[some (.shr (hlD en re tb)),some (.shr (aU en re tb pl ts)),some (.shr (nD c)),some (.shr (al row)),none,none,none])
  (fun ρ=>∃ x4 x5 x6:Option Slt,ρ=[some (.shr (hlD en re tb)),some (.shr (aU en re tb pl ts)),some (.shr (nD c)),some (.shr (al row)),x4,x5,x6]) (by
   show R.val (enu 0 ((List.range re.length).map fun b=>rwD (kws tb (btw en b) pl ts)))=_
   rw [oX]) (fun b hb ρ hI=>by
  obtain ⟨x4,x5,x6,rfl⟩:=hI
  have hb:=List.mem_range.mp hb
  have bl:=fP (en:=en) b c
  have s1:asg 6 (eLs (bo (fIt (cal 3 bu (aC (vr 0) (aC (vr 4) (aC (vr 2) aN))))) 1 (tgN 7) tT (cal 3 bj (aC (vr 0) (aC (vr 7) (aC (vr 3) aN)))))) [some (.shr (hlD en re tb)),some (.shr (aU en re tb pl ts)),some (.shr (nD c)),some (.shr (al row)),some (.shr (nD b)),some (.shr (rwD (kws tb (btw en b) pl ts))),x6]=.val (.nx [some (.shr (hlD en re tb)),some (.shr (aU en re tb pl ts)),some (.shr (nD c)),some (.shr (al row)),some (.shr (nD b)),some (.shr (rwD (kws tb (btw en b) pl ts))),some (.shr (aW (da en tb b c row)))]):=by
   refine cQ ?_
   have v1:cal 3 bu (aC (vr 0) (aC (vr 4) (aC (vr 2) aN))) [some (.shr (hlD en re tb)),some (.shr (aU en re tb pl ts)),some (.shr (nD c)),some (.shr (al row)),some (.shr (nD b)),some (.shr (rwD (kws tb (btw en b) pl ts))),x6]=.val (al (btw en b c)):=ip rfl rfl rfl (iS h hb hc)
   have cm:=eI (src:=fIt (cal 3 bu (aC (vr 0) (aC (vr 4) (aC (vr 2) aN))))) (n:=1) (i:=7) (e:=cal 3 bj (aC (vr 0) (aC (vr 7) (aC (vr 3) aN)))) (f:=nD) (g:=fun a=>aG (dJ tb a row)) (l:=btw en b c) (ρ:=[some (.shr (hlD en re tb)),some (.shr (aU en re tb pl ts)),some (.shr (nD c)),some (.shr (al row)),some (.shr (nD b)),some (.shr (rwD (kws tb (btw en b) pl ts))),x6]) (by rw [iQ,v1];rfl) (by omega) (fun a ha=>ip rfl rfl rfl (jo h (hV b c a ha) hr hl))
   rw [bN,cm]
   show R.val (D.lst ((btw en b c).map fun a=>aG (dJ tb a row)))=_
   unfold aW da
   rw [List.map_map];rfl
  have tt:tst (bin fne (eLs (zj (vb 6))) (vb 5)) [some (.shr (hlD en re tb)),some (.shr (aU en re tb pl ts)),some (.shr (nD c)),some (.shr (al row)),some (.shr (nD b)),some (.shr (rwD (kws tb (btw en b) pl ts))),some (.shr (aW (da en tb b c row)))]=.val (!decide (i8 (da en tb b c row)=vws en tb pl ts b)):=by
   have sr:zj (vb 6) [some (.shr (hlD en re tb)),some (.shr (aU en re tb pl ts)),some (.shr (nD c)),some (.shr (al row)),some (.shr (nD b)),some (.shr (rwD (kws tb (btw en b) pl ts))),some (.shr (aW (da en tb b c row)))]=.val ((i8 (da en tb b c row)).map aG):=w_ (by unfold da;rw [List.length_map];omega)
   rw [bx,aE,bN,sr]
   show R.bind (fne (aW (i8 (da en tb b c row))) (rwD (kws tb (btw en b) pl ts))) asB=_
   rw [qQ]
   show R.bind (fne (aW (i8 (da en tb b c row))) (aW (vws en tb pl ts b))) asB=_
   rw [Bi];rfl
  obtain ⟨k1,k2⟩:=yU tt
  refine ⟨_,rfl,fun q=>?_,fun q=>⟨_,?_,some (.shr (nD b)),some (.shr (rwD (kws tb (btw en b) pl ts))),some (.shr (aW (da en tb b c row))),rfl⟩⟩
  ·refine Eq.trans (bg s1) ?_
   exact k1 q
  ·refine Eq.trans (bg s1) ?_
   exact k2 q) ⟨none,none,none,rfl⟩
 rw [fe]
 rfl
theorem qo {α β:Type} {F:α->Option β}:∀ {l:List α},(∀ c,l.find? (fun a=>(F a).isSome)=some c->l.findSome? F=F c)/\(l.find? (fun a=>(F a).isSome)=none->l.findSome? F=none)
 | []=>⟨(fun c h=>by cases h),fun _=>rfl⟩
 | a :: l=>by
  rw [List.find?_cons,List.findSome?_cons]
  cases e:F a with
  | some b =>
   refine ⟨fun c h=>?_,fun h=>?_⟩
   ·have:a=c:=by simpa using h
    rw [<- this,e]
   ·simp at h
  | none=>exact qo (F:=F) (l:=l)
def bZ (en:List (Nat × Nat)) (re:List Nat) (tb:List (List Int)) (pl:List Nat) (ts:List Tie):Option (Nat × List Nat) :=
 (List.range re.length).findSome? fun c=>((kws tb (btw en c) pl ts).find? (isB en re tb pl ts c)).map fun row=>(c,row)
theorem zR:(eZ en re tb pl ts).head?=bZ en re tb pl ts:=by
 unfold eZ bZ
 rw [List.head?_flatMap]
 congr 1
 funext c
 rw [List.head?_map,List.head?_filter]
def bD:Option (Nat × List Nat)->D
 | some (c,row)=>.tup [nD c,al row]
 | none=>.non
theorem wb (h:HallN en re tb) (g:Pic en re pl ts):gX [hlD en re tb,al pl,aS ts]=.val (bD (bZ en re tb pl ts)):=by
 simp only [gX,o4]
 show fin (sq _ _ [some (.shr (hlD en re tb)),some (.shr (al pl)),some (.shr (aS ts)),none,none,none,none])=_
 have n6:=h.nb6
 have l3:=g.l3
 have s1:drp (cal 3 bY (aC (vr 0) (aC (vr 1) (aC (vr 2) aN)))) [some (.shr (hlD en re tb)),some (.shr (al pl)),some (.shr (aS ts)),none,none,none,none]=.val (.nx [some (.shr (hlD en re tb)),some (.shr (al pl)),some (.shr (aS ts)),none,none,none,none]):=o0 (ip rfl rfl rfl (lN h g))
 have s2:asg 3 (eLs (bo (bV (aC (una aA (una (dH 1) (vb 0))) aN)) 1 (tgN 7) tT (cal 4 cN (aC (vr 0) (aC (vr 1) (aC (vr 2) (aC (vr 7) aN))))))) [some (.shr (hlD en re tb)),some (.shr (al pl)),some (.shr (aS ts)),none,none,none,none]=.val (.nx [some (.shr (hlD en re tb)),some (.shr (al pl)),some (.shr (aS ts)),some (.shr (aU en re tb pl ts)),none,none,none]):=by
  refine cQ ?_
  have src:bV (aC (una aA (una (dH 1) (vb 0))) aN) [some (.shr (hlD en re tb)),some (.shr (al pl)),some (.shr (aS ts)),none,none,none,none]=.val (rng 0 re.length):=by
   have v:una aA (una (dH 1) (vb 0)) [some (.shr (hlD en re tb)),some (.shr (al pl)),some (.shr (aS ts)),none,none,none,none]=.val (nD re.length):=dA re
   rw [gT,cR,v,af,jZ,af,af,dz (by omega)]
  have cm:=gD (n:=1) (i:=7) (e:=cal 4 cN (aC (vr 0) (aC (vr 1) (aC (vr 2) (aC (vr 7) aN))))) (g:=fun b=>rwD (kws tb (btw en b) pl ts)) src (by omega) (fun b hb=>xt (a:=hlD en re tb) (b:=al pl) (c:=aS ts) (e:=nD b) rfl rfl rfl rfl (pQ h g hb))
  rw [bN,cm];rfl
 rw [bg s1,bg s2]
 have src:fu (aC (vr 3) aN) [some (.shr (hlD en re tb)),some (.shr (al pl)),some (.shr (aS ts)),some (.shr (aU en re tb pl ts)),none,none,none]=.val ((List.range re.length).map fun b=>.tup [nD b,rwD (kws tb (btw en b) pl ts)]):=by
  show R.val (enu 0 ((List.range re.length).map fun b=>rwD (kws tb (btw en b) pl ts)))=_
  rw [oX]
 have lf:=gn (T:=tg2 4 5) (F:=DL.iff (tst (cal 3 cg (aC (vr 0) (aC (vr 3) (aC (vr 4) aN)))))
   (bn (fIt (vr 5)) (tgN 6)
   (DL.iff (tst (cal 4 dY Cg))
   (ret (eT (aC (vr 4) (aC (vr 6) aN))))
   nxt))
   nxt) (f:=fun b=>.tup [nD b,rwD (kws tb (btw en b) pl ts)]) (g:=fun c=>bD (((kws tb (btw en c) pl ts).find? (isB en re tb pl ts c)).map fun row=>(c,row))) (p:=fun c=>(((kws tb (btw en c) pl ts).find? (isB en re tb pl ts c)).map fun row=>(c,row)).isSome)
  (fun ρ=>∃ x4 x5 x6:Option Slt,ρ=[some (.shr (hlD en re tb)),some (.shr (al pl)),some (.shr (aS ts)),some (.shr (aU en re tb pl ts)),x4,x5,x6]) (l:=List.range re.length) (ρ:=[some (.shr (hlD en re tb)),some (.shr (al pl)),some (.shr (aS ts)),some (.shr (aU en re tb pl ts)),none,none,none]) (fun c hc ρ hI=>by
   obtain ⟨x4,x5,x6,rfl⟩:=hI
   have hc:=List.mem_range.mp hc
   refine ⟨[some (.shr (hlD en re tb)),some (.shr (al pl)),some (.shr (aS ts)),some (.shr (aU en re tb pl ts)),some (.shr (nD c)),some (.shr (rwD (kws tb (btw en c) pl ts))),x6],rfl,?_⟩
   have t1:tst (cal 3 cg (aC (vr 0) (aC (vr 3) (aC (vr 4) aN)))) [some (.shr (hlD en re tb)),some (.shr (al pl)),some (.shr (aS ts)),some (.shr (aU en re tb pl ts)),some (.shr (nD c)),some (.shr (rwD (kws tb (btw en c) pl ts))),x6]=.val ((List.range re.length).all fun b=>decide ((btw en b c).length=(kws tb (btw en b) pl ts).length)):=by
    rw [bx,ip (a:=hlD en re tb) (b:=aU en re tb pl ts) (c:=nD c) rfl rfl rfl (oR h hc)];rfl
   have inner:=gn (T:=tgN 6) (F:=DL.iff (tst (cal 4 dY Cg)) (ret (eT (aC (vr 4) (aC (vr 6) aN)))) nxt) (f:=al) (g:=fun row=>bD (some (c,row))) (p:=isB en re tb pl ts c)
    (fun ρ=>∃ y6:Option Slt,ρ=[some (.shr (hlD en re tb)),some (.shr (al pl)),some (.shr (aS ts)),some (.shr (aU en re tb pl ts)),some (.shr (nD c)),some (.shr (rwD (kws tb (btw en c) pl ts))),y6]) (l:=kws tb (btw en c) pl ts) (ρ:=[some (.shr (hlD en re tb)),some (.shr (al pl)),some (.shr (aS ts)),some (.shr (aU en re tb pl ts)),some (.shr (nD c)),some (.shr (rwD (kws tb (btw en c) pl ts))),x6]) (fun row hrow ρ hI=>by
     obtain ⟨y6,rfl⟩:=hI
     have rw_:=iM (tb:=tb) (en:=en) c pl ts row hrow
     have t2:tst (cal 4 dY Cg) [some (.shr (hlD en re tb)),some (.shr (al pl)),some (.shr (aS ts)),some (.shr (aU en re tb pl ts)),some (.shr (nD c)),some (.shr (rwD (kws tb (btw en c) pl ts))),some (.shr (al row))]=.val (isB en re tb pl ts c row):=by
      rw [bx,xt (a:=hlD en re tb) (b:=aU en re tb pl ts) (c:=nD c) (e:=al row) rfl rfl rfl rfl (uW h hc rw_.bd (by rw [rw_.len];omega))];rfl
     refine ⟨_,rfl,fun q=>?_,fun q=>⟨_,cj (ρ:=[some (.shr (hlD en re tb)),some (.shr (al pl)),some (.shr (aS ts)),some (.shr (aU en re tb pl ts)),some (.shr (nD c)),some (.shr (rwD (kws tb (btw en c) pl ts))),some (.shr (al row))]) (by rw [t2,q]),_,rfl⟩⟩
     refine Eq.trans (fT (ρ:=[some (.shr (hlD en re tb)),some (.shr (al pl)),some (.shr (aS ts)),some (.shr (aU en re tb pl ts)),some (.shr (nD c)),some (.shr (rwD (kws tb (btw en c) pl ts))),some (.shr (al row))]) (by rw [t2,q])) rfl) ⟨x6,rfl⟩
   rcases inner with ⟨row,e,z⟩ | ⟨e,ρ2,z,y6,rfl⟩
   ·have am:=BN (en:=en) (re:=re) (tb:=tb) (pl:=pl) (ts:=ts) (List.find?_some e)
    rw [e]
    refine ⟨fun _=>?_,fun q=>by cases q⟩
    rw [fT (by rw [t1,am]),cz]
    exact z
   ·rw [e]
    refine ⟨fun q=>(by cases q),fun _=>?_⟩
    by_cases q:((List.range re.length).all fun b=>decide ((btw en b c).length=(kws tb (btw en b) pl ts).length))=true
    ·exact ⟨_,by rw [fT (by rw [t1,q]),cz];exact z,_,_,_,rfl⟩
    ·have q:((List.range re.length).all fun b=>decide ((btw en b c).length=(kws tb (btw en b) pl ts).length))=false:=by simpa using q
     exact ⟨_,cj (by rw [t1,q]),_,_,_,rfl⟩) ⟨none,none,none,rfl⟩
 have fs:=qo (F:=fun c=>((kws tb (btw en c) pl ts).find? (isB en re tb pl ts c)).map fun row=>(c,row)) (l:=List.range re.length)
 rw [be,cz,src,af]
 unfold bZ
 rcases lf with ⟨c,e,z⟩ | ⟨e,ρ2,z,_⟩
 ·rw [z,fs.1 c e];rfl
 ·rw [z,fs.2 e];rfl
theorem nt {x:Nat × List Nat} (e:bZ en re tb pl ts=some x):x ∈ eZ en re tb pl ts:=by
 rw [<- zR] at e
 exact List.mem_of_head? e
def oD:Option Nat->D
 | some a=>nD a
 | none=>.non
def thr (en:List (Nat × Nat)) (re:List Nat) (tb:List (List Int)) (pl:List Nat) (ts:List Tie) (b:Nat) (w:List Int):Option Nat:=match bZ en re tb pl ts with
 | some (c,row)=>(wys en tb c row b w).head?
 | none=>none
theorem oO (h:HallN en re tb) (g:Pic en re pl ts) {b:Nat} (hb:b < re.length) (w:List Int):dm [hlD en re tb,al pl,aS ts,nD b,aG w]=.val (oD (thr en re tb pl ts b w)):=by
 simp only [dm,jt]
 show fin (sq _ _ [some (.shr (hlD en re tb)),some (.shr (al pl)),some (.shr (aS ts)),some (.shr (nD b)),some (.shr (aG w)),none,none])=_
 have l3:=g.l3
 have s1:asg 5 (cal 3 gX (aC (vr 0) (aC (vr 1) (aC (vr 2) aN)))) [some (.shr (hlD en re tb)),some (.shr (al pl)),some (.shr (aS ts)),some (.shr (nD b)),some (.shr (aG w)),none,none]=.val (.nx [some (.shr (hlD en re tb)),some (.shr (al pl)),some (.shr (aS ts)),some (.shr (nD b)),some (.shr (aG w)),some (.shr (bD (bZ en re tb pl ts))),none]):=cQ (ip rfl rfl rfl (wb h g))
 have s2:drp (cal 2 bL (aC (vr 0) (aC (vr 3) aN))) [some (.shr (hlD en re tb)),some (.shr (al pl)),some (.shr (aS ts)),some (.shr (nD b)),some (.shr (aG w)),some (.shr (bD (bZ en re tb pl ts))),none]=.val (.nx [some (.shr (hlD en re tb)),some (.shr (al pl)),some (.shr (aS ts)),some (.shr (nD b)),some (.shr (aG w)),some (.shr (bD (bZ en re tb pl ts))),none]):=o0 (mR rfl rfl (iR hb))
 rw [bg s1,bg s2]
 unfold thr
 cases eb:bZ en re tb pl ts with
 | none=>rfl
 | some x =>
  obtain ⟨c,row⟩:=x
  obtain ⟨hc,hk,hB⟩:=mem_allB.mp (nt eb)
  have hc:c < re.length:=hc
  have hk:row ∈ kws tb (btw en c) pl ts:=hk
  have rw_:=iM (tb:=tb) (en:=en) c pl ts row hk
  have s3:DL.iff (tst (una (fun d=>.val (jW d)) (vb 5))) (ret (kd .non)) nxt [some (.shr (hlD en re tb)),some (.shr (al pl)),some (.shr (aS ts)),some (.shr (nD b)),some (.shr (aG w)),some (.shr (bD (some (c,row)))),none]=.val (.nx [some (.shr (hlD en re tb)),some (.shr (al pl)),some (.shr (aS ts)),some (.shr (nD b)),some (.shr (aG w)),some (.shr (bD (some (c,row)))),none]):=Eq.trans rfl rfl
  rw [bg s3]
  have v0:cal 3 bu (aC (vr 0) (aC (vr 3) (aC (bin fix (vb 5) (kd (.int 0))) aN))) [some (.shr (hlD en re tb)),some (.shr (al pl)),some (.shr (aS ts)),some (.shr (nD b)),some (.shr (aG w)),some (.shr (bD (some (c,row)))),none]=.val (al (btw en b c)):=ip rfl rfl (fF (nD c) [al row]) (iS h hb hc)
  have lf:=gn (T:=tgN 6) (F:=DL.iff (tst (bin feq (cal 3 bj Ch) (vb 4))) (ret (vr 6)) nxt) (f:=nD) (g:=nD) (p:=fun a=>decide (dJ tb a row=w))
   (fun ρ=>∃ y6:Option Slt,ρ=[some (.shr (hlD en re tb)),some (.shr (al pl)),some (.shr (aS ts)),some (.shr (nD b)),some (.shr (aG w)),some (.shr (bD (some (c,row)))),y6]) (l:=btw en b c) (ρ:=[some (.shr (hlD en re tb)),some (.shr (al pl)),some (.shr (aS ts)),some (.shr (nD b)),some (.shr (aG w)),some (.shr (bD (some (c,row)))),none]) (fun a ha ρ hI=>by
    obtain ⟨y6,rfl⟩:=hI
    have mb:cal 3 bj Ch [some (.shr (hlD en re tb)),some (.shr (al pl)),some (.shr (aS ts)),some (.shr (nD b)),some (.shr (aG w)),some (.shr (bD (some (c,row)))),some (.shr (nD a))]=.val (aG (dJ tb a row)):=ip (a:=hlD en re tb) (b:=nD a) (c:=al row) rfl rfl (fk (nD c) (al row) []) (jo h (hV b c a ha) rw_.bd (by rw [rw_.len];omega))
    have tt:tst (bin feq (cal 3 bj Ch) (vb 4)) [some (.shr (hlD en re tb)),some (.shr (al pl)),some (.shr (aS ts)),some (.shr (nD b)),some (.shr (aG w)),some (.shr (bD (some (c,row)))),some (.shr (nD a))]=.val (decide (dJ tb a row=w)):=by
     rw [bx,aE,mb]
     show R.bind (feq (aG (dJ tb a row)) (aG w)) asB=_
     rw [v9];rfl
    refine ⟨_,rfl,fun q=>?_,fun q=>⟨_,cj (ρ:=[some (.shr (hlD en re tb)),some (.shr (al pl)),some (.shr (aS ts)),some (.shr (nD b)),some (.shr (aG w)),some (.shr (bD (some (c,row)))),some (.shr (nD a))]) (by rw [tt,q]),_,rfl⟩⟩
    exact Eq.trans (fT (ρ:=[some (.shr (hlD en re tb)),some (.shr (al pl)),some (.shr (aS ts)),some (.shr (nD b)),some (.shr (aG w)),some (.shr (bD (some (c,row)))),some (.shr (nD a))]) (by rw [tt,q])) rfl) ⟨none,rfl⟩
  have hd:(wys en tb c row b w).head?=(btw en b c).find? fun a=>decide (dJ tb a row=w):=by unfold wys;rw [List.head?_filter]
  rw [be,cz,iQ,v0]
  show fin (R.bind (bR (tgN 6) _ ((btw en b c).map nD) _) _)=.val (oD ((wys en tb c row b w).head?))
  rw [hd]
  rcases lf with ⟨a,e,z⟩ | ⟨e,ρ2,z,_⟩
  ·rw [z,e];rfl
  ·rw [z,e];rfl
end
abbrev Cf:Rho->R D:=bin fix (bin fix (bin fix (vb 0) (kd (.int 2))) (vb 7)) (vb 8)
theorem zH {a b:Nat}:decide ((a:Int) ≠ (b:Int))=!decide (a=b):=by
 by_cases h:a=b
 ·rw [decide_eq_true h,decide_eq_false (by omega)];rfl
 ·rw [decide_eq_false h,decide_eq_true (by omega)];rfl
section
variable {en:List (Nat × Nat)} {re:List Nat} {tb:List (List Int)} {pl:List Nat} {ts:List Tie} {r:List D}
theorem Bo (h:HallN en re tb) {a b:Nat} (ha:a < en.length) (hb:b < en.length):bB [hlD en re tb,nD a,nD b]=.val (.bl (und re tb a b)):=by
 simp only [bB,eC]
 show fin (ret _ [some (.shr (hlD en re tb)),some (.shr (nD a)),some (.shr (nD b))])=_
 have ht:=h.tl
 have v1:bin fix (bin fix (una (dH 2) (vb 0)) (vb 1)) (vb 2) [some (.shr (hlD en re tb)),some (.shr (nD a)),some (.shr (nD b))]=.val (.int ((tb.getD a []).getD b (-1))):=by
  show R.bind (fix (aW tb) (nD a)) (fun y=>fix y (nD b))=_
  rw [fj (show a < tb.length by omega),af,fO (by rw [h.rl _ ha];exact hb)]
 have v2:bin fix (bin fix (una (dH 2) (vb 0)) (vb 2)) (vb 1) [some (.shr (hlD en re tb)),some (.shr (nD a)),some (.shr (nD b))]=.val (.int ((tb.getD b []).getD a (-1))):=by
  show R.bind (fix (aW tb) (nD b)) (fun y=>fix y (nD a))=_
  rw [fj (show b < tb.length by omega),af,fO (by rw [h.rl _ hb];exact ha)]
 have f1:una (dH 1) (vb 0) [some (.shr (hlD en re tb)),some (.shr (nD a)),some (.shr (nD b))]=.val (al re):=Eq.trans rfl rfl
 rw [eW,wz,aE,v1,af,f1,af,yX,af,jC,af,aE,v2,af,f1,af,yX]
 unfold und Ar.ent
 cases inR re ((tb.getD a []).getD b (-1)) <;> rfl
theorem xh (h:HallN en re tb) {a:Nat} (ha:a < en.length):dC [hlD en re tb,nD a]=.val (oD (ud re tb en.length a)):=by
 simp only [dC,kf]
 show fin (sq _ _ [some (.shr (hlD en re tb)),some (.shr (nD a)),none])=_
 have n40:=h.na40
 have ck:c_ [hlD en re tb,nD a]=.val .non:=by
  simp only [c_,gh]
  show fin (DL.iff _ _ _ [some (.shr (hlD en re tb)),some (.shr (nD a))])=_
  have v:una aA (una (dH 0) (vb 0)) [some (.shr (hlD en re tb)),some (.shr (nD a))]=.val (nD en.length):=jm en
  rw [cj (by rw [iH,bx,mR rfl v (dF ha)];rfl)];rfl
 have s1:drp (cal 2 c_ (aC (vr 0) (aC (vr 1) aN))) [some (.shr (hlD en re tb)),some (.shr (nD a)),none]=.val (.nx [some (.shr (hlD en re tb)),some (.shr (nD a)),none]):=o0 (mR rfl rfl ck)
 rw [bg s1]
 have src:bV (aC (una aA (una (dH 0) (vb 0))) aN) [some (.shr (hlD en re tb)),some (.shr (nD a)),none]=.val ((List.range en.length).map nD):=mZ (jm en) (by omega)
 have lf:=gn (T:=tgN 2) (F:=DL.iff (tst (cal 3 bB (aC (vr 0) (aC (vr 1) (aC (vr 2) aN))))) (ret (vr 2)) nxt) (f:=nD) (g:=nD) (p:=und re tb a) (fun ρ=>∃ y:Option Slt,ρ=[some (.shr (hlD en re tb)),some (.shr (nD a)),y]) (l:=List.range en.length) (ρ:=[some (.shr (hlD en re tb)),some (.shr (nD a)),none]) (fun b hb ρ hI=>by
  obtain ⟨y,rfl⟩:=hI
  have tt:tst (cal 3 bB (aC (vr 0) (aC (vr 1) (aC (vr 2) aN)))) [some (.shr (hlD en re tb)),some (.shr (nD a)),some (.shr (nD b))]=.val (und re tb a b):=by
   rw [bx,ip (a:=hlD en re tb) (b:=nD a) (c:=nD b) rfl rfl rfl (Bo h ha (List.mem_range.mp hb))];rfl
  exact ⟨_,rfl,fun q=>Eq.trans (fT (ρ:=[some (.shr (hlD en re tb)),some (.shr (nD a)),some (.shr (nD b))]) (by rw [tt,q])) rfl,fun q=>⟨_,cj (ρ:=[some (.shr (hlD en re tb)),some (.shr (nD a)),some (.shr (nD b))]) (by rw [tt,q]),_,rfl⟩⟩) ⟨none,rfl⟩
 rw [be,cz,src,af]
 unfold ud
 rcases lf with ⟨b,e,z⟩ | ⟨e,ρ2,z,_⟩
 ·rw [z,e];rfl
 ·rw [z,e];rfl
theorem tR (h:HallN en re tb) {a:Nat} {row:List Nat} (ha:a < en.length) (hr:∀ x ∈ row,x < en.length) (hl:row.length<=100000) {ρ:Rho} {i j k:Nat} (h0:vb 0 ρ=.val (paD en re tb r)) (hi:vb i ρ=.val (nD a)) (hj:vr j ρ=.val (al row)) (hk:ρ.length=k) (h0':0 < k) (hi':i < k) :
  bo (fIt (vr j)) 1 (tgN k) tT (bin fix (bin fix (bin fix (vb 0) (kd (.int 2))) (vb i)) (vb k)) ρ=.val ((dJ tb a row).map D.int):=by
 have c:=eI (src:=fIt (vr j)) (n:=1) (i:=k) (e:=bin fix (bin fix (bin fix (vb 0) (kd (.int 2))) (vb i)) (vb k)) (f:=nD) (g:=fun x=>.int ((tb.getD a []).getD x (-1))) (l:=row) (ρ:=ρ) (by rw [iQ,hj];rfl) hl (fun x hx=>by
  have t:=fj (tb:=tb) (i:=a) (by rw [h.tl];exact ha)
  have t2:=fO (r:=tb.getD a []) (i:=x) (by rw [h.rl _ ha];exact hr x hx)
  have gt:∀ m,m < k->vb m ((ρ ++ List.replicate 1 none).set k (some (.shr (nD x))))=vb m ρ:=fun m hm=>by
   rw [vn,vn,List.getElem?_set_ne (by omega),List.getElem?_append_left (by omega)]
  have gk:vb k ((ρ ++ List.replicate 1 none).set k (some (.shr (nD x))))=.val (nD x):=by
   rw [vn,List.getElem?_set_self (by rw [List.length_append,hk];simp)]
  rw [aE,aE,aE,gt 0 h0',h0,af,e7,af,paD,oK,af,gt i hi',hi,af,t,af,gk,af,t2])
 rw [c]
 unfold dJ
 rw [List.map_map];rfl
theorem oP (h:HallN en re tb) {b c:Nat} {row:List Nat} (hr:∀ x ∈ row,x < en.length) (hl:row.length<=100000) (v:List Int):bO [paD en re tb r,nD c,al row,nD b,aG v]=.val (al (wys en tb c row b v)):=by
 simp only [bO,iT]
 show fin (sq _ _ [some (.shr (paD en re tb r)),some (.shr (nD c)),some (.shr (al row)),some (.shr (nD b)),some (.shr (aG v)),none,none])=_
 have n40:=h.na40
 have bl:=fP (en:=en) b c
 have s1:own 5 (fU aN) [some (.shr (paD en re tb r)),some (.shr (nD c)),some (.shr (al row)),some (.shr (nD b)),some (.shr (aG v)),none,none]=.val (.nx [some (.shr (paD en re tb r)),some (.shr (nD c)),some (.shr (al row)),some (.shr (nD b)),some (.shr (aG v)),some (.own []),none]):=Eq.trans rfl rfl
 have lb:cal 3 aO (aC (vr 0) (aC (vr 3) (aC (vr 1) aN))) [some (.shr (paD en re tb r)),some (.shr (nD c)),some (.shr (al row)),some (.shr (nD b)),some (.shr (aG v)),some (.own []),none]=.val (al (btw en b c)):=ip rfl rfl rfl (gU h b c)
 obtain ⟨ρ1,e1,x6,rfl⟩:=dI (src:=fIt (cal 3 aO (aC (vr 0) (aC (vr 3) (aC (vr 1) aN))))) (T:=tgN 6) (F:=DL.iff (tst (bin feq (eLs (bo (fIt (vr 2)) 1 (tgN 7) tT (bin fix (bin fix (bin fix (vb 0) (kd (.int 2))) (vb 6)) (vb 7)))) (vb 4))) (app 5 (vr 6)) nxt) (f:=nD) (l:=btw en b c) (ρ:=[some (.shr (paD en re tb r)),some (.shr (nD c)),some (.shr (al row)),some (.shr (nD b)),some (.shr (aG v)),some (.own []),none])
  (fun p ρ=>∃ x6:Option Slt,ρ=[some (.shr (paD en re tb r)),some (.shr (nD c)),some (.shr (al row)),some (.shr (nD b)),some (.shr (aG v)),some (.own ((p.filter fun a=>decide (dJ tb a row=v)).map nD)),x6]) (by rw [iQ,lb];rfl) (fun p a q e ρ hI=>by
   obtain ⟨x6,rfl⟩:=hI
   have ha:=hV b c a (by rw [e];simp)
   have lp:(p.filter fun a=>decide (dJ tb a row=v)).length < 100000:=by
    have:=List.length_filter_le (fun a=>decide (dJ tb a row=v)) p
    have b1:p.length<=(btw en b c).length:=by rw [e];simp
    omega
   generalize hac:(p.filter fun a=>decide (dJ tb a row=v))=ac at lp
   have tt:tst (bin feq (eLs (bo (fIt (vr 2)) 1 (tgN 7) tT (bin fix (bin fix (bin fix (vb 0) (kd (.int 2))) (vb 6)) (vb 7)))) (vb 4)) [some (.shr (paD en re tb r)),some (.shr (nD c)),some (.shr (al row)),some (.shr (nD b)),some (.shr (aG v)),some (.own (ac.map nD)),some (.shr (nD a))]=.val (decide (dJ tb a row=v)):=by
    have lm:=tR (r:=r) h ha hr hl (ρ:=[some (.shr (paD en re tb r)),some (.shr (nD c)),some (.shr (al row)),some (.shr (nD b)),some (.shr (aG v)),some (.own (ac.map nD)),some (.shr (nD a))]) (i:=6) (j:=2) (k:=7) rfl rfl rfl rfl (by decide) (by decide)
    rw [bx,aE,bN,lm]
    show R.bind (feq (aG (dJ tb a row)) (aG v)) asB=_
    rw [v9];rfl
   refine ⟨[some (.shr (paD en re tb r)),some (.shr (nD c)),some (.shr (al row)),some (.shr (nD b)),some (.shr (aG v)),some (.own (ac.map nD)),some (.shr (nD a))],?_⟩
   by_cases cc:dJ tb a row=v
   ·refine ⟨_,rfl,?_,some (.shr (nD a)),rfl⟩
    rw [fT (by rw [tt,decide_eq_true cc]),iY _ (d:=nD a) (xs:=ac.map nD) rfl rfl (by rw [List.length_map];exact lp),List.filter_append,hac,List.map_append]
    rw [show List.filter (fun a=>decide (dJ tb a row=v)) [a]=[a] by rw [List.filter_cons,if_pos (decide_eq_true cc)];rfl]
    rfl
   ·refine ⟨_,rfl,?_,some (.shr (nD a)),rfl⟩
    rw [cj (by rw [tt,decide_eq_false cc]),List.filter_append,hac]
    rw [show List.filter (fun a=>decide (dJ tb a row=v)) [a]=[] by rw [List.filter_cons,if_neg (by rw [decide_eq_false cc];decide)];rfl,List.append_nil]) ⟨none,rfl⟩
 rw [bg s1,bg e1]
 rfl
theorem tK {b:Nat} (hb:b < re.length):fix (aU en re tb pl ts) (nD b)=.val (rwD (kws tb (btw en b) pl ts)):=i7 (by simp [hb])
theorem qU (n:Nat) (a b:List Int):pyq (n + 1) (aG a) (aG b)=decide (a=b):=by
 have pa:pln (n + 1) (aG a)=true:=fL a
 have pb:pln (n + 1) (aG b)=true:=fL b
 have:=gR (n + 1) pa pb
 rw [Bool.eq_iff_iff,decide_eq_true_eq,this,rowD_inj]
theorem zi {ls:List (List Int)} {v:List Int} (hl:ls.length<=100000):Bn (aW ls) (aG v)=.val (.int ((ls.count v:Nat):Int)):=by
 unfold Bn aW
 dsimp only
 rw [if_pos ⟨List.all_eq_true.mpr (fun x hx=>by
  obtain ⟨a,_,rfl⟩:=List.mem_map.mp hx
  exact cT (fL a)),cT (fL v),by rw [List.length_map];exact hl⟩,List.countP_map]
 congr 3
 unfold List.count
 congr 1
 funext a
 show pyq 8 (aG a) (aG v)=(a == v)
 rw [qU,Bool.eq_iff_iff,decide_eq_true_eq,beq_iff_eq]
theorem tS (h:HallN en re tb) {c:Nat} {row:List Nat} (hr:∀ x ∈ row,x < en.length) (hl:row.length<=100000):bP [paD en re tb r,nD c,al row,aU en re tb pl ts]=.val (.bl (isB en re tb pl ts c row)):=by
 simp only [bP,fY]
 show fin (sq _ _ [some (.shr (paD en re tb r)),some (.shr (nD c)),some (.shr (al row)),some (.shr (aU en re tb pl ts)),none,none,none])=_
 have n40:=h.na40
 have n6:=h.nb6
 have src:bV (aC (una aA (vb 3)) aN) [some (.shr (paD en re tb r)),some (.shr (nD c)),some (.shr (al row)),some (.shr (aU en re tb pl ts)),none,none,none]=.val ((List.range re.length).map nD):=by
  refine mZ ?_ (by omega)
  show aA (.lst ((List.range re.length).map fun b=>rwD (kws tb (btw en b) pl ts)))=_
  rw [oI,List.length_map,List.length_range]
 have fe:=vZ (src:=bV (aC (una aA (vb 3)) aN)) (T:=tgN 4) (F:=sq (asg 5 (eLs (bo (fIt (cal 3 aO (aC (vr 0) (aC (vr 4) (aC (vr 1) aN))))) 1 (tgN 7) tT (eLs (bo (fIt (vr 2)) 1 (tgN 8) tT Cf)))))
   (sq (DL.iff (tst (bin fne (una aA (vb 5)) (una aA (bin fix (vb 3) (vb 4))))) (ret (kd (.bl false))) nxt)
   (bn (fIt (bin fix (vb 3) (vb 4))) (tgN 6)
   (DL.iff (tst (bin fne (xr (vb 5) (vr 6)) (kd (.int 1)))) (ret (kd (.bl false))) nxt)))) (f:=nD) (ok:=fun b=>decide (i8 (da en tb b c row)=vws en tb pl ts b)) (l:=List.range re.length) (ρ:=[some (.shr (paD en re tb r)),some (.shr (nD c)),some (.shr (al row)),some (.shr (aU en re tb pl ts)),none,none,none])
  (fun ρ=>∃ x4 x5 x6:Option Slt,ρ=[some (.shr (paD en re tb r)),some (.shr (nD c)),some (.shr (al row)),some (.shr (aU en re tb pl ts)),x4,x5,x6]) src (fun b hb ρ hI=>by
  obtain ⟨x4,x5,x6,rfl⟩:=hI
  have hb:=List.mem_range.mp hb
  have bl:=fP (en:=en) b c
  have s1:asg 5 (eLs (bo (fIt (cal 3 aO (aC (vr 0) (aC (vr 4) (aC (vr 1) aN))))) 1 (tgN 7) tT (eLs (bo (fIt (vr 2)) 1 (tgN 8) tT Cf)))) [some (.shr (paD en re tb r)),some (.shr (nD c)),some (.shr (al row)),some (.shr (aU en re tb pl ts)),some (.shr (nD b)),x5,x6]=.val (.nx [some (.shr (paD en re tb r)),some (.shr (nD c)),some (.shr (al row)),some (.shr (aU en re tb pl ts)),some (.shr (nD b)),some (.shr (aW (da en tb b c row))),x6]):=by
   refine cQ ?_
   have v1:cal 3 aO (aC (vr 0) (aC (vr 4) (aC (vr 1) aN))) [some (.shr (paD en re tb r)),some (.shr (nD c)),some (.shr (al row)),some (.shr (aU en re tb pl ts)),some (.shr (nD b)),x5,x6]=.val (al (btw en b c)):=ip rfl rfl rfl (gU h b c)
   have cm:=eI (src:=fIt (cal 3 aO (aC (vr 0) (aC (vr 4) (aC (vr 1) aN))))) (n:=1) (i:=7) (e:=eLs (bo (fIt (vr 2)) 1 (tgN 8) tT Cf)) (f:=nD) (g:=fun a=>aG (dJ tb a row)) (l:=btw en b c) (ρ:=[some (.shr (paD en re tb r)),some (.shr (nD c)),some (.shr (al row)),some (.shr (aU en re tb pl ts)),some (.shr (nD b)),x5,x6]) (by rw [iQ,v1];rfl) (by omega) (fun a ha=>by
    have lm:=tR (r:=r) h (hV b c a ha) hr hl (ρ:=[some (.shr (paD en re tb r)),some (.shr (nD c)),some (.shr (al row)),some (.shr (aU en re tb pl ts)),some (.shr (nD b)),x5,x6,some (.shr (nD a))]) (i:=7) (j:=2) (k:=8) rfl rfl rfl rfl (by decide) (by decide)
    show eLs _ [some (.shr (paD en re tb r)),some (.shr (nD c)),some (.shr (al row)),some (.shr (aU en re tb pl ts)),some (.shr (nD b)),x5,x6,some (.shr (nD a))]=_
    rw [bN,lm];rfl)
   rw [bN,cm]
   show R.val (D.lst ((btw en b c).map fun a=>aG (dJ tb a row)))=_
   unfold aW da
   rw [List.map_map];rfl
  have ml:(da en tb b c row).length<=40:=by unfold da;rw [List.length_map];omega
  have okq:decide (i8 (da en tb b c row)=vws en tb pl ts b)=(decide ((da en tb b c row).length=(vws en tb pl ts b).length) && (vws en tb pl ts b).all fun x=>decide ((da en tb b c row).count x=1)):=by
   rw [Bool.eq_iff_iff,decide_eq_true_eq,Bool.and_eq_true,decide_eq_true_eq,List.all_eq_true,srt_iff,counts_iff]
   simp only [decide_eq_true_eq]
  generalize da en tb b c row=M at s1 ml okq
  have vf:bin fix (vb 3) (vb 4) [some (.shr (paD en re tb r)),some (.shr (nD c)),some (.shr (al row)),some (.shr (aU en re tb pl ts)),some (.shr (nD b)),some (.shr (aW M)),x6]=.val (rwD (kws tb (btw en b) pl ts)):=tK hb
  have t1:tst (bin fne (una aA (vb 5)) (una aA (bin fix (vb 3) (vb 4)))) [some (.shr (paD en re tb r)),some (.shr (nD c)),some (.shr (al row)),some (.shr (aU en re tb pl ts)),some (.shr (nD b)),some (.shr (aW M)),x6]=.val (!decide (M.length=(vws en tb pl ts b).length)):=by
   have u1:una aA (vb 5) [some (.shr (paD en re tb r)),some (.shr (nD c)),some (.shr (al row)),some (.shr (aU en re tb pl ts)),some (.shr (nD b)),some (.shr (aW M)),x6]=.val (nD M.length):=tE M
   have u2:una aA (bin fix (vb 3) (vb 4)) [some (.shr (paD en re tb r)),some (.shr (nD c)),some (.shr (al row)),some (.shr (aU en re tb pl ts)),some (.shr (nD b)),some (.shr (aW M)),x6]=.val (nD (vws en tb pl ts b).length):=by
    rw [gY,vf,af,qQ];exact tE _
   rw [bx,aE,u1,af,u2,af,lL,af,jC]
   rw [zH]
  obtain ⟨k1,k2⟩:=yU t1
  have la:=v5 (src:=fIt (bin fix (vb 3) (vb 4))) (T:=tgN 6) (F:=DL.iff (tst (bin fne (xr (vb 5) (vr 6)) (kd (.int 1)))) (ret (kd (.bl false))) nxt) (f:=aG) (ok:=fun x=>decide (M.count x=1)) (l:=vws en tb pl ts b) (ρ:=[some (.shr (paD en re tb r)),some (.shr (nD c)),some (.shr (al row)),some (.shr (aU en re tb pl ts)),some (.shr (nD b)),some (.shr (aW M)),x6])
   (fun ρ=>∃ y6:Option Slt,ρ=[some (.shr (paD en re tb r)),some (.shr (nD c)),some (.shr (al row)),some (.shr (aU en re tb pl ts)),some (.shr (nD b)),some (.shr (aW M)),y6]) (by rw [iQ,vf,af,qQ];rfl) (fun x hx ρ hI=>by
    obtain ⟨y6,rfl⟩:=hI
    have tt:tst (bin fne (xr (vb 5) (vr 6)) (kd (.int 1))) [some (.shr (paD en re tb r)),some (.shr (nD c)),some (.shr (al row)),some (.shr (aU en re tb pl ts)),some (.shr (nD b)),some (.shr (aW M)),some (.shr (aG x))]=.val (!decide (M.count x=1)):=by
     have cv:xr (vb 5) (vr 6) [some (.shr (paD en re tb r)),some (.shr (nD c)),some (.shr (al row)),some (.shr (aU en re tb pl ts)),some (.shr (nD b)),some (.shr (aW M)),some (.shr (aG x))]=.val (.int ((M.count x:Nat):Int)):=zi (by omega)
     rw [bx,aE,cv,af,e7,af,lL,af,jC]
     exact congrArg R.val (zH (b:=1))
    obtain ⟨j1,j2⟩:=yU tt
    exact ⟨_,rfl,j1,fun q=>⟨_,j2 q,_,rfl⟩⟩) ⟨x6,rfl⟩
  refine ⟨_,rfl,fun q=>?_,fun q=>?_⟩
  ·rw [okq] at q
   refine Eq.trans (bg s1) ?_
   by_cases l:M.length=(vws en tb pl ts b).length
   ·rw [decide_eq_true l,Bool.true_and] at q
    rw [bg (k2 (decide_eq_true l))]
    rcases la with ⟨_,z⟩ | ⟨e,_⟩
    ·exact z
    ·rw [q] at e;cases e
   ·rw [be,k1 (decide_eq_false l)];rfl
  ·rw [okq,Bool.and_eq_true] at q
   rcases la with ⟨e,_⟩ | ⟨_,ρ2,z,y6,rfl⟩
   ·rw [q.2] at e;cases e
   ·exact ⟨_,Eq.trans (bg s1) (Eq.trans (bg (k2 q.1)) z),_,_,_,rfl⟩) ⟨none,none,none,rfl⟩
 rw [fe]
 rfl
end
abbrev Ce:Rho->R D:=cal 5 bO (aC (vr 1) (aC (bin fix (vb 4) (kd (.int 0))) (aC (bin fix (vb 4) (kd (.int 1))) (aC (bin fix (vb 3) (kd (.int 0))) (aC (bin fix (vb 3) (kd (.int 1))) aN)))))
abbrev Cd:Rho->R D:=cal 5 bO (aC (vr 1) (aC (bin fix (vb 3) (kd (.int 0))) (aC (bin fix (vb 3) (kd (.int 1))) (aC (bin fix (vb 4) (kd (.int 0))) (aC (bin fix (vb 4) (kd (.int 1))) aN)))))
abbrev xE:Rho->R (List D):=aC (vr 0) (aC (bin fix (vb 5) (kd (.int 0))) aN)
abbrev Cb:Rho->R (List D):=aC (vr 0) (aC (vr 5) (aC (vr 6) (aC (vr 3) aN)))
abbrev bvD (x:Nat × List Nat):D:=.tup [nD x.1,al x.2]
section
variable {en:List (Nat × Nat)} {re:List Nat} {tb:List (List Int)} {pl:List Nat} {ts:List Tie} {r:List D}
theorem oQ (h:HallN en re tb) (g:Pic en re pl ts) (b:Nat):bK [paD en re tb r,al pl,aS ts,nD b]=.val (rwD (kws tb (btw en b) pl ts)):=by
 rw [xj (r:=r) h g b]
 unfold kws
 rw [Dw (fun t ht=>⟨(g.tk t ht).1,(g.tk t ht).2.1⟩)]
def bst (en:List (Nat × Nat)) (re:List Nat) (tb:List (List Int)) (pl:List Nat) (ts:List Tie) (c:Nat):List (Nat × List Nat):=((kws tb (btw en c) pl ts).filter (isB en re tb pl ts c)).map fun row=>(c,row)
theorem t9 (h:HallN en re tb):∀ p:List Nat,(∀ c ∈ p,c < re.length)->(p.flatMap (bst en re tb pl ts)).length<=40 * p.length
 | [],_=>by simp
 | c :: p,hp=>by
  have ih:=t9 h p fun x hx=>hp x (by simp [hx])
  have:=wy (pl:=pl) (ts:=ts) h (hp c (by simp))
  rw [List.flatMap_cons,List.length_append,List.length_cons]
  unfold bst at ih ⊢
  rw [List.length_map]
  omega
theorem rO (h:HallN en re tb) (g:Pic en re pl ts):cr [paD en re tb r,al pl,aS ts]=.val (.lst ((eZ en re tb pl ts).map bvD)):=by
 simp only [cr,fG]
 show fin (sq _ _ [some (.shr (paD en re tb r)),some (.shr (al pl)),some (.shr (aS ts)),none,none,none,none])=_
 have n6:=h.nb6
 have l3:=g.l3
 have s1:asg 3 (eLs (bo (bV (aC (una aA (bin fix (vb 0) (kd (.int 1)))) aN)) 1 (tgN 7) tT (cal 4 bK (aC (vr 0) (aC (vr 1) (aC (vr 2) (aC (vr 7) aN))))))) [some (.shr (paD en re tb r)),some (.shr (al pl)),some (.shr (aS ts)),none,none,none,none]=.val (.nx [some (.shr (paD en re tb r)),some (.shr (al pl)),some (.shr (aS ts)),some (.shr (aU en re tb pl ts)),none,none,none]):=by
  refine cQ ?_
  have src:bV (aC (una aA (bin fix (vb 0) (kd (.int 1)))) aN) [some (.shr (paD en re tb r)),some (.shr (al pl)),some (.shr (aS ts)),none,none,none,none]=.val (rng 0 re.length):=by
   have v:una aA (bin fix (vb 0) (kd (.int 1))) [some (.shr (paD en re tb r)),some (.shr (al pl)),some (.shr (aS ts)),none,none,none,none]=.val (nD re.length):=by
    show R.bind (fix (paD en re tb r) (.int 1)) aA=_
    rw [paD,fk,af,dA]
   rw [gT,cR,v,af,jZ,af,af,dz (by omega)]
  have cm:=gD (n:=1) (i:=7) (e:=cal 4 bK (aC (vr 0) (aC (vr 1) (aC (vr 2) (aC (vr 7) aN))))) (g:=fun b=>rwD (kws tb (btw en b) pl ts)) src (by omega) (fun b hb=>xt (a:=paD en re tb r) (b:=al pl) (c:=aS ts) (e:=nD b) rfl rfl rfl rfl (oQ h g b))
  rw [bN,cm];rfl
 have s2:own 4 (fU aN) [some (.shr (paD en re tb r)),some (.shr (al pl)),some (.shr (aS ts)),some (.shr (aU en re tb pl ts)),none,none,none]=.val (.nx [some (.shr (paD en re tb r)),some (.shr (al pl)),some (.shr (aS ts)),some (.shr (aU en re tb pl ts)),some (.own []),none,none]):=Eq.trans rfl rfl
 rw [bg s1,bg s2]
 have src:bV (aC (una aA (vb 3)) aN) [some (.shr (paD en re tb r)),some (.shr (al pl)),some (.shr (aS ts)),some (.shr (aU en re tb pl ts)),some (.own []),none,none]=.val ((List.range re.length).map nD):=by
  refine mZ ?_ (by omega)
  show aA (.lst ((List.range re.length).map fun b=>rwD (kws tb (btw en b) pl ts)))=_
  rw [oI,List.length_map,List.length_range]
 obtain ⟨ρ1,e1,x5,x6,rfl⟩:=dI (src:=bV (aC (una aA (vb 3)) aN)) (T:=tgN 5) (F:=bn (fIt (bin fix (vb 3) (vb 5))) (tgN 6)
   (DL.iff (tst (cal 4 bP Cb))
   (app 4 (eT (aC (vr 5) (aC (vr 6) aN))))
   nxt)) (f:=nD) (l:=List.range re.length) (ρ:=[some (.shr (paD en re tb r)),some (.shr (al pl)),some (.shr (aS ts)),some (.shr (aU en re tb pl ts)),some (.own []),none,none])
  (fun p ρ=>∃ x5 x6:Option Slt,ρ=[some (.shr (paD en re tb r)),some (.shr (al pl)),some (.shr (aS ts)),some (.shr (aU en re tb pl ts)),some (.own ((p.flatMap (bst en re tb pl ts)).map bvD)),x5,x6]) src (fun p c q e ρ hI=>by
   obtain ⟨x5,x6,rfl⟩:=hI
   have hc:c < re.length:=List.mem_range.mp (by rw [e];simp)
   have hp:(p.flatMap (bst en re tb pl ts)).length<=240:=by
    have:=t9 (pl:=pl) (ts:=ts) h p fun x hx=>List.mem_range.mp (by rw [e];simp [hx])
    have pl6:p.length<=re.length:=by have:=congrArg List.length e;simp at this;omega
    omega
   generalize hac:p.flatMap (bst en re tb pl ts)=ac at hp
   have vf:bin fix (vb 3) (vb 5) [some (.shr (paD en re tb r)),some (.shr (al pl)),some (.shr (aS ts)),some (.shr (aU en re tb pl ts)),some (.own (ac.map bvD)),some (.shr (nD c)),x6]=.val (rwD (kws tb (btw en c) pl ts)):=tK hc
   obtain ⟨ρ2,e2,y6,rfl⟩:=dI (src:=fIt (bin fix (vb 3) (vb 5))) (T:=tgN 6) (F:=DL.iff (tst (cal 4 bP Cb))
     (app 4 (eT (aC (vr 5) (aC (vr 6) aN))))
     nxt) (f:=al) (l:=kws tb (btw en c) pl ts) (ρ:=[some (.shr (paD en re tb r)),some (.shr (al pl)),some (.shr (aS ts)),some (.shr (aU en re tb pl ts)),some (.own (ac.map bvD)),some (.shr (nD c)),x6])
    (fun o ρ=>∃ y6:Option Slt,ρ=[some (.shr (paD en re tb r)),some (.shr (al pl)),some (.shr (aS ts)),some (.shr (aU en re tb pl ts)),some (.own ((ac ++ (o.filter (isB en re tb pl ts c)).map fun row=>(c,row)).map bvD)),some (.shr (nD c)),y6]) (by rw [iQ,vf];rfl) (fun o row u eo ρ hI=>by
     obtain ⟨y6,rfl⟩:=hI
     have hrow:row ∈ kws tb (btw en c) pl ts:=by rw [eo];simp
     have rw_:=iM (tb:=tb) (en:=en) c pl ts row hrow
     have lo:(o.filter (isB en re tb pl ts c)).length<=40:=by
      have:=wy (pl:=pl) (ts:=ts) h hc
      rw [eo,List.filter_append,List.length_append] at this
      omega
     have tt:tst (cal 4 bP Cb) [some (.shr (paD en re tb r)),some (.shr (al pl)),some (.shr (aS ts)),some (.shr (aU en re tb pl ts)),some (.own ((ac ++ (o.filter (isB en re tb pl ts c)).map fun row=>(c,row)).map bvD)),some (.shr (nD c)),some (.shr (al row))]=.val (isB en re tb pl ts c row):=by
      rw [bx,xt (a:=paD en re tb r) (b:=nD c) (c:=al row) (e:=aU en re tb pl ts) rfl rfl rfl rfl (tS h rw_.bd (by rw [rw_.len];omega))];rfl
     refine ⟨[some (.shr (paD en re tb r)),some (.shr (al pl)),some (.shr (aS ts)),some (.shr (aU en re tb pl ts)),some (.own ((ac ++ (o.filter (isB en re tb pl ts c)).map fun row=>(c,row)).map bvD)),some (.shr (nD c)),some (.shr (al row))],?_⟩
     cases cc:isB en re tb pl ts c row with
     | true =>
      have q1:ac ++ (List.filter (isB en re tb pl ts c) (o ++ [row])).map (fun row=>(c,row))=(ac ++ (o.filter (isB en re tb pl ts c)).map fun row=>(c,row)) ++ [(c,row)]:=by
       rw [List.filter_append,show List.filter (isB en re tb pl ts c) [row]=[row] by rw [List.filter_cons,if_pos cc];rfl,List.map_append,List.append_assoc];rfl
      have la:(ac ++ (o.filter (isB en re tb pl ts c)).map fun row=>(c,row)).length < 100000:=by rw [List.length_append,List.length_map];omega
      refine ⟨_,rfl,?_,some (.shr (al row)),rfl⟩
      rw [q1]
      generalize (ac ++ (o.filter (isB en re tb pl ts c)).map fun row=>(c,row))=A at la tt
      rw [fT (by rw [tt,cc]),iY _ (d:=bvD (c,row)) (xs:=A.map bvD) rfl rfl (by rw [List.length_map];exact la),List.map_append]
      rfl
     | false =>
      refine ⟨_,rfl,?_,some (.shr (al row)),rfl⟩
      have q1:List.filter (isB en re tb pl ts c) (o ++ [row])=o.filter (isB en re tb pl ts c):=by
       rw [List.filter_append]
       rw [show List.filter (isB en re tb pl ts c) [row]=[] by rw [List.filter_cons,if_neg (by rw [cc];decide)];rfl,List.append_nil]
      rw [cj (by rw [tt,cc]),q1]) ⟨x6,by rw [show List.filter (isB en re tb pl ts c) []=[] from rfl,List.map_nil,List.append_nil]⟩
   refine ⟨[some (.shr (paD en re tb r)),some (.shr (al pl)),some (.shr (aS ts)),some (.shr (aU en re tb pl ts)),some (.own (ac.map bvD)),some (.shr (nD c)),x6],_,rfl,e2,some (.shr (nD c)),y6,?_⟩
   rw [List.flatMap_append,hac,List.flatMap_cons,List.flatMap_nil,List.append_nil]
   rfl) ⟨none,none,rfl⟩
 rw [bg e1]
 rfl
theorem xk (h:HallN en re tb) (g:Pic en re pl ts) {l:List (Nat × List Nat)} (hl:∀ x ∈ l,x ∈ eZ en re tb pl ts):d7 [hlD en re tb,paD en re tb r,.lst (l.map bvD)]=.val (.bl true):=by
 simp only [d7,hG]
 show fin (sq _ _ [some (.shr (hlD en re tb)),some (.shr (paD en re tb r)),some (.shr (.lst (l.map bvD))),none,none,none,none])=_
 have l3:=g.l3
 obtain ⟨ρ1,e1,x3,x4,x5,x6,rfl⟩:=dI (src:=fIt (vr 2)) (T:=tgN 3) (F:=bn (fIt (vr 2)) (tgN 4)
   (sq (asg 5 Ce)
   (sq (asg 6 Cd)
   (DL.iff (orB (tst (bin fne (una aA (vb 5)) (kd (.int 1)))) (orB (tst (bin fne (una aA (vb 6)) (kd (.int 1)))) (tst (bin fne (cal 2 dC xE) (bin fix (vb 6) (kd (.int 0)))))))
   (ret (kd (.bl false)))
   nxt)))) (f:=bvD) (l:=l) (ρ:=[some (.shr (hlD en re tb)),some (.shr (paD en re tb r)),some (.shr (.lst (l.map bvD))),none,none,none,none])
  (fun _ ρ=>∃ x3 x4 x5 x6:Option Slt,ρ=[some (.shr (hlD en re tb)),some (.shr (paD en re tb r)),some (.shr (.lst (l.map bvD))),x3,x4,x5,x6]) rfl (fun p one q e ρ hI=>by
   obtain ⟨x3,x4,x5,x6,rfl⟩:=hI
   obtain ⟨h1,k1,b1⟩:=mem_allB.mp (hl one (by rw [e];simp))
   obtain ⟨ρ2,e2,y4,y5,y6,rfl⟩:=dI (src:=fIt (vr 2)) (T:=tgN 4) (F:=sq (asg 5 Ce)
     (sq (asg 6 Cd)
     (DL.iff (orB (tst (bin fne (una aA (vb 5)) (kd (.int 1)))) (orB (tst (bin fne (una aA (vb 6)) (kd (.int 1)))) (tst (bin fne (cal 2 dC xE) (bin fix (vb 6) (kd (.int 0)))))))
     (ret (kd (.bl false)))
     nxt))) (f:=bvD) (l:=l) (ρ:=[some (.shr (hlD en re tb)),some (.shr (paD en re tb r)),some (.shr (.lst (l.map bvD))),some (.shr (bvD one)),x4,x5,x6])
    (fun _ ρ=>∃ y4 y5 y6:Option Slt,ρ=[some (.shr (hlD en re tb)),some (.shr (paD en re tb r)),some (.shr (.lst (l.map bvD))),some (.shr (bvD one)),y4,y5,y6]) rfl (fun o other u eo ρ hI=>by
     obtain ⟨y4,y5,y6,rfl⟩:=hI
     obtain ⟨h2,k2,b2⟩:=mem_allB.mp (hl other (by rw [eo];simp))
     have r1:=iM (tb:=tb) (en:=en) one.1 pl ts one.2 k1
     have r2:=iM (tb:=tb) (en:=en) other.1 pl ts other.2 k2
     obtain ⟨t,et⟩:=mX b2 h1 (mem_vws.mpr ⟨one.2,k1,rfl⟩)
     obtain ⟨w,ew⟩:=mX b1 h2 (mem_vws.mpr ⟨other.2,k2,rfl⟩)
     have ht:t ∈ wys en tb other.1 other.2 one.1 (bQ one.2):=by rw [et];simp
     have hw:w ∈ wys en tb one.1 one.2 other.1 (bQ other.2):=by rw [ew];simp
     have udt:=AK h h1 h2 b1 b2 k1 k2 ht hw
     have t1:=(mem_wys.mp ht).1
     have w1:=oP (r:=r) h (b:=one.1) (c:=other.1) r2.bd (by rw [r2.len];omega) (bQ one.2)
     have w2:=oP (r:=r) h (b:=other.1) (c:=one.1) r1.bd (by rw [r1.len];omega) (bQ other.2)
     rw [et,<- qR] at w1
     rw [ew,<- qR] at w2
     have s1:asg 5 Ce [some (.shr (hlD en re tb)),some (.shr (paD en re tb r)),some (.shr (.lst (l.map bvD))),some (.shr (bvD one)),some (.shr (bvD other)),y5,y6]=.val (.nx [some (.shr (hlD en re tb)),some (.shr (paD en re tb r)),some (.shr (.lst (l.map bvD))),some (.shr (bvD one)),some (.shr (bvD other)),some (.shr (al [t])),y6]):=cQ (zQ rfl (fF (nD other.1) [al other.2]) (fk (nD other.1) (al other.2) []) (fF (nD one.1) [al one.2]) (fk (nD one.1) (al one.2) []) w1)
     have s2:asg 6 Cd [some (.shr (hlD en re tb)),some (.shr (paD en re tb r)),some (.shr (.lst (l.map bvD))),some (.shr (bvD one)),some (.shr (bvD other)),some (.shr (al [t])),y6]=.val (.nx [some (.shr (hlD en re tb)),some (.shr (paD en re tb r)),some (.shr (.lst (l.map bvD))),some (.shr (bvD one)),some (.shr (bvD other)),some (.shr (al [t])),some (.shr (al [w]))]):=cQ (zQ rfl (fF (nD one.1) [al one.2]) (fk (nD one.1) (al one.2) []) (fF (nD other.1) [al other.2]) (fk (nD other.1) (al other.2) []) w2)
     have f5:bin fix (vb 5) (kd (.int 0)) [some (.shr (hlD en re tb)),some (.shr (paD en re tb r)),some (.shr (.lst (l.map bvD))),some (.shr (bvD one)),some (.shr (bvD other)),some (.shr (al [t])),some (.shr (al [w]))]=.val (nD t):=i7 (xs:=[nD t]) (i:=0) rfl
     have f6:bin fix (vb 6) (kd (.int 0)) [some (.shr (hlD en re tb)),some (.shr (paD en re tb r)),some (.shr (.lst (l.map bvD))),some (.shr (bvD one)),some (.shr (bvD other)),some (.shr (al [t])),some (.shr (al [w]))]=.val (nD w):=i7 (xs:=[nD w]) (i:=0) rfl
     have un:cal 2 dC xE [some (.shr (hlD en re tb)),some (.shr (paD en re tb r)),some (.shr (.lst (l.map bvD))),some (.shr (bvD one)),some (.shr (bvD other)),some (.shr (al [t])),some (.shr (al [w]))]=.val (nD w):=mR rfl f5 (by rw [xh h t1,udt];rfl)
     have c1:tst (bin fne (una aA (vb 5)) (kd (.int 1))) [some (.shr (hlD en re tb)),some (.shr (paD en re tb r)),some (.shr (.lst (l.map bvD))),some (.shr (bvD one)),some (.shr (bvD other)),some (.shr (al [t])),some (.shr (al [w]))]=.val false:=by
      show R.bind (fne (.int 1) (.int 1)) asB=_
      rw [lL];rfl
     have c2:tst (bin fne (una aA (vb 6)) (kd (.int 1))) [some (.shr (hlD en re tb)),some (.shr (paD en re tb r)),some (.shr (.lst (l.map bvD))),some (.shr (bvD one)),some (.shr (bvD other)),some (.shr (al [t])),some (.shr (al [w]))]=.val false:=by
      show R.bind (fne (.int 1) (.int 1)) asB=_
      rw [lL];rfl
     have c3:tst (bin fne (cal 2 dC xE) (bin fix (vb 6) (kd (.int 0)))) [some (.shr (hlD en re tb)),some (.shr (paD en re tb r)),some (.shr (.lst (l.map bvD))),some (.shr (bvD one)),some (.shr (bvD other)),some (.shr (al [t])),some (.shr (al [w]))]=.val false:=by
      rw [bx,aE,un,af,f6,af,im (qg w)];rfl
     have s3:DL.iff (orB (tst (bin fne (una aA (vb 5)) (kd (.int 1)))) (orB (tst (bin fne (una aA (vb 6)) (kd (.int 1)))) (tst (bin fne (cal 2 dC xE) (bin fix (vb 6) (kd (.int 0))))))) (ret (kd (.bl false))) nxt [some (.shr (hlD en re tb)),some (.shr (paD en re tb r)),some (.shr (.lst (l.map bvD))),some (.shr (bvD one)),some (.shr (bvD other)),some (.shr (al [t])),some (.shr (al [w]))]=.val (.nx [some (.shr (hlD en re tb)),some (.shr (paD en re tb r)),some (.shr (.lst (l.map bvD))),some (.shr (bvD one)),some (.shr (bvD other)),some (.shr (al [t])),some (.shr (al [w]))]):=cj (by rw [lq,c1,af,if_neg (by decide),lq,c2,af,if_neg (by decide),c3])
     exact ⟨_,_,rfl,Eq.trans (bg s1) (Eq.trans (bg s2) s3),_,_,_,rfl⟩) ⟨_,_,_,rfl⟩
   exact ⟨_,_,rfl,e2,_,_,_,_,rfl⟩) ⟨_,_,_,_,rfl⟩
 rw [bg e1]
 rfl
end
abbrev Ca:Rho->R (List D):=aC (vr 0) (aC (bin bH (kd (.int 30)) (vb 13)) aN)
theorem zI {α:Type} (f:α->D) (l:List α) (n:Nat):xq (l.map f) none (some (n:Int))=(l.take n).map f:=by
 have e:HT.sIx (l.map f).length (l.map f).length (some (n:Int))=min n l.length:=by
  unfold HT.sIx
  dsimp only
  rw [if_neg (by omega),Int.toNat_natCast,List.length_map]
 have e0:HT.sIx (l.map f).length 0 none=0:=rfl
 unfold xq
 rw [e,e0,List.drop_zero,Nat.sub_zero,<- List.map_take]
 congr 1
 by_cases h:n<=l.length
 ·rw [Nat.min_eq_left h]
 ·rw [Nat.min_eq_right (by omega),List.take_length,List.take_of_length_le (by omega)]
theorem tO {α:Type} {f:α->D} {l:List α} {F:Rho->R D} {ρ:Rho} (n:Nat) (h:F ρ=.val (.lst (l.map f))):fSl F oN (oS (kd (.int (n:Int)))) ρ=.val ((l.take n).map f):=by
 unfold fSl
 rw [h]
 show R.val (xq (l.map f) none (some (n:Int)))=_
 rw [zI]
theorem Bh {x:D} {xs:List D} (hx:pln 8 x=true) (hs:∀ y ∈ xs,pln 8 y=true) (hm:x ∈ xs):fh true x (.lst xs)=.val (.bl false):=by
 unfold fh
 dsimp only
 rw [if_pos ⟨cT hx,List.all_eq_true.mpr fun y hy=>cT (hs y hy)⟩,if_pos rfl]
 have:(xs.any fun y=>pyq 8 y x)=true:=List.any_eq_true.mpr ⟨x,hm,(gR 8 hx hx).mpr rfl⟩
 rw [this];rfl
theorem zd (v:List Int) (ls:List (List Int)):fh true (aG v) (aW ls)=.val (.bl (!decide (v ∈ ls))):=by
 unfold fh aW
 dsimp only
 rw [if_pos ⟨cT (fL v),List.all_eq_true.mpr fun y hy=>by
  obtain ⟨a,_,rfl⟩:=List.mem_map.mp hy
  exact cT (fL a)⟩,if_pos rfl]
 congr 3
 rw [Bool.eq_iff_iff,decide_eq_true_eq,List.any_eq_true]
 constructor
 ·rintro ⟨y,hy,e⟩
  obtain ⟨a,ha,rfl⟩:=List.mem_map.mp hy
  rw [qU,decide_eq_true_eq] at e
  rwa [<- e]
 ·intro h
  exact ⟨aG v,List.mem_map.mpr ⟨v,h,rfl⟩,by rw [qU];exact decide_eq_true rfl⟩
theorem zm (i:Int):dn [.int i]=.val (.bl true):=by
 simp only [dn,g8]
 rfl
section
variable {en:List (Nat × Nat)} {re:List Nat} {tb:List (List Int)} {pl:List Nat} {ts:List Tie} {r:List D} {ns:List Int}
theorem xO {b:Nat} {w:List Int} (hb:b < re.length) (h:w ∉ vws en tb pl ts b):thr en re tb pl ts b w=none:=by
 unfold thr
 cases e:bZ en re tb pl ts with
 | none=>rfl
 | some x =>
  obtain ⟨c,row⟩:=x
  have:=(mem_allB.mp (nt e)).2.2
  show (wys en tb c row b w).head?=none
  rw [xG this hb h];rfl
abbrev rW (ns:List Int) (P H:D) (pl:List Nat) (ts:List Tie) (told some_:D) (x7 x8 x9 x10 x11 x12:Option Slt):Rho :=
 [some (.shr (.scr ns)),some (.shr P),some (.shr H),some (.shr (al pl)),some (.shr (aS ts)),some (.shr told),some (.shr some_),x7,x8,x9,x10,x11,x12]
theorem zk (h:HallN en re tb) {told som:D} {x7 x8 x9 x10 x11 x12:Option Slt}:∃ l0:List Int,trS 9 (.l .s) (eLs (bo (bV (aC (bin (iI aV) (cal 2 av (aC (vr 0) (aC (kd (.int 35)) aN))) (kd (.int 5))) aN)) 1 (tgN 13) tT (bin (iI aV) (cal 2 av Ca) (una aA (bin fix (vb 1) (kd (.int 0))))))) (rW ns (paD en re tb r) (hlD en re tb) pl ts told som x7 x8 x9 x10 x11 x12)
  =.val (.nx (rW ns (paD en re tb r) (hlD en re tb) pl ts told som x7 x8 (some (.tre (.l .s) (aG l0))) x10 x11 x12)):=by
 have n1:=h.na1
 obtain ⟨m1,m2⟩:=fM (cf ns 35) (m:=5) (by decide)
 generalize (cf ns 35 % ((5:Nat):Int)).toNat=m at m1 m2
 have c:=gD (src:=bV (aC (bin (iI aV) (cal 2 av (aC (vr 0) (aC (kd (.int 35)) aN))) (kd (.int 5))) aN)) (n:=1) (i:=13) (m:=m) (e:=bin (iI aV) (cal 2 av Ca) (una aA (bin fix (vb 1) (kd (.int 0))))) (g:=fun j=>nD (cf ns (30 + j) % (en.length:Int)).toNat) (ρ:=rW ns (paD en re tb r) (hlD en re tb) pl ts told som x7 x8 x9 x10 x11 x12) (by
   rw [gT,cR,aE,mC (k:=35) rfl rfl rfl,af,e7,af,fv]
   refine Eq.trans (congrArg (fun z=>R.bind (R.bind z _) _) m2) ?_
   rw [af,jZ,af,af,dz (by omega)]) (by omega) (fun j _=>by
   have hc:cal 2 av Ca (List.set (rW ns (paD en re tb r) (hlD en re tb) pl ts told som x7 x8 x9 x10 x11 x12 ++ List.replicate 1 none) 13 (some (.shr (nD j))))=.val (.int (cf ns (30 + j))):=mC (z:=30 + (j:Int)) rfl rfl (by omega)
   have hv:una aA (bin fix (vb 1) (kd (.int 0))) (List.set (rW ns (paD en re tb r) (hlD en re tb) pl ts told som x7 x8 x9 x10 x11 x12 ++ List.replicate 1 none) 13 (some (.shr (nD j))))=.val (nD en.length):=by
    show R.bind (fix (paD en re tb r) (.int 0)) aA=_
    rw [paD,fF,af,jm]
   rw [aE,hc,af,hv,af,fv,(fM _ (by omega)).2])
 refine ⟨(List.range m).map fun j=>((cf ns (30 + j) % (en.length:Int)).toNat:Int),?_⟩
 refine uo ?_
 rw [bN,c]
 unfold aG
 rw [List.map_map]
 rfl
theorem zo (h:HallN en re tb) {told som:D} {x7 x8 x10 x11 x12:Option Slt} (l0:List Int):∃ (l1:List Int) (y10:Option Slt),DL.iff (pq (tst (bin (iI fgt) (una aA (vb 9)) (kd (.int 0)))) (tst (bin feq (bin (iI aV) (cal 2 av (aC (vr 0) (aC (kd (.int 36)) aN))) (kd (.int 3))) (kd (.int 1)))))
 (sq (asg 10 (una aA (bin fix (vb 1) (kd (.int 0)))))
 (asO (stP 9 .s (pN0 9) (una i_ (kd (.int 1))) (bin fix (eL (aC (una i_ (kd (.int 1))) (aC (vr 10) (aC (bin (iI mN) (kd (.int 10)) (kd (.int 29))) (aC (bin (iI tz) (kd (.int 0)) (vb 10)) aN))))) (bin (iI aV) (cal 2 av (aC (vr 0) (aC (kd (.int 37)) aN))) (kd (.int 4)))))))
 nxt (rW ns (paD en re tb r) (hlD en re tb) pl ts told som x7 x8 (some (.tre (.l .s) (aG l0))) x10 x11 x12)=.val (.nx (rW ns (paD en re tb r) (hlD en re tb) pl ts told som x7 x8 (some (.tre (.l .s) (aG l1))) y10 x11 x12)):=by
 have t1:tst (bin (iI fgt) (una aA (vb 9)) (kd (.int 0))) (rW ns (paD en re tb r) (hlD en re tb) pl ts told som x7 x8 (some (.tre (.l .s) (aG l0))) x10 x11 x12)=.val (decide ((0:Int) < l0.length)):=by
  have v:una aA (vb 9) (rW ns (paD en re tb r) (hlD en re tb) pl ts told som x7 x8 (some (.tre (.l .s) (aG l0))) x10 x11 x12)=.val (nD l0.length):=zg l0
  rw [bx,aE,v];rfl
 have t2:tst (bin feq (bin (iI aV) (cal 2 av (aC (vr 0) (aC (kd (.int 36)) aN))) (kd (.int 3))) (kd (.int 1))) (rW ns (paD en re tb r) (hlD en re tb) pl ts told som x7 x8 (some (.tre (.l .s) (aG l0))) x10 x11 x12)=.val (decide (cf ns 36 % 3=1)):=by
  rw [bx,aE,aE,mC (k:=36) rfl rfl rfl,af,e7,af,fv,fi (by decide),af,e7,af,lM];rfl
 by_cases c1:(0:Int) < l0.length
 ·by_cases c2:cf ns 36 % 3=1
  ·obtain ⟨m1,m2⟩:=fM (cf ns 37) (m:=4) (by decide)
   generalize (cf ns 37 % ((4:Nat):Int)).toNat=y at m1 m2
   have s1:asg 10 (una aA (bin fix (vb 1) (kd (.int 0)))) (rW ns (paD en re tb r) (hlD en re tb) pl ts told som x7 x8 (some (.tre (.l .s) (aG l0))) x10 x11 x12)=.val (.nx (rW ns (paD en re tb r) (hlD en re tb) pl ts told som x7 x8 (some (.tre (.l .s) (aG l0))) (some (.shr (nD en.length))) x11 x12)):=by
    refine cQ ?_
    show R.bind (fix (paD en re tb r) (.int 0)) aA=_
    rw [paD,fF,af,jm]
   obtain ⟨z,hz⟩:∃ z:Int,([.int (-1),nD en.length,.int (10 ^ 29),.int (0 - (en.length:Int))]:List D)[y]?=some (.int z):=match y,m1 with
    | 0,_=>⟨_,rfl⟩
    | 1,_=>⟨_,rfl⟩
    | 2,_=>⟨_,rfl⟩
    | 3,_=>⟨_,rfl⟩
   have el:eL (aC (una i_ (kd (.int 1))) (aC (vr 10) (aC (bin (iI mN) (kd (.int 10)) (kd (.int 29))) (aC (bin (iI tz) (kd (.int 0)) (vb 10)) aN)))) (rW ns (paD en re tb r) (hlD en re tb) pl ts told som x7 x8 (some (.tre (.l .s) (aG l0))) (some (.shr (nD en.length))) x11 x12)=.val (.lst [.int (-1),nD en.length,.int (10 ^ 29),.int (0 - (en.length:Int))]):=by
    have p:bin (iI mN) (kd (.int 10)) (kd (.int 29)) (rW ns (paD en re tb r) (hlD en re tb) pl ts told som x7 x8 (some (.tre (.l .s) (aG l0))) (some (.shr (nD en.length))) x11 x12)=.val (.int (10 ^ 29)):=by
     rw [aE,e7,af,e7,af,fv]
     unfold mN
     rw [if_pos (by decide)];rfl
    rw [Fi,cR,cR,cR,p]
    rfl
   have ix:bin (iI aV) (cal 2 av (aC (vr 0) (aC (kd (.int 37)) aN))) (kd (.int 4)) (rW ns (paD en re tb r) (hlD en re tb) pl ts told som x7 x8 (some (.tre (.l .s) (aG l0))) (some (.shr (nD en.length))) x11 x12)=.val (nD y):=by
    rw [aE,mC (k:=37) rfl rfl rfl,af,e7,af,fv]
    exact m2
   have vv:bin fix (eL (aC (una i_ (kd (.int 1))) (aC (vr 10) (aC (bin (iI mN) (kd (.int 10)) (kd (.int 29))) (aC (bin (iI tz) (kd (.int 0)) (vb 10)) aN))))) (bin (iI aV) (cal 2 av (aC (vr 0) (aC (kd (.int 37)) aN))) (kd (.int 4))) (rW ns (paD en re tb r) (hlD en re tb) pl ts told som x7 x8 (some (.tre (.l .s) (aG l0))) (some (.shr (nD en.length))) x11 x12)=.val (.int z):=by
    rw [aE,el,af,ix,af,i7 hz]
   refine ⟨l0.set (l0.length - 1) z,some (.shr (nD en.length)),?_⟩
   rw [fT (by rw [jU,t1,decide_eq_true c1,af,if_pos rfl,t2,decide_eq_true c2]),bg s1]
   have ng:una i_ (kd (.int 1)) (rW ns (paD en re tb r) (hlD en re tb) pl ts told som x7 x8 (some (.tre (.l .s) (aG l0))) (some (.shr (nD en.length))) x11 x12)=.val (.int (-1)):=Eq.trans rfl rfl
   have xn:ixN (l0.map D.int).length (-1)=some (l0.length - 1):=by
    unfold ixN
    rw [if_neg (by decide),if_pos (by rw [List.length_map];omega),List.length_map]
    congr 1
    omega
   have sf:stF (.int (-1)) (.int z) (l0.map D.int)=.val ((l0.set (l0.length - 1) z).map D.int):=by
    unfold stF
    dsimp only
    rw [xn,List.map_set]
   have up:Aa 9 .s [] (stF (.int (-1)) (.int z)) (rW ns (paD en re tb r) (hlD en re tb) pl ts told som x7 x8 (some (.tre (.l .s) (aG l0))) (some (.shr (nD en.length))) x11 x12)=.val (rW ns (paD en re tb r) (hlD en re tb) pl ts told som x7 x8 (some (.tre (.l .s) (aG (l0.set (l0.length - 1) z)))) (some (.shr (nD en.length))) x11 x12):=by
    show R.bind (stF (.int (-1)) (.int z) (l0.map D.int)) _=_
    rw [sf];rfl
   unfold asO stP
   rw [vv,af]
   rw [show pN0 9 (rW ns (paD en re tb r) (hlD en re tb) pl ts told som x7 x8 (some (.tre (.l .s) (aG l0))) (some (.shr (nD en.length))) x11 x12)=.val [] from rfl,af,ng,af,up];rfl
  ·exact ⟨l0,_,cj (by rw [jU,t1,decide_eq_true c1,af,if_pos rfl,t2,decide_eq_false c2])⟩
 ·exact ⟨l0,_,cj (by rw [jU,t1,decide_eq_false c1,af];rfl)⟩
end
abbrev zZ:Rho->R Out:=DL.iff (orB (gO (tst (cal 1 dn (aC (vr 12) aN)))) (tst (bin fne (eL (aC (vr 12) aN)) (cal 5 bO (aC (vr 1) (aC (bin fix (vb 5) (kd (.int 0))) (aC (bin fix (vb 5) (kd (.int 1))) (aC (vr 7) (aC (vr 11) aN)))))))))   (ret (kd (.bl false)))   nxt
abbrev Ee:Rho->R Out:=DL.iff (pq (tst (bin (iI fgt) (una aA (vb 9)) (kd (.int 0)))) (tst (bin feq (bin (iI aV) (cal 2 av (aC (vr 0) (aC (kd (.int 36)) aN))) (kd (.int 3))) (kd (.int 1)))))   (sq (asg 10 (una aA (bin fix (vb 1) (kd (.int 0)))))   (asO (stP 9 .s (pN0 9) (una i_ (kd (.int 1))) (bin fix (eL (aC (una i_ (kd (.int 1))) (aC (vr 10) (aC (bin (iI mN) (kd (.int 10)) (kd (.int 29))) (aC (bin (iI tz) (kd (.int 0)) (vb 10)) aN))))) (bin (iI aV) (cal 2 av (aC (vr 0) (aC (kd (.int 37)) aN))) (kd (.int 4)))))))   nxt
abbrev xC:Rho->R D:=cal 5 dm (aC (vr 2) (aC (eLs (fIt (vb 3))) (aC (eLs (fIt (vb 4))) (aC (vr 7) (aC (eLs (fIt (vb 11))) aN)))))
abbrev Fz:Rho->R (List D):=aC (vr 1) (aC (bin fix (vb 5) (kd (.int 0))) (aC (bin fix (vb 5) (kd (.int 1))) (aC (vr 7) (aC (vr 11) aN))))
abbrev Ed:Rho->R Out:=trS 9 (.l .s) (eLs (bo (bV (aC (bin (iI aV) (cal 2 av (aC (vr 0) (aC (kd (.int 35)) aN))) (kd (.int 5))) aN)) 1 (tgN 13) tT (bin (iI aV) (cal 2 av (aC (vr 0) (aC (bin bH (kd (.int 30)) (vb 13)) aN))) (una aA (bin fix (vb 1) (kd (.int 0)))))))
abbrev zY:Rho->R Out:=DL.iff (tst (una (fun d=>.val (eB d)) (vb 12)))   (ret (kd (.bl false)))   nxt
abbrev Ec:Rho->R Out:=DL.iff (pq (tst (bin (fh true) (vb 9) (vb 8))) (tst (una (fun d=>.val (eB d)) (flF (cal 5 dm (aC (vb 2) (aC (eLs (fIt (vb 3))) (aC (eLs (fIt (vb 4))) (aC (vb 7) (aC (va 9) aN))))))))))   (ret (kd (.bl false)))   nxt
abbrev Fy:Rho->R (List D):=aC (vb 2) (aC (eLs (fIt (vb 3))) (aC (eLs (fIt (vb 4))) (aC (vb 7) (aC (va 9) aN))))
abbrev xD:Rho->R D:=cal 4 bK (aC (vr 1) (aC (vr 3) (aC (vr 4) (aC (vr 7) aN))))
abbrev BQ:Rho->R (List D):=aC (una (dH 0) (vb 2)) (aC (una (dH 1) (vb 2)) (aC (una (dH 2) (vb 2)) aN))
section
variable {en:List (Nat × Nat)} {re:List Nat} {tb:List (List Int)} {pl:List Nat} {ts:List Tie} {r:List D} {ns:List Int}
theorem zn (h:HallN en re tb) (g:Pic en re pl ts) {b:Nat} (hb:b < re.length) {som:D} {x8 x9 x10 x12:Option Slt} {v:List Int} (hv:v ∈ vws en tb pl ts b):∃ y12,(sq (asg 12 xC)
 (DL.iff (tst (una (fun d=>.val (jW d)) (vb 5)))
 zY
 zZ)) (rW ns (paD en re tb r) (hlD en re tb) pl ts (bD (bZ en re tb pl ts)) som (some (.shr (nD b))) x8 x9 x10 (some (.shr (aG v))) x12)=.val (.nx (rW ns (paD en re tb r) (hlD en re tb) pl ts (bD (bZ en re tb pl ts)) som (some (.shr (nD b))) x8 x9 x10 (some (.shr (aG v))) y12)):=by
 have l3:=g.l3
 have s1:asg 12 xC (rW ns (paD en re tb r) (hlD en re tb) pl ts (bD (bZ en re tb pl ts)) som (some (.shr (nD b))) x8 x9 x10 (some (.shr (aG v))) x12)=.val (.nx (rW ns (paD en re tb r) (hlD en re tb) pl ts (bD (bZ en re tb pl ts)) som (some (.shr (nD b))) x8 x9 x10 (some (.shr (aG v))) (some (.shr (oD (thr en re tb pl ts b v)))))):=cQ (zQ (a:=hlD en re tb) (b:=al pl) (c:=aS ts) (e:=nD b) (f:=aG v) rfl rfl rfl rfl rfl (oO h g hb v))
 refine ⟨some (.shr (oD (thr en re tb pl ts b v))),?_⟩
 rw [bg s1]
 unfold thr
 cases eb:bZ en re tb pl ts with
 | none=>rfl
 | some x =>
  obtain ⟨c,row⟩:=x
  obtain ⟨hc,hk,hB⟩:=mem_allB.mp (nt eb)
  have hc:c < re.length:=hc
  have hk:row ∈ kws tb (btw en c) pl ts:=hk
  have hB:isB en re tb pl ts c row=true:=hB
  have rw_:=iM (tb:=tb) (en:=en) c pl ts row hk
  obtain ⟨a,ea⟩:=mX hB hb hv
  have lw:=oP (r:=r) h (b:=b) (c:=c) rw_.bd (by rw [rw_.len];omega) v
  dsimp only
  rw [ea] at lw ⊢
  have w1:tst (cal 1 dn (aC (vr 12) aN)) (rW ns (paD en re tb r) (hlD en re tb) pl ts (bD (some (c,row))) som (some (.shr (nD b))) x8 x9 x10 (some (.shr (aG v))) (some (.shr (oD [a].head?))))=.val true:=by
   rw [bx,Fm (a:=nD a) rfl (zm _)];rfl
  have w2:tst (bin fne (eL (aC (vr 12) aN)) (cal 5 bO Fz)) (rW ns (paD en re tb r) (hlD en re tb) pl ts (bD (some (c,row))) som (some (.shr (nD b))) x8 x9 x10 (some (.shr (aG v))) (some (.shr (oD [a].head?))))=.val false:=by
   rw [bx,aE,zQ (a:=paD en re tb r) (b:=nD c) (c:=al row) (e:=nD b) (f:=aG v) rfl (fF (nD c) [al row]) (fk (nD c) (al row) []) rfl rfl lw]
   show R.bind (fne (al [a]) (al [a])) asB=_
   rw [im (qY _)];rfl
  have fN:tst (una (fun d=>.val (jW d)) (vb 5)) (rW ns (paD en re tb r) (hlD en re tb) pl ts (bD (some (c,row))) som (some (.shr (nD b))) x8 x9 x10 (some (.shr (aG v))) (some (.shr (oD [a].head?))))=.val false:=Eq.trans rfl rfl
  rw [cM,fN,af,if_neg (by decide)]
  exact cj (by rw [lq,iH,w1,af,af,if_neg (by decide),w2])
theorem xi (h:HallN en re tb) (g:Pic en re pl ts) {b:Nat} (hb:b < re.length) {som:D} {x8 x9 x10 x11 x12:Option Slt}:∃ y8 y9 y10 y11 y12,(sq (asg 8 xD)
 (sq Ed
 (sq Ee
 (sq Ec
 (bn (fIt (eLs (fSl (vb 8) oN (oS (kd (.int 12)))))) (tgN 11)
 (sq (asg 12 xC)
 (DL.iff (tst (una (fun d=>.val (jW d)) (vb 5)))
 zY
 zZ))))))) (rW ns (paD en re tb r) (hlD en re tb) pl ts (bD (bZ en re tb pl ts)) som (some (.shr (nD b))) x8 x9 x10 x11 x12)=.val (.nx (rW ns (paD en re tb r) (hlD en re tb) pl ts (bD (bZ en re tb pl ts)) som (some (.shr (nD b))) y8 y9 y10 y11 y12)):=by
 have s1:asg 8 xD (rW ns (paD en re tb r) (hlD en re tb) pl ts (bD (bZ en re tb pl ts)) som (some (.shr (nD b))) x8 x9 x10 x11 x12)=.val (.nx (rW ns (paD en re tb r) (hlD en re tb) pl ts (bD (bZ en re tb pl ts)) som (some (.shr (nD b))) (some (.shr (aW (vws en tb pl ts b)))) x9 x10 x11 x12)):=cQ (xt (a:=paD en re tb r) (b:=al pl) (c:=aS ts) (e:=nD b) rfl rfl rfl rfl (by rw [oQ h g b,qQ];rfl))
 obtain ⟨l0,s2⟩:=zk (r:=r) (ns:=ns) (pl:=pl) (ts:=ts) (told:=bD (bZ en re tb pl ts)) (som:=som) (x7:=some (.shr (nD b))) (x8:=some (.shr (aW (vws en tb pl ts b)))) (x9:=x9) (x10:=x10) (x11:=x11) (x12:=x12) h
 obtain ⟨l1,y10,s3⟩:=zo (r:=r) (ns:=ns) (pl:=pl) (ts:=ts) (told:=bD (bZ en re tb pl ts)) (som:=som) (x7:=some (.shr (nD b))) (x8:=some (.shr (aW (vws en tb pl ts b)))) (x10:=x10) (x11:=x11) (x12:=x12) h l0
 have t1:tst (bin (fh true) (vb 9) (vb 8)) (rW ns (paD en re tb r) (hlD en re tb) pl ts (bD (bZ en re tb pl ts)) som (some (.shr (nD b))) (some (.shr (aW (vws en tb pl ts b)))) (some (.tre (.l .s) (aG l1))) y10 x11 x12)=.val (!decide (l1 ∈ vws en tb pl ts b)):=by
  show R.bind (fh true (aG l1) (aW (vws en tb pl ts b))) asB=_
  rw [zd];rfl
 have s4:DL.iff (pq (tst (bin (fh true) (vb 9) (vb 8))) (tst (una (fun d=>.val (eB d)) (flF (cal 5 dm Fy))))) (ret (kd (.bl false))) nxt (rW ns (paD en re tb r) (hlD en re tb) pl ts (bD (bZ en re tb pl ts)) som (some (.shr (nD b))) (some (.shr (aW (vws en tb pl ts b)))) (some (.tre (.l .s) (aG l1))) y10 x11 x12)=.val (.nx (rW ns (paD en re tb r) (hlD en re tb) pl ts (bD (bZ en re tb pl ts)) som (some (.shr (nD b))) (some (.shr (aW (vws en tb pl ts b)))) (some (.tre (.l .s) (aG l1))) y10 x11 x12)):=by
  refine cj ?_
  by_cases c:l1 ∈ vws en tb pl ts b
  ·rw [jU,t1,decide_eq_true c];rfl
  ·rw [jU,t1,decide_eq_false c,af,if_pos (by decide),bx,gY]
   unfold flF
   rw [zQ (a:=hlD en re tb) (b:=al pl) (c:=aS ts) (e:=nD b) (f:=aG l1) rfl rfl rfl rfl rfl (oO h g hb l1),xO hb c]
   rfl
 have src:fIt (eLs (fSl (vb 8) oN (oS (kd (.int 12))))) (rW ns (paD en re tb r) (hlD en re tb) pl ts (bD (bZ en re tb pl ts)) som (some (.shr (nD b))) (some (.shr (aW (vws en tb pl ts b)))) (some (.tre (.l .s) (aG l1))) y10 x11 x12)=.val (((vws en tb pl ts b).take 12).map aG):=by
  have:=tO (f:=aG) (l:=vws en tb pl ts b) (F:=vb 8) (ρ:=rW ns (paD en re tb r) (hlD en re tb) pl ts (bD (bZ en re tb pl ts)) som (some (.shr (nD b))) (some (.shr (aW (vws en tb pl ts b)))) (some (.tre (.l .s) (aG l1))) y10 x11 x12) 12 rfl
  rw [iQ,bN]
  refine Eq.trans (congrArg (fun z=>R.bind (R.bind z _) _) this) rfl
 obtain ⟨ρ1,e1,z11,z12,rfl⟩:=dI (T:=tgN 11) (F:=(sq (asg 12 xC)
 (DL.iff (tst (una (fun d=>.val (jW d)) (vb 5)))
 zY
 zZ))) (fun _ ρ=>∃ z11 z12:Option Slt,ρ=rW ns (paD en re tb r) (hlD en re tb) pl ts (bD (bZ en re tb pl ts)) som (some (.shr (nD b))) (some (.shr (aW (vws en tb pl ts b)))) (some (.tre (.l .s) (aG l1))) y10 z11 z12) src (fun p v q e ρ hI=>by
   obtain ⟨z11,z12,rfl⟩:=hI
   have hv:v ∈ vws en tb pl ts b:=List.mem_of_mem_take (by rw [e];simp)
   obtain ⟨y12,ey⟩:=zn (r:=r) (ns:=ns) h g hb (som:=som) (x8:=some (.shr (aW (vws en tb pl ts b)))) (x9:=some (.tre (.l .s) (aG l1))) (x10:=y10) (x12:=z12) hv
   exact ⟨_,_,rfl,ey,_,_,rfl⟩) ⟨x11,x12,rfl⟩
 refine ⟨some (.shr (aW (vws en tb pl ts b))),some (.tre (.l .s) (aG l1)),y10,z11,z12,?_⟩
 rw [bg s1,bg s2,bg s3,bg s4]
 exact e1
end
theorem law_val (ns:List Int) (hl:ns.length<=63):o3 [.scr ns]=.val (.bl true):=by
 simp only [o3,rY]
 show fin (sq _ _ [some (.shr (.scr ns)),none,none,none,none,none,none,none,none,none,none,none,none])=_
 obtain ⟨sz,kn,g,hp⟩:=zr ns 0
 have h:=vY g
 have hh:dX [paD (jb kn) (iD sz kn) (ib kn) [.lst (kn.map az),al sz]]=.val (hlD (jb kn) (iD sz kn) (ib kn)):=Bx g _
 have hp:dq [.scr ns,.int 0]=.val (paD (jb kn) (iD sz kn) (ib kn) [.lst (kn.map az),al sz]):=hp
 generalize [D.lst (kn.map az),al sz]=r at hh hp
 generalize jb kn=en at h hh hp
 generalize iD sz kn=re at h hh hp
 generalize ib kn=tb at h hh hp
 obtain ⟨pl,ts,gp,pic⟩:=tQ (r:=r) h ns 4
 have pic:ce [.scr ns,.int 4,paD en re tb r]=.val (.tup [al pl,aS ts]):=pic
 have n6:=h.nb6
 have s1:asg 1 (cal 2 dq (aC (vr 0) (aC (kd (.int 0)) aN))) [some (.shr (.scr ns)),none,none,none,none,none,none,none,none,none,none,none,none]=.val (.nx [some (.shr (.scr ns)),some (.shr (paD en re tb r)),none,none,none,none,none,none,none,none,none,none,none]):=cQ (mR rfl rfl hp)
 have s2:asg 2 (cal 1 dX (aC (vr 1) aN)) [some (.shr (.scr ns)),some (.shr (paD en re tb r)),none,none,none,none,none,none,none,none,none,none,none]=.val (.nx [some (.shr (.scr ns)),some (.shr (paD en re tb r)),some (.shr (hlD en re tb)),none,none,none,none,none,none,none,none,none,none]):=cQ (Fm rfl hh)
 have s3:asT (tg2 3 4) (cal 3 ce (aC (vr 0) (aC (kd (.int 4)) (aC (vr 1) aN)))) [some (.shr (.scr ns)),some (.shr (paD en re tb r)),some (.shr (hlD en re tb)),none,none,none,none,none,none,none,none,none,none]=.val (.nx [some (.shr (.scr ns)),some (.shr (paD en re tb r)),some (.shr (hlD en re tb)),some (.shr (al pl)),some (.shr (aS ts)),none,none,none,none,none,none,none,none]):=by
  unfold asT
  rw [ip rfl rfl rfl pic];rfl
 have s4:asg 5 (cal 3 gX (aC (vr 2) (aC (eLs (fIt (vb 3))) (aC (eLs (fIt (vb 4))) aN)))) [some (.shr (.scr ns)),some (.shr (paD en re tb r)),some (.shr (hlD en re tb)),some (.shr (al pl)),some (.shr (aS ts)),none,none,none,none,none,none,none,none]=.val (.nx [some (.shr (.scr ns)),some (.shr (paD en re tb r)),some (.shr (hlD en re tb)),some (.shr (al pl)),some (.shr (aS ts)),some (.shr (bD (bZ en re tb pl ts))),none,none,none,none,none,none,none]):=cQ (ip (a:=hlD en re tb) (b:=al pl) (c:=aS ts) rfl rfl rfl (wb h gp))
 have s5:asg 6 (cal 3 cr (aC (vr 1) (aC (vr 3) (aC (vr 4) aN)))) [some (.shr (.scr ns)),some (.shr (paD en re tb r)),some (.shr (hlD en re tb)),some (.shr (al pl)),some (.shr (aS ts)),some (.shr (bD (bZ en re tb pl ts))),none,none,none,none,none,none,none]=.val (.nx (rW ns (paD en re tb r) (hlD en re tb) pl ts (bD (bZ en re tb pl ts)) (.lst ((eZ en re tb pl ts).map bvD)) none none none none none none)):=cQ (ip (a:=paD en re tb r) (b:=al pl) (c:=aS ts) rfl rfl rfl (rO h gp))
 have sl:=tO (f:=bvD) (l:=eZ en re tb pl ts) (F:=vb 6) (ρ:=rW ns (paD en re tb r) (hlD en re tb) pl ts (bD (bZ en re tb pl ts)) (.lst ((eZ en re tb pl ts).map bvD)) none none none none none none) 6 rfl
 have sl:eLs (fSl (vb 6) oN (oS (kd (.int 6)))) (rW ns (paD en re tb r) (hlD en re tb) pl ts (bD (bZ en re tb pl ts)) (.lst ((eZ en re tb pl ts).map bvD)) none none none none none none)=.val (.lst (((eZ en re tb pl ts).take 6).map bvD)):=by
  rw [bN]
  exact congrArg (fun z=>R.bind z _) sl
 have s6:DL.iff (gO (tst (cal 3 d7 (aC (vr 2) (aC (vr 1) (aC (eLs (fSl (vb 6) oN (oS (kd (.int 6))))) aN)))))) (ret (kd (.bl false))) nxt (rW ns (paD en re tb r) (hlD en re tb) pl ts (bD (bZ en re tb pl ts)) (.lst ((eZ en re tb pl ts).map bvD)) none none none none none none)=.val (.nx (rW ns (paD en re tb r) (hlD en re tb) pl ts (bD (bZ en re tb pl ts)) (.lst ((eZ en re tb pl ts).map bvD)) none none none none none none)):=by
  refine cj ?_
  rw [iH,bx,ip (a:=hlD en re tb) (b:=paD en re tb r) rfl rfl sl (xk h gp fun x hx=>List.mem_of_mem_take hx)];rfl
 have s7:DL.iff (pq (tst (una (fun d=>.val (eB d)) (vb 5))) (tst (bin (fh true) (eT (aC (bin fix (vb 5) (kd (.int 0))) (aC (bin fix (vb 5) (kd (.int 1))) aN))) (vb 6)))) (ret (kd (.bl false))) nxt (rW ns (paD en re tb r) (hlD en re tb) pl ts (bD (bZ en re tb pl ts)) (.lst ((eZ en re tb pl ts).map bvD)) none none none none none none)=.val (.nx (rW ns (paD en re tb r) (hlD en re tb) pl ts (bD (bZ en re tb pl ts)) (.lst ((eZ en re tb pl ts).map bvD)) none none none none none none)):=by
  refine cj ?_
  cases eb:bZ en re tb pl ts with
  | none=>rfl
  | some x =>
   obtain ⟨c,row⟩:=x
   have hm:=nt eb
   have e1:tst (una (fun d=>.val (eB d)) (vb 5)) (rW ns (paD en re tb r) (hlD en re tb) pl ts (bD (some (c,row))) (.lst ((eZ en re tb pl ts).map bvD)) none none none none none none)=.val true:=Eq.trans rfl rfl
   rw [jU,e1,af,if_pos rfl,bx,aE]
   have f0:bin fix (vb 5) (kd (.int 0)) (rW ns (paD en re tb r) (hlD en re tb) pl ts (bD (some (c,row))) (.lst ((eZ en re tb pl ts).map bvD)) none none none none none none)=.val (nD c):=fF (nD c) [al row]
   have f1:bin fix (vb 5) (kd (.int 1)) (rW ns (paD en re tb r) (hlD en re tb) pl ts (bD (some (c,row))) (.lst ((eZ en re tb pl ts).map bvD)) none none none none none none)=.val (al row):=fk (nD c) (al row) []
   rw [oZ,cR,f0,af,cR,f1]
   show R.bind (fh true (bvD (c,row)) (.lst ((eZ en re tb pl ts).map bvD))) asB=_
   have pb:∀ x:Nat × List Nat,pln 8 (bvD x)=true:=fun x=>kC (by simp [qg];exact qY _)
   rw [Bh (pb _) (fun y hy=>by
    obtain ⟨x,_,rfl⟩:=List.mem_map.mp hy
    exact pb x) (List.mem_map.mpr ⟨_,hm,rfl⟩)];rfl
 rw [bg s1,bg s2,bg s3,bg s4,bg s5,bg s6,bg s7]
 have src:bV (aC (una aA (bin fix (vb 1) (kd (.int 1)))) aN) (rW ns (paD en re tb r) (hlD en re tb) pl ts (bD (bZ en re tb pl ts)) (.lst ((eZ en re tb pl ts).map bvD)) none none none none none none)=.val (rng 0 re.length):=by
  have v:una aA (bin fix (vb 1) (kd (.int 1))) (rW ns (paD en re tb r) (hlD en re tb) pl ts (bD (bZ en re tb pl ts)) (.lst ((eZ en re tb pl ts).map bvD)) none none none none none none)=.val (nD re.length):=by
   show R.bind (fix (paD en re tb r) (.int 1)) aA=_
   rw [paD,fk,af,dA]
  rw [gT,cR,v,af,jZ,af,af,dz (by omega)]
 rw [be,cz,src,af]
 obtain ⟨ρ1,e1,y7,y8,y9,y10,y11,y12,rfl⟩:=jl (i:=7) (n:=re.length) (F:=(sq (asg 8 xD)
 (sq Ed
 (sq Ee
 (sq Ec
 (bn (fIt (eLs (fSl (vb 8) oN (oS (kd (.int 12)))))) (tgN 11)
 (sq (asg 12 xC)
 (DL.iff (tst (una (fun d=>.val (jW d)) (vb 5)))
 zY
 zZ)))))))) (ρ:=rW ns (paD en re tb r) (hlD en re tb) pl ts (bD (bZ en re tb pl ts)) (.lst ((eZ en re tb pl ts).map bvD)) none none none none none none)
  (fun _ ρ=>∃ y7 y8 y9 y10 y11 y12:Option Slt,ρ=rW ns (paD en re tb r) (hlD en re tb) pl ts (bD (bZ en re tb pl ts)) (.lst ((eZ en re tb pl ts).map bvD)) y7 y8 y9 y10 y11 y12) (fun b ρ hb hI=>by
   obtain ⟨y7,y8,y9,y10,y11,y12,rfl⟩:=hI
   obtain ⟨z8,z9,z10,z11,z12,ez⟩:=xi (r:=r) (ns:=ns) h gp hb (som:=.lst ((eZ en re tb pl ts).map bvD)) (x8:=y8) (x9:=y9) (x10:=y10) (x11:=y11) (x12:=y12)
   exact ⟨_,ez,_,_,_,_,_,_,rfl⟩) ⟨_,_,_,_,_,_,rfl⟩
 rw [e1]
 have f2:bin fix (vb 1) (kd (.int 2)) (rW ns (paD en re tb r) (hlD en re tb) pl ts (bD (bZ en re tb pl ts)) (.lst ((eZ en re tb pl ts).map bvD)) y7 y8 y9 y10 y11 y12)=.val (aW tb):=oK _ _ _ _
 have f1:bin fix (vb 1) (kd (.int 1)) (rW ns (paD en re tb r) (hlD en re tb) pl ts (bD (bZ en re tb pl ts)) (.lst ((eZ en re tb pl ts).map bvD)) y7 y8 y9 y10 y11 y12)=.val (al re):=fk _ _ _
 have f0:bin fix (vb 1) (kd (.int 0)) (rW ns (paD en re tb r) (hlD en re tb) pl ts (bD (bZ en re tb pl ts)) (.lst ((eZ en re tb pl ts).map bvD)) y7 y8 y9 y10 y11 y12)=.val (cS en):=fF _ _
 have g2:eT (aC (bin fix (vb 1) (kd (.int 0))) (aC (bin fix (vb 1) (kd (.int 1))) (aC (bin fix (vb 1) (kd (.int 2))) aN))) (rW ns (paD en re tb r) (hlD en re tb) pl ts (bD (bZ en re tb pl ts)) (.lst ((eZ en re tb pl ts).map bvD)) y7 y8 y9 y10 y11 y12)=.val (.tup [cS en,al re,aW tb]):=by
  rw [oZ,cR,f0,af,cR,f1,af,cR,f2];rfl
 have g1:eT BQ (rW ns (paD en re tb r) (hlD en re tb) pl ts (bD (bZ en re tb pl ts)) (.lst ((eZ en re tb pl ts).map bvD)) y7 y8 y9 y10 y11 y12)=.val (.tup [cS en,al re,aW tb]):=Eq.trans rfl rfl
 show fin (ret (bin feq (eT BQ) (eT (aC (bin fix (vb 1) (kd (.int 0))) (aC (bin fix (vb 1) (kd (.int 1))) (aC (bin fix (vb 1) (kd (.int 2))) aN))))) (rW ns (paD en re tb r) (hlD en re tb) pl ts (bD (bZ en re tb pl ts)) (.lst ((eZ en re tb pl ts).map bvD)) y7 y8 y9 y10 y11 y12))=_
 have pp:pln 9 (.tup [cS en,al re,aW tb])=true:=by
  refine kC ?_
  rw [List.all_cons,List.all_cons,List.all_cons,Ay,qY,m9];rfl
 rw [eW,aE,g1,af,g2,af,kO pp]
 rfl
end DL
namespace DL
open PySem PySem.Spec PyProof.Rows L2
theorem yO {n:Nat} {us:List Value} (h:us.length=n + 1):∃ y l,us=y :: l/\l.length=n:=by
 cases us with
 | nil=>cases h
 | cons y l=>exact ⟨y,l,rfl,Nat.succ.inj h⟩
theorem uQ {us:List Value} (h:us.length=1):∃ y0,us=[y0]:=by
 obtain ⟨y,l,e,h⟩:=yO h
 exact ⟨y,by rw [e,List.eq_nil_of_length_eq_zero h]⟩
theorem j7 {us:List Value} (h:us.length=2):∃ y0 y1,us=[y0,y1]:=by
 obtain ⟨y,l,rfl,g⟩:=yO h
 obtain ⟨y1,rfl⟩:=uQ g
 exact ⟨y,y1,rfl⟩
theorem j6 {us:List Value} (h:us.length=3):∃ y0 y1 y2,us=[y0,y1,y2]:=by
 obtain ⟨y,l,rfl,g⟩:=yO h
 obtain ⟨y1,y2,rfl⟩:=j7 g
 exact ⟨y,y1,y2,rfl⟩
theorem rD {us:List Value} (h:us.length=4):∃ y0 y1 y2 y3,us=[y0,y1,y2,y3]:=by
 obtain ⟨y,l,rfl,g⟩:=yO h
 obtain ⟨y1,y2,y3,rfl⟩:=j6 g
 exact ⟨y,y1,y2,y3,rfl⟩
theorem EW {us:List Value} (h:us.length=5):∃ y0 y1 y2 y3 y4,us=[y0,y1,y2,y3,y4]:=by
 obtain ⟨y,l,rfl,g⟩:=yO h
 obtain ⟨y1,y2,y3,y4,rfl⟩:=rD g
 exact ⟨y,y1,y2,y3,y4,rfl⟩
def vw (K:Frag):Sp:=fun vs H Q _=>∃ (a:Addr) (ns:List Int),vs=[.ref a]/\SqL K H a (ns.map V.int)/\ns.length<=63/\∀ H',Q (.bl true) H'
theorem A8 {P:Program} {w:World} {K:Frag} {mg:Str->Option Value} {base:Heap} {C:Addr} {k:Nat} {f:Addr} {fd:FuncData} (hval:∀ ns:List Int,ns.length<=63->o3 [.scr ns]=.val (.bl true)) (F:FnOk P w K mg base CX0 k f fd ["script"] (spD K C 1 o3)):FnOk P w K mg base CX0 k f fd ["script"] (vw K) :=
 F.imp fun vs H Q E ⟨a,ns,e,hS,hl,q⟩=>by
  subst e
  refine ⟨rfl,[.scr ns],.cons (.scr hS) .nil,?_⟩
  rw [hval ns hl]
  intro v H' _ hv
  cases hv
  exact q H'
abbrev NI (K:Frag) (x:Str) (f:Addr):Prop:=nsIn K mainGlobals x=some (some (.ref f))
abbrev NN (K:Frag) (x:Str):Prop:=nsIn K mainGlobals x=some none
abbrev LK (K:Frag) (f:Addr) (n q:Str) (s:Stmt) (oc:Value) (od:Option Addr) (kV dc pm:Value) (an:Option Addr) (cd ct:Value) (sl:Array (Option Value)):Prop:=K.lookup f=some ⟨oc,od,.func (fnOf n q (jS s) (aF s) (ai s) .none kV dc pm an cd ct),sl⟩
abbrev CI (K:Frag) (c:Value) (n:Str):Prop:=codeIn K c n=true
abbrev KP (K:Frag) (f:Addr):Prop:=keepIn K (.ref f)=true
abbrev KO (K:Frag) (a b:Value) (c:Bool):Prop:=kitOne K a b=some c
set_option autoImplicit true in
theorem all_mk {l : PySem.W.OpenLaw} {w : World} {K : Frag} {h : Heap} {mg : Str -> Option Value} {fa C f1 f2 f3 f4 f5 f6 f7 f8 f9 f10 f11 f12 f13 f14 f15 f16 f17 f18 f19 f20 f21 f22 f23 f24 f25 f26 f27 f28 f29 f30 f31 f32 f33 f34 f35 f36 f37 f38 f39 f40 f41 f42 : Addr} {tb ta tMOST_PLACES tMOST_TIES : Tok} (hval : ∀ ns : List Int, ns.length <= 63 -> o3 [.scr ns] = .val (.bl true)) (X : K.In h) (G : h.Ns mainGlobals mg) (hfa : mg "law" = some (.ref fa))
    (aC : NI K "Hall" C)
    (a1 : NI K "_law_cell" f1) (l1 : LK K f1 "_law_cell" "_law_cell" eU oc1 od1 kV1 dc1 pm1 an1 cd1 ct1 sl1) (c1 : CI K cd1 "_law_cell") (k1 : KP K f1)
    (a2 : NI K "_law_sizes" f2) (l2 : LK K f2 "_law_sizes" "_law_sizes" dO oc2 od2 kV2 dc2 pm2 an2 cd2 ct2 sl2) (c2 : CI K cd2 "_law_sizes") (k2 : KP K f2)
    (a3 : NI K "_law_next" f3) (l3 : LK K f3 "_law_next" "_law_next" eR oc3 od3 kV3 dc3 pm3 an3 cd3 ct3 sl3) (c3 : CI K cd3 "_law_next") (k3 : KP K f3)
    (a4 : NI K "_law_closed" f4) (l4 : LK K f4 "_law_closed" "_law_closed" df oc4 od4 kV4 dc4 pm4 an4 cd4 ct4 sl4) (c4 : CI K cd4 "_law_closed") (k4 : KP K f4)
    (a5 : NI K "_law_arrows" f5) (l5 : LK K f5 "_law_arrows" "_law_arrows" dg oc5 od5 kV5 dc5 pm5 an5 cd5 ct5 sl5) (c5 : CI K cd5 "_law_arrows") (k5 : KP K f5)
    (a6 : NI K "_law_parts" f6) (l6 : LK K f6 "_law_parts" "_law_parts" dP oc6 od6 kV6 dc6 pm6 an6 cd6 ct6 sl6) (c6 : CI K cd6 "_law_parts") (k6 : KP K f6)
    (a7 : NI K "check_counts" f7) (l7 : LK K f7 "check_counts" "check_counts" cb oc7 od7 kV7 dc7 pm7 an7 cd7 ct7 sl7) (c7 : CI K cd7 "check_counts") (k7 : KP K f7)
    (a8 : NI K "is_below" f8) (l8 : LK K f8 "is_below" "is_below" eV oc8 od8 kV8 dc8 pm8 an8 cd8 ct8 sl8) (c8 : CI K cd8 "is_below") (k8 : KP K f8)
    (a9 : NI K "check_ends" f9) (l9 : LK K f9 "check_ends" "check_ends" di oc9 od9 kV9 dc9 pm9 an9 cd9 ct9 sl9) (c9 : CI K cd9 "check_ends") (k9 : KP K f9)
    (a10 : NI K "check_rests" f10) (l10 : LK K f10 "check_rests" "check_rests" cI oc10 od10 kV10 dc10 pm10 an10 cd10 ct10 sl10) (c10 : CI K cd10 "check_rests") (k10 : KP K f10)
    (a11 : NI K "check_form" f11) (l11 : LK K f11 "check_form" "check_form" dh oc11 od11 kV11 dc11 pm11 an11 cd11 ct11 sl11) (c11 : CI K cd11 "check_form") (k11 : KP K f11)
    (a12 : NI K "check_entry" f12) (l12 : LK K f12 "check_entry" "check_entry" cJ oc12 od12 kV12 dc12 pm12 an12 cd12 ct12 sl12) (c12 : CI K cd12 "check_entry") (k12 : KP K f12)
    (a13 : NI K "check_table" f13) (l13 : LK K f13 "check_table" "check_table" cH oc13 od13 kV13 dc13 pm13 an13 cd13 ct13 sl13) (c13 : CI K cd13 "check_table") (k13 : KP K f13)
    (a14 : NI K "check_beside_rests" f14) (l14 : LK K f14 "check_beside_rests" "check_beside_rests" bq oc14 od14 kV14 dc14 pm14 an14 cd14 ct14 sl14) (c14 : CI K cd14 "check_beside_rests") (k14 : KP K f14)
    (a15 : NI K "check_thirds" f15) (l15 : LK K f15 "check_thirds" "check_thirds" ca oc15 od15 kV15 dc15 pm15 an15 cd15 ct15 sl15) (c15 : CI K cd15 "check_thirds") (k15 : KP K f15)
    (a16 : NI K "check_threes" f16) (l16 : LK K f16 "check_threes" "check_threes" b_ oc16 od16 kV16 dc16 pm16 an16 cd16 ct16 sl16) (c16 : CI K cd16 "check_threes") (k16 : KP K f16)
    (a17 : findIn K (.ref C) "__init__" = some (some (.ref f17))) (i17 : PySem.W.isFn K (.ref f17) = true) (l17 : LK K f17 "__init__" "Hall.__init__" bJ oc17 od17 kV17 dc17 pm17 an17 cd17 ct17 sl17) (c17 : CI K cd17 "Hall.__init__") (k17 : KP K f17)
    (a18 : NI K "_law_hall" f18) (l18 : LK K f18 "_law_hall" "_law_hall" eS oc18 od18 kV18 dc18 pm18 an18 cd18 ct18 sl18) (c18 : CI K cd18 "_law_hall") (k18 : KP K f18)
    (a19 : NI K "_law_between" f19) (l19 : LK K f19 "_law_between" "_law_between" cF oc19 od19 kV19 dc19 pm19 an19 cd19 ct19 sl19) (c19 : CI K cd19 "_law_between") (k19 : KP K f19)
    (a20 : NI K "_law_picture" f20) (l20 : LK K f20 "_law_picture" "_law_picture" cD oc20 od20 kV20 dc20 pm20 an20 cd20 ct20 sl20) (c20 : CI K cd20 "_law_picture") (k20 : KP K f20)
    (a21 : NI K "is_tie" f21) (l21 : LK K f21 "is_tie" "is_tie" gv oc21 od21 kV21 dc21 pm21 an21 cd21 ct21 sl21) (c21 : CI K cd21 "is_tie") (k21 : KP K f21)
    (a22 : NI K "check_picture" f22) (l22 : LK K f22 "check_picture" "check_picture" bT oc22 od22 kV22 dc22 pm22 an22 cd22 ct22 sl22) (c22 : CI K cd22 "check_picture") (k22 : KP K f22)
    (a23 : NI K "keeps_tie" f23) (l23 : LK K f23 "keeps_tie" "keeps_tie" dR oc23 od23 kV23 dc23 pm23 an23 cd23 ct23 sl23) (c23 : CI K cd23 "keeps_tie") (k23 : KP K f23)
    (a24 : NI K "grown" f24) (l24 : LK K f24 "grown" "grown" iB oc24 od24 kV24 dc24 pm24 an24 cd24 ct24 sl24) (c24 : CI K cd24 "grown") (k24 : KP K f24)
    (a25 : NI K "check_box" f25) (l25 : LK K f25 "check_box" "check_box" dS oc25 od25 kV25 dc25 pm25 an25 cd25 ct25 sl25) (c25 : CI K cd25 "check_box") (k25 : KP K f25)
    (a26 : NI K "between" f26) (l26 : LK K f26 "between" "between" fC oc26 od26 kV26 dc26 pm26 an26 cd26 ct26 sl26) (c26 : CI K cd26 "between") (k26 : KP K f26)
    (a27 : NI K "views_from" f27) (l27 : LK K f27 "views_from" "views_from" db oc27 od27 kV27 dc27 pm27 an27 cd27 ct27 sl27) (c27 : CI K cd27 "views_from") (k27 : KP K f27)
    (a28 : NI K "has_as_many" f28) (l28 : LK K f28 "has_as_many" "has_as_many" cG oc28 od28 kV28 dc28 pm28 an28 cd28 ct28 sl28) (c28 : CI K cd28 "has_as_many") (k28 : KP K f28)
    (a29 : NI K "made_behind" f29) (l29 : LK K f29 "made_behind" "made_behind" cC oc29 od29 kV29 dc29 pm29 an29 cd29 ct29 sl29) (c29 : CI K cd29 "made_behind") (k29 : KP K f29)
    (a30 : NI K "is_best" f30) (l30 : LK K f30 "is_best" "is_best" fB oc30 od30 kV30 dc30 pm30 an30 cd30 ct30 sl30) (c30 : CI K cd30 "is_best") (k30 : KP K f30)
    (a31 : NI K "best" f31) (l31 : LK K f31 "best" "best" j3 oc31 od31 kV31 dc31 pm31 an31 cd31 ct31 sl31) (c31 : CI K cd31 "best") (k31 : KP K f31)
    (a32 : NI K "_law_views" f32) (l32 : LK K f32 "_law_views" "_law_views" dN oc32 od32 kV32 dc32 pm32 an32 cd32 ct32 sl32) (c32 : CI K cd32 "_law_views") (k32 : KP K f32)
    (a33 : NI K "_law_is_best" f33) (l33 : LK K f33 "_law_is_best" "_law_is_best" cE oc33 od33 kV33 dc33 pm33 an33 cd33 ct33 sl33) (c33 : CI K cd33 "_law_is_best") (k33 : KP K f33)
    (a34 : NI K "_law_all_best" f34) (l34 : LK K f34 "_law_all_best" "_law_all_best" b0 oc34 od34 kV34 dc34 pm34 an34 cd34 ct34 sl34) (c34 : CI K cd34 "_law_all_best") (k34 : KP K f34)
    (a35 : NI K "_law_ways" f35) (l35 : LK K f35 "_law_ways" "_law_ways" eQ oc35 od35 kV35 dc35 pm35 an35 cd35 ct35 sl35) (c35 : CI K cd35 "_law_ways") (k35 : KP K f35)
    (a36 : NI K "check_arrow" f36) (l36 : LK K f36 "check_arrow" "check_arrow" cK oc36 od36 kV36 dc36 pm36 an36 cd36 ct36 sl36) (c36 : CI K cd36 "check_arrow") (k36 : KP K f36)
    (a37 : NI K "undo_each_other" f37) (l37 : LK K f37 "undo_each_other" "undo_each_other" bE oc37 od37 kV37 dc37 pm37 an37 cd37 ct37 sl37) (c37 : CI K cd37 "undo_each_other") (k37 : KP K f37)
    (a38 : NI K "undone" f38) (l38 : LK K f38 "undone" "undone" gu oc38 od38 kV38 dc38 pm38 an38 cd38 ct38 sl38) (c38 : CI K cd38 "undone") (k38 : KP K f38)
    (a39 : NI K "_law_pairs" f39) (l39 : LK K f39 "_law_pairs" "_law_pairs" dQ oc39 od39 kV39 dc39 pm39 an39 cd39 ct39 sl39) (c39 : CI K cd39 "_law_pairs") (k39 : KP K f39)
    (a40 : NI K "through" f40) (l40 : LK K f40 "through" "through" fA oc40 od40 kV40 dc40 pm40 an40 cd40 ct40 sl40) (c40 : CI K cd40 "through") (k40 : KP K f40)
    (a41 : NI K "_law_whole" f41) (l41 : LK K f41 "_law_whole" "_law_whole" dM oc41 od41 kV41 dc41 pm41 an41 cd41 ct41 sl41) (c41 : CI K cd41 "_law_whole") (k41 : KP K f41)
    (a42 : NI K "law" f42) (l42 : LK K f42 "law" "law" ky oc42 od42 kV42 dc42 pm42 an42 cd42 ct42 sl42) (c42 : CI K cd42 "law") (k42 : KP K f42)
    (pg : plainGet K C Str.empty = true) (hd : hasDictIn K C = true) (po : PySem.W.plainOver K C = true) (sa : findIn K (.ref C) "__setattr__" = some (some (.builtin "object.__setattr__"))) (mk : PySem.W.makesIn K C = true) (kc : keepIn K (.ref C) = true)
    (nE : findIn K (.ref C) "ends" = some none) (nR : findIn K (.ref C) "rests" = some none) (nT : findIn K (.ref C) "table" = some none)
    (z_len : NN K "len")
    (z_list : NN K "list")
    (z_tuple : NN K "tuple")
    (z_range : NN K "range")
    (z_enumerate : NN K "enumerate")
    (z_max : NN K "max")
    (z_isinstance : NN K "isinstance")
    (z_all : NN K "all")
    (z_sorted : NN K "sorted")
    (z_int : NN K "int")
    (z_bool : NN K "bool")
    (mb : nsIn K mainGlobals "MOST_BOXES" = some (some (.int 6 tb))) (ma : nsIn K mainGlobals "MOST_ARROWS" = some (some (.int 40 ta))) (mMOST_PLACES : nsIn K mainGlobals "MOST_PLACES" = some (some (.int 3 tMOST_PLACES))) (mMOST_TIES : nsIn K mainGlobals "MOST_TIES" = some (some (.int 4 tMOST_TIES)))
    (ih1 : findIn K (.ref C) "__class__" = some (some (.builtin "object.__class__"))) (ih2 : PySem.W.specialIn K (.builtin "object.__class__") "__get__" = some (some (.builtin "getset_descriptor.__get__"))) (ih3 : PySem.W.takesIn K (.builtin "object.__class__") = some true)
    (ih4 : PySem.W.mroIn K C (.type "object") = some true)
    (kii : KO K (.type "int") (.type "int") true)
    (kbi : KO K (.type "bool") (.type "int") true)
    (kNi : KO K (.type "NoneType") (.type "int") false)
    (kli : KO K (.type "list") (.type "int") false)
    (kti : KO K (.type "tuple") (.type "int") false)
    (kib : KO K (.type "int") (.type "bool") false)
    (kbb : KO K (.type "bool") (.type "bool") true)
    (kNb : KO K (.type "NoneType") (.type "bool") false)
    (klb : KO K (.type "list") (.type "bool") false)
    (ktb : KO K (.type "tuple") (.type "bool") false)
 :
    ∃ fd : FuncData, (∀ (s : Shared) (v : Value), BindsTo s fd ⟨[v], []⟩ [("script", v)]) /\ ∀ base : Heap, K.In base -> base.Ns mainGlobals mg -> FnOk l.prog w K mg base CX0 7 fa fd ["script"] (vw K) := by
  have e := hfa.symm.trans (mg_of X G a42)
  cases e
  have cl : Cls K C := ⟨pg, hd, po, sa⟩
  have T : Txt K mg C := ⟨cl, nE, nR, nT, mg_none_of X G z_len, mg_none_of X G z_list, mg_none_of X G z_tuple, mg_none_of X G z_range, mg_none_of X G z_enumerate, mg_none_of X G z_max, mg_none_of X G z_isinstance, mg_none_of X G z_all, mg_none_of X G z_sorted, mg_none_of X G z_int, mg_none_of X G z_bool, ⟨cl, ih1, ih2, ih3, ih4⟩, mg_of X G aC, ⟨tb, mg_of X G mb⟩, ⟨ta, mg_of X G ma⟩, ⟨tMOST_PLACES, mg_of X G mMOST_PLACES⟩, ⟨tMOST_TIES, mg_of X G mMOST_TIES⟩, ⟨kii, kbi, kNi, kli, kti⟩, ⟨kib, kbb, kNb, klb, ktb⟩⟩
  have F1 := bb (st := eU) l1 c1 k1
  have b1 := F1.binds (ps := ["script", "k"]) fun _ _ _ _ _ _ us hl => by obtain ⟨y0, y1, rfl⟩ := j7 hl; rfl
  have F2 := bb (st := dO) l2 c2 k2
  have b2 := F2.binds (ps := ["script", "k"]) fun _ _ _ _ _ _ us hl => by obtain ⟨y0, y1, rfl⟩ := j7 hl; rfl
  have F3 := bb (st := eR) l3 c3 k3
  have b3 := F3.binds (ps := ["step"]) fun _ _ _ _ _ _ us hl => by obtain ⟨y0, rfl⟩ := uQ hl; rfl
  have F4 := bb (st := df) l4 c4 k4
  have b4 := F4.binds (ps := ["known"]) fun _ _ _ _ _ _ us hl => by obtain ⟨y0, rfl⟩ := uQ hl; rfl
  have F5 := bb (st := dg) l5 c5 k5
  have b5 := F5.binds (ps := ["script", "k", "sizes"]) fun _ _ _ _ _ _ us hl => by obtain ⟨y0, y1, y2, rfl⟩ := j6 hl; rfl
  have F6 := bb (st := dP) l6 c6 k6
  have b6 := F6.binds (ps := ["script", "k"]) fun _ _ _ _ _ _ us hl => by obtain ⟨y0, y1, rfl⟩ := j7 hl; rfl
  have F7 := bb (st := cb) l7 c7 k7
  have b7 := F7.binds (ps := ["ends", "rests"]) fun _ _ _ _ _ _ us hl => by obtain ⟨y0, y1, rfl⟩ := j7 hl; rfl
  have F8 := bb (st := eV) l8 c8 k8
  have b8 := F8.binds (ps := ["number", "count"]) fun _ _ _ _ _ _ us hl => by obtain ⟨y0, y1, rfl⟩ := j7 hl; rfl
  have F9 := bb (st := di) l9 c9 k9
  have b9 := F9.binds (ps := ["ends", "boxes"]) fun _ _ _ _ _ _ us hl => by obtain ⟨y0, y1, rfl⟩ := j7 hl; rfl
  have F10 := bb (st := cI) l10 c10 k10
  have b10 := F10.binds (ps := ["ends", "rests"]) fun _ _ _ _ _ _ us hl => by obtain ⟨y0, y1, rfl⟩ := j7 hl; rfl
  have F11 := bb (st := dh) l11 c11 k11
  have b11 := F11.binds (ps := ["table", "arrows"]) fun _ _ _ _ _ _ us hl => by obtain ⟨y0, y1, rfl⟩ := j7 hl; rfl
  have F12 := bb (st := cJ) l12 c12 k12
  have b12 := F12.binds (ps := ["ends", "one", "other", "made"]) fun _ _ _ _ _ _ us hl => by obtain ⟨y0, y1, y2, y3, rfl⟩ := rD hl; rfl
  have F13 := bb (st := cH) l13 c13 k13
  have b13 := F13.binds (ps := ["ends", "table"]) fun _ _ _ _ _ _ us hl => by obtain ⟨y0, y1, rfl⟩ := j7 hl; rfl
  have F14 := bb (st := bq) l14 c14 k14
  have b14 := F14.binds (ps := ["ends", "rests", "table"]) fun _ _ _ _ _ _ us hl => by obtain ⟨y0, y1, y2, rfl⟩ := j6 hl; rfl
  have F15 := bb (st := ca) l15 c15 k15
  have b15 := F15.binds (ps := ["table", "one", "other", "made"]) fun _ _ _ _ _ _ us hl => by obtain ⟨y0, y1, y2, y3, rfl⟩ := rD hl; rfl
  have F16 := bb (st := b_) l16 c16 k16
  have b16 := F16.binds (ps := ["table"]) fun _ _ _ _ _ _ us hl => by obtain ⟨y0, rfl⟩ := uQ hl; rfl
  have F17 := bb (st := bJ) l17 c17 k17
  have b17 := F17.binds (ps := ["self", "ends", "rests", "table"]) fun _ _ _ _ _ _ us hl => by obtain ⟨y0, y1, y2, y3, rfl⟩ := rD hl; rfl
  have F18 := bb (st := eS) l18 c18 k18
  have b18 := F18.binds (ps := ["parts"]) fun _ _ _ _ _ _ us hl => by obtain ⟨y0, rfl⟩ := uQ hl; rfl
  have F19 := bb (st := cF) l19 c19 k19
  have b19 := F19.binds (ps := ["parts", "box", "other"]) fun _ _ _ _ _ _ us hl => by obtain ⟨y0, y1, y2, rfl⟩ := j6 hl; rfl
  have F20 := bb (st := cD) l20 c20 k20
  have b20 := F20.binds (ps := ["script", "k", "parts"]) fun _ _ _ _ _ _ us hl => by obtain ⟨y0, y1, y2, rfl⟩ := j6 hl; rfl
  have F21 := bb (st := gv) l21 c21 k21
  have b21 := F21.binds (ps := ["hall", "places", "tie"]) fun _ _ _ _ _ _ us hl => by obtain ⟨y0, y1, y2, rfl⟩ := j6 hl; rfl
  have F22 := bb (st := bT) l22 c22 k22
  have b22 := F22.binds (ps := ["hall", "places", "ties"]) fun _ _ _ _ _ _ us hl => by obtain ⟨y0, y1, y2, rfl⟩ := j6 hl; rfl
  have F23 := bb (st := dR) l23 c23 k23
  have b23 := F23.binds (ps := ["hall", "arrows", "tie"]) fun _ _ _ _ _ _ us hl => by obtain ⟨y0, y1, y2, rfl⟩ := j6 hl; rfl
  have F24 := bb (st := iB) l24 c24 k24
  have b24 := F24.binds (ps := ["hall", "begun", "arrows", "due"]) fun _ _ _ _ _ _ us hl => by obtain ⟨y0, y1, y2, y3, rfl⟩ := rD hl; rfl
  have F25 := bb (st := dS) l25 c25 k25
  have b25 := F25.binds (ps := ["hall", "box"]) fun _ _ _ _ _ _ us hl => by obtain ⟨y0, y1, rfl⟩ := j7 hl; rfl
  have F26 := bb (st := fC) l26 c26 k26
  have b26 := F26.binds (ps := ["hall", "box", "other"]) fun _ _ _ _ _ _ us hl => by obtain ⟨y0, y1, y2, rfl⟩ := j6 hl; rfl
  have F27 := bb (st := db) l27 c27 k27
  have b27 := F27.binds (ps := ["hall", "places", "ties", "box"]) fun _ _ _ _ _ _ us hl => by obtain ⟨y0, y1, y2, y3, rfl⟩ := rD hl; rfl
  have F28 := bb (st := cG) l28 c28 k28
  have b28 := F28.binds (ps := ["hall", "seen", "box"]) fun _ _ _ _ _ _ us hl => by obtain ⟨y0, y1, y2, rfl⟩ := j6 hl; rfl
  have F29 := bb (st := cC) l29 c29 k29
  have b29 := F29.binds (ps := ["hall", "arrow", "arrows"]) fun _ _ _ _ _ _ us hl => by obtain ⟨y0, y1, y2, rfl⟩ := j6 hl; rfl
  have F30 := bb (st := fB) l30 c30 k30
  have b30 := F30.binds (ps := ["hall", "seen", "box", "arrows"]) fun _ _ _ _ _ _ us hl => by obtain ⟨y0, y1, y2, y3, rfl⟩ := rD hl; rfl
  have F31 := bb (st := j3) l31 c31 k31
  have b31 := F31.binds (ps := ["hall", "places", "ties"]) fun _ _ _ _ _ _ us hl => by obtain ⟨y0, y1, y2, rfl⟩ := j6 hl; rfl
  have F32 := bb (st := dN) l32 c32 k32
  have b32 := F32.binds (ps := ["parts", "places", "ties", "box"]) fun _ _ _ _ _ _ us hl => by obtain ⟨y0, y1, y2, y3, rfl⟩ := rD hl; rfl
  have F33 := bb (st := cE) l33 c33 k33
  have b33 := F33.binds (ps := ["parts", "box", "arrows", "known"]) fun _ _ _ _ _ _ us hl => by obtain ⟨y0, y1, y2, y3, rfl⟩ := rD hl; rfl
  have F34 := bb (st := b0) l34 c34 k34
  have b34 := F34.binds (ps := ["parts", "places", "ties"]) fun _ _ _ _ _ _ us hl => by obtain ⟨y0, y1, y2, rfl⟩ := j6 hl; rfl
  have F35 := bb (st := eQ) l35 c35 k35
  have b35 := F35.binds (ps := ["parts", "box", "arrows", "other", "view"]) fun _ _ _ _ _ _ us hl => by obtain ⟨y0, y1, y2, y3, y4, rfl⟩ := EW hl; rfl
  have F36 := bb (st := cK) l36 c36 k36
  have b36 := F36.binds (ps := ["hall", "arrow"]) fun _ _ _ _ _ _ us hl => by obtain ⟨y0, y1, rfl⟩ := j7 hl; rfl
  have F37 := bb (st := bE) l37 c37 k37
  have b37 := F37.binds (ps := ["hall", "one", "other"]) fun _ _ _ _ _ _ us hl => by obtain ⟨y0, y1, y2, rfl⟩ := j6 hl; rfl
  have F38 := bb (st := gu) l38 c38 k38
  have b38 := F38.binds (ps := ["hall", "arrow"]) fun _ _ _ _ _ _ us hl => by obtain ⟨y0, y1, rfl⟩ := j7 hl; rfl
  have F39 := bb (st := dQ) l39 c39 k39
  have b39 := F39.binds (ps := ["hall", "parts", "some"]) fun _ _ _ _ _ _ us hl => by obtain ⟨y0, y1, y2, rfl⟩ := j6 hl; rfl
  have F40 := bb (st := fA) l40 c40 k40
  have b40 := F40.binds (ps := ["hall", "places", "ties", "box", "arrows"]) fun _ _ _ _ _ _ us hl => by obtain ⟨y0, y1, y2, y3, y4, rfl⟩ := EW hl; rfl
  have F41 := bb (st := dM) l41 c41 k41
  have b41 := F41.binds (ps := ["found"]) fun _ _ _ _ _ _ us hl => by obtain ⟨y0, rfl⟩ := uQ hl; rfl
  have F42 := bb (st := ky) l42 c42 k42
  have b42 := F42.binds (ps := ["script"]) fun _ _ _ _ _ _ us hl => by obtain ⟨y0, rfl⟩ := uQ hl; rfl
  refine ⟨fnOf "law" "law" (jS ky) (aF ky) (ai ky) .none kV42 dc42 pm42 an42 cd42 ct42, fun s v => .of_eq rfl, fun base _ _ => ?_⟩
  have r1 := sY (P := l.prog) (w := w) (base := base) T F1 (mg_of X G a1) b1
  have r2 := rj T r1 F2 (mg_of X G a2) b2
  have r3 := sW (P := l.prog) (w := w) (base := base) T F3 (mg_of X G a3) b3
  have r4 := pJ (P := l.prog) (w := w) (base := base) T F4 (mg_of X G a4) b4
  have r5 := pM T r1 r4 r3 F5 (mg_of X G a5) b5
  have r6 := rm T r5 r2 F6 (mg_of X G a6) b6
  have r7 := mL (P := l.prog) (w := w) (base := base) T F7 (mg_of X G a7) b7
  have r8 := sZ (P := l.prog) (w := w) (base := base) T F8 (mg_of X G a8) b8
  have r9 := pO T r8 F9 (mg_of X G a9) b9
  have r10 := ol T r8 F10 (mg_of X G a10) b10
  have r11 := pN (P := l.prog) (w := w) (base := base) T F11 (mg_of X G a11) b11
  have r12 := om T r8 F12 (mg_of X G a12) b12
  have r13 := oj T r12 F13 (mg_of X G a13) b13
  have r14 := i9 (P := l.prog) (w := w) (base := base) T F14 (mg_of X G a14) b14
  have r15 := mK (P := l.prog) (w := w) (base := base) T F15 (mg_of X G a15) b15
  have r16 := mJ T r15 F16 (mg_of X G a16) b16
  have r17 := oo T r14 r7 r9 r11 r10 r13 r16 F17 ⟨mk, a17, i17, kc⟩ b17
  have r18 := sX T r17 F18 (mg_of X G a18) b18
  have r19 := oh (P := l.prog) (w := w) (base := base) T F19 (mg_of X G a19) b19
  have r20 := oa T r1 r19 F20 (mg_of X G a20) b20
  have r21 := wV T r8 F21 (mg_of X G a21) b21
  have r22 := lF T r8 r21 F22 (mg_of X G a22) b22
  have r23 := rz (P := l.prog) (w := w) (base := base) T F23 (mg_of X G a23) b23
  have r24 := yJ T r23 F24 (mg_of X G a24) b24
  have r25 := rB T r8 F25 (mg_of X G a25) b25
  have r26 := uM T r25 F26 (mg_of X G a26) b26
  have r27 := pH T r26 r24 F27 (mg_of X G a27) b27
  have r28 := oi T r26 F28 (mg_of X G a28) b28
  have r29 := n_ (P := l.prog) (w := w) (base := base) T F29 (mg_of X G a29) b29
  have r30 := uK T r26 r29 F30 (mg_of X G a30) b30
  have r31 := AY T r22 r28 r30 r27 F31 (mg_of X G a31) b31
  have r32 := rh T r19 F32 (mg_of X G a32) b32
  have r33 := og T r19 F33 (mg_of X G a33) b33
  have r34 := mI T r33 r32 F34 (mg_of X G a34) b34
  have r35 := sV T r19 F35 (mg_of X G a35) b35
  have r36 := on T r8 F36 (mg_of X G a36) b36
  have r37 := j5 (P := l.prog) (w := w) (base := base) T F37 (mg_of X G a37) b37
  have r38 := wU T r36 r37 F38 (mg_of X G a38) b38
  have r39 := rq T r35 r38 F39 (mg_of X G a39) b39
  have r40 := uJ T r25 r26 r29 r31 F40 (mg_of X G a40) b40
  have r41 := rg (P := l.prog) (w := w) (base := base) T F41 (mg_of X G a41) b41
  exact A8 hval (bm (C := C) F42 sc_law (fun cdv A outer s H E hr => zT cdv A outer s H E T r31 r1 r32 r35 r34 r18 r39 r6 r20 r41 r40 hr))
theorem walk {l:PySem.W.OpenLaw} {q:Program} {loose:List Str} {XP:(Str->Option Value)->Heap->Prop} {YP:World->Heap->Prop} {d:DefRec} {K:Params->Frag} (hn:l.most=some 63) (hdf:d.params.defaults=[])
  (hY:∀ (w:World) (h:Heap),YP w h->(K w.params).In h)
  (F:∀ (w:World) (mg:Str->Option Value) (fa:Addr) (h:Heap),(K w.params).In h->h.Ns mainGlobals mg->mg d.name=some (.ref fa) ->
   ∃ fd:FuncData,(∀ (s:Shared) (u:Value),BindsTo s fd ⟨[u],[]⟩ [("script",u)])/\∀ base:Heap,(K w.params).In base->base.Ns mainGlobals mg->FnOk l.prog w (K w.params) mg base CX0 7 fa fd ["script"] (vw (K w.params))) :
  PySem.W.WalkO q loose XP YP l.row.toRowW d [] (fun f vs=>PySem.call f vs) :=
 L2.walk_of (n:=63) (k:=7) (x:="script") (CX:=fun _=>CX0) (sp:=fun w=>vw (K w.params)) hn (by decide) hdf ⟨rfl,by decide,by decide⟩ hY F (fun _ _ a ns hl _ hS=>⟨a,ns,rfl,hS,hl,fun _=>rfl⟩) fun _ _ _ _ _ z=>z
end DL
namespace PySem.W.Fast
def tw8603009888287279104:=0
def tw17611742348749206592:=0
def tw1846236482482655360:=0
def tw9715390523511139456:=0
def tw12133243402085404832:=0
def tw5063606216737803488:=0
def tw16659431696074782976:=0
def tw8486905834853204288:=0
def tw769695479715596672:=0
def tw2448476766393548160:=0
def tw6200277926402358720:=0
def tw16587398799293429248:=0
def tw11986101028386223680:=0
def tw5067174565734193760:=0
def tw11402222205948492480:=0
def tw9332016482566777664:=0
def tw3782842553466981216:=0
def tw5298867655050884992:=0
def tw996126058075303872:=0
def tw12074124310593527744:=0
def tw2319929298516257760:=0
def tw6733776220212495521:=0
def tw11927618360114149569:=0
def tw1492797370968713793:=0
def tw15392377565036603969:=0
def tw7669422947204703905:=0
def tw8868452734679888705:=0
def tw11692348983183016962:=0
def tw5632643049616165026:=0
def tw9892867341977604706:=0
def tw2303721443578221218:=0
def tw6994141734236706594:=0
def tw7676281838123065282:=0
def tw8411249737028547683:=0
def tw8143678740363078819:=0
def tw11506148690499590371:=0
def tw6911573075416987907:=0
def tw16005031266335506723:=0
def tw17342493727298036291:=0
def tw14434708843797127779:=0
def tw6786542289599745667:=0
def tw4482745086730468067:=0
def tw18273968606777648995:=0
def tw5984939341379825539:=0
def tw8431166763849348003:=0
def tw1597233013095064612:=0
def tw3129953189103961348:=0
def tw10525048923412359428:=0
def tw4358908864625831268:=0
def tw6360922577501056676:=0
def tw10183459060466677476:=0
def tw10815955778423733060:=0
def tw15520334823890029605:=0
def tw15303492478409298981:=0
def tw8151857021032213573:=0
def tw13754404496343342213:=0
def tw7547601987536330917:=0
def tw9492350957028601093:=0
def tw8524044351409974629:=0
def tw3355128326717105541:=0
def tw13139002742631445925:=0
def tw15809543663586294213:=0
def tw836395221673669093:=0
def tw5850154565000967653:=0
def tw9642407157429920293:=0
def tw6431739340211103301:=0
def tw12202375588743350949:=0
def tw6638631057817170789:=0
def tw632075911951480773:=0
def tw4221619000662106374:=0
def tw4021478323814392070:=0
def tw17132621608437386566:=0
def tw6455774379637220710:=0
def tw5469047145168374182:=0
def tw6663863623304195526:=0
def tw5390464497025125862:=0
def tw15916321341237632678:=0
def tw3484589701022734086:=0
def tw15124730183533039430:=0
def tw12739072171533944710:=0
def tw17494096958609448934:=0
def tw18446076434134971399:=0
def tw11794307030894210055:=0
def tw4556550780390477927:=0
def tw18367832065915614471:=0
def tw7595806643743491431:=0
def tw4741633750845614471:=0
def tw7082030903053751719:=0
def tw11773241555520112135:=0
def tw6109558031227406855:=0
def tw3271239202093054503:=0
def tw5770165898309803559:=0
def tw17645113179801396807:=0
def tw8491136669791954567:=0
def tw7056326203914491783:=0
def tw930596149944687591:=0
def tw12037371663212754024:=0
def tw10953140470626348200:=0
def tw7688836415888814280:=0
def tw16099582282748646696:=0
def tw14359361123866985768:=0
def tw16317929021204948296:=0
def tw4583063666390582856:=0
def tw8753546652973766248:=0
def tw7214408628502454888:=0
def tw323863138809171624:=0
def tw18414867317682802472:=0
def tw3515102598942749512:=0
def tw10014002845857998953:=0
def tw4929483110334738697:=0
def tw545247499409146153:=0
def tw11978995928701225417:=0
def tw4596858257236795849:=0
def tw8274897205223736937:=0
def tw582646876858426057:=0
def tw730069349176742793:=0
def tw14519162550928982921:=0
def tw8328179555302513577:=0
def tw5271377201615828969:=0
def tw16820159301863130186:=0
def tw16524467817108693258:=0
def tw560023531316396330:=0
def tw12687025619243053482:=0
def tw5353119361090800042:=0
def tw12067454271399780010:=0
def tw6554150999104665578:=0
def tw14978302615206929451:=0
def tw1527496891171648619:=0
def tw5796101531355025547:=0
def tw5228270411521198411:=0
def tw10818868988201110859:=0
def tw4078498570575930827:=0
def tw9002521345965588011:=0
def tw2602272243622338091:=0
def tw2649054511214615275:=0
def tw1823544616250656683:=0
def tw2759071634313779147:=0
def tw1452725180229885931:=0
def tw1794113023474257964:=0
def tw14925408338711860268:=0
def tw13802447096485474508:=0
def tw15122714229192239532:=0
def tw2370545818143066572:=0
def tw15810643188854592972:=0
def tw7748177622484294092:=0
def tw10416794705270820300:=0
def tw13489902385019814508:=0
def tw5168225598791471948:=0
def tw10147998552084165548:=0
def tw17733145225952698413:=0
def tw17560979012246070317:=0
def tw2077293280094506253:=0
def tw572295876971978125:=0
def tw853358441849858477:=0
def tw2125725257206965709:=0
def tw16334854049649643085:=0
def tw6202326592696254029:=0
def tw2107666948733675117:=0
def tw13173093369893659373:=0
def tw8861176475602572045:=0
def tw9183768029454497613:=0
def tw2925643256160688206:=0
def tw9193937380530135118:=0
def tw875526862759086254:=0
def tw14400680309632319694:=0
def tw6261061448121199822:=0
def tw4653847206116025582:=0
def tw15059134330140795182:=0
def tw6539926370573732142:=0
def tw4500452792291210542:=0
def tw9492559226282597710:=0
def tw9635076617648738638:=0
def tw10252173785148493166:=0
def tw6652251961909258606:=0
def tw7696007425713347118:=0
def tw12278541183427276366:=0
def tw13476440443711295278:=0
def tw630590806873383758:=0
def tw1241493659332349806:=0
def tw9290945981752528782:=0
def tw8458243838073976814:=0
def tw17371102477578246126:=0
def tw10843144686117670927:=0
def tw2312077196894694415:=0
def tw17516576168120563823:=0
def tw2919249488884249743:=0
def tw8877319640424474799:=0
def tw5929082319068939503:=0
def tw10219462939428033775:=0
def tw9440001735175969135:=0
def tw2384274223825975727:=0
def tw10960863848201993711:=0
def tw2096712408015410831:=0
def tw16325399955601396399:=0
def tw12133682628025958127:=0
def tw6169287378287570703:=0
def tw14270359578217516879:=0
def tw15582458428762472431:=0
def tw3095368297060463792:=0
def tw10900014637342988752:=0
def tw1524893237754837488:=0
def tw5511263719827905040:=0
def tw16786685804325228112:=0
def tw13678991441008122480:=0
def tw8432738039852774096:=0
def tw3098284930282559312:=0
def tw3867948209602272112:=0
def tw2905783360830848880:=0
def tw4470741088511395760:=0
def tw15489946136446981169:=0
def tw8598463883346872401:=0
def tw211577492027282545:=0
def tw5532269092075542641:=0
def tw10216228396034959537:=0
def tw18265101071211557265:=0
def tw1679997442333838769:=0
def tw8871832446865976945:=0
def tw4820653562037824177:=0
def tw8402979715916873393:=0
def tw6361624006480156754:=0
def tw14078519972584523858:=0
def tw9891055875327331474:=0
def tw16855168566472456562:=0
def tw8337254629774024146:=0
def tw11630255558847485458:=0
def tw18003194596260057874:=0
def tw14139567858852248338:=0
def tw12986702285070810994:=0
def tw4066957969226699762:=0
def tw15510886505993708659:=0
def tw8491563014381693203:=0
def tw388165997530863027:=0
def tw18377082947319372243:=0
def tw18215175706840329715:=0
def tw18268890524668790259:=0
def tw10609453107970735635:=0
def tw11268618039707718291:=0
def tw17399881597234120403:=0
def tw5728253786428208947:=0
def tw4339263228101974963:=0
def tw12833580378357443507:=0
def tw7150506730404818867:=0
def tw10497112125217163316:=0
def tw9517789719583527060:=0
def tw11454612419356905940:=0
def tw15665937014879018644:=0
def tw9254669468817223316:=0
def tw12577540082518271668:=0
def tw1835757234947564276:=0
def tw4183328002069647124:=0
def tw5012589997740661556:=0
def tw5561496531122135028:=0
def tw15334531501630678165:=0
def tw14351747240446174517:=0
def tw7918659404798212469:=0
def tw7926936085394853333:=0
def tw8833948588660911701:=0
def tw17178390733774315093:=0
def tw14046692634409274997:=0
def tw15577074668316927637:=0
def tw17445670501963027157:=0
def tw14735910290973434837:=0
def tw1629173291036316726:=0
def tw12171334695292695638:=0
def tw159226585536140502:=0
def tw12626712869289494774:=0
def tw17350286367482744246:=0
def tw2388903846081068470:=0
def tw17296540193428165174:=0
def tw13551995250309182070:=0
def tw9427237251946550902:=0
def tw8086185530840135510:=0
def tw18382509115598917526:=0
def tw12594246394900045782:=0
def tw18234390493274353751:=0
def tw16883169195989970071:=0
def tw1239840890077693175:=0
def tw2186692814670635287:=0
def tw2800921868939658551:=0
def tw443199389931675959:=0
def tw8586001726209824119:=0
def tw10017350646911425943:=0
def tw12681366470934367735:=0
def tw4552864804630481463:=0
def tw17226815993884278455:=0
def tw13581066654938643191:=0
def tw447331655525312343:=0
def tw7076474800807801783:=0
def tw12905502654989800407:=0
def tw6879459294489790455:=0
def tw4404630518377562168:=0
def tw9897772354989940856:=0
def tw8475760878262857016:=0
def tw13009594450714690968:=0
def tw6535320101372785080:=0
def tw15007725357865947832:=0
def tw6050969590293969624:=0
def tw3417917136526392152:=0
def tw17717140597737921785:=0
def tw6153582625398314361:=0
def tw11114607786991163865:=0
def tw14604992247608304249:=0
def tw17910703836173982425:=0
def tw12732516677988374297:=0
def tw10169574434885421049:=0
def tw16909804568769085498:=0
def tw13242391735909232730:=0
def tw13612139079355874426:=0
def tw6951688362155076762:=0
def tw9245861011920695610:=0
def tw11486057649536580922:=0
def tw9366306283619378490:=0
def tw4388314167672956250:=0
def tw11392730619825637882:=0
def tw9120314364112179706:=0
def tw7904696554368355898:=0
def tw5072247234032522906:=0
def tw12263287717212250778:=0
def tw4039708733753735866:=0
def tw2374064377589202618:=0
def tw12106523390984392378:=0
def tw12844871458471506746:=0
def tw9190170329898677082:=0
def tw12853249285886066715:=0
def tw2259587341574474075:=0
def tw12271224849949983067:=0
def tw16667899734014357947:=0
def tw18077828622914004475:=0
def tw7647240379941878363:=0
def tw15865603559516882619:=0
def tw13578979770495480699:=0
def tw16674118115574392763:=0
def tw5405454699242343419:=0
def tw8337609062452703548:=0
def tw15554104187453629788:=0
def tw11853930403599064508:=0
def tw766571995250691516:=0
def tw5873555077066638812:=0
def tw8540637744959674844:=0
def tw12719001921708723772:=0
def tw17564696035846352508:=0
def tw12533540883323798204:=0
def tw15989113577387200252:=0
def tw11911625942876014428:=0
def tw12807367486862730140:=0
def tw17134066622336661404:=0
def tw9105094679297577948:=0
def tw13859885132931879165:=0
def tw5766131844531006781:=0
def tw11590032775430985021:=0
def tw13009932507771818397:=0
def tw1646081052319076957:=0
def tw4802778532480277181:=0
def tw4647572942857597693:=0
def tw5001023082777419549:=0
def tw11646986506486371422:=0
def tw5657086383673550078:=0
def tw17892579265034246558:=0
def tw10152264612791854590:=0
def tw15301146154897144478:=0
def tw12963799952888305342:=0
def tw2515014919216655198:=0
def tw5851752215029279614:=0
def tw3501311522982487966:=0
def tw7663739681078862750:=0
def tw3079115259808569375:=0
def tw10863471941426636863:=0
def tw4055456050464953503:=0
def tw18219287302012004543:=0
def tw14300073361017009343:=0
def tw15427411717482197343:=0
def tw4781397558350557631:=0
def tw15769108899505397215:=0
def tw13268573523663391359:=0
def tw13976803908273837887:=0
def tw14170858167095899999:=0
def tw16050697363290279807:=0
def tw12003514871550265279:=0
def tw3178629991979645951:=0
end PySem.W.Fast
open PySem PySem.W PyProof.Rows
set_option maxRecDepth 100000 in
set_option maxHeartbeats 0 in
theorem PySem.Challenge.cw_arrowhall_k08_whole_just_one_arrow_holds : PySem.Challenge.rw_arrowhall_k08_whole_just_one_arrow.Holds := by
 w_on;o_law;k_head;(case hw=>w_witness2)
 k_fill
 refine DL.walk (l:=PySem.Challenge.rw_arrowhall_k08_whole_just_one_arrow) rfl rfl (fun w h Y=>PySem.W.kIn_of Y) ?F
 case F =>
  intro w mg fa h KX G hmg
  refine' DL.all_mk DL.law_val KX G hmg ?aC ?a1 ?l1 ?c1 ?k1 ?a2 ?l2 ?c2 ?k2 ?a3 ?l3 ?c3 ?k3 ?a4 ?l4 ?c4 ?k4 ?a5 ?l5 ?c5 ?k5 ?a6 ?l6 ?c6 ?k6 ?a7 ?l7 ?c7 ?k7 ?a8 ?l8 ?c8 ?k8 ?a9 ?l9 ?c9 ?k9 ?a10 ?l10 ?c10 ?k10 ?a11 ?l11 ?c11 ?k11 ?a12 ?l12 ?c12 ?k12 ?a13 ?l13 ?c13 ?k13 ?a14 ?l14 ?c14 ?k14 ?a15 ?l15 ?c15 ?k15 ?a16 ?l16 ?c16 ?k16 ?a17 ?i17 ?l17 ?c17 ?k17 ?a18 ?l18 ?c18 ?k18 ?a19 ?l19 ?c19 ?k19 ?a20 ?l20 ?c20 ?k20 ?a21 ?l21 ?c21 ?k21 ?a22 ?l22 ?c22 ?k22 ?a23 ?l23 ?c23 ?k23 ?a24 ?l24 ?c24 ?k24 ?a25 ?l25 ?c25 ?k25 ?a26 ?l26 ?c26 ?k26 ?a27 ?l27 ?c27 ?k27 ?a28 ?l28 ?c28 ?k28 ?a29 ?l29 ?c29 ?k29 ?a30 ?l30 ?c30 ?k30 ?a31 ?l31 ?c31 ?k31 ?a32 ?l32 ?c32 ?k32 ?a33 ?l33 ?c33 ?k33 ?a34 ?l34 ?c34 ?k34 ?a35 ?l35 ?c35 ?k35 ?a36 ?l36 ?c36 ?k36 ?a37 ?l37 ?c37 ?k37 ?a38 ?l38 ?c38 ?k38 ?a39 ?l39 ?c39 ?k39 ?a40 ?l40 ?c40 ?k40 ?a41 ?l41 ?c41 ?k41 ?a42 ?l42 ?c42 ?k42 ?pg ?hd ?po ?sa ?mk ?kc ?nE ?nR ?nT ?z_len ?z_list ?z_tuple ?z_range ?z_enumerate ?z_max ?z_isinstance ?z_all ?z_sorted ?z_int ?z_bool ?mb ?ma ?mMOST_PLACES ?mMOST_TIES ?ih1 ?ih2 ?ih3 ?ih4 ?kii ?kbi ?kNi ?kli ?kti ?kib ?kbb ?kNb ?klb ?ktb
  all_goals try unfold DL.NI
  all_goals try unfold DL.NN
  all_goals try unfold DL.LK
  all_goals try unfold DL.CI
  all_goals try unfold DL.KP
  all_goals try unfold DL.KO
  all_goals try first | k_is | kit_is
